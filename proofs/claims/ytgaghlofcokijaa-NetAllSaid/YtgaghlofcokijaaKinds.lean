/- Rows of ints, texts, ranges, uint64s: their kinds. -/
import Derived.Test.YtgaghlofcokijaaGen
import Derived.Test.YtgaghlofcokijaaOpen2
namespace Go.Proofs.Ytgaghlofcokijaa
open Go.RowKit
set_option linter.unusedVariables false
set_option linter.unusedSimpArgs false

def KI : RK Int where
  T := 3
  S := 40
  sz := 1
  bt := 8
  z := .int .i64 0
  enc x := [.int .i64 x]
theorem ki_ok : KI.Ok where
  len _ := rfl
  pos := by decide
  one x u hu := by simp [KI] at hu; subst hu; rfl
  und := Try.underlying40
  inf := by kernel_rfl
  zc := rfl
  bb := by decide
/-- An int of a row. -/
theorem RowIn.int {w : World} {a : Option Addr} {l : List Int} (h : RowIn KI w a l) (i : Nat) (hi : i < l.length) : ∃ b off, a = some ⟨b, off, none⟩ ∧ b < w.heap.size ∧ w.cell? ⟨b, off + i, none⟩ = some (.int .i64 l[i]) := by
  obtain ⟨b, off, e, hl, hc⟩ := h i hi
  have := hc 0 _ rfl
  rw [show KI.sz = 1 from rfl, Nat.mul_one, Nat.add_zero] at this
  exact ⟨b, off, e, hl, this⟩
theorem RowAt.drew {α : Type} {K : RK α} {w : World} {v : Value} {l : List α} (h : RowAt K w v l) : RowAt K w.drew v l := h
end Go.Proofs.Ytgaghlofcokijaa
