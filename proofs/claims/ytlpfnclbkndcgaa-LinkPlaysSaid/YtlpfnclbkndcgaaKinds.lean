/- Rows of ints, texts, ranges, uint64s: their kinds. -/
import Derived.Test.YtlpfnclbkndcgaaGen
import Derived.Test.YtlpfnclbkndcgaaOpen2
namespace Go.Proofs.Ytlpfnclbkndcgaa
open Go.RowKit
set_option linter.unusedVariables false
set_option linter.unusedSimpArgs false

def KI : RK Int where
  T := 3
  S := 51
  sz := 1
  bt := 8
  z := .int .i64 0
  enc x := [.int .i64 x]
theorem ki_ok : KI.Ok where
  len _ := rfl
  pos := by decide
  one x u hu := by simp [KI] at hu; subst hu; rfl
  und := Try.underlying51
  inf := by kernel_rfl
  zc := rfl
  bb := by decide
def KS : RK ByteArray where
  T := 9
  S := 29
  sz := 1
  bt := 16
  z := .string ⟨#[]⟩
  enc x := [.string x]
theorem ks_ok : KS.Ok where
  len _ := rfl
  pos := by decide
  one x u hu := by simp [KS] at hu; subst hu; rfl
  und := Try.underlying29
  inf := by kernel_rfl
  zc := rfl
  bb := by decide
/-- An int of a row. -/
theorem RowIn.int {w : World} {a : Option Addr} {l : List Int} (h : RowIn KI w a l) (i : Nat) (hi : i < l.length) : ∃ b off, a = some ⟨b, off, none⟩ ∧ b < w.heap.size ∧ w.cell? ⟨b, off + i, none⟩ = some (.int .i64 l[i]) := by
  obtain ⟨b, off, e, hl, hc⟩ := h i hi
  have := hc 0 _ rfl
  rw [show KI.sz = 1 from rfl, Nat.mul_one, Nat.add_zero] at this
  exact ⟨b, off, e, hl, this⟩
theorem RowIn.str {w : World} {a : Option Addr} {l : List ByteArray} (h : RowIn KS w a l) (i : Nat) (hi : i < l.length) : ∃ b off, a = some ⟨b, off, none⟩ ∧ b < w.heap.size ∧ w.cell? ⟨b, off + i, none⟩ = some (.string l[i]) := by
  obtain ⟨b, off, e, hl, hc⟩ := h i hi
  have := hc 0 _ rfl
  rw [show KS.sz = 1 from rfl, Nat.mul_one, Nat.add_zero] at this
  exact ⟨b, off, e, hl, this⟩
theorem RowAt.drew {α : Type} {K : RK α} {w : World} {v : Value} {l : List α} (h : RowAt K w v l) : RowAt K w.drew v l := h
end Go.Proofs.Ytlpfnclbkndcgaa
