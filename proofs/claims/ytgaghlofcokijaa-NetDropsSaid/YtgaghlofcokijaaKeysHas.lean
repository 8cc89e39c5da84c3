/- What keys.Has answers, and the document's Has. -/
import Derived.Test.YtgaghlofcokijaaKeysCount
import Derived.Test.YtgaghlofcokijaaKeysOrd
import Derived.ChangeAlike
namespace Go.Proofs.Ytgaghlofcokijaa
open Go.RowKit
set_option linter.unusedVariables false

namespace Km
/-- Is k in the range from f to t? -/
def has (f t k : List UInt8) : Bool := !Op.bytesLess k f && (t.isEmpty || Op.bytesLess k t)
def bound (l : List UInt8) : Bool := l.isEmpty || chk l
def good (f t : List UInt8) : Bool := bound f && bound t && (t.isEmpty || Op.bytesLess f t)
def meet (f t f2 t2 : List UInt8) : Bool := good f t && good f2 t2 && (has f t f2 || has f2 t2 f)
end Km

/-- A boxed pair behind a call that only makes memory. -/
theorem box2 {w w1 : World} {x y : Value} {T : TypeId} (hb : Below (w.alloc (.cells #[x, y] T)).heap.size (w.alloc (.cells #[x, y] T)) w1) :
    w1.cell? ⟨w.heap.size, 0, none⟩ = some x ∧ w1.cell? ⟨w.heap.size, 1, none⟩ = some y ∧ w.heap.size < w1.heap.size ∧ Below w.heap.size w w1 := by
  have hs := hb.size
  simp at hs
  refine ⟨?_, ?_, by omega, balloc (Below.refl _ _) _ |>.trans (hb.mono (by simp))⟩
  · rw [hb.cell (p := ⟨w.heap.size, 0, none⟩) (by simp)]; simp
  · rw [hb.cell (p := ⟨w.heap.size, 1, none⟩) (by simp)]; simp

theorem kcell {W w1 : World} {b o : Nat} {v : Value} (hb : Below W.heap.size W w1) (hlt : b < W.heap.size) (h : W.cell? ⟨b, o, none⟩ = some v) : w1.cell? ⟨b, o, none⟩ = some v := (hb.cell (p := ⟨b, o, none⟩) hlt).trans h

/-- Two boxed pairs behind a call that only makes memory. -/
theorem box22 {w w1 : World} {x y x2 y2 : Value} {T : TypeId} (hb : Below ((w.alloc (.cells #[x, y] T)).alloc (.cells #[x2, y2] T)).heap.size ((w.alloc (.cells #[x, y] T)).alloc (.cells #[x2, y2] T)) w1) :
    (w1.cell? ⟨w.heap.size, 0, none⟩ = some x ∧ w1.cell? ⟨w.heap.size, 1, none⟩ = some y) ∧ (w1.cell? ⟨w.heap.size + 1, 0, none⟩ = some x2 ∧ w1.cell? ⟨w.heap.size + 1, 1, none⟩ = some y2) ∧ w.heap.size + 1 < w1.heap.size ∧ Below w.heap.size w w1 := by
  have hs := hb.size
  simp at hs
  refine ⟨⟨?_, ?_⟩, ⟨?_, ?_⟩, by omega, (balloc (balloc (Below.refl _ _) _) _).trans (hb.mono (by simp; omega))⟩
  · rw [hb.cell (p := ⟨w.heap.size, 0, none⟩) (by simp; omega)]; simp
  · rw [hb.cell (p := ⟨w.heap.size, 1, none⟩) (by simp; omega)]; simp
  · rw [hb.cell (p := ⟨w.heap.size + 1, 0, none⟩) (by simp)]; simp
  · rw [hb.cell (p := ⟨w.heap.size + 1, 1, none⟩) (by simp)]; simp

end Go.Proofs.Ytgaghlofcokijaa
