/- A row of the partition table in memory. -/
import Derived.Test.YtjfmgplhcinkfaaGS28
import Derived.Test.YtjfmgplhcinkfaaRw
namespace Go.Proofs.Ytjfmgplhcinkfaa
open Go.RowKit
set_option linter.unusedVariables false
set_option linter.unusedSimpArgs false

/-- A row's three slices in memory. -/
structure RwAt (w : World) (u0 u1 u2 : Value) (c : Rw) : Prop where
  rs : RowAt KR w u0 c.rs
  ow : RowAt KI w u1 c.ow
  pa : RowAt KI w u2 c.pa
  sz : Szs c.rs
theorem RwAt.below {w w' : World} {u0 u1 u2 : Value} {c : Rw} (h : RwAt w u0 u1 u2 c) (hb : Below w.heap.size w w') : RwAt w' u0 u1 u2 c := ⟨h.rs.below hb, h.ow.below hb, h.pa.below hb, h.sz⟩
/-- A variable of a row's type. -/
structure VrP (w : World) (b : Nat) (u0 u1 u2 : Value) : Prop where
  c0 : w.cell? ⟨b, 0, none⟩ = some u0
  c1 : w.cell? ⟨b, 1, none⟩ = some u1
  c2 : w.cell? ⟨b, 2, none⟩ = some u2
  f : ∀ j, j < 3 → w.frozen? ⟨b, j, none⟩ = false
theorem VrP.lt {w : World} {b : Nat} {u0 u1 u2 : Value} (h : VrP w b u0 u1 u2) : b < w.heap.size := lt_of_cellN h.c0
theorem VrP.block {w w' : World} {b : Nat} {u0 u1 u2 : Value} (h : VrP w b u0 u1 u2) (hb : w'.heap[b]? = w.heap[b]?) : VrP w' b u0 u1 u2 := by
  refine ⟨?_, ?_, ?_, fun j hj => by rw [World.frozen?_of_block hb]; exact h.f j hj⟩ <;> rw [World.cell?_of_block hb]
  · exact h.c0
  · exact h.c1
  · exact h.c2
theorem VrP.keep {w w' : World} {b : Nat} {u0 u1 u2 : Value} (h : VrP w b u0 u1 u2) (hb : Below w.heap.size w w') : VrP w' b u0 u1 u2 := h.block (hb.block b h.lt)
theorem VrP.new (w : World) (u0 u1 u2 : Value) (T : TypeId) : VrP (w.alloc (.cells #[u0, u1, u2] T)) w.heap.size u0 u1 u2 := ⟨by simp, by simp, by simp, fun j hj => by simp⟩

end Go.Proofs.Ytjfmgplhcinkfaa
