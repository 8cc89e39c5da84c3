/- What a method of a sender that lies at the beginning of a greater block leaves as it was. -/
import Derived.Test.YtgaghlofcokijaaLinkMem
namespace Go.Proofs.Ytgaghlofcokijaa
open Go.RowKit
set_option linter.unusedVariables false

/-- All blocks are as they were, but b and new ones; of b the cells from the eighteenth on are, too. -/
structure MvS (b : Nat) (w w' : World) : Prop extends Mv (fun j => j = b) w w' where
  hi : ∀ o, 18 ≤ o → b < w.heap.size → w'.cell? ⟨b, o, none⟩ = w.cell? ⟨b, o, none⟩
theorem MvS.refl (b : Nat) (w : World) : MvS b w w := ⟨Mv.refl _ _, fun _ _ _ => rfl⟩
theorem MvS.of_below {b : Nat} {w w' : World} (h : Below w.heap.size w w') : MvS b w w' := ⟨Mv.of_below h, fun o _ hb => World.cell?_of_block (h.block b hb)⟩
theorem MvS.trans {b : Nat} {w1 w2 w3 : World} (h : MvS b w1 w2) (k : MvS b w2 w3) : MvS b w1 w3 :=
  ⟨h.toMv.trans k.toMv, fun o ho hb => (k.hi o ho (Nat.lt_of_lt_of_le hb h.size)).trans (h.hi o ho hb)⟩
theorem MvS.set {b : Nat} {w w' : World} (h : MvS b w w') {o : Nat} (ho : o < 18) (x : Value) : MvS b w (w'.setCell ⟨b, o, none⟩ x) :=
  ⟨h.toMv.set rfl x, fun i hi hb => by rw [World.cell?_setCell_other _ _ _ _ (by simp <;> omega)]; exact h.hi i hi hb⟩
theorem MvS.step {b : Nat} {w w1 w2 : World} (h : MvS b w w1) (k : Below w1.heap.size w1 w2) : MvS b w w2 := h.trans (MvS.of_below k)
theorem MvS.alloc {b : Nat} {w w' : World} (h : MvS b w w') (o : Obj) : MvS b w (w'.alloc o) := h.step (balloc (Below.refl _ _) _)
theorem MvS.low {b : Nat} {w w1 w2 : World} (h : MvS b w w1) (k : Below w.heap.size w1 w2) : MvS b w w2 :=
  ⟨h.toMv.low k, fun o ho hb => (World.cell?_of_block (k.block b hb)).trans (h.hi o ho hb)⟩
end Go.Proofs.Ytgaghlofcokijaa
