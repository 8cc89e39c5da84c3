/- What a call that writes some blocks leaves as it was. -/
import Derived.Test.YtgaghlofcokijaaVaryMath
import Derived.Test.YtgaghlofcokijaaStampLess
namespace Go.Proofs.Ytgaghlofcokijaa
open Go.RowKit
set_option linter.unusedVariables false

/-- All blocks are as they were, but those of P, and new ones. -/
structure Mv (P : Nat → Prop) (w w' : World) : Prop where
  os : w'.os = w.os
  tape : w'.tape = w.tape
  output : w'.output = w.output
  size : w.heap.size ≤ w'.heap.size
  block : ∀ k, k < w.heap.size → ¬ P k → w'.heap[k]? = w.heap[k]?
theorem Mv.refl (P : Nat → Prop) (w : World) : Mv P w w := ⟨rfl, rfl, rfl, Nat.le_refl _, fun _ _ _ => rfl⟩
theorem Mv.of_below {P : Nat → Prop} {w w' : World} (h : Below w.heap.size w w') : Mv P w w' := ⟨h.os, h.tape, h.output, h.size, fun k hk _ => h.block k hk⟩
theorem Mv.trans {P : Nat → Prop} {a b c : World} (h : Mv P a b) (k : Mv P b c) : Mv P a c :=
  ⟨k.os.trans h.os, k.tape.trans h.tape, k.output.trans h.output, Nat.le_trans h.size k.size, fun i hi hp => (k.block i (Nat.lt_of_lt_of_le hi h.size) hp).trans (h.block i hi hp)⟩
theorem Mv.below {P : Nat → Prop} {w w' : World} (h : Mv P w w') {n : Nat} (hn : ∀ k, k < n → ¬ P k) (hs : n ≤ w.heap.size) : Below n w w' :=
  ⟨h.os, h.tape, h.output, h.size, fun k hk => h.block k (Nat.lt_of_lt_of_le hk hs) (hn k hk)⟩
theorem Mv.mono {P Q : Nat → Prop} {w w' : World} (h : Mv P w w') (hpq : ∀ k, P k → Q k) : Mv Q w w' :=
  ⟨h.os, h.tape, h.output, h.size, fun k hk hq => h.block k hk (fun hp => hq (hpq k hp))⟩
theorem Mv.set {P : Nat → Prop} {w w' : World} (h : Mv P w w') {b o : Nat} (hb : P b) (x : Value) : Mv P w (w'.setCell ⟨b, o, none⟩ x) := by
  have k := (Below.refl b w').setCell (p := ⟨b, o, none⟩) (Nat.le_refl b) x
  refine ⟨k.os.trans h.os, k.tape.trans h.tape, k.output.trans h.output, Nat.le_trans h.size k.size, fun i hi hp => ?_⟩
  have hne : i ≠ b := fun e => hp (e ▸ hb)
  rw [← h.block i hi hp]
  exact Below.heap_setCell _ _ _ _ hne
theorem Mv.alloc {P : Nat → Prop} {w w' : World} (h : Mv P w w') (o : Obj) : Mv P w (w'.alloc o) := h.trans (Mv.of_below (balloc (Below.refl _ _) _))
theorem Mv.step {P : Nat → Prop} {w w1 w2 : World} (h : Mv P w w1) (k : Below w1.heap.size w1 w2) : Mv P w w2 := h.trans (Mv.of_below k)
theorem Mv.cell {P : Nat → Prop} {w w' : World} (h : Mv P w w') {b o : Nat} {x : Value} (hp : ¬ P b) (hc : w.cell? ⟨b, o, none⟩ = some x) : w'.cell? ⟨b, o, none⟩ = some x := by
  rw [World.cell?_of_block (h.block b (lt_of_cellN hc) hp)]
  exact hc

theorem Mv.low {P : Nat → Prop} {w w1 w2 : World} (h : Mv P w w1) (k : Below w.heap.size w1 w2) : Mv P w w2 :=
  ⟨k.os.trans h.os, k.tape.trans h.tape, k.output.trans h.output, Nat.le_trans h.size k.size, fun i hi hp => (k.block i hi).trans (h.block i hi hp)⟩
end Go.Proofs.Ytgaghlofcokijaa
