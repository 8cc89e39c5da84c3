/- What chain.follows and chain.Check answer. -/
import Derived.Test.YtfmedinhlmiaeaaGQ27
import Derived.Test.YtfmedinhlmiaeaaChPut
namespace Go.Proofs.Ytfmedinhlmiaeaa
open Go.RowKit Go.Shelf
set_option linter.unusedVariables false
set_option linter.unusedSimpArgs false

theorem keepQo {W w1 : World} {b o : Nat} {x0 x1 x2 x3 x4 x5 : Value} (hb : Below W.heap.size W w1) (h : W.cell? ⟨b, o, none⟩ = some x0 ∧ W.cell? ⟨b, o + 1, none⟩ = some x1 ∧ W.cell? ⟨b, o + 2, none⟩ = some x2 ∧ W.cell? ⟨b, o + 3, none⟩ = some x3 ∧ W.cell? ⟨b, o + 4, none⟩ = some x4 ∧ W.cell? ⟨b, o + 5, none⟩ = some x5) :
    w1.cell? ⟨b, o, none⟩ = some x0 ∧ w1.cell? ⟨b, o + 1, none⟩ = some x1 ∧ w1.cell? ⟨b, o + 2, none⟩ = some x2 ∧ w1.cell? ⟨b, o + 3, none⟩ = some x3 ∧ w1.cell? ⟨b, o + 4, none⟩ = some x4 ∧ w1.cell? ⟨b, o + 5, none⟩ = some x5 :=
  ⟨kc hb h.1, kc hb h.2.1, kc hb h.2.2.1, kc hb h.2.2.2.1, kc hb h.2.2.2.2.1, kc hb h.2.2.2.2.2⟩

/-- The one ahead. -/
def prevW (xs : List Vw) (k : Nat) : Option Vw := if k = 0 then none else xs[k - 1]?
theorem chk1_cons (p : Option Vw) (v : Vw) (r : List Vw) : chk1 p (v :: r) = (okW v.1 && (match p with | none => true | some u => decide (u.1.key = v.1.key) && Sm.less u.1.st v.1.st) && chk1 (some v) r) := rfl
theorem chk1_step {xs : List Vw} {k : Nat} (h : k < xs.length) : chk1 (prevW xs k) (xs.drop k) = (okW xs[k].1 && (match prevW xs k with | none => true | some u => decide (u.1.key = xs[k].1.key) && Sm.less u.1.st xs[k].1.st) && chk1 (prevW xs (k + 1)) (xs.drop (k + 1))) := by
  rw [List.drop_eq_getElem_cons h, chk1_cons]
  have : prevW xs (k + 1) = some xs[k] := by
    unfold prevW
    rw [if_neg (by omega), Nat.add_sub_cancel, List.getElem?_eq_getElem h]
  rw [this]
theorem prevW_zero (xs : List Vw) : prevW xs 0 = none := rfl
theorem prevW_pos {xs : List Vw} {k q : Nat} (hk : k = q + 1) (h : q < xs.length) : prevW xs k = some xs[q] := by
  subst hk
  unfold prevW
  rw [if_neg (by omega), Nat.add_sub_cancel, List.getElem?_eq_getElem h]

end Go.Proofs.Ytfmedinhlmiaeaa
