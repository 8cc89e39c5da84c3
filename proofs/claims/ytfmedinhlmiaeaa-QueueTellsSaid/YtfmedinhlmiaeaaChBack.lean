/- slices.Backward over versions; chain.upTo. -/
import Derived.Test.YtfmedinhlmiaeaaGQ27
import Derived.Test.YtfmedinhlmiaeaaChHead
import Derived.Test.YtfmedinhlmiaeaaRound
namespace Go.Proofs.Ytfmedinhlmiaeaa
open Go.RowKit Go.Shelf
set_option linter.unusedVariables false
set_option linter.unusedSimpArgs false
attribute [local go_sem] Oper.semAt_some

/-- What is handed to a round: the place, the version. -/
abbrev BkW (l : List Vw) := { x : Nat × Vw // ∃ h : x.1 < l.length, l[x.1] = x.2 }
def bkW (l : List Vw) (j : Nat) (h : j < l.length) : BkW l := ⟨(j, l[j]), h, rfl⟩
/-- The last k, from behind. -/
def bkWL (l : List Vw) : Nat → List (BkW l)
  | 0 => []
  | k + 1 => if h : k < l.length then bkWL l k ++ [bkW l (l.length - 1 - k) (by omega)] else bkWL l k
theorem bkWL_succ (l : List Vw) (k : Nat) (h : k < l.length) : bkWL l (k + 1) = bkWL l k ++ [bkW l (l.length - 1 - k) (by omega)] := by rw [bkWL, dif_pos h]
theorem bkWL_len (l : List Vw) (k : Nat) (h : k ≤ l.length) : (bkWL l k).length = k := by
  induction k with
  | zero => rfl
  | succ k ih => rw [bkWL_succ l k (by omega), List.length_append, ih (by omega)]; rfl
/-- None of those is taken. -/
theorem bkWL_no {p : Vw → Bool} {l : List Vw} : ∀ k, k ≤ l.length → (∀ x ∈ bkWL l k, p x.1.2 = false) → upN p (l.take (l.length - k)) = upN p l
  | 0, _, _ => by simp
  | k + 1, h, hall => by
    rw [bkWL_succ l k h] at hall
    have h1 := bkWL_no (p := p) k (by omega) (fun x hx => hall x (by simp [hx]))
    have h2 := hall (bkW l (l.length - 1 - k) (by omega)) (by simp)
    rw [← h1, show l.length - k = l.length - 1 - k + 1 by omega, upN_take_no (by omega) h2]
    congr 2
    omega

end Go.Proofs.Ytfmedinhlmiaeaa
