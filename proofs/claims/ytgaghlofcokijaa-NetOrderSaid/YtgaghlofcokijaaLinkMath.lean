/- Sessions: the mathematics (no Go in it). -/
import Derived.Test.YtgaghlofcokijaaVaryMath
namespace Go.Proofs.Ytgaghlofcokijaa
set_option linter.unusedVariables false

namespace Lk
/-- Packets that are numbered from n on. -/
def pk : Nat → List ByteArray → List (Int × ByteArray)
  | _, [] => []
  | n, d :: r => ((n : Int), d) :: pk (n + 1) r
theorem pk_len : ∀ (n : Nat) (l : List ByteArray), (pk n l).length = l.length
  | _, [] => rfl
  | n, d :: r => by rw [pk, List.length_cons, List.length_cons, pk_len]
theorem pk_get : ∀ (n : Nat) (l : List ByteArray) (i : Nat) (h : i < (pk n l).length), (pk n l)[i] = (((n + i : Nat) : Int), l[i]'(by rw [pk_len] at h; exact h))
  | n, d :: r, 0, h => rfl
  | n, d :: r, i + 1, h => by
    have := pk_get (n + 1) r i (by simpa [pk] using h)
    simp only [pk, List.getElem_cons_succ]
    rw [this, show n + 1 + i = n + (i + 1) by omega]
theorem pk_snoc : ∀ (n : Nat) (l : List ByteArray) (d : ByteArray), pk n (l ++ [d]) = pk n l ++ [(((n + l.length : Nat) : Int), d)]
  | n, [], d => rfl
  | n, e :: r, d => by
    rw [List.cons_append, pk, pk, pk_snoc (n + 1) r d, List.cons_append, List.length_cons, show n + 1 + r.length = n + (r.length + 1) by omega]
theorem pk_drop : ∀ (k n : Nat) (l : List ByteArray), (pk n l).drop k = pk (n + k) (l.drop k)
  | 0, _, _ => rfl
  | k + 1, n, [] => rfl
  | k + 1, n, d :: r => by
    rw [pk, List.drop_succ_cons, List.drop_succ_cons, pk_drop k (n + 1) r, show n + 1 + k = n + (k + 1) by omega]

/-- How many more an answer acknowledges, of n that are open behind those that were answered. -/
def ak (ans n : Nat) (seq : Int) : Nat := if seq ≤ ((ans + n : Nat) : Int) then (seq - (ans : Int)).toNat else 0
theorem ak_le (ans n : Nat) (seq : Int) : ak ans n seq ≤ n := by
  unfold ak
  split <;> omega
theorem ak_no {ans n : Nat} {seq : Int} (h : ((ans + n : Nat) : Int) < seq) : ak ans n seq = 0 := by
  unfold ak
  rw [if_neg (by omega)]
theorem ak_old {ans n : Nat} {seq : Int} (h : seq ≤ (ans : Int)) : ak ans n seq = 0 := by
  unfold ak
  split <;> omega
theorem ak_yes {ans n : Nat} {seq : Int} (h : seq ≤ ((ans + n : Nat) : Int)) (h2 : (ans : Int) ≤ seq) : ((ak ans n seq : Nat) : Int) = seq - ans := by
  unfold ak
  rw [if_pos h]
  omega
/-- What a receiver gives. -/
def tk (k : Nat) (seq : Int) (d : ByteArray) : ByteArray × Bool := if seq = (k : Int) then (d, true) else (⟨#[]⟩, false)
/-- What it waits for then. -/
def tn (k : Nat) (seq : Int) : Nat := if seq = (k : Int) then k + 1 else k
theorem tn_le (k : Nat) (seq : Int) : tn k seq ≤ k + 1 := by unfold tn; split <;> omega
theorem le_tn (k : Nat) (seq : Int) : k ≤ tn k seq := by unfold tn; split <;> omega
end Lk
end Go.Proofs.Ytgaghlofcokijaa
