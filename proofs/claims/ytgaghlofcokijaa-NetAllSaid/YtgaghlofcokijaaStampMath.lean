/- Stamps, their order, the greatest and the next one, as plain mathematics: no Go in sight. -/
import Derived.Test.YtgaghlofcokijaaVaryMath
namespace Go.Proofs.Ytgaghlofcokijaa
namespace Sm

/-- May the stamp be? -/
def ok (n s : Int) : Bool := decide (1 ≤ n ∧ n ≤ 1099511627776 ∧ 0 ≤ s ∧ s < 6)
def isSite (s : Int) : Bool := decide (0 ≤ s ∧ s < 6)
/-- Is the first one ahead of the second one? -/
def less (a b : Int × Int) : Bool := decide (a.1 < b.1 ∨ (a.1 = b.1 ∧ a.2 < b.2))
/-- The greater one. -/
def later (a b : Int × Int) : Int × Int := if less b a then a else b
/-- The greatest one of a row, and of the one that was there. -/
def mx (m : Int × Int) (l : List (Int × Int)) : Int × Int := l.foldl later m

theorem less_iff (a b : Int × Int) : less a b = true ↔ (a.1 < b.1 ∨ (a.1 = b.1 ∧ a.2 < b.2)) := by simp [less]
theorem less_false (a b : Int × Int) : less a b = false ↔ (b.1 < a.1 ∨ (a.1 = b.1 ∧ b.2 ≤ a.2)) := by simp [less]; omega
theorem less_self (a : Int × Int) : less a a = false := by simp [less]
theorem pair_ext {a b : Int × Int} (h : a.1 = b.1) (k : a.2 = b.2) : a = b := Prod.ext h k
theorem less_trans {a b c : Int × Int} (h : less a b = true) (k : less b c = true) : less a c = true := by
  rw [less_iff] at *; omega
theorem le_trans {a b c : Int × Int} (h : less b a = false) (k : less c b = false) : less c a = false := by
  rw [less_false] at *; omega
theorem le_antisymm {a b : Int × Int} (h : less b a = false) (k : less a b = false) : a = b := by
  rw [less_false] at *; exact pair_ext (by omega) (by omega)
/-- Less is what stamp.Less says: the later of the two is not the first one. -/
theorem later_ne (a b : Int × Int) : (later a b = a) ↔ less a b = false := by
  unfold later
  by_cases h : less b a = true
  · rw [if_pos h]
    have : less a b = false := by rw [less_iff] at h; rw [less_false]; omega
    simp [this]
  · rw [if_neg h]
    have h' : less b a = false := by simpa using h
    constructor
    · intro e; rw [e]; exact less_self a
    · intro k; exact le_antisymm k h'
theorem later_left (a b : Int × Int) : less (later a b) a = false := by
  unfold later
  by_cases h : less b a = true
  · rw [if_pos h]; exact less_self a
  · rw [if_neg h]; simpa using h
theorem later_right (a b : Int × Int) : less (later a b) b = false := by
  unfold later
  by_cases h : less b a = true
  · rw [if_pos h]; rw [less_iff] at h; rw [less_false]; omega
  · rw [if_neg h]; exact less_self b
theorem later_or (a b : Int × Int) : later a b = a ∨ later a b = b := by
  unfold later; split <;> simp

theorem mx_nil (m : Int × Int) : mx m [] = m := rfl
theorem mx_snoc (m : Int × Int) (l : List (Int × Int)) (x : Int × Int) : mx m (l ++ [x]) = later (mx m l) x := by simp [mx, List.foldl_append]
theorem mx_take (m : Int × Int) (l : List (Int × Int)) (k : Nat) (h : k < l.length) : mx m (l.take (k + 1)) = later (mx m (l.take k)) l[k] := by
  rw [List.take_succ_eq_append_getElem h, mx_snoc]
theorem mx_start : ∀ (l : List (Int × Int)) (m : Int × Int), less (mx m l) m = false
  | [], m => less_self m
  | x :: r, m => le_trans (later_left m x) (mx_start r (later m x))
theorem mx_each : ∀ (l : List (Int × Int)) (m x : Int × Int), x ∈ l → less (mx m l) x = false
  | y :: r, m, x, h => by
    rcases List.mem_cons.1 h with rfl | h
    · exact le_trans (later_right m x) (mx_start r (later m x))
    · exact mx_each r (later m y) x h
theorem mx_in : ∀ (l : List (Int × Int)) (m : Int × Int), mx m l = m ∨ mx m l ∈ l
  | [], m => .inl rfl
  | x :: r, m => by
    rcases mx_in r (later m x) with h | h
    · have e : mx m (x :: r) = later m x := h
      rw [e]
      rcases later_or m x with k | k
      · exact .inl k
      · rw [k]; exact .inr (by simp)
    · exact .inr (List.mem_cons_of_mem _ h)
/-- The greatest one, told by what it is. -/
theorem mx_uniq {l : List (Int × Int)} {m g : Int × Int} (h0 : less g m = false) (h1 : ∀ x ∈ l, less g x = false) (h2 : g = m ∨ g ∈ l) : mx m l = g := by
  apply le_antisymm
  · rcases mx_in l m with h | h
    · rw [h]; exact h0
    · exact h1 _ h
  · rcases h2 with rfl | h
    · exact mx_start l g
    · exact mx_each l m g h
theorem mx_again (l : List (Int × Int)) (m : Int × Int) : mx m (mx m l :: l) = mx m l := by
  refine mx_uniq (mx_start l m) ?_ (.inr (by simp))
  intro x hx
  rcases List.mem_cons.1 hx with rfl | h
  · exact less_self _
  · exact mx_each l m x h
theorem mx_turn (m a b c : Int × Int) : mx m [a, b, c] = mx m [c, a, b] := by
  refine mx_uniq (mx_start _ m) ?_ ?_
  · intro x hx
    refine mx_each _ m x ?_
    simp at hx ⊢
    rcases hx with h | h | h <;> simp [h]
  · rcases mx_in [c, a, b] m with h | h
    · exact .inl h
    · refine .inr ?_
      generalize mx m [c, a, b] = z at h
      simp at h ⊢
      rcases h with h | h | h <;> simp [h]

/-- The next one: its number, and the error's. -/
def nxt (n s : Int) : (Int × Int) × Int :=
  if isSite s = false then ((0, 0), 1) else if 1099511627776 ≤ n then ((0, 0), 18) else ((if n + 1 < 1 then 1 else n + 1, s), 0)

/-- The stamp that is read at a place: two numbers, one behind the other, that make one that may be. -/
def rdS (rd : Int → Option (Nat × Nat)) (a : Int) : Option ((Int × Int) × Nat) :=
  match rd a with
  | none => none
  | some (n, m) =>
    match rd m with
    | none => none
    | some (k, e) => if ok n k = true then some ((n, k), e) else none
end Sm
end Go.Proofs.Ytgaghlofcokijaa
