/- Dependencies in memory: rows that are read, and rows that a call makes. -/
import Derived.Test.YtgaghlofcokijaaStampRows
import Derived.Test.YtgaghlofcokijaaKeysHas
import Derived.Deep.AppendLies
namespace Go.Proofs.Ytgaghlofcokijaa
open Go.RowKit
set_option linter.unusedVariables false

/-- A dependency: its key, its stamp's number, its stamp's site. -/
abbrev De := ByteArray × Int × Int
abbrev dv (d : De) : Value := .agg #[.string d.1, .int .i64 d.2.1, .int .i64 d.2.2]
def dV (l : List De) : List Value := l.flatMap fun d => [.string d.1, .int .i64 d.2.1, .int .i64 d.2.2]
theorem dV_nil : dV [] = [] := rfl
theorem dV_cons (d : De) (l : List De) : dV (d :: l) = .string d.1 :: .int .i64 d.2.1 :: .int .i64 d.2.2 :: dV l := by simp [dV]
theorem dV_len (l : List De) : (dV l).length = l.length * 3 := by
  induction l with
  | nil => rfl
  | cons r t ih => rw [dV_cons]; simp [ih]; omega
theorem dV_get (l : List De) (i : Nat) (h : i < l.length) : (dV l)[i * 3]? = some (.string l[i].1) ∧ (dV l)[i * 3 + 1]? = some (.int .i64 l[i].2.1) ∧ (dV l)[i * 3 + 2]? = some (.int .i64 l[i].2.2) := by
  induction l generalizing i with
  | nil => simp at h
  | cons r t ih =>
    rw [dV_cons]
    cases i with
    | zero => simp
    | succ i =>
      have := ih i (by simpa using h)
      rw [show (i + 1) * 3 = i * 3 + 1 + 1 + 1 by omega]
      simpa using this
theorem dV_append (l m : List De) : dV (l ++ m) = dV l ++ dV m := by simp [dV]
theorem dV_snoc (l : List De) (d : De) : dV (l ++ [d]) = dV l ++ [.string d.1, .int .i64 d.2.1, .int .i64 d.2.2] := by simp [dV]
theorem dV_one (l : List De) : ∀ u ∈ dV l, u.oneCell' = true := by
  intro u hu
  simp only [dV, List.mem_flatMap] at hu
  obtain ⟨p, _, hp⟩ := hu
  simp at hp
  rcases hp with rfl | rfl | rfl <;> rfl
theorem dV_take (l : List De) (k : Nat) : dV (l.take k) = (dV l).take (k * 3) := by
  induction l generalizing k with
  | nil => simp [dV]
  | cons r t ih =>
    cases k with
    | zero => simp [dV]
    | succ k =>
      rw [List.take_succ_cons, dV_cons, dV_cons, ih, show (k + 1) * 3 = k * 3 + 1 + 1 + 1 by omega]
      simp
theorem dV_set (l : List De) (i : Nat) (d : De) (h : i < l.length) : (((dV l).set (i * 3) (.string d.1)).set (i * 3 + 1) (.int .i64 d.2.1)).set (i * 3 + 2) (.int .i64 d.2.2) = dV (l.set i d) := by
  induction l generalizing i with
  | nil => simp at h
  | cons r t ih =>
    cases i with
    | zero => simp [dV_cons]
    | succ i =>
      have := ih i (by simpa using h)
      rw [List.set_cons_succ, dV_cons, dV_cons, ← this, show (i + 1) * 3 = i * 3 + 1 + 1 + 1 by omega]
      simp

/-- A row of dependencies in memory. -/
def DepIn (w : World) (a : Option Addr) (l : List De) : Prop :=
  ∀ i (h : i < l.length), ∃ b off, a = some ⟨b, off, none⟩ ∧ b < w.heap.size ∧ w.cell? ⟨b, off + i * 3, none⟩ = some (.string l[i].1) ∧ w.cell? ⟨b, off + i * 3 + 1, none⟩ = some (.int .i64 l[i].2.1) ∧ w.cell? ⟨b, off + i * 3 + 2, none⟩ = some (.int .i64 l[i].2.2)
theorem DepIn.nil (w : World) (a : Option Addr) : DepIn w a [] := fun i h => absurd h (by simp)
theorem DepIn.below {w w' : World} {a : Option Addr} {l : List De} (h : DepIn w a l) (hb : Below w.heap.size w w') : DepIn w' a l := by
  intro i hi
  obtain ⟨b, off, rfl, hlt, h0, h1, h2⟩ := h i hi
  exact ⟨b, off, rfl, by have := hb.size; omega, kcell hb hlt h0, kcell hb hlt h1, kcell hb hlt h2⟩
theorem DepIn.drew {w : World} {a : Option Addr} {l : List De} (h : DepIn w a l) : DepIn w.drew a l := h
theorem DepIn.alloc {w : World} {a : Option Addr} {l : List De} (h : DepIn w a l) (o : Obj) : DepIn (w.alloc o) a l := h.below (balloc (Below.refl _ _) _)
theorem DepIn.take {w : World} {a : Option Addr} {l : List De} (h : DepIn w a l) (k : Nat) : DepIn w a (l.take k) := by
  intro i hi
  have hi' : i < l.length := by simp at hi; omega
  obtain ⟨b, off, e, hlt, h0, h1, h2⟩ := h i hi'
  exact ⟨b, off, e, hlt, by simpa using h0, by simpa using h1, by simpa using h2⟩
theorem DepIn.drop {w : World} {b off : Nat} {l : List De} (h : DepIn w (some ⟨b, off, none⟩) l) (k : Nat) : DepIn w (some ⟨b, off + k * 3, none⟩) (l.drop k) := by
  intro i hi
  have hi' : k + i < l.length := by simp at hi; omega
  obtain ⟨b', off', e, hlt, h0, h1, h2⟩ := h (k + i) hi'
  cases e
  rw [show off + (k + i) * 3 = off + k * 3 + i * 3 by omega] at h0 h1 h2
  exact ⟨b, off + k * 3, rfl, hlt, by simpa using h0, by simpa using h1, by simpa using h2⟩
theorem DepIn.news {w : World} {x : Addr} {l : List De} (h : DepIn w (some x) l) : ∀ j u, (dV l)[j]? = some u → w.cell? (x.add j) = some u := by
  intro j u hj
  have hlt : j < (dV l).length := (List.getElem?_eq_some_iff.1 hj).1
  rw [dV_len] at hlt
  obtain ⟨b', off', e, _, h0, h1, h2⟩ := h (j / 3) (by omega)
  cases e
  obtain ⟨k0, k1, k2⟩ := dV_get l (j / 3) (by omega)
  rw [Addr.add_lit]
  rcases (show j = j / 3 * 3 ∨ j = j / 3 * 3 + 1 ∨ j = j / 3 * 3 + 2 by omega) with ej | ej | ej
  · rw [ej] at hj ⊢
    rw [k0] at hj
    cases hj
    exact h0
  · rw [ej] at hj ⊢
    rw [k1] at hj
    cases hj
    rw [← Nat.add_assoc]
    exact h1
  · rw [ej] at hj ⊢
    rw [k2] at hj
    cases hj
    rw [← Nat.add_assoc]
    exact h2

/-- A slice that reads as these dependencies. -/
def DepAt (w : World) (v : Value) (l : List De) : Prop := ∃ a cap, v = .slice a l.length cap ∧ l.length ≤ cap ∧ cap ≤ maxLen ∧ (a = none → cap = 0) ∧ DepIn w a l
theorem DepAt.nil (w : World) : DepAt w (.slice none 0 0) [] := ⟨none, 0, rfl, by simp, by simp, by simp, DepIn.nil _ _⟩
theorem DepAt.below {w w' : World} {v : Value} {l : List De} (h : DepAt w v l) (hb : Below w.heap.size w w') : DepAt w' v l := by
  obtain ⟨a, cap, rfl, h1, h2, h3, hr⟩ := h
  exact ⟨a, cap, rfl, h1, h2, h3, hr.below hb⟩
theorem DepAt.drew {w : World} {v : Value} {l : List De} (h : DepAt w v l) : DepAt w.drew v l := h
theorem DepAt.alloc {w : World} {v : Value} {l : List De} (h : DepAt w v l) (o : Obj) : DepAt (w.alloc o) v l := h.below (balloc (Below.refl _ _) _)
end Go.Proofs.Ytgaghlofcokijaa
