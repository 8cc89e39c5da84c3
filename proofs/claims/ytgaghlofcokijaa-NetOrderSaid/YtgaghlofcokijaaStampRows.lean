/- Rows of stamps that a call makes. -/
import Derived.Test.YtgaghlofcokijaaStampNums
import Derived.OwnWalk
import Derived.Laws.AppendOwnNone
namespace Go.Proofs.Ytgaghlofcokijaa
open Go.RowKit
set_option linter.unusedVariables false

def stV (l : List (Int × Int)) : List Value := l.flatMap fun p => [.int .i64 p.1, .int .i64 p.2]
theorem stV_len (l : List (Int × Int)) : (stV l).length = l.length * 2 := by
  induction l with
  | nil => rfl
  | cons r t ih => simp [stV] at ih ⊢; omega
theorem stV_get (l : List (Int × Int)) (i : Nat) (h : i < l.length) : (stV l)[i * 2]? = some (.int .i64 l[i].1) ∧ (stV l)[i * 2 + 1]? = some (.int .i64 l[i].2) := by
  induction l generalizing i with
  | nil => simp at h
  | cons r t ih =>
    have e : stV (r :: t) = .int .i64 r.1 :: .int .i64 r.2 :: stV t := by simp [stV]
    rw [e]
    cases i with
    | zero => simp
    | succ i =>
      have := ih i (by simpa using h)
      rw [show (i + 1) * 2 = i * 2 + 1 + 1 by omega]
      simpa using this
theorem stV_snoc (l : List (Int × Int)) (p : Int × Int) : stV (l ++ [p]) = stV l ++ [.int .i64 p.1, .int .i64 p.2] := by simp [stV]
theorem stV_append (l m : List (Int × Int)) : stV (l ++ m) = stV l ++ stV m := by simp [stV]
theorem stV_one (l : List (Int × Int)) : ∀ u ∈ stV l, u.oneCell' = true := by
  intro u hu
  simp only [stV, List.mem_flatMap] at hu
  obtain ⟨p, _, hp⟩ := hu
  simp at hp
  rcases hp with rfl | rfl <;> rfl

/-- A row of the call's own reads as these stamps. -/
theorem st_of_own {w : World} {base : Nat} {e : TypeId} {v : Value} {l : List (Int × Int)} (h : w.ownsRow base e 2 v l.length (stV l)) : ∃ a cap, v = .slice a l.length cap ∧ StIn w a l := by
  rcases h.2 with ⟨rfl, h0⟩ | ⟨g, cap, cur, rfl, hb, hg, hn, hm, hs, ht⟩
  · obtain rfl : l = [] := List.length_eq_zero_iff.1 h0
    exact ⟨none, 0, rfl, fun i h => absurd h (by simp)⟩
  · refine ⟨some ⟨g, 0, none⟩, cap, rfl, fun i hi => ⟨g, 0, rfl, ?_, ?_⟩⟩
    · have h1 := (stV_get l i hi).1
      rw [← ht, List.getElem?_take, if_pos (by omega), Array.getElem?_toList] at h1
      simp [World.cell?, hg, h1]
    · have h1 := (stV_get l i hi).2
      rw [← ht, List.getElem?_take, if_pos (by omega), Array.getElem?_toList] at h1
      simp [World.cell?, hg, h1]
theorem ownT_shape {w1 : World} {base e n : Nat} {v' : Value} {xs : List Value} (h : w1.ownsRow base e 2 v' n xs) : ∃ a k c, v' = .slice a k c := by
  rcases h.2 with ⟨rfl, _⟩ | ⟨g, cap, cur, rfl, _⟩
  · exact ⟨_, _, _, rfl⟩
  · exact ⟨_, _, _, rfl⟩

/-- The cells of a row, one by one. -/
theorem StIn.news {w : World} {x : Addr} {l : List (Int × Int)} (h : StIn w (some x) l) : ∀ j u, (stV l)[j]? = some u → w.cell? (x.add j) = some u := by
  intro j u hj
  have hlt : j < (stV l).length := (List.getElem?_eq_some_iff.1 hj).1
  rw [stV_len] at hlt
  obtain ⟨b', off', e, h0, h1⟩ := h (j / 2) (by omega)
  cases e
  obtain ⟨k0, k1⟩ := stV_get l (j / 2) (by omega)
  rw [Addr.add_lit]
  rcases Nat.mod_two_eq_zero_or_one j with hm | hm
  · have ej : j = j / 2 * 2 := by omega
    rw [ej] at hj ⊢
    rw [k0] at hj
    cases hj
    exact h0
  · have ej : j = j / 2 * 2 + 1 := by omega
    rw [ej] at hj ⊢
    rw [k1] at hj
    cases hj
    rw [← Nat.add_assoc]
    exact h1

end Go.Proofs.Ytgaghlofcokijaa
