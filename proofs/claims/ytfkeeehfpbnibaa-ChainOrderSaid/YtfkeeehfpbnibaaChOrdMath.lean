/- Two orders of Put: plain mathematics. -/
import Derived.Test.YtfkeeehfpbnibaaGC24
namespace Go.Proofs.Ytfkeeehfpbnibaa
open Go.RowKit Go.Shelf
set_option linter.unusedVariables false
set_option linter.unusedSimpArgs false

def fS (l : List (Int × Int)) (i : Nat) : Int × Int := l.getD i (0, 0)
def mk0 (s : Int × Int) : Vw := mkA s ⟨#[]⟩
theorem fS_get {l : List (Int × Int)} {i : Nat} (h : i < l.length) : fS l i = l[i] := by
  unfold fS
  rw [List.getD_eq_getElem?_getD, List.getElem?_eq_getElem h]
  rfl
theorem fS_i64 {l : List (Int × Int)} (h : ∀ r ∈ l, In64 r) (i : Nat) : In64 (fS l i) := by
  by_cases hi : i < l.length
  · rw [fS_get hi]; exact h _ (List.getElem_mem hi)
  · unfold fS
    rw [List.getD_eq_getElem?_getD, List.getElem?_eq_none (by omega)]
    unfold In64
    decide
theorem mk0_ok (s : Int × Int) : okW (mk0 s).1 = Sm.ok s.1 s.2 := mkA_ok s _ (by decide)
/-- The chain has just the good stamps that P tells of. -/
def MemO (l : List (Int × Int)) (P : Nat → Prop) (A : List Vw) : Prop := ∀ x, x ∈ A ↔ ∃ i, P i ∧ x = mk0 (fS l i) ∧ Sm.ok (fS l i).1 (fS l i).2 = true
theorem memO_put {l : List (Int × Int)} {P Q : Nat → Prop} {A : List Vw} {k : Nat} (hc : Chn A) (hm : MemO l P A) (hq : ∀ i, Q i ↔ P i ∨ i = k) : Chn (putC A (mk0 (fS l k))) ∧ MemO l Q (putC A (mk0 (fS l k))) := by
  refine ⟨hc.putC rfl, fun x => ?_⟩
  rw [putC_mem hc rfl (fun y hy e => by
    obtain ⟨i, _, rfl, _⟩ := (hm y).1 hy
    have : fS l i = fS l k := e
    rw [this]), mk0_ok, hm x]
  constructor
  · rintro (⟨i, h1, h2, h3⟩ | ⟨h1, h2⟩)
    · exact ⟨i, (hq i).2 (.inl h1), h2, h3⟩
    · exact ⟨k, (hq k).2 (.inr rfl), h1, h2⟩
  · rintro ⟨i, h1, h2, h3⟩
    rcases (hq i).1 h1 with h | rfl
    · exact .inl ⟨i, h, h2, h3⟩
    · exact .inr ⟨h2, h3⟩
/-- The greatest good one so far. -/
def Grt (l : List (Int × Int)) (k : Nat) (g : Int × Int) : Prop :=
  (∀ i, i < k → Sm.ok (fS l i).1 (fS l i).2 = true → Sm.less g (fS l i) = false) ∧ ((g = (0, 0) ∧ ∀ i, i < k → Sm.ok (fS l i).1 (fS l i).2 = false) ∨ ∃ i, i < k ∧ Sm.ok (fS l i).1 (fS l i).2 = true ∧ g = fS l i)
theorem Grt.zero (l : List (Int × Int)) : Grt l 0 (0, 0) := ⟨fun i h => absurd h (by omega), .inl ⟨rfl, fun i h => absurd h (by omega)⟩⟩
theorem Grt.step {l : List (Int × Int)} {k : Nat} {g : Int × Int} (h : Grt l k g) : Grt l (k + 1) (if (Sm.ok (fS l k).1 (fS l k).2 && Sm.less g (fS l k)) = true then fS l k else g) := by
  obtain ⟨h1, h2⟩ := h
  cases hok : Sm.ok (fS l k).1 (fS l k).2 with
  | false =>
    simp only [Bool.false_and, Bool.false_eq_true, if_false]
    refine ⟨fun i hi ho => ?_, ?_⟩
    · by_cases e : i = k
      · subst e; rw [hok] at ho; cases ho
      · exact h1 i (by omega) ho
    · rcases h2 with ⟨h3, h4⟩ | ⟨i, h3, h4⟩
      · refine .inl ⟨h3, fun i hi => ?_⟩
        by_cases e : i = k
        · subst e; exact hok
        · exact h4 i (by omega)
      · exact .inr ⟨i, by omega, h4⟩
  | true =>
    cases hl : Sm.less g (fS l k) with
    | true =>
      simp only [Bool.true_and, if_true]
      refine ⟨fun i hi ho => ?_, .inr ⟨k, by omega, hok, rfl⟩⟩
      by_cases e : i = k
      · subst e; exact Sm.less_self _
      · exact Sm.le_trans (by
          have := h1 i (by omega) ho
          exact this) (less_asymm hl)
    | false =>
      simp only [Bool.true_and, Bool.false_eq_true, if_false]
      refine ⟨fun i hi ho => ?_, ?_⟩
      · by_cases e : i = k
        · subst e; exact hl
        · exact h1 i (by omega) ho
      · rcases h2 with ⟨h3, h4⟩ | ⟨i, h3, h4⟩
        · subst h3
          rw [less_total (ok_less hok).1 (fun e => by
            rw [e] at hok
            revert hok
            decide)] at hl
          cases hl
        · exact .inr ⟨i, by omega, h4⟩
theorem grt_head {l : List (Int × Int)} {N : Nat} {g : Int × Int} {A : List Vw} (hg : Grt l N g) (hc : Chn A) (hm : MemO l (fun i => i < N) A) : A.getLast?.isSome = decide (0 < g.1) ∧ (A.getLast?.getD vw0).1.st = g := by
  obtain ⟨h1, h2⟩ := hg
  cases hl : A.getLast? with
  | none =>
    rw [List.getLast?_eq_none_iff] at hl
    subst hl
    rcases h2 with ⟨rfl, _⟩ | ⟨i, h3, h4, h5⟩
    · exact ⟨rfl, rfl⟩
    · have := (hm (mk0 (fS l i))).2 ⟨i, h3, rfl, h4⟩
      simp at this
  | some y =>
    have hy := List.mem_of_getLast? hl
    obtain ⟨i, h3, h4, h5⟩ := (hm y).1 hy
    rcases h2 with ⟨rfl, h6⟩ | ⟨j, h6, h7, h8⟩
    · rw [h6 i h3] at h5; cases h5
    · have hst : y.1.st = fS l i := by rw [h4]; rfl
      have hm2 : mk0 g ∈ A := (hm _).2 ⟨j, h6, by rw [h8], h7⟩
      have heq : y.1.st = g := by
        obtain ⟨B, hB⟩ := List.getLast?_eq_some_iff.1 hl
        have hr := hc.rise
        rw [hB, riseW, List.pairwise_append] at hr
        rw [hB, List.mem_append, List.mem_singleton] at hm2
        rcases hm2 with h9 | h9
        · have h10 := hr.2.2 _ h9 y (by simp)
          have h11 := h1 i h3 h5
          rw [hst] at h10
          have e : (mk0 g).1.st = g := rfl
          rw [e, h11] at h10
          cases h10
        · rw [← h9]; rfl
      refine ⟨?_, heq⟩
      have hpos : 0 < g.1 := by
        rw [h8]
        simp [Sm.ok] at h7
        omega
      simp [hpos]
theorem putOk_ok {xs : List Vw} {x : Vw} (h : putOk xs x = true) : okW x.1 = true := by
  unfold putOk at h
  simp only [Bool.and_eq_true] at h
  exact h.1.2
end Go.Proofs.Ytfkeeehfpbnibaa
