/- Pasts that may be: rows that rise. Plain mathematics. -/
import Derived.Test.YtplpeokmhomojaaPastVal
namespace Go.Proofs.Ytplpeokmhomojaa
open Go.RowKit
set_option linter.unusedVariables false

theorem ba_inj {a b : ByteArray} (h : a.data.toList = b.data.toList) : a = b := ByteArray.ext (Array.toList_inj.1 h)
theorem klt_irrefl (a : ByteArray) : klt a a = false := Km.bl_irrefl _
theorem klt_trans {a b c : ByteArray} (h : klt a b = true) (k : klt b c = true) : klt a c = true := Km.bl_trans h k
theorem klt_asymm {a b : ByteArray} (h : klt a b = true) : klt b a = false := Km.bl_asymm h
theorem klt_tri {a b : ByteArray} (h : klt a b = false) (k : klt b a = false) : a = b := ba_inj (Km.bl_tri h k)
theorem klt_ne {a b : ByteArray} (h : klt a b = true) : a ≠ b := by
  rintro rfl
  rw [klt_irrefl] at h
  cases h

/-- All may be, and the keys rise. -/
def Srt (l : List De) : Prop := (∀ d ∈ l, okD d = true) ∧ l.Pairwise (fun x y => klt x.1 y.1 = true)
instance (l : List De) : Decidable (Srt l) := inferInstanceAs (Decidable (_ ∧ _))
theorem Srt.nil : Srt [] := ⟨by simp, List.Pairwise.nil⟩
theorem Srt.take {l : List De} (h : Srt l) (k : Nat) : Srt (l.take k) := ⟨fun d hd => h.1 d (List.mem_of_mem_take hd), h.2.sublist (List.take_sublist k l)⟩
theorem Srt.tail {d : De} {l : List De} (h : Srt (d :: l)) : Srt l := ⟨fun e he => h.1 e (List.mem_cons_of_mem _ he), (List.pairwise_cons.1 h.2).2⟩
theorem Srt.sub {l m : List De} (h : Srt l) (s : m.Sublist l) : Srt m := ⟨fun d hd => h.1 d (s.subset hd), h.2.sublist s⟩

theorem srt_snoc (p : List De) (d : De) : Srt (p ++ [d]) ↔ Srt p ∧ folD p d = true := by
  unfold Srt folD
  rw [List.pairwise_append]
  constructor
  · rintro ⟨h1, h2, h3, h4⟩
    refine ⟨⟨fun e he => h1 e (by simp [he]), h2⟩, ?_⟩
    rw [h1 d (by simp), Bool.true_and]
    cases hg : p.getLast? with
    | none => rfl
    | some x =>
      have hx : x ∈ p := List.mem_of_getLast? hg
      exact h4 x hx d (by simp)
  · rintro ⟨⟨h1, h2⟩, h3⟩
    simp only [Bool.and_eq_true] at h3
    obtain ⟨h3, h4⟩ := h3
    refine ⟨fun e he => ?_, h2, List.pairwise_singleton _ _, ?_⟩
    · simp at he
      rcases he with he | rfl
      · exact h1 e he
      · exact h3
    · intro x hx y hy
      simp at hy
      subst hy
      cases hg : p.getLast? with
      | none =>
        rw [List.getLast?_eq_none_iff] at hg
        subst hg
        simp at hx
      | some z =>
        rw [hg] at h4
        simp only at h4
        obtain ⟨q, rfl⟩ := List.getLast?_eq_some_iff.1 hg
        simp at hx
        rcases hx with hx | rfl
        · exact klt_trans ((List.pairwise_append.1 h2).2.2 x hx z (by simp)) h4
        · exact h4
/-- May this past be? -/
def chkD (l : List De) : Bool := decide (l.length ≤ 24) && decide (Srt l)
theorem srt_step {l : List De} {k : Nat} (h : k < l.length) : Srt (l.take (k + 1)) ↔ Srt (l.take k) ∧ folD (l.take k) l[k] = true := by
  rw [List.take_succ_eq_append_getElem h, srt_snoc]
theorem srt_stop {l : List De} {k : Nat} (h : k < l.length) (hf : folD (l.take k) l[k] = false) : ¬ Srt l := by
  intro hs
  have := ((srt_step h).1 (hs.take (k + 1))).2
  rw [hf] at this
  cases this
theorem wid4 (l : List UInt8) : Km.wid l ≤ 4 := by
  unfold Km.wid
  split
  · omega
  · rename_i h
    exact (Km.widN_le (List.length_pos_iff.2 h)).2
theorem cnt_ge (low : Nat) (l : List UInt8) (n : Nat) (h : Km.cnt low l = some n) : l.length ≤ 4 * n := by
  induction hk : l.length using Nat.strongRecOn generalizing l n with
  | ind k ih =>
    by_cases h0 : l = []
    · subst h0
      simp at hk
      omega
    · by_cases hb : Km.wid l = 0 ∨ Km.nth l 0 < low
      · rw [Km.cnt_bad h0 hb] at h
        cases h
      · rw [Km.cnt_go h0 (by omega) (by omega)] at h
        have hp := List.length_pos_iff.2 h0
        cases hc : Km.cnt low (l.drop (Km.wid l)) with
        | none => rw [hc] at h; cases h
        | some m =>
          rw [hc] at h
          simp only [Option.map_some, Option.some.injEq] at h
          have := ih (l.drop (Km.wid l)).length (by simp; omega) (l.drop (Km.wid l)) m hc rfl
          have h4 := wid4 l
          simp at this
          omega
theorem chk_size {l : List UInt8} (h : Km.chk l = true) : l.length ≤ 32 ∧ 1 ≤ l.length := by
  unfold Km.chk Km.capV at h
  cases hc : Km.cnt 33 l with
  | none => rw [hc] at h; simp at h
  | some n =>
    rw [hc] at h
    have h1 := cnt_ge 33 l n hc
    have h2 := Km.cnt_le 33 l n hc
    simp at h
    split at h <;> simp at h
    omega
theorem okD_chk {d : De} (h : okD d = true) : Km.chk d.1.data.toList = true := by
  unfold okD at h
  simp at h
  exact h.1
theorem okD_size {d : De} (h : okD d = true) : d.1.size ≤ 32 := (chk_size (okD_chk h)).1
end Go.Proofs.Ytplpeokmhomojaa
