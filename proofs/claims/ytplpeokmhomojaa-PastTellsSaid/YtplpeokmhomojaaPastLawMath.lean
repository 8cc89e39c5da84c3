/- What Get, Covers and Add say of a past to which a dependency is added, and of a part of a past: plain mathematics. -/
import Derived.Test.YtplpeokmhomojaaPastMath
import Derived.Test.YtplpeokmhomojaaPastGet
import Derived.Test.YtplpeokmhomojaaPastAddMath
namespace Go.Proofs.Ytplpeokmhomojaa
open Go.RowKit
set_option linter.unusedVariables false

theorem gtD_mem {l : List De} (h : Srt l) {d : De} (hd : d ∈ l) : gtD l d.1 = d.2 := by
  rcases kidx_cases l d.1 with ⟨h1, _⟩ | ⟨i, hi, _, h2, h3⟩
  · exact absurd rfl (kidx_no h1 d hd)
  · rw [h3, srt_key h (List.getElem_mem hi) hd h2]
theorem gtD_no {l : List De} {key : ByteArray} (h : ∀ y ∈ l, y.1 ≠ key) : gtD l key = (0, 0) := gtD_none (fun j hj => h _ (List.getElem_mem hj))
theorem addR_mem {d : De} (hd : okD d = true) {r : List De} (h : Srt r) (m : De) : m ∈ addR r d ↔ ((m ∈ r ∧ m.1 ≠ d.1) ∨ (m.1 = d.1 ∧ ((m = d ∧ ∀ x ∈ r, x.1 = d.1 → Sm.less x.2 d.2 = true) ∨ (m ∈ r ∧ Sm.less m.2 d.2 = false)))) := by
  rw [show addR r d = addGo d false r by simp [addR, hd]]
  exact (addGo_spec hd h).2.2 m
theorem gtD_add {d : De} (hd : okD d = true) {r : List De} (h : Srt r) : gtD (addR r d) d.1 = if Sm.less (gtD r d.1) d.2 = true then d.2 else gtD r d.1 := by
  have hq := addR_srt h d
  by_cases hx : ∃ x ∈ r, x.1 = d.1
  · obtain ⟨x, hx, e⟩ := hx
    have hg : gtD r d.1 = x.2 := by rw [← e]; exact gtD_mem h hx
    rw [hg]
    cases hl : Sm.less x.2 d.2 with
    | true =>
      rw [if_pos rfl]
      refine gtD_mem hq ((addR_mem hd h d).2 (.inr ⟨rfl, .inl ⟨rfl, fun y hy ey => ?_⟩⟩))
      rw [srt_key h hy hx (ey.trans e.symm)]
      exact hl
    | false =>
      rw [if_neg (by simp), ← e]
      exact gtD_mem hq ((addR_mem hd h x).2 (.inr ⟨e, .inr ⟨hx, hl⟩⟩))
  · have hn : ∀ y ∈ r, y.1 ≠ d.1 := fun y hy e => hx ⟨y, hy, e⟩
    rw [gtD_no hn]
    have hp := okD_pos hd
    rw [if_pos (by rw [Sm.less_iff]; left; simp; omega)]
    exact gtD_mem hq ((addR_mem hd h d).2 (.inr ⟨rfl, .inl ⟨rfl, fun y hy ey => absurd ey (hn y hy)⟩⟩))
theorem gtD_add_other {d : De} (hd : okD d = true) {r : List De} (h : Srt r) {o : ByteArray} (ho : o ≠ d.1) : gtD (addR r d) o = gtD r o := by
  have hq := addR_srt h d
  by_cases hx : ∃ x ∈ r, x.1 = o
  · obtain ⟨x, hx, rfl⟩ := hx
    rw [gtD_mem h hx]
    exact gtD_mem hq ((addR_mem hd h x).2 (.inl ⟨hx, ho⟩))
  · have hn : ∀ y ∈ r, y.1 ≠ o := fun y hy e => hx ⟨y, hy, e⟩
    rw [gtD_no hn]
    refine gtD_no (fun y hy e => ?_)
    rcases (addR_mem hd h y).1 hy with ⟨h1, _⟩ | ⟨h1, _⟩
    · exact hn y h1 e
    · exact ho (e.symm.trans h1)
theorem add_covers {d : De} (hd : okD d = true) {r : List De} (h : Srt r) : (!(r.any fun x => Sm.less (gtD (addR r d) x.1) x.2)) = true := by
  rw [Bool.not_eq_true', List.any_eq_false]
  intro x hx
  by_cases e : x.1 = d.1
  · have h1 := gtD_add hd h
    rw [← e, gtD_mem h hx] at h1
    rw [h1]
    split
    · rename_i hl
      rw [Sm.less_iff] at hl
      simp only [Bool.not_eq_true, Sm.less_false]
      omega
    · simp [Sm.less_self]
  · rw [gtD_add_other hd h e, gtD_mem h hx]
    simp [Sm.less_self]
theorem addR_again {d : De} (hd : okD d = true) {r : List De} (h : Srt r) : addR (addR r d) d = addR r d := by
  have hq := addR_srt h d
  have hk : ∀ x ∈ addR r d, x.1 = d.1 → Sm.less x.2 d.2 = false := by
    intro x hx e
    have h1 := gtD_add hd h
    rw [← e, gtD_mem hq hx] at h1
    rw [h1]
    split
    · exact Sm.less_self _
    · rename_i hl; simpa using hl
  have he : ∃ x ∈ addR r d, x.1 = d.1 := by
    by_cases hx : ∃ x ∈ r, x.1 = d.1 ∧ Sm.less x.2 d.2 = false
    · obtain ⟨x, hx, e, hl⟩ := hx
      exact ⟨x, (addR_mem hd h x).2 (.inr ⟨e, .inr ⟨hx, hl⟩⟩), e⟩
    · refine ⟨d, (addR_mem hd h d).2 (.inr ⟨rfl, .inl ⟨rfl, fun x hx' e => ?_⟩⟩), rfl⟩
      cases hl : Sm.less x.2 d.2 with
      | true => rfl
      | false => exact absurd ⟨x, hx', e, hl⟩ hx
  obtain ⟨x0, hx0, e0⟩ := he
  refine srt_ext (addR_srt hq d) hq (fun m => ?_)
  rw [addR_mem hd hq m]
  constructor
  · rintro (⟨h1, _⟩ | ⟨_, ⟨rfl, h2⟩ | ⟨h1, _⟩⟩)
    · exact h1
    · have := h2 x0 hx0 e0
      rw [hk x0 hx0 e0] at this
      cases this
    · exact h1
  · intro h1
    by_cases e : m.1 = d.1
    · exact .inr ⟨e, .inr ⟨h1, hk m h1 e⟩⟩
    · exact .inl ⟨h1, e⟩
theorem chkD_one (d : De) : chkD [d] = okD d := by
  have h1 : Srt [d] ↔ okD d = true := by simp [Srt]
  unfold chkD
  cases h : okD d with
  | true => simp [h1, h]
  | false => simp [h1, h]
/-- What the law wants. -/
theorem want_eq {h0 h1 n s : Int} : (if Sm.less (h0, h1) (n, s) = true then (n, s) else (h0, h1)) = if (h0 < n ∨ (h0 = n ∧ h1 < s)) then (n, s) else (h0, h1) := by
  simp [Sm.less]

/-! A part of a past. -/
theorem part_get {l : List De} (h : Srt l) (p : De → Bool) {d : De} (hd : d ∈ l) : gtD (l.filter p) d.1 = if p d = true then d.2 else (0, 0) := by
  have hs : Srt (l.filter p) := h.sub List.filter_sublist
  by_cases hp : p d = true
  · rw [if_pos hp]
    exact gtD_mem hs (List.mem_filter.2 ⟨hd, hp⟩)
  · rw [if_neg hp]
    refine gtD_no (fun y hy e => ?_)
    obtain ⟨h1, h2⟩ := List.mem_filter.1 hy
    rw [srt_key h h1 hd e] at h2
    exact hp h2
theorem part_covers {l : List De} (h : Srt l) (p : De → Bool) : (!((l.filter p).any fun x => Sm.less (gtD l x.1) x.2)) = true := by
  rw [Bool.not_eq_true', List.any_eq_false]
  intro x hx
  rw [gtD_mem h (List.mem_filter.1 hx).1]
  simp [Sm.less_self]
end Go.Proofs.Ytplpeokmhomojaa
