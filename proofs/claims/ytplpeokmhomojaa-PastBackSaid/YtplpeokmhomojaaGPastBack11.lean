/- Texts of this proof, one behind the other: PastMath, PastConc, PastMerge. -/
import Derived.Test.YtplpeokmhomojaaGPastBack10
/- Pasts put together: plain mathematics. -/
namespace Go.Proofs.Ytplpeokmhomojaa
open Go.RowKit
set_option linter.unusedVariables false
set_option linter.unusedSimpArgs false

/-- r is what the dependencies f make, put together: of each key the greatest that may be. -/
structure IsMerge (f r : List De) : Prop where
  srt : Srt r
  mem : ∀ m, m ∈ r ↔ (m ∈ f ∧ okD m = true ∧ ∀ e ∈ f, okD e = true → e.1 = m.1 → Sm.less m.2 e.2 = false)
  rep : ∀ e ∈ f, okD e = true → ∃ x ∈ r, x.1 = e.1

theorem srt_key {l : List De} (h : Srt l) {x y : De} (hx : x ∈ l) (hy : y ∈ l) (e : x.1 = y.1) : x = y := by
  obtain ⟨i, hi, rfl⟩ := List.getElem_of_mem hx
  obtain ⟨j, hj, rfl⟩ := List.getElem_of_mem hy
  rcases Nat.lt_trichotomy i j with c | c | c
  · have := (List.pairwise_iff_getElem.1 h.2) i j hi hj c
    exact absurd e (klt_ne this)
  · subst c; rfl
  · have := (List.pairwise_iff_getElem.1 h.2) j i hj hi c
    exact absurd e.symm (klt_ne this)
/-- Rows that rise and have the same members are one. -/
theorem srt_ext : ∀ {l m : List De}, Srt l → Srt m → (∀ d, d ∈ l ↔ d ∈ m) → l = m
  | [], [], _, _, _ => rfl
  | [], y :: m, _, _, h => absurd ((h y).2 (by simp)) (by simp)
  | x :: l, [], _, _, h => absurd ((h x).1 (by simp)) (by simp)
  | x :: l, y :: m, hl, hm, h => by
    have a := List.pairwise_cons.1 hl.2
    have b := List.pairwise_cons.1 hm.2
    have e : x = y := by
      have hx := (h x).1 (by simp)
      have hy := (h y).2 (by simp)
      rcases List.mem_cons.1 hx with e | hx
      · exact e
      · rcases List.mem_cons.1 hy with e | hy
        · exact e.symm
        · have h1 := b.1 x hx
          have h2 := a.1 y hy
          have := klt_trans h1 h2
          rw [klt_irrefl] at this
          cases this
    subst e
    rw [srt_ext hl.tail hm.tail ?_]
    intro d
    constructor
    · intro hd
      rcases List.mem_cons.1 ((h d).1 (List.mem_cons_of_mem _ hd)) with e | h'
      · subst e
        have := a.1 d hd
        rw [klt_irrefl] at this
        cases this
      · exact h'
    · intro hd
      rcases List.mem_cons.1 ((h d).2 (List.mem_cons_of_mem _ hd)) with e | h'
      · subst e
        have := b.1 d hd
        rw [klt_irrefl] at this
        cases this
      · exact h'
theorem IsMerge.uniq {f f' r r' : List De} (h : IsMerge f r) (h' : IsMerge f' r') (hf : ∀ d, d ∈ f ↔ d ∈ f') : r = r' := by
  refine srt_ext h.srt h'.srt (fun d => ?_)
  rw [h.mem, h'.mem, hf]
  constructor
  · rintro ⟨a, b, c⟩
    exact ⟨a, b, fun e he => c e ((hf e).2 he)⟩
  · rintro ⟨a, b, c⟩
    exact ⟨a, b, fun e he => c e ((hf e).1 he)⟩
/-- A past is what it makes. -/
theorem IsMerge.self {r : List De} (h : Srt r) : IsMerge r r := by
  refine ⟨h, fun m => ⟨fun hm => ⟨hm, h.1 m hm, fun e he _ hk => ?_⟩, fun hm => hm.1⟩, fun e he _ => ⟨e, he, rfl⟩⟩
  rw [srt_key h he hm hk]
  exact Sm.less_self _

/-! The program's way: sorted, and of neighbours of one key the first. -/
theorem cmpGo_facts : ∀ (r : List De) (prev : De), SortedD (prev :: r) →
    (∀ d ∈ cmpGo prev r, d ∈ r ∧ klt prev.1 d.1 = true) ∧ (cmpGo prev r).Pairwise (fun x y => klt x.1 y.1 = true) ∧ (∀ d ∈ cmpGo prev r, ∀ e ∈ r, e.1 = d.1 → Sm.less d.2 e.2 = false) ∧ (∀ e ∈ r, ∃ d ∈ prev :: cmpGo prev r, d.1 = e.1)
  | [], prev, _ => ⟨by simp [cmpGo], by simp [cmpGo], by simp [cmpGo], by simp⟩
  | x :: r, prev, hs => by
    have hs1 := List.pairwise_cons.1 hs
    have hs2 := List.pairwise_cons.1 hs1.2
    obtain ⟨ia, ib, ic, id⟩ := cmpGo_facts r x hs1.2
    have hx := hs1.1 x (by simp)
    by_cases hk : x.1 = prev.1
    · rw [cmpGo, if_pos hk]
      refine ⟨fun d hd => ⟨List.mem_cons_of_mem _ (ia d hd).1, by rw [← hk]; exact (ia d hd).2⟩, ib, ?_, ?_⟩
      · intro d hd e he hek
        rcases List.mem_cons.1 he with rfl | he
        · exact absurd hek (klt_ne (ia d hd).2)
        · exact ic d hd e he hek
      · intro e he
        rcases List.mem_cons.1 he with rfl | he
        · exact ⟨prev, by simp, hk.symm⟩
        · obtain ⟨d, hd, hde⟩ := id e he
          rcases List.mem_cons.1 hd with rfl | hd
          · exact ⟨prev, by simp, hk.symm.trans hde⟩
          · exact ⟨d, List.mem_cons_of_mem _ hd, hde⟩
    · rw [cmpGo, if_neg hk]
      have hpx : klt prev.1 x.1 = true := by
        unfold ltD at hx
        rw [if_neg hk] at hx
        cases h : klt prev.1 x.1 with
        | true => rfl
        | false => exact absurd (klt_tri hx h) hk
      refine ⟨?_, List.pairwise_cons.2 ⟨fun d hd => (ia d hd).2, ib⟩, ?_, ?_⟩
      · intro d hd
        rcases List.mem_cons.1 hd with rfl | hd
        · exact ⟨by simp, hpx⟩
        · exact ⟨List.mem_cons_of_mem _ (ia d hd).1, klt_trans hpx (ia d hd).2⟩
      · intro d hd e he hek
        rcases List.mem_cons.1 hd with rfl | hd
        · rcases List.mem_cons.1 he with rfl | he
          · exact Sm.less_self _
          · have h3 := hs2.1 e he
            unfold ltD at h3
            rw [if_pos hek] at h3
            exact h3
        · rcases List.mem_cons.1 he with rfl | he
          · exact absurd hek (klt_ne (ia d hd).2)
          · exact ic d hd e he hek
      · intro e he
        rcases List.mem_cons.1 he with rfl | he
        · exact ⟨e, by simp, rfl⟩
        · obtain ⟨d, hd, hde⟩ := id e he
          exact ⟨d, List.mem_cons_of_mem _ hd, hde⟩
theorem cmpK_facts (l : List De) (hs : SortedD l) :
    (∀ d ∈ cmpK l, d ∈ l) ∧ (cmpK l).Pairwise (fun x y => klt x.1 y.1 = true) ∧ (∀ d ∈ cmpK l, ∀ e ∈ l, e.1 = d.1 → Sm.less d.2 e.2 = false) ∧ (∀ e ∈ l, ∃ d ∈ cmpK l, d.1 = e.1) := by
  cases l with
  | nil => exact ⟨by simp [cmpK], by simp [cmpK], by simp [cmpK], by simp⟩
  | cons p r =>
    obtain ⟨ia, ib, ic, id⟩ := cmpGo_facts r p hs
    have hs1 := List.pairwise_cons.1 hs
    rw [cmpK]
    refine ⟨?_, List.pairwise_cons.2 ⟨fun d hd => (ia d hd).2, ib⟩, ?_, ?_⟩
    · intro d hd
      rcases List.mem_cons.1 hd with rfl | hd
      · simp
      · exact List.mem_cons_of_mem _ (ia d hd).1
    · intro d hd e he hek
      rcases List.mem_cons.1 hd with rfl | hd
      · rcases List.mem_cons.1 he with rfl | he
        · exact Sm.less_self _
        · have h3 := hs1.1 e he
          unfold ltD at h3
          rw [if_pos hek] at h3
          exact h3
      · rcases List.mem_cons.1 he with rfl | he
        · exact absurd hek (klt_ne (ia d hd).2)
        · exact ic d hd e he hek
    · intro e he
      rcases List.mem_cons.1 he with rfl | he
      · exact ⟨e, by simp, rfl⟩
      · exact id e he
theorem merge_of_sort {f l : List De} (hp : l.Perm (kept (fun d => !okD d) f)) (hs : SortedD l) : IsMerge f (cmpK l) := by
  obtain ⟨ha, hb, hc, hd⟩ := cmpK_facts l hs
  have hm : ∀ d, d ∈ l ↔ (d ∈ f ∧ okD d = true) := by
    intro d
    rw [hp.mem_iff]
    simp [kept]
  refine ⟨⟨fun d h => ((hm d).1 (ha d h)).2, hb⟩, fun m => ?_, fun e he ho => hd e ((hm e).2 ⟨he, ho⟩)⟩
  constructor
  · intro h
    have h1 := (hm m).1 (ha m h)
    exact ⟨h1.1, h1.2, fun e he ho hk => hc m h e ((hm e).2 ⟨he, ho⟩) hk⟩
  · rintro ⟨h1, h2, h3⟩
    have hml := (hm m).2 ⟨h1, h2⟩
    obtain ⟨d, hdm, hdk⟩ := hd m hml
    have h4 := hc d hdm m hml hdk.symm
    have hd2 := (hm d).1 (ha d hdm)
    have h5 := h3 d hd2.1 hd2.2 hdk
    have h6 : d.2 = m.2 := (Sm.le_antisymm h5 h4)
    have : d = m := Prod.ext hdk h6
    rw [← this]
    exact hdm

/-! The document's way: one by one. -/
theorem addGo_true {d : De} : ∀ {r : List De}, (∀ y ∈ r, y.1 ≠ d.1) → addGo d true r = r
  | [], _ => rfl
  | x :: r, h => by
    rw [addGo_put (h x (by simp)), addGo_true (fun y hy => h y (List.mem_cons_of_mem _ hy))]
theorem addGo_spec {d : De} (hd : okD d = true) : ∀ {r : List De}, Srt r → Srt (addGo d false r) ∧ (∀ k, klt k d.1 = true → (∀ y ∈ r, klt k y.1 = true) → ∀ y ∈ addGo d false r, klt k y.1 = true) ∧
    ∀ m, m ∈ addGo d false r ↔ ((m ∈ r ∧ m.1 ≠ d.1) ∨ (m.1 = d.1 ∧ ((m = d ∧ ∀ x ∈ r, x.1 = d.1 → Sm.less x.2 d.2 = true) ∨ (m ∈ r ∧ Sm.less m.2 d.2 = false))))
  | [], _ => by
    refine ⟨⟨by simpa [addGo] using hd, by simp [addGo]⟩, by simp [addGo], fun m => ?_⟩
    simp [addGo]
    intro h
    rw [h]
  | x :: r, hs => by
    have ha := List.pairwise_cons.1 hs.2
    have ih := addGo_spec hd hs.tail
    by_cases hk : x.1 = d.1
    · have hne : ∀ y ∈ r, y.1 ≠ d.1 := fun y hy e => klt_ne (ha.1 y hy) (hk.trans e.symm)
      cases hl : Sm.less x.2 d.2 with
      | true =>
        rw [addGo_eq hk hl, addGo_true hne]
        refine ⟨⟨?_, List.pairwise_cons.2 ⟨fun y hy => by rw [← hk]; exact ha.1 y hy, ha.2⟩⟩, ?_, fun m => ?_⟩
        · intro e he
          rcases List.mem_cons.1 he with rfl | he
          · exact hd
          · exact hs.1 e (List.mem_cons_of_mem _ he)
        · intro k h1 h2 y hy
          rcases List.mem_cons.1 hy with rfl | hy
          · exact h1
          · exact h2 y (List.mem_cons_of_mem _ hy)
        · constructor
          · intro h
            rcases List.mem_cons.1 h with rfl | h
            · refine .inr ⟨rfl, .inl ⟨rfl, fun z hz hzk => ?_⟩⟩
              rcases List.mem_cons.1 hz with rfl | hz
              · exact hl
              · exact absurd hzk (hne z hz)
            · exact .inl ⟨List.mem_cons_of_mem _ h, hne m h⟩
          · rintro (⟨h1, h2⟩ | ⟨h1, ⟨rfl, _⟩ | ⟨h2, h3⟩⟩)
            · rcases List.mem_cons.1 h1 with rfl | h1
              · exact absurd hk h2
              · exact List.mem_cons_of_mem _ h1
            · simp
            · rcases List.mem_cons.1 h2 with rfl | h2
              · rw [hl] at h3; cases h3
              · exact absurd h1 (hne m h2)
      | false =>
        rw [addGo_eq' hk hl, addGo_true hne]
        refine ⟨hs, fun k _ h2 => h2, fun m => ?_⟩
        constructor
        · intro h
          rcases List.mem_cons.1 h with rfl | h
          · exact .inr ⟨hk, .inr ⟨by simp, hl⟩⟩
          · exact .inl ⟨List.mem_cons_of_mem _ h, hne m h⟩
        · rintro (⟨h1, _⟩ | ⟨h1, ⟨rfl, h2⟩ | ⟨h2, _⟩⟩)
          · exact h1
          · have := h2 x (by simp) hk
            rw [hl] at this; cases this
          · exact h2
    · cases hg : klt d.1 x.1 with
      | true =>
        have hne : ∀ y ∈ r, y.1 ≠ d.1 := fun y hy e => by
          have := klt_trans hg (ha.1 y hy)
          exact klt_ne this e.symm
        rw [addGo_gt hk hg, addGo_true hne]
        have hall : ∀ y ∈ x :: r, klt d.1 y.1 = true := by
          intro y hy
          rcases List.mem_cons.1 hy with rfl | hy
          · exact hg
          · exact klt_trans hg (ha.1 y hy)
        refine ⟨⟨?_, List.pairwise_cons.2 ⟨hall, hs.2⟩⟩, ?_, fun m => ?_⟩
        · intro e he
          rcases List.mem_cons.1 he with rfl | he
          · exact hd
          · exact hs.1 e he
        · intro k h1 h2 y hy
          rcases List.mem_cons.1 hy with rfl | hy
          · exact h1
          · exact h2 y hy
        · constructor
          · intro h
            rcases List.mem_cons.1 h with rfl | h
            · exact .inr ⟨rfl, .inl ⟨rfl, fun z hz hzk => absurd hzk.symm (klt_ne (hall z hz))⟩⟩
            · exact .inl ⟨h, fun e => klt_ne (hall m h) e.symm⟩
          · rintro (⟨h1, _⟩ | ⟨h1, ⟨rfl, _⟩ | ⟨h2, _⟩⟩)
            · exact List.mem_cons_of_mem _ h1
            · simp
            · exact List.mem_cons_of_mem _ h2
      | false =>
        have hxd : klt x.1 d.1 = true := by
          cases h : klt x.1 d.1 with
          | true => rfl
          | false => exact absurd (klt_tri h hg) hk
        rw [addGo_le hk hg]
        obtain ⟨i1, i2, i3⟩ := ih
        refine ⟨⟨?_, List.pairwise_cons.2 ⟨i2 x.1 hxd ha.1, i1.2⟩⟩, ?_, fun m => ?_⟩
        · intro e he
          rcases List.mem_cons.1 he with rfl | he
          · exact hs.1 e (by simp)
          · exact i1.1 e he
        · intro k h1 h2 y hy
          rcases List.mem_cons.1 hy with rfl | hy
          · exact h2 y (by simp)
          · exact i2 k h1 (fun z hz => h2 z (List.mem_cons_of_mem _ hz)) y hy
        · rw [List.mem_cons, i3]
          constructor
          · rintro (rfl | ⟨h1, h2⟩ | ⟨h1, ⟨h2, h3⟩ | ⟨h2, h3⟩⟩)
            · exact .inl ⟨by simp, hk⟩
            · exact .inl ⟨List.mem_cons_of_mem _ h1, h2⟩
            · refine .inr ⟨h1, .inl ⟨h2, fun z hz hzk => ?_⟩⟩
              rcases List.mem_cons.1 hz with rfl | hz
              · exact absurd hzk hk
              · exact h3 z hz hzk
            · exact .inr ⟨h1, .inr ⟨List.mem_cons_of_mem _ h2, h3⟩⟩
          · rintro (⟨h1, h2⟩ | ⟨h1, ⟨h2, h3⟩ | ⟨h2, h3⟩⟩)
            · rcases List.mem_cons.1 h1 with rfl | h1
              · exact .inl rfl
              · exact .inr (.inl ⟨h1, h2⟩)
            · exact .inr (.inr ⟨h1, .inl ⟨h2, fun z hz hzk => h3 z (List.mem_cons_of_mem _ hz) hzk⟩⟩)
            · rcases List.mem_cons.1 h2 with rfl | h2
              · exact absurd h1 hk
              · exact .inr (.inr ⟨h1, .inr ⟨h2, h3⟩⟩)
theorem addR_srt {r : List De} (h : Srt r) (d : De) : Srt (addR r d) := by
  unfold addR
  split
  · rename_i hd
    exact (addGo_spec hd h).1
  · exact h
theorem IsMerge.add {f r : List De} (h : IsMerge f r) (d : De) : IsMerge (f ++ [d]) (addR r d) := by
  by_cases hd : okD d = true
  · rw [addR, if_pos hd]
    obtain ⟨s1, _, s3⟩ := addGo_spec hd h.srt
    refine ⟨s1, fun m => ?_, fun e he ho => ?_⟩
    · rw [s3]
      constructor
      · rintro (⟨h1, h2⟩ | ⟨h1, ⟨rfl, h3⟩ | ⟨h2, h3⟩⟩)
        · obtain ⟨a, b, c⟩ := (h.mem m).1 h1
          refine ⟨by simp [a], b, fun e he ho hk => ?_⟩
          rcases List.mem_append.1 he with he | he
          · exact c e he ho hk
          · simp at he
            subst he
            exact absurd hk.symm h2
        · refine ⟨by simp, hd, fun e he ho hk => ?_⟩
          rcases List.mem_append.1 he with he | he
          · obtain ⟨x, hx, hxk⟩ := h.rep e he ho
            have h4 := h3 x hx (hxk.trans hk)
            have h5 := ((h.mem x).1 hx).2.2 e he ho hxk.symm
            cases h6 : Sm.less m.2 e.2 with
            | false => rfl
            | true =>
              rw [Sm.less_trans h4 h6] at h5
              cases h5
          · simp at he
            subst he
            exact Sm.less_self _
        · obtain ⟨a, b, c⟩ := (h.mem m).1 h2
          refine ⟨by simp [a], b, fun e he ho hk => ?_⟩
          rcases List.mem_append.1 he with he | he
          · exact c e he ho hk
          · simp at he
            subst he
            exact h3
      · rintro ⟨a, b, c⟩
        by_cases hk : m.1 = d.1
        · by_cases hmr : m ∈ r
          · exact .inr ⟨hk, .inr ⟨hmr, c d (by simp) hd hk.symm⟩⟩
          · have hmd : m = d := by
              rcases List.mem_append.1 a with a | a
              · exact absurd ((h.mem m).2 ⟨a, b, fun e he => c e (by simp [he])⟩) hmr
              · simpa using a
            subst hmd
            refine .inr ⟨rfl, .inl ⟨rfl, fun x hx hxk => ?_⟩⟩
            have h1 := (h.mem x).1 hx
            have h2 := c x (by simp [h1.1]) h1.2.1 hxk
            cases h3 : Sm.less x.2 m.2 with
            | true => rfl
            | false =>
              have : x.2 = m.2 := Sm.le_antisymm h2 h3
              exact absurd hx (by rw [show x = m from Prod.ext hxk this]; exact hmr)
        · refine .inl ⟨(h.mem m).2 ⟨?_, b, fun e he => c e (by simp [he])⟩, hk⟩
          rcases List.mem_append.1 a with a | a
          · exact a
          · simp at a
            subst a
            exact absurd rfl hk
    · rcases List.mem_append.1 he with he | he
      · obtain ⟨x, hx, hxk⟩ := h.rep e he ho
        by_cases hk : x.1 = d.1
        · cases hl : Sm.less x.2 d.2 with
          | true => exact ⟨d, (s3 d).2 (.inr ⟨rfl, .inl ⟨rfl, fun y hy hyk => by rw [srt_key h.srt hy hx (hyk.trans hk.symm)]; exact hl⟩⟩), hk.symm.trans hxk⟩
          | false => exact ⟨x, (s3 x).2 (.inr ⟨hk, .inr ⟨hx, hl⟩⟩), hxk⟩
        · exact ⟨x, (s3 x).2 (.inl ⟨hx, hk⟩), hxk⟩
      · simp at he
        subst he
        by_cases hx : ∃ x ∈ r, x.1 = e.1 ∧ Sm.less x.2 e.2 = false
        · obtain ⟨x, hx, hxk, hl⟩ := hx
          exact ⟨x, (s3 x).2 (.inr ⟨hxk, .inr ⟨hx, hl⟩⟩), hxk⟩
        · refine ⟨e, (s3 e).2 (.inr ⟨rfl, .inl ⟨rfl, fun x h1 h2 => ?_⟩⟩), rfl⟩
          cases hl : Sm.less x.2 e.2 with
          | true => rfl
          | false => exact absurd ⟨x, h1, h2, hl⟩ hx
  · rw [addR, if_neg hd]
    refine ⟨h.srt, fun m => ?_, fun e he ho => ?_⟩
    · rw [h.mem]
      constructor
      · rintro ⟨a, b, c⟩
        refine ⟨by simp [a], b, fun e he ho hk => ?_⟩
        rcases List.mem_append.1 he with he | he
        · exact c e he ho hk
        · simp at he
          subst he
          exact absurd ho hd
      · rintro ⟨a, b, c⟩
        refine ⟨?_, b, fun e he => c e (by simp [he])⟩
        rcases List.mem_append.1 a with a | a
        · exact a
        · simp at a
          subst a
          exact absurd b hd
    · rcases List.mem_append.1 he with he | he
      · exact h.rep e he ho
      · simp at he
        subst he
        exact absurd ho hd
theorem IsMerge.nil : IsMerge [] [] := ⟨Srt.nil, by simp, by simp⟩
/-- One by one. -/
def addAll (r : List De) (l : List De) : List De := l.foldl addR r
theorem IsMerge.all {f r : List De} (h : IsMerge f r) (l : List De) : IsMerge (f ++ l) (addAll r l) := by
  induction l generalizing f r with
  | nil => simpa [addAll] using h
  | cons d l ih =>
    have := ih (h.add d)
    rw [List.append_assoc] at this
    simpa [addAll] using this
end Go.Proofs.Ytplpeokmhomojaa
/- What slices.Clone and slices.Concat answer of dependencies. -/
namespace Go.Proofs.Ytplpeokmhomojaa
open Go.RowKit
set_option linter.unusedVariables false
set_option linter.unusedSimpArgs false

set_option maxRecDepth 100000 in
set_option maxHeartbeats 1600000 in
theorem clone_any (v : Value) (l : List De) (w : World) (hl : l.length ≤ 100000) (hr : DepAt w v l) :
    Calls Try.prog 31 #[v] w fun e w' => ∃ v', e = .returned v' ∧ OwnD w' w.heap.size v' l ∧ Below w.heap.size w w' := by
  have hq : ∀ (w : World) (a : Option Addr) (n c n' c' : Nat), (binOp .eql 22 (.slice a n c) (.slice none n' c')).run Try.prog w = .ok (.bool a.isNone) w := fun w a n c n' c' => Lib.run_eql_slice_nil w _ _ a n c n' c' Try.underlying22
  have HV := Lib.hid hr
  obtain ⟨a, cap, rfl, hcap, hmx, hnil, hr⟩ := hr
  cases a with
  | none =>
    have h0 := hnil rfl
    obtain rfl : l = [] := List.length_eq_zero_iff.1 (by omega)
    clear hr hnil
    go_enter Try.func31, Try.ntmps31
    go_wp2
    go_ret
    exact ⟨_, rfl, OwnD.nil _ _, Below.refl _ _⟩
  | some a =>
    have ho : OwnD (w.alloc (.cells #[] 26)) w.heap.size (.slice (some ⟨w.heap.size, 0, none⟩) 0 0) [] := World.ownsRow_made w #[] 0 (Nat.le_refl _) (Nat.zero_le _) (by simp)
    have HO := Lib.hid ho
    have HA := Lib.hid (HV.out.alloc (.cells #[] 26))
    clear hr ho hnil
    go_enter Try.func31, Try.ntmps31
    go_wp2_with (at_builtin; refine wp_appD rfl _ _ rfl w.heap.size (.slice (some ⟨w.heap.size, 0, none⟩) 0 0) (.slice (some a) l.length cap) [] l rfl HO.out rfl HA.out (by simp; omega) (by simp) ?_; intro v' w1 ho1 hb1 hk1 hn1; obtain ⟨sa, sc, rfl⟩ := ho1.shape)
    go_ret
    exact ⟨_, rfl, by simpa using ho1, (balloc (Below.refl _ w) _).trans hb1⟩

/-- A row of slices in memory. -/
def RowsIn (w : World) (a : Option Addr) (vs : List Value) : Prop := ∀ i (h : i < vs.length), ∃ b off, a = some ⟨b, off, none⟩ ∧ b < w.heap.size ∧ w.cell? ⟨b, off + i, none⟩ = some vs[i]
theorem RowsIn.below {w w' : World} {a : Option Addr} {vs : List Value} (h : RowsIn w a vs) (hb : Below w.heap.size w w') : RowsIn w' a vs := by
  intro i hi
  obtain ⟨b, off, rfl, hlt, h0⟩ := h i hi
  exact ⟨b, off, rfl, by have := hb.size; omega, kcell hb hlt h0⟩
/-- They read as these pasts. -/
def RowsAt (w : World) (a : Option Addr) (ls : List (List De)) : Prop := ∃ vs : List Value, vs.length = ls.length ∧ RowsIn w a vs ∧ ∀ i (h : i < vs.length) (h' : i < ls.length), DepAt w vs[i] ls[i]
theorem RowsAt.below {w w' : World} {a : Option Addr} {ls : List (List De)} (h : RowsAt w a ls) (hb : Below w.heap.size w w') : RowsAt w' a ls := by
  obtain ⟨vs, h1, h2, h3⟩ := h
  exact ⟨vs, h1, h2.below hb, fun i hi hi' => (h3 i hi hi').below hb⟩
theorem RowsAt.get {w : World} {a : Option Addr} {ls : List (List De)} (h : RowsAt w a ls) (i : Nat) (hi : i < ls.length) : ∃ b off u, a = some ⟨b, off, none⟩ ∧ b < w.heap.size ∧ w.cell? ⟨b, off + i, none⟩ = some u ∧ DepAt w u ls[i] := by
  obtain ⟨vs, h1, h2, h3⟩ := h
  obtain ⟨b, off, e, hlt, hc⟩ := h2 i (by omega)
  exact ⟨b, off, vs[i]'(by omega), e, hlt, hc, h3 i (by omega) hi⟩
def tot (ls : List (List De)) : Nat := (ls.map List.length).sum
theorem tot_take (ls : List (List De)) (k : Nat) (h : k < ls.length) : tot (ls.take (k + 1)) = tot (ls.take k) + ls[k].length := by
  unfold tot
  rw [List.take_succ_eq_append_getElem h, List.map_append, List.sum_append, List.map_singleton, List.sum_singleton]
theorem tot_flat (ls : List (List De)) : ls.flatten.length = tot ls := by simp [tot, List.length_flatten]
theorem flat_take (ls : List (List De)) (k : Nat) (h : k < ls.length) : (ls.take (k + 1)).flatten = (ls.take k).flatten ++ ls[k] := by
  rw [List.take_succ_eq_append_getElem h, List.flatten_append]
  simp only [List.flatten_cons, List.flatten_nil, List.append_nil]
theorem tot_mono (ls : List (List De)) (k : Nat) : tot (ls.take k) ≤ tot ls := by
  unfold tot
  have h : (ls.map List.length).sum = ((ls.take k).map List.length).sum + ((ls.drop k).map List.length).sum := by
    rw [← List.sum_append, ← List.map_append, List.take_append_drop]
  omega

/-- slices.Grow of nil. -/
theorem grow_any (n : Nat) (w : World) (hn : n ≤ 1000000) :
    Calls Try.prog 72 #[.slice none 0 0, .int .i64 n] w fun e w' => ∃ v', e = .returned v' ∧ OwnD w' w.heap.size v' [] ∧ Below w.heap.size w w' := by
  obtain ⟨i0, hi, hz0, hz1, hz2⟩ := info_parts info_de
  by_cases h0 : n = 0
  · subst h0
    have h := Any8.slices_Grow_room Try.growD none 0 0 0 w (by omega) (by omega) (by omega) (by omega)
    exact h.mono fun e w' ⟨he, hw⟩ => ⟨_, he, OwnD.nil _ _, by rw [hw]; exact Below.refl _ _⟩
  · have h := Any8.slices_Grow_grow Try.growD i0 _ hi hz0 (by rw [hz1]; omega) none 0 0 n [] w (by omega) (by omega) (by rw [hz2]; omega) (by omega) (by simp) (by simp) (by simp)
    refine h.mono fun e w' ⟨he, hw⟩ => ⟨_, he, ?_, ?_⟩
    · rw [hw]
      have hcap := grownCap_le_maxLen w (0 + n) 0 26 (by unfold maxLen; omega)
      have hge := grownCap_ge w (0 + n) 0 26
      refine ⟨rfl, .inr ⟨_, _, _, rfl, Nat.le_refl _, heap_alloc_new _ _, by simp, hcap, ?_, by simp [dV]⟩⟩
      simp only [Builtin.zeroCells, Value.cells, Array.size_append, Array.size_map, Array.size_range, List.size_toArray, List.length_nil, List.length_cons]
      have e : Go.Shelf.Ren.t Try.growD_ren 25 = 26 := rfl
      rw [e]
      omega
    · rw [hw]
      exact ((Below.refl _ w).drew).alloc (Nat.le_refl _) _

set_option maxRecDepth 100000 in
set_option maxHeartbeats 1600000 in
theorem concat_any (a : Option Addr) (cap : Nat) (ls : List (List De)) (w : World) (hn : ls.length ≤ 1000) (ht : tot ls ≤ 1000000) (hr : RowsAt w a ls) :
    Calls Try.prog 36 #[.slice a ls.length cap] w fun e w' => ∃ v', e = .returned v' ∧ OwnD w' w.heap.size v' ls.flatten ∧ Below w.heap.size w w' := by
  have HR := Lib.hid hr
  clear hr
  go_enter Try.func36, Try.ntmps36
  go_wp2
  go_loopw [3, 11] (fun s3 i wr => ∃ k : Nat, k ≤ ls.length ∧ i = .int .i64 k ∧ s3 = .int .i64 (tot (ls.take k)) ∧ w = wr) (fun _ i _ => ls.length - (intOf i).toNat)
  case atStart => exact ⟨0, by omega, rfl, rfl, rfl⟩
  case round =>
    obtain ⟨k, hk, rfl, rfl, rfl⟩ := hrel
    by_cases hlt : k < ls.length
    · obtain ⟨b, off, u, rfl, hbl, hc, hd⟩ := HR.out.get k hlt
      have HT := Lib.hid (tot_take ls k hlt)
      have hm1 := tot_mono ls (k + 1)
      rw [HT.out] at hm1
      generalize ls[k] = m at hd HT hm1
      obtain ⟨ma, mc, rfl, _, _, _, _⟩ := hd
      generalize htk : tot (ls.take k) = q at HT hm1
      have HQ := Lib.hid htk
      clear htk
      have hw : IntKind.i64.wrap ((q : Int) + (m.length : Int)) = (q : Int) + (m.length : Int) := IntWalk.i64_in _ (by omega)
      have hw3 : ¬ (q : Int) + (m.length : Int) < 0 := by omega
      go_wp2
      go_roundw
      case rel => exact ⟨k + 1, by omega, by go_num, by rw [HT.out]; simp, (by first | rfl | trivial)⟩
      case measure => simp [intOf]; omega
    · obtain rfl : k = ls.length := by omega
      rw [List.take_length]
      go_wp2_with fail
      refine (grow_any (tot ls) _ ht).mono ?_
      rintro e w1 ⟨v1, rfl, ho1, hb1⟩
      obtain ⟨sa, sc, rfl⟩ := ho1.shape
      have HO1 := Lib.hid ho1
      clear ho1
      go_wp2
      go_loopw [6, 27] (fun o i wr => ∃ k : Nat, k ≤ ls.length ∧ i = .int .i64 k ∧ OwnD wr w.heap.size o (ls.take k).flatten ∧ Below w.heap.size w wr) (fun _ i _ => ls.length - (intOf i).toNat)
      case atStart => exact ⟨0, by omega, rfl, HO1.out, hb1⟩
      case round =>
        obtain ⟨k, hk, rfl, ho, hbel⟩ := hrel
        obtain ⟨va, vc, rfl⟩ := ho.shape
        have HO := Lib.hid ho
        clear ho
        by_cases hlt : k < ls.length
        · obtain ⟨b, off, u, rfl, hbl, hc, hd⟩ := (HR.out.below hbel).get k hlt
          have HF := Lib.hid (flat_take ls k hlt)
          have hm1 := tot_mono ls (k + 1)
          rw [← tot_flat, HF.out, List.length_append] at hm1
          generalize ls[k] = m at hd HF hm1
          obtain ⟨ma, mc, rfl, _, _, _, _⟩ := id hd
          have HD := Lib.hid hd
          have hbs : w.heap.size ≤ wr.heap.size := hbel.size
          clear hd
          go_wp2_with (at_builtin; refine wp_appD rfl _ _ rfl w.heap.size (.slice va (ls.take k).flatten.length vc) (.slice ma m.length mc) (ls.take k).flatten m rfl HO.out rfl HD.out (by omega) hbs ?_; intro v' w2 ho2 hb2 hk2 hn2; obtain ⟨sa2, sc2, rfl⟩ := ho2.shape)
          go_roundw
          case rel => exact ⟨k + 1, by omega, by go_num, by rw [HF.out]; simpa using ho2, hbel.trans hb2⟩
          case measure => simp [intOf]; omega
        · obtain rfl : k = ls.length := by omega
          go_wp2
          go_ret
          exact ⟨.slice va (List.take ls.length ls).flatten.length vc, rfl, by have h := HO.out; rw [List.take_length] at h ⊢; exact h, hbel⟩
end Go.Proofs.Ytplpeokmhomojaa
/- What past.Merge and the document's Merge answer. -/
namespace Go.Proofs.Ytplpeokmhomojaa
open Go.RowKit
set_option linter.unusedVariables false
set_option linter.unusedSimpArgs false

set_option maxRecDepth 100000 in
theorem mergeC_any (x : ByteArray) (y z : Int) (w : World) (hs : x.size ≤ 9223372036854775807) :
    Calls Try.prog 41 #[.agg #[.string x, .int .i64 y, .int .i64 z]] w fun e w' => e = .returned (.bool (!okD (x, y, z))) ∧ Below w.heap.size w w' := by
  go_enter Try.func41, Try.ntmps41
  go_wp2_with fail
  refine (valid_any x y z _ hs).mono ?_
  rintro e w1 ⟨rfl, hb⟩
  generalize hc : okD (x, y, z) = c
  have HC := Lib.hid hc
  clear hc
  go_wp2
  go_ret
  exact ⟨ret_bool (by rw [HC.out]), bstep (balloc (Below.refl _ w) _) hb⟩

set_option maxRecDepth 100000 in
set_option maxHeartbeats 1600000 in
theorem merge_any (a : Option Addr) (cap : Nat) (ls : List (List De)) (w : World) (hn : ls.length ≤ 1000) (ht : tot ls ≤ 100000) (hz : ∀ l ∈ ls, Szd l) (hr : RowsAt w a ls) :
    Calls Try.prog 14 #[.slice a ls.length cap] w fun e w' => ∃ v', e = .returned v' ∧ ∃ r, IsMerge ls.flatten r ∧ OwnD w' w.heap.size v' r ∧ Below w.heap.size w w' := by
  have HF : Hid (ls.flatten.length ≤ 100000) := Lib.hid (by rw [tot_flat]; exact ht)
  have HZ : Hid (Szd ls.flatten) := Lib.hid (fun d hd => by
    rw [List.mem_flatten] at hd
    obtain ⟨l, h1, h2⟩ := hd
    exact hz l h1 d h2)
  have hcon := concat_any a cap ls w hn (by omega) hr
  clear hr hz
  generalize ls.flatten = f at hcon HF HZ ⊢
  go_enter Try.func14, Try.ntmps14
  go_wp2_with fail
  refine hcon.mono ?_
  rintro e w1 ⟨v1, rfl, ho1, hb1⟩
  have hs1 : w.heap.size ≤ w1.heap.size := hb1.size
  have hdel := delFunc_any 41 #[] (enters_of Try.func41 (by kernel_rfl) rfl) (fun d => !okD d) v1 w.heap.size f w1 (by have := HF.out; omega) ho1 hs1 (fun W d hd _ => mergeC_any d.1 d.2.1 d.2.2 W (HZ.out d hd))
  obtain ⟨sa, sc, rfl⟩ := ho1.shape
  clear ho1
  go_wp2_with fail
  refine hdel.mono ?_
  rintro e w2 ⟨v2, rfl, ho2, hb2⟩
  have HL2 : Hid ((kept (fun d => !okD d) f).length ≤ 100000) := Lib.hid (Nat.le_trans (List.length_filter_le _ _) HF.out)
  generalize hk : kept (fun d => !okD d) f = l2 at ho2 HL2
  have HK := Lib.hid hk
  clear hk
  have hsort := sort_any v2 w.heap.size l2 w2 (by have := HL2.out; omega) ho2
  obtain ⟨sa2, sc2, rfl⟩ := ho2.shape
  clear ho2
  go_wp2_with fail
  refine hsort.mono ?_
  rintro e w3 ⟨rfl, l3, hperm, hlen, hsd, ho3, hb3⟩
  have hs3 : w.heap.size ≤ w3.heap.size := by have := hb2.size; have := hb3.size; omega
  have hcmp := compact_any _ w.heap.size l3 w3 (by have := HL2.out; omega) ho3 hs3
  have HM := Lib.hid (merge_of_sort (f := f) (by rw [HK.out]; exact hperm) hsd)
  clear ho3 hperm hsd
  go_wp2_with fail
  refine hcmp.mono ?_
  rintro e w4 ⟨v4, rfl, ho4, hb4⟩
  obtain ⟨sa4, sc4, rfl⟩ := ho4.shape
  have HO4 := Lib.hid ho4
  clear ho4
  go_wp2
  go_ret
  exact ⟨_, rfl, _, HM.out, HO4.out, hb1.trans (hb2.trans (hb3.trans hb4))⟩
end Go.Proofs.Ytplpeokmhomojaa
