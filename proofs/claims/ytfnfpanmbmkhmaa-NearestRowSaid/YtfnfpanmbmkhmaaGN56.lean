/- Texts of this proof, one behind the other: PastMath, PastConc, PastRefMerge, PastGet, PastAddMath, PastLawMath. -/
import Derived.Test.YtfnfpanmbmkhmaaGN55
/- Pasts put together: plain mathematics. -/
namespace Go.Proofs.Ytfnfpanmbmkhmaa
open Go.RowKit
set_option linter.unusedVariables false
set_option linter.unusedSimpArgs false

/-- r is what the dependencies f make, put together: of each key the greatest that may be. -/
structure IsMerge (f r : List De) : Prop where
  srt : Srt r
  mem : ∀ m, m ∈ r ↔ (m ∈ f ∧ okD m = true ∧ ∀ e ∈ f, okD e = true → e.1 = m.1 → Sm.less m.2 e.2 = false)
  rep : ∀ e ∈ f, okD e = true → ∃ x ∈ r, x.1 = e.1

theorem srt_key {l : List De} (h : Srt l) {x y : De} (hx : x ∈ l) (hy : y ∈ l) (e : x.1 = y.1) : x = y := by
  obtain ⟨i, hi, rfl⟩ := List.getElem_of_mem hx
  obtain ⟨j, hj, rfl⟩ := List.getElem_of_mem hy
  rcases Nat.lt_trichotomy i j with c | c | c
  · have := (List.pairwise_iff_getElem.1 h.2) i j hi hj c
    exact absurd e (klt_ne this)
  · subst c; rfl
  · have := (List.pairwise_iff_getElem.1 h.2) j i hj hi c
    exact absurd e.symm (klt_ne this)
/-- Rows that rise and have the same members are one. -/
theorem srt_ext : ∀ {l m : List De}, Srt l → Srt m → (∀ d, d ∈ l ↔ d ∈ m) → l = m
  | [], [], _, _, _ => rfl
  | [], y :: m, _, _, h => absurd ((h y).2 (by simp)) (by simp)
  | x :: l, [], _, _, h => absurd ((h x).1 (by simp)) (by simp)
  | x :: l, y :: m, hl, hm, h => by
    have a := List.pairwise_cons.1 hl.2
    have b := List.pairwise_cons.1 hm.2
    have e : x = y := by
      have hx := (h x).1 (by simp)
      have hy := (h y).2 (by simp)
      rcases List.mem_cons.1 hx with e | hx
      · exact e
      · rcases List.mem_cons.1 hy with e | hy
        · exact e.symm
        · have h1 := b.1 x hx
          have h2 := a.1 y hy
          have := klt_trans h1 h2
          rw [klt_irrefl] at this
          cases this
    subst e
    rw [srt_ext hl.tail hm.tail ?_]
    intro d
    constructor
    · intro hd
      rcases List.mem_cons.1 ((h d).1 (List.mem_cons_of_mem _ hd)) with e | h'
      · subst e
        have := a.1 d hd
        rw [klt_irrefl] at this
        cases this
      · exact h'
    · intro hd
      rcases List.mem_cons.1 ((h d).2 (List.mem_cons_of_mem _ hd)) with e | h'
      · subst e
        have := b.1 d hd
        rw [klt_irrefl] at this
        cases this
      · exact h'
theorem IsMerge.uniq {f f' r r' : List De} (h : IsMerge f r) (h' : IsMerge f' r') (hf : ∀ d, d ∈ f ↔ d ∈ f') : r = r' := by
  refine srt_ext h.srt h'.srt (fun d => ?_)
  rw [h.mem, h'.mem, hf]
  constructor
  · rintro ⟨a, b, c⟩
    exact ⟨a, b, fun e he => c e ((hf e).2 he)⟩
  · rintro ⟨a, b, c⟩
    exact ⟨a, b, fun e he => c e ((hf e).1 he)⟩
/-- A past is what it makes. -/
theorem IsMerge.self {r : List De} (h : Srt r) : IsMerge r r := by
  refine ⟨h, fun m => ⟨fun hm => ⟨hm, h.1 m hm, fun e he _ hk => ?_⟩, fun hm => hm.1⟩, fun e he _ => ⟨e, he, rfl⟩⟩
  rw [srt_key h he hm hk]
  exact Sm.less_self _

/-! The program's way: sorted, and of neighbours of one key the first. -/
theorem cmpGo_facts : ∀ (r : List De) (prev : De), SortedD (prev :: r) →
    (∀ d ∈ cmpGo prev r, d ∈ r ∧ klt prev.1 d.1 = true) ∧ (cmpGo prev r).Pairwise (fun x y => klt x.1 y.1 = true) ∧ (∀ d ∈ cmpGo prev r, ∀ e ∈ r, e.1 = d.1 → Sm.less d.2 e.2 = false) ∧ (∀ e ∈ r, ∃ d ∈ prev :: cmpGo prev r, d.1 = e.1)
  | [], prev, _ => ⟨by simp [cmpGo], by simp [cmpGo], by simp [cmpGo], by simp⟩
  | x :: r, prev, hs => by
    have hs1 := List.pairwise_cons.1 hs
    have hs2 := List.pairwise_cons.1 hs1.2
    obtain ⟨ia, ib, ic, id⟩ := cmpGo_facts r x hs1.2
    have hx := hs1.1 x (by simp)
    by_cases hk : x.1 = prev.1
    · rw [cmpGo, if_pos hk]
      refine ⟨fun d hd => ⟨List.mem_cons_of_mem _ (ia d hd).1, by rw [← hk]; exact (ia d hd).2⟩, ib, ?_, ?_⟩
      · intro d hd e he hek
        rcases List.mem_cons.1 he with rfl | he
        · exact absurd hek (klt_ne (ia d hd).2)
        · exact ic d hd e he hek
      · intro e he
        rcases List.mem_cons.1 he with rfl | he
        · exact ⟨prev, by simp, hk.symm⟩
        · obtain ⟨d, hd, hde⟩ := id e he
          rcases List.mem_cons.1 hd with rfl | hd
          · exact ⟨prev, by simp, hk.symm.trans hde⟩
          · exact ⟨d, List.mem_cons_of_mem _ hd, hde⟩
    · rw [cmpGo, if_neg hk]
      have hpx : klt prev.1 x.1 = true := by
        unfold ltD at hx
        rw [if_neg hk] at hx
        cases h : klt prev.1 x.1 with
        | true => rfl
        | false => exact absurd (klt_tri hx h) hk
      refine ⟨?_, List.pairwise_cons.2 ⟨fun d hd => (ia d hd).2, ib⟩, ?_, ?_⟩
      · intro d hd
        rcases List.mem_cons.1 hd with rfl | hd
        · exact ⟨by simp, hpx⟩
        · exact ⟨List.mem_cons_of_mem _ (ia d hd).1, klt_trans hpx (ia d hd).2⟩
      · intro d hd e he hek
        rcases List.mem_cons.1 hd with rfl | hd
        · rcases List.mem_cons.1 he with rfl | he
          · exact Sm.less_self _
          · have h3 := hs2.1 e he
            unfold ltD at h3
            rw [if_pos hek] at h3
            exact h3
        · rcases List.mem_cons.1 he with rfl | he
          · exact absurd hek (klt_ne (ia d hd).2)
          · exact ic d hd e he hek
      · intro e he
        rcases List.mem_cons.1 he with rfl | he
        · exact ⟨e, by simp, rfl⟩
        · obtain ⟨d, hd, hde⟩ := id e he
          exact ⟨d, List.mem_cons_of_mem _ hd, hde⟩
theorem cmpK_facts (l : List De) (hs : SortedD l) :
    (∀ d ∈ cmpK l, d ∈ l) ∧ (cmpK l).Pairwise (fun x y => klt x.1 y.1 = true) ∧ (∀ d ∈ cmpK l, ∀ e ∈ l, e.1 = d.1 → Sm.less d.2 e.2 = false) ∧ (∀ e ∈ l, ∃ d ∈ cmpK l, d.1 = e.1) := by
  cases l with
  | nil => exact ⟨by simp [cmpK], by simp [cmpK], by simp [cmpK], by simp⟩
  | cons p r =>
    obtain ⟨ia, ib, ic, id⟩ := cmpGo_facts r p hs
    have hs1 := List.pairwise_cons.1 hs
    rw [cmpK]
    refine ⟨?_, List.pairwise_cons.2 ⟨fun d hd => (ia d hd).2, ib⟩, ?_, ?_⟩
    · intro d hd
      rcases List.mem_cons.1 hd with rfl | hd
      · simp
      · exact List.mem_cons_of_mem _ (ia d hd).1
    · intro d hd e he hek
      rcases List.mem_cons.1 hd with rfl | hd
      · rcases List.mem_cons.1 he with rfl | he
        · exact Sm.less_self _
        · have h3 := hs1.1 e he
          unfold ltD at h3
          rw [if_pos hek] at h3
          exact h3
      · rcases List.mem_cons.1 he with rfl | he
        · exact absurd hek (klt_ne (ia d hd).2)
        · exact ic d hd e he hek
    · intro e he
      rcases List.mem_cons.1 he with rfl | he
      · exact ⟨e, by simp, rfl⟩
      · exact id e he
theorem merge_of_sort {f l : List De} (hp : l.Perm (kept (fun d => !okD d) f)) (hs : SortedD l) : IsMerge f (cmpK l) := by
  obtain ⟨ha, hb, hc, hd⟩ := cmpK_facts l hs
  have hm : ∀ d, d ∈ l ↔ (d ∈ f ∧ okD d = true) := by
    intro d
    rw [hp.mem_iff]
    simp [kept]
  refine ⟨⟨fun d h => ((hm d).1 (ha d h)).2, hb⟩, fun m => ?_, fun e he ho => hd e ((hm e).2 ⟨he, ho⟩)⟩
  constructor
  · intro h
    have h1 := (hm m).1 (ha m h)
    exact ⟨h1.1, h1.2, fun e he ho hk => hc m h e ((hm e).2 ⟨he, ho⟩) hk⟩
  · rintro ⟨h1, h2, h3⟩
    have hml := (hm m).2 ⟨h1, h2⟩
    obtain ⟨d, hdm, hdk⟩ := hd m hml
    have h4 := hc d hdm m hml hdk.symm
    have hd2 := (hm d).1 (ha d hdm)
    have h5 := h3 d hd2.1 hd2.2 hdk
    have h6 : d.2 = m.2 := (Sm.le_antisymm h5 h4)
    have : d = m := Prod.ext hdk h6
    rw [← this]
    exact hdm

/-! The document's way: one by one. -/
theorem addGo_true {d : De} : ∀ {r : List De}, (∀ y ∈ r, y.1 ≠ d.1) → addGo d true r = r
  | [], _ => rfl
  | x :: r, h => by
    rw [addGo_put (h x (by simp)), addGo_true (fun y hy => h y (List.mem_cons_of_mem _ hy))]
theorem addGo_spec {d : De} (hd : okD d = true) : ∀ {r : List De}, Srt r → Srt (addGo d false r) ∧ (∀ k, klt k d.1 = true → (∀ y ∈ r, klt k y.1 = true) → ∀ y ∈ addGo d false r, klt k y.1 = true) ∧
    ∀ m, m ∈ addGo d false r ↔ ((m ∈ r ∧ m.1 ≠ d.1) ∨ (m.1 = d.1 ∧ ((m = d ∧ ∀ x ∈ r, x.1 = d.1 → Sm.less x.2 d.2 = true) ∨ (m ∈ r ∧ Sm.less m.2 d.2 = false))))
  | [], _ => by
    refine ⟨⟨by simpa [addGo] using hd, by simp [addGo]⟩, by simp [addGo], fun m => ?_⟩
    simp [addGo]
    intro h
    rw [h]
  | x :: r, hs => by
    have ha := List.pairwise_cons.1 hs.2
    have ih := addGo_spec hd hs.tail
    by_cases hk : x.1 = d.1
    · have hne : ∀ y ∈ r, y.1 ≠ d.1 := fun y hy e => klt_ne (ha.1 y hy) (hk.trans e.symm)
      cases hl : Sm.less x.2 d.2 with
      | true =>
        rw [addGo_eq hk hl, addGo_true hne]
        refine ⟨⟨?_, List.pairwise_cons.2 ⟨fun y hy => by rw [← hk]; exact ha.1 y hy, ha.2⟩⟩, ?_, fun m => ?_⟩
        · intro e he
          rcases List.mem_cons.1 he with rfl | he
          · exact hd
          · exact hs.1 e (List.mem_cons_of_mem _ he)
        · intro k h1 h2 y hy
          rcases List.mem_cons.1 hy with rfl | hy
          · exact h1
          · exact h2 y (List.mem_cons_of_mem _ hy)
        · constructor
          · intro h
            rcases List.mem_cons.1 h with rfl | h
            · refine .inr ⟨rfl, .inl ⟨rfl, fun z hz hzk => ?_⟩⟩
              rcases List.mem_cons.1 hz with rfl | hz
              · exact hl
              · exact absurd hzk (hne z hz)
            · exact .inl ⟨List.mem_cons_of_mem _ h, hne m h⟩
          · rintro (⟨h1, h2⟩ | ⟨h1, ⟨rfl, _⟩ | ⟨h2, h3⟩⟩)
            · rcases List.mem_cons.1 h1 with rfl | h1
              · exact absurd hk h2
              · exact List.mem_cons_of_mem _ h1
            · simp
            · rcases List.mem_cons.1 h2 with rfl | h2
              · rw [hl] at h3; cases h3
              · exact absurd h1 (hne m h2)
      | false =>
        rw [addGo_eq' hk hl, addGo_true hne]
        refine ⟨hs, fun k _ h2 => h2, fun m => ?_⟩
        constructor
        · intro h
          rcases List.mem_cons.1 h with rfl | h
          · exact .inr ⟨hk, .inr ⟨by simp, hl⟩⟩
          · exact .inl ⟨List.mem_cons_of_mem _ h, hne m h⟩
        · rintro (⟨h1, _⟩ | ⟨h1, ⟨rfl, h2⟩ | ⟨h2, _⟩⟩)
          · exact h1
          · have := h2 x (by simp) hk
            rw [hl] at this; cases this
          · exact h2
    · cases hg : klt d.1 x.1 with
      | true =>
        have hne : ∀ y ∈ r, y.1 ≠ d.1 := fun y hy e => by
          have := klt_trans hg (ha.1 y hy)
          exact klt_ne this e.symm
        rw [addGo_gt hk hg, addGo_true hne]
        have hall : ∀ y ∈ x :: r, klt d.1 y.1 = true := by
          intro y hy
          rcases List.mem_cons.1 hy with rfl | hy
          · exact hg
          · exact klt_trans hg (ha.1 y hy)
        refine ⟨⟨?_, List.pairwise_cons.2 ⟨hall, hs.2⟩⟩, ?_, fun m => ?_⟩
        · intro e he
          rcases List.mem_cons.1 he with rfl | he
          · exact hd
          · exact hs.1 e he
        · intro k h1 h2 y hy
          rcases List.mem_cons.1 hy with rfl | hy
          · exact h1
          · exact h2 y hy
        · constructor
          · intro h
            rcases List.mem_cons.1 h with rfl | h
            · exact .inr ⟨rfl, .inl ⟨rfl, fun z hz hzk => absurd hzk.symm (klt_ne (hall z hz))⟩⟩
            · exact .inl ⟨h, fun e => klt_ne (hall m h) e.symm⟩
          · rintro (⟨h1, _⟩ | ⟨h1, ⟨rfl, _⟩ | ⟨h2, _⟩⟩)
            · exact List.mem_cons_of_mem _ h1
            · simp
            · exact List.mem_cons_of_mem _ h2
      | false =>
        have hxd : klt x.1 d.1 = true := by
          cases h : klt x.1 d.1 with
          | true => rfl
          | false => exact absurd (klt_tri h hg) hk
        rw [addGo_le hk hg]
        obtain ⟨i1, i2, i3⟩ := ih
        refine ⟨⟨?_, List.pairwise_cons.2 ⟨i2 x.1 hxd ha.1, i1.2⟩⟩, ?_, fun m => ?_⟩
        · intro e he
          rcases List.mem_cons.1 he with rfl | he
          · exact hs.1 e (by simp)
          · exact i1.1 e he
        · intro k h1 h2 y hy
          rcases List.mem_cons.1 hy with rfl | hy
          · exact h2 y (by simp)
          · exact i2 k h1 (fun z hz => h2 z (List.mem_cons_of_mem _ hz)) y hy
        · rw [List.mem_cons, i3]
          constructor
          · rintro (rfl | ⟨h1, h2⟩ | ⟨h1, ⟨h2, h3⟩ | ⟨h2, h3⟩⟩)
            · exact .inl ⟨by simp, hk⟩
            · exact .inl ⟨List.mem_cons_of_mem _ h1, h2⟩
            · refine .inr ⟨h1, .inl ⟨h2, fun z hz hzk => ?_⟩⟩
              rcases List.mem_cons.1 hz with rfl | hz
              · exact absurd hzk hk
              · exact h3 z hz hzk
            · exact .inr ⟨h1, .inr ⟨List.mem_cons_of_mem _ h2, h3⟩⟩
          · rintro (⟨h1, h2⟩ | ⟨h1, ⟨h2, h3⟩ | ⟨h2, h3⟩⟩)
            · rcases List.mem_cons.1 h1 with rfl | h1
              · exact .inl rfl
              · exact .inr (.inl ⟨h1, h2⟩)
            · exact .inr (.inr ⟨h1, .inl ⟨h2, fun z hz hzk => h3 z (List.mem_cons_of_mem _ hz) hzk⟩⟩)
            · rcases List.mem_cons.1 h2 with rfl | h2
              · exact absurd h1 hk
              · exact .inr (.inr ⟨h1, .inr ⟨h2, h3⟩⟩)
theorem addR_srt {r : List De} (h : Srt r) (d : De) : Srt (addR r d) := by
  unfold addR
  split
  · rename_i hd
    exact (addGo_spec hd h).1
  · exact h
theorem IsMerge.add {f r : List De} (h : IsMerge f r) (d : De) : IsMerge (f ++ [d]) (addR r d) := by
  by_cases hd : okD d = true
  · rw [addR, if_pos hd]
    obtain ⟨s1, _, s3⟩ := addGo_spec hd h.srt
    refine ⟨s1, fun m => ?_, fun e he ho => ?_⟩
    · rw [s3]
      constructor
      · rintro (⟨h1, h2⟩ | ⟨h1, ⟨rfl, h3⟩ | ⟨h2, h3⟩⟩)
        · obtain ⟨a, b, c⟩ := (h.mem m).1 h1
          refine ⟨by simp [a], b, fun e he ho hk => ?_⟩
          rcases List.mem_append.1 he with he | he
          · exact c e he ho hk
          · simp at he
            subst he
            exact absurd hk.symm h2
        · refine ⟨by simp, hd, fun e he ho hk => ?_⟩
          rcases List.mem_append.1 he with he | he
          · obtain ⟨x, hx, hxk⟩ := h.rep e he ho
            have h4 := h3 x hx (hxk.trans hk)
            have h5 := ((h.mem x).1 hx).2.2 e he ho hxk.symm
            cases h6 : Sm.less m.2 e.2 with
            | false => rfl
            | true =>
              rw [Sm.less_trans h4 h6] at h5
              cases h5
          · simp at he
            subst he
            exact Sm.less_self _
        · obtain ⟨a, b, c⟩ := (h.mem m).1 h2
          refine ⟨by simp [a], b, fun e he ho hk => ?_⟩
          rcases List.mem_append.1 he with he | he
          · exact c e he ho hk
          · simp at he
            subst he
            exact h3
      · rintro ⟨a, b, c⟩
        by_cases hk : m.1 = d.1
        · by_cases hmr : m ∈ r
          · exact .inr ⟨hk, .inr ⟨hmr, c d (by simp) hd hk.symm⟩⟩
          · have hmd : m = d := by
              rcases List.mem_append.1 a with a | a
              · exact absurd ((h.mem m).2 ⟨a, b, fun e he => c e (by simp [he])⟩) hmr
              · simpa using a
            subst hmd
            refine .inr ⟨rfl, .inl ⟨rfl, fun x hx hxk => ?_⟩⟩
            have h1 := (h.mem x).1 hx
            have h2 := c x (by simp [h1.1]) h1.2.1 hxk
            cases h3 : Sm.less x.2 m.2 with
            | true => rfl
            | false =>
              have : x.2 = m.2 := Sm.le_antisymm h2 h3
              exact absurd hx (by rw [show x = m from Prod.ext hxk this]; exact hmr)
        · refine .inl ⟨(h.mem m).2 ⟨?_, b, fun e he => c e (by simp [he])⟩, hk⟩
          rcases List.mem_append.1 a with a | a
          · exact a
          · simp at a
            subst a
            exact absurd rfl hk
    · rcases List.mem_append.1 he with he | he
      · obtain ⟨x, hx, hxk⟩ := h.rep e he ho
        by_cases hk : x.1 = d.1
        · cases hl : Sm.less x.2 d.2 with
          | true => exact ⟨d, (s3 d).2 (.inr ⟨rfl, .inl ⟨rfl, fun y hy hyk => by rw [srt_key h.srt hy hx (hyk.trans hk.symm)]; exact hl⟩⟩), hk.symm.trans hxk⟩
          | false => exact ⟨x, (s3 x).2 (.inr ⟨hk, .inr ⟨hx, hl⟩⟩), hxk⟩
        · exact ⟨x, (s3 x).2 (.inl ⟨hx, hk⟩), hxk⟩
      · simp at he
        subst he
        by_cases hx : ∃ x ∈ r, x.1 = e.1 ∧ Sm.less x.2 e.2 = false
        · obtain ⟨x, hx, hxk, hl⟩ := hx
          exact ⟨x, (s3 x).2 (.inr ⟨hxk, .inr ⟨hx, hl⟩⟩), hxk⟩
        · refine ⟨e, (s3 e).2 (.inr ⟨rfl, .inl ⟨rfl, fun x h1 h2 => ?_⟩⟩), rfl⟩
          cases hl : Sm.less x.2 e.2 with
          | true => rfl
          | false => exact absurd ⟨x, h1, h2, hl⟩ hx
  · rw [addR, if_neg hd]
    refine ⟨h.srt, fun m => ?_, fun e he ho => ?_⟩
    · rw [h.mem]
      constructor
      · rintro ⟨a, b, c⟩
        refine ⟨by simp [a], b, fun e he ho hk => ?_⟩
        rcases List.mem_append.1 he with he | he
        · exact c e he ho hk
        · simp at he
          subst he
          exact absurd ho hd
      · rintro ⟨a, b, c⟩
        refine ⟨?_, b, fun e he => c e (by simp [he])⟩
        rcases List.mem_append.1 a with a | a
        · exact a
        · simp at a
          subst a
          exact absurd b hd
    · rcases List.mem_append.1 he with he | he
      · exact h.rep e he ho
      · simp at he
        subst he
        exact absurd ho hd
theorem IsMerge.nil : IsMerge [] [] := ⟨Srt.nil, by simp, by simp⟩
/-- One by one. -/
def addAll (r : List De) (l : List De) : List De := l.foldl addR r
theorem IsMerge.all {f r : List De} (h : IsMerge f r) (l : List De) : IsMerge (f ++ l) (addAll r l) := by
  induction l generalizing f r with
  | nil => simpa [addAll] using h
  | cons d l ih =>
    have := ih (h.add d)
    rw [List.append_assoc] at this
    simpa [addAll] using this
end Go.Proofs.Ytfnfpanmbmkhmaa
/- What slices.Clone and slices.Concat answer of dependencies. -/
namespace Go.Proofs.Ytfnfpanmbmkhmaa
open Go.RowKit
set_option linter.unusedVariables false
set_option linter.unusedSimpArgs false

/-- A row of slices in memory. -/
def RowsIn (w : World) (a : Option Addr) (vs : List Value) : Prop := ∀ i (h : i < vs.length), ∃ b off, a = some ⟨b, off, none⟩ ∧ b < w.heap.size ∧ w.cell? ⟨b, off + i, none⟩ = some vs[i]
theorem RowsIn.below {w w' : World} {a : Option Addr} {vs : List Value} (h : RowsIn w a vs) (hb : Below w.heap.size w w') : RowsIn w' a vs := by
  intro i hi
  obtain ⟨b, off, rfl, hlt, h0⟩ := h i hi
  exact ⟨b, off, rfl, by have := hb.size; omega, kcell hb hlt h0⟩
/-- They read as these pasts. -/
def RowsAt (w : World) (a : Option Addr) (ls : List (List De)) : Prop := ∃ vs : List Value, vs.length = ls.length ∧ RowsIn w a vs ∧ ∀ i (h : i < vs.length) (h' : i < ls.length), DepAt w vs[i] ls[i]
theorem RowsAt.below {w w' : World} {a : Option Addr} {ls : List (List De)} (h : RowsAt w a ls) (hb : Below w.heap.size w w') : RowsAt w' a ls := by
  obtain ⟨vs, h1, h2, h3⟩ := h
  exact ⟨vs, h1, h2.below hb, fun i hi hi' => (h3 i hi hi').below hb⟩
theorem RowsAt.get {w : World} {a : Option Addr} {ls : List (List De)} (h : RowsAt w a ls) (i : Nat) (hi : i < ls.length) : ∃ b off u, a = some ⟨b, off, none⟩ ∧ b < w.heap.size ∧ w.cell? ⟨b, off + i, none⟩ = some u ∧ DepAt w u ls[i] := by
  obtain ⟨vs, h1, h2, h3⟩ := h
  obtain ⟨b, off, e, hlt, hc⟩ := h2 i (by omega)
  exact ⟨b, off, vs[i]'(by omega), e, hlt, hc, h3 i (by omega) hi⟩
def tot (ls : List (List De)) : Nat := (ls.map List.length).sum
theorem tot_take (ls : List (List De)) (k : Nat) (h : k < ls.length) : tot (ls.take (k + 1)) = tot (ls.take k) + ls[k].length := by
  unfold tot
  rw [List.take_succ_eq_append_getElem h, List.map_append, List.sum_append, List.map_singleton, List.sum_singleton]
theorem tot_flat (ls : List (List De)) : ls.flatten.length = tot ls := by simp [tot, List.length_flatten]
theorem flat_take (ls : List (List De)) (k : Nat) (h : k < ls.length) : (ls.take (k + 1)).flatten = (ls.take k).flatten ++ ls[k] := by
  rw [List.take_succ_eq_append_getElem h, List.flatten_append]
  simp only [List.flatten_cons, List.flatten_nil, List.append_nil]
theorem tot_mono (ls : List (List De)) (k : Nat) : tot (ls.take k) ≤ tot ls := by
  unfold tot
  have h : (ls.map List.length).sum = ((ls.take k).map List.length).sum + ((ls.drop k).map List.length).sum := by
    rw [← List.sum_append, ← List.map_append, List.take_append_drop]
  omega

/-- slices.Grow of nil. -/
theorem grow_any (n : Nat) (w : World) (hn : n ≤ 1000000) :
    Calls Try.prog 65 #[.slice none 0 0, .int .i64 n] w fun e w' => ∃ v', e = .returned v' ∧ OwnD w' w.heap.size v' [] ∧ Below w.heap.size w w' := by
  obtain ⟨i0, hi, hz0, hz1, hz2⟩ := info_parts info_de
  by_cases h0 : n = 0
  · subst h0
    have h := Any8.slices_Grow_room Try.growD none 0 0 0 w (by omega) (by omega) (by omega) (by omega)
    exact h.mono fun e w' ⟨he, hw⟩ => ⟨_, he, OwnD.nil _ _, by rw [hw]; exact Below.refl _ _⟩
  · have h := Any8.slices_Grow_grow Try.growD i0 _ hi hz0 (by rw [hz1]; omega) none 0 0 n [] w (by omega) (by omega) (by rw [hz2]; omega) (by omega) (by simp) (by simp) (by simp)
    refine h.mono fun e w' ⟨he, hw⟩ => ⟨_, he, ?_, ?_⟩
    · rw [hw]
      have hcap := grownCap_le_maxLen w (0 + n) 0 26 (by unfold maxLen; omega)
      have hge := grownCap_ge w (0 + n) 0 26
      refine ⟨rfl, .inr ⟨_, _, _, rfl, Nat.le_refl _, heap_alloc_new _ _, by simp, hcap, ?_, by simp [dV]⟩⟩
      simp only [Builtin.zeroCells, Value.cells, Array.size_append, Array.size_map, Array.size_range, List.size_toArray, List.length_nil, List.length_cons]
      have e : Go.Shelf.Ren.t Try.growD_ren 25 = 26 := rfl
      rw [e]
      omega
    · rw [hw]
      exact ((Below.refl _ w).drew).alloc (Nat.le_refl _) _

set_option maxRecDepth 100000 in
set_option maxHeartbeats 1600000 in
theorem concat_any (a : Option Addr) (cap : Nat) (ls : List (List De)) (w : World) (hn : ls.length ≤ 1000) (ht : tot ls ≤ 1000000) (hr : RowsAt w a ls) :
    Calls Try.prog 48 #[.slice a ls.length cap] w fun e w' => ∃ v', e = .returned v' ∧ OwnD w' w.heap.size v' ls.flatten ∧ Below w.heap.size w w' := by
  have HR := Lib.hid hr
  clear hr
  go_enter Try.func48, Try.ntmps48
  go_wp2
  go_loopw [3, 11] (fun s3 i wr => ∃ k : Nat, k ≤ ls.length ∧ i = .int .i64 k ∧ s3 = .int .i64 (tot (ls.take k)) ∧ w = wr) (fun _ i _ => ls.length - (intOf i).toNat)
  case atStart => exact ⟨0, by omega, rfl, rfl, rfl⟩
  case round =>
    obtain ⟨k, hk, rfl, rfl, rfl⟩ := hrel
    by_cases hlt : k < ls.length
    · obtain ⟨b, off, u, rfl, hbl, hc, hd⟩ := HR.out.get k hlt
      have HT := Lib.hid (tot_take ls k hlt)
      have hm1 := tot_mono ls (k + 1)
      rw [HT.out] at hm1
      generalize ls[k] = m at hd HT hm1
      obtain ⟨ma, mc, rfl, _, _, _, _⟩ := hd
      generalize htk : tot (ls.take k) = q at HT hm1
      have HQ := Lib.hid htk
      clear htk
      have hw : IntKind.i64.wrap ((q : Int) + (m.length : Int)) = (q : Int) + (m.length : Int) := IntWalk.i64_in _ (by omega)
      have hw3 : ¬ (q : Int) + (m.length : Int) < 0 := by omega
      go_wp2
      go_roundw
      case rel => exact ⟨k + 1, by omega, by go_num, by rw [HT.out]; simp, (by first | rfl | trivial)⟩
      case measure => simp [intOf]; omega
    · obtain rfl : k = ls.length := by omega
      rw [List.take_length]
      go_wp2_with fail
      refine (grow_any (tot ls) _ ht).mono ?_
      rintro e w1 ⟨v1, rfl, ho1, hb1⟩
      obtain ⟨sa, sc, rfl⟩ := ho1.shape
      have HO1 := Lib.hid ho1
      clear ho1
      go_wp2
      go_loopw [6, 27] (fun o i wr => ∃ k : Nat, k ≤ ls.length ∧ i = .int .i64 k ∧ OwnD wr w.heap.size o (ls.take k).flatten ∧ Below w.heap.size w wr) (fun _ i _ => ls.length - (intOf i).toNat)
      case atStart => exact ⟨0, by omega, rfl, HO1.out, hb1⟩
      case round =>
        obtain ⟨k, hk, rfl, ho, hbel⟩ := hrel
        obtain ⟨va, vc, rfl⟩ := ho.shape
        have HO := Lib.hid ho
        clear ho
        by_cases hlt : k < ls.length
        · obtain ⟨b, off, u, rfl, hbl, hc, hd⟩ := (HR.out.below hbel).get k hlt
          have HF := Lib.hid (flat_take ls k hlt)
          have hm1 := tot_mono ls (k + 1)
          rw [← tot_flat, HF.out, List.length_append] at hm1
          generalize ls[k] = m at hd HF hm1
          obtain ⟨ma, mc, rfl, _, _, _, _⟩ := id hd
          have HD := Lib.hid hd
          have hbs : w.heap.size ≤ wr.heap.size := hbel.size
          clear hd
          go_wp2_with (at_builtin; refine wp_appD rfl _ _ rfl w.heap.size (.slice va (ls.take k).flatten.length vc) (.slice ma m.length mc) (ls.take k).flatten m rfl HO.out rfl HD.out (by omega) hbs ?_; intro v' w2 ho2 hb2 hk2 hn2; obtain ⟨sa2, sc2, rfl⟩ := ho2.shape)
          go_roundw
          case rel => exact ⟨k + 1, by omega, by go_num, by rw [HF.out]; simpa using ho2, hbel.trans hb2⟩
          case measure => simp [intOf]; omega
        · obtain rfl : k = ls.length := by omega
          go_wp2
          go_ret
          exact ⟨.slice va (List.take ls.length ls).flatten.length vc, rfl, by have h := HO.out; rw [List.take_length] at h ⊢; exact h, hbel⟩
end Go.Proofs.Ytfnfpanmbmkhmaa
/- What the document's Merge, and the law's own 'made', answer. -/
namespace Go.Proofs.Ytfnfpanmbmkhmaa
open Go.RowKit
set_option linter.unusedVariables false
set_option linter.unusedSimpArgs false

theorem addAll_len (l : List De) : ∀ r, (addAll r l).length ≤ r.length + l.length := by
  induction l with
  | nil => intro r; simp [addAll]
  | cons d l ih =>
    intro r
    have h1 := ih (addR r d)
    have h2 := addR_len r d
    simp only [addAll, List.foldl_cons, List.length_cons] at *
    omega
theorem addAll_snoc (r l : List De) (d : De) : addAll r (l ++ [d]) = addR (addAll r l) d := by simp [addAll]
theorem addAll_take (r l : List De) (k : Nat) (h : k < l.length) : addAll r (l.take (k + 1)) = addR (addAll r (l.take k)) l[k] := by
  rw [List.take_succ_eq_append_getElem h, addAll_snoc]
/-- The document's Merge. -/
def mergeR (ls : List (List De)) : List De := ls.foldl addAll []
theorem mergeR_take (ls : List (List De)) (k : Nat) (h : k < ls.length) : mergeR (ls.take (k + 1)) = addAll (mergeR (ls.take k)) ls[k] := by
  unfold mergeR
  rw [List.take_succ_eq_append_getElem h, List.foldl_append]
  rfl
theorem mergeR_len (ls : List (List De)) (k : Nat) (h : k ≤ ls.length) : (mergeR (ls.take k)).length ≤ tot (ls.take k) := by
  induction k with
  | zero => simp [mergeR, tot]
  | succ k ih =>
    have h1 := ih (by omega)
    rw [mergeR_take ls k (by omega), tot_take ls k (by omega)]
    have h2 := addAll_len ls[k] (mergeR (ls.take k))
    omega
theorem mergeR_is : ∀ (ls : List (List De)) (f r : List De), IsMerge f r → IsMerge (f ++ ls.flatten) (ls.foldl addAll r)
  | [], f, r, h => by simpa using h
  | l :: ls, f, r, h => by
    have := mergeR_is ls _ _ (h.all l)
    simpa [List.append_assoc] using this
theorem mergeR_spec (ls : List (List De)) : IsMerge ls.flatten (mergeR ls) := by unfold mergeR; simpa using mergeR_is ls [] [] IsMerge.nil

set_option maxRecDepth 100000 in
set_option maxHeartbeats 3200000 in
theorem refMerge_new (a : Option Addr) (cap : Nat) (ls : List (List De)) (w : World) (hn : ls.length ≤ 1000) (ht : tot ls ≤ 10000) (hz : ∀ l ∈ ls, Szd l) (hr : RowsAt w a ls) :
    Calls Try.prog 27 #[.slice a ls.length cap] w fun e w' => ∃ v', e = .returned v' ∧ DepAt w' v' (mergeR ls) ∧ (∀ b, v'.ownBlock = some b → w.heap.size ≤ b) ∧ Below w.heap.size w w' := by
  have HR := Lib.hid hr
  have HZ := Lib.hid hz
  clear hr hz
  go_enter Try.func27, Try.ntmps27
  go_wp2
  go_loopw [3, 4] (fun o i wr => ∃ k : Nat, k ≤ ls.length ∧ i = .int .i64 k ∧ DepAt wr o (mergeR (ls.take k)) ∧ (∀ b, o.ownBlock = some b → w.heap.size ≤ b) ∧ Below w.heap.size w wr) (fun _ i _ => ls.length - (intOf i).toNat)
  case atStart => exact ⟨0, by omega, rfl, DepAt.nil w, by simp [Value.ownBlock], Below.refl _ _⟩
  case round =>
    obtain ⟨k, hk, rfl, hd, hnew, hbel⟩ := hrel
    obtain ⟨da, dc, rfl, _, _, _, _⟩ := id hd
    have HD := Lib.hid hd
    have HNW := Lib.hid hnew
    clear hd hnew
    by_cases hlt : k < ls.length
    · have hml := mergeR_len ls k hk
      have hm1 := tot_mono ls (k + 1)
      rw [tot_take ls k hlt] at hm1
      have HT := Lib.hid (mergeR_take ls k hlt)
      have HZK := Lib.hid (HZ.out ls[k] (List.getElem_mem hlt))
      obtain ⟨b, off, u, rfl, hbl, hc, hu⟩ := (HR.out.below hbel).get k hlt
      generalize ls[k] = m at hu HT HZK hm1
      generalize hq : mergeR (ls.take k) = q at HD HT hml HNW
      have HQ := Lib.hid hq
      clear hq
      obtain ⟨ma, mc, rfl, _, _, _, _⟩ := id hu
      have HU := Lib.hid hu
      clear hu
      go_wp2
      go_loopw [3, 5] (fun o i wr' => ∃ j : Nat, j ≤ m.length ∧ i = .int .i64 j ∧ DepAt wr' o (addAll q (m.take j)) ∧ (∀ b, o.ownBlock = some b → w.heap.size ≤ b) ∧ Below w.heap.size w wr' ∧ Below wr.heap.size wr wr') (fun _ i _ => m.length - (intOf i).toNat)
      case atStart => exact ⟨0, by omega, rfl, HD.out, HNW.out, hbel, Below.refl _ _⟩
      case round =>
        rename_i wr'
        obtain ⟨j, hj, rfl, hd, hnew', hbel', hbw⟩ := hrel
        obtain ⟨ea, ec, rfl, _, _, _, _⟩ := id hd
        have HD' := Lib.hid hd
        have HNW' := Lib.hid hnew'
        clear hnew'
        have hc' := kcell hbw hbl hc
        clear hd
        by_cases hlt' : j < m.length
        · obtain ⟨ua, uc, ue, _, _, _, hur⟩ := HU.out.below hbw
          cases ue
          obtain ⟨b2, off2, rfl, hbl2, c0, c1, c2⟩ := hur j hlt'
          have HA := Lib.hid (addAll_take q m j hlt')
          have hsz := HZK.out m[j] (List.getElem_mem hlt')
          have hal := addAll_len (m.take j) q
          have htl : (m.take j).length ≤ m.length := by simp; omega
          generalize m[j] = d at c0 c1 c2 HA hsz
          obtain ⟨x, y, z⟩ := d
          dsimp only at c0 c1 c2 hsz
          generalize hqq : addAll q (m.take j) = q' at HD' HA hal HNW'
          clear hqq
          go_wp2_with fail
          refine (refAddP_new _ q' x y z _ (by omega) hsz HD'.out).mono ?_
          rintro e w2 ⟨v2, rfl, hd2, hnw2, hb2⟩
          have HNW2 : Hid (∀ b, v2.ownBlock = some b → w.heap.size ≤ b) := Lib.hid (fun b hb => by
            rcases hnw2 with rfl | h
            · exact HNW'.out b hb
            · have h1 := h b hb
              have h2 := hbel'.size
              omega)
          clear hnw2
          obtain ⟨va, vc, rfl, _, _, _, _⟩ := id hd2
          have HD2 := Lib.hid hd2
          clear hd2
          go_wp2
          go_roundw
          case rel => exact ⟨j + 1, by omega, by go_num, by rw [HA.out]; exact HD2.out, HNW2.out, bstep hbel' hb2, bstep hbw hb2⟩
          case measure => simp [intOf]; omega
        · obtain rfl : j = m.length := by omega
          have HE : Hid (addAll q (m.take m.length) = addAll q m) := Lib.hid (by rw [List.take_length])
          go_wp2
          go_roundw
          case rel => exact ⟨k + 1, by omega, by go_num, by rw [HT.out, ← HE.out]; exact HD'.out, HNW'.out, hbel'⟩
          case measure => simp [intOf]; omega
    · obtain rfl : k = ls.length := by omega
      go_wp2
      go_ret
      exact ⟨_, rfl, by have h := HD.out; rw [List.take_length] at h ⊢; exact h, HNW.out, hbel⟩
theorem refMerge_any (a : Option Addr) (cap : Nat) (ls : List (List De)) (w : World) (hn : ls.length ≤ 1000) (ht : tot ls ≤ 10000) (hz : ∀ l ∈ ls, Szd l) (hr : RowsAt w a ls) :
    Calls Try.prog 27 #[.slice a ls.length cap] w fun e w' => ∃ v', e = .returned v' ∧ DepAt w' v' (mergeR ls) ∧ Below w.heap.size w w' :=
  (refMerge_new a cap ls w hn ht hz hr).mono fun e w' ⟨v', h1, h2, _, h3⟩ => ⟨v', h1, h2, h3⟩
end Go.Proofs.Ytfnfpanmbmkhmaa
/- What past.Get and the document's Get answer. -/
namespace Go.Proofs.Ytfnfpanmbmkhmaa
open Go.RowKit
set_option linter.unusedVariables false
set_option linter.unusedSimpArgs false

/-- The stamp of a key; the zero one: there is none. -/
def gtD (l : List De) (key : ByteArray) : Int × Int := match l.find? (fun d => decide (d.1 = key)) with | none => (0, 0) | some d => d.2
theorem kidx_cases (l : List De) (key : ByteArray) : (kidx l key = -1 ∧ gtD l key = (0, 0)) ∨ ∃ (k : Nat) (h : k < l.length), kidx l key = k ∧ l[k].1 = key ∧ gtD l key = l[k].2 := by
  unfold kidx fidxD gtD
  cases h : l.findIdx? (fun d => decide (d.1 = key)) with
  | none =>
    left
    refine ⟨rfl, ?_⟩
    rw [List.findIdx?_eq_none_iff] at h
    have : l.find? (fun d => decide (d.1 = key)) = none := by
      rw [List.find?_eq_none]
      intro x hx
      simpa using h x hx
    rw [this]
  | some i =>
    right
    rw [List.findIdx?_eq_some_iff_getElem] at h
    obtain ⟨hi, hh, hn⟩ := h
    have : l.find? (fun d => decide (d.1 = key)) = some l[i] := by
      rw [List.find?_eq_some_iff_getElem]
      exact ⟨hh, i, hi, rfl, fun j hj => by simpa using hn j hj⟩
    exact ⟨i, hi, rfl, by simpa using hh, by rw [this]⟩

theorem gtD_hit {l : List De} {key : ByteArray} {k : Nat} (hk : k < l.length) (h : ∀ j (hj : j < l.length), j < k → l[j].1 ≠ key) (hh : l[k].1 = key) : gtD l key = l[k].2 := by
  have : l.find? (fun d => decide (d.1 = key)) = some l[k] := by
    rw [List.find?_eq_some_iff_getElem]
    exact ⟨by simpa using hh, k, hk, rfl, fun j hj => by simpa using h j (by omega) hj⟩
  simp [gtD, this]
theorem gtD_none {l : List De} {key : ByteArray} (h : ∀ j (hj : j < l.length), l[j].1 ≠ key) : gtD l key = (0, 0) := by
  have : l.find? (fun d => decide (d.1 = key)) = none := by
    rw [List.find?_eq_none]
    intro x hx
    obtain ⟨j, hj, rfl⟩ := List.getElem_of_mem hx
    simpa using h j hj
  simp [gtD, this]

set_option maxRecDepth 100000 in
set_option maxHeartbeats 800000 in
theorem refPGet_any (v : Value) (l : List De) (key : ByteArray) (w : World) (hl : l.length ≤ 1000000) (hr : DepAt w v l) :
    Calls Try.prog 24 #[v, .string key] w fun e w' => e = .returned (sv (gtD l key)) ∧ Below w.heap.size w w' := by
  obtain ⟨a, cap, rfl, _, _, _, hr⟩ := hr
  have HR := Lib.hid hr
  clear hr
  go_enter Try.func24, Try.ntmps24
  go_wp2
  go_loopw [5] (fun i wr => ∃ k : Nat, k ≤ l.length ∧ i = .int .i64 k ∧ (∀ j (hj : j < l.length), j < k → l[j].1 ≠ key) ∧ Var2 wr w.heap.size (0, 0) ∧ Below w.heap.size w wr) (fun i _ => l.length - (intOf i).toNat)
  case atStart => exact ⟨0, by omega, rfl, (fun j hj h => by omega), ⟨by simp, by simp, by simp, by simp⟩, balloc (Below.refl _ w) _⟩
  case round =>
    obtain ⟨k, hk, rfl, hall, hf0, hbel⟩ := hrel
    have HA := Lib.hid hall
    clear hall
    obtain ⟨a0, a1, a2, a3⟩ := hf0
    simp only at a0 a1
    by_cases hlt : k < l.length
    · obtain ⟨b, off, rfl, hbl, c0, c1, c2⟩ := HR.out.below hbel k hlt
      have HH := Lib.hid (@gtD_hit l key k hlt HA.out)
      have HN : Hid (l[k].1 ≠ key → ∀ j (hj : j < l.length), j < k + 1 → l[j].1 ≠ key) := Lib.hid (fun h j hj h2 => by
        by_cases e : j = k
        · subst e; exact h
        · exact HA.out j hj (by omega))
      generalize l[k] = d at c0 c1 c2 HH HN
      obtain ⟨x, y, z⟩ := d
      dsimp only at c0 c1 c2 HH HN
      have hkey : Hid (x = key ↔ (x.toList == key.toList) = true) := Lib.hid (by
        rw [Lib.toList_data, Lib.toList_data, beq_iff_eq]
        exact ⟨fun h => by rw [h], ba_inj⟩)
      cases hq : (x.toList == key.toList) with
      | true =>
        have hq' : x.toList = key.toList := by simpa using hq
        go_wp2
        have hv := Var2.put (p := (0, 0)) ⟨a0, a1, a2, a3⟩ y z
        have r0 := hv.c0
        have r1 := hv.c1
        simp only at r0 r1
        refine bodyPost_ret (v := .agg #[.int .i64 y, .int .i64 z]) (by simp [results, Try.results24, go_sem, r0, r1]) rfl ⟨?_, below_put hbel (Nat.le_refl _) _ _⟩
        rw [HH.out (hkey.out.2 hq)]
      | false =>
        have hq' : ¬ x.toList = key.toList := by simpa using hq
        go_wp2
        go_roundw
        case rel => exact ⟨k + 1, by omega, by go_num, HN.out (fun h => by rw [hkey.out, hq] at h; cases h), ⟨a0, a1, a2, a3⟩, hbel⟩
        case measure => simp [intOf]; omega
    · obtain rfl : k = l.length := by omega
      go_wp2
      have hv := Var2.put (p := (0, 0)) ⟨a0, a1, a2, a3⟩ 0 0
      have r0 := hv.c0
      have r1 := hv.c1
      simp only at r0 r1
      refine bodyPost_ret (v := .agg #[.int .i64 0, .int .i64 0]) (by simp [results, Try.results24, go_sem, r0, r1]) rfl ⟨?_, below_put hbel (Nat.le_refl _) _ _⟩
      rw [gtD_none (fun j hj => HA.out j hj hj)]
end Go.Proofs.Ytfnfpanmbmkhmaa
/- A dependency put into a past, by its place: plain mathematics, and a row of the call's own whose stamp is written. -/
namespace Go.Proofs.Ytfnfpanmbmkhmaa
open Go.RowKit
set_option linter.unusedVariables false

theorem mx_two {x y : Int × Int} (h : 1 ≤ x.1) : Sm.mx (0, 0) [x, y] = if Sm.less x y = true then y else x := by
  have h1 : Sm.less x (0, 0) = false := by rw [Sm.less_false]; left; simp; omega
  have h2 : Sm.mx (0, 0) [x, y] = Sm.later x y := by simp [Sm.mx, Sm.later, h1]
  rw [h2]
  unfold Sm.later
  by_cases h3 : Sm.less y x = true
  · rw [if_pos h3]
    have : Sm.less x y = false := by rw [Sm.less_iff] at h3; rw [Sm.less_false]; omega
    simp [this]
  · rw [if_neg h3]
    by_cases h4 : Sm.less x y = true
    · rw [if_pos h4]
    · rw [if_neg h4]; exact Sm.le_antisymm (by simpa using h4) (by simpa using h3)
theorem okD_pos {d : De} (h : okD d = true) : 1 ≤ d.2.1 := by
  simp [okD, Sm.ok] at h
  omega
/-- The key is there, at k. -/
theorem addGo_at {d : De} : ∀ (l : List De), Srt l → ∀ (k : Nat) (h : k < l.length), l[k].1 = d.1 → addGo d false l = l.set k (l[k].1, if Sm.less l[k].2 d.2 = true then d.2 else l[k].2)
  | [], _, k, h, _ => absurd h (by simp)
  | x :: r, hs, 0, _, e => by
    have ha := List.pairwise_cons.1 hs.2
    have e' : x.1 = d.1 := e
    have hne : ∀ y ∈ r, y.1 ≠ d.1 := fun y hy e2 => klt_ne (ha.1 y hy) (e'.trans e2.symm)
    cases hl : Sm.less x.2 d.2 with
    | true => rw [addGo_eq e' hl, addGo_true hne]; simp [hl, e']
    | false => rw [addGo_eq' e' hl, addGo_true hne]; simp [hl]
  | x :: r, hs, k + 1, h, e => by
    have ha := List.pairwise_cons.1 hs.2
    have hk : k < r.length := by simpa using h
    have e' : (r[k]'hk).1 = d.1 := e
    have h1 := ha.1 (r[k]'hk) (List.getElem_mem hk)
    rw [e'] at h1
    rw [addGo_le (klt_ne h1) (klt_asymm h1), addGo_at r hs.tail k hk e']
    simp
/-- The key is not there: k is its place. -/
theorem addGo_ins {d : De} : ∀ (l : List De), (∀ y ∈ l, y.1 ≠ d.1) → ∀ (k : Nat) (h : k ≤ l.length), (∀ j (hj : j < l.length), j < k → klt d.1 l[j].1 = false) → (∀ hk : k < l.length, klt d.1 l[k].1 = true) → addGo d false l = l.take k ++ d :: l.drop k
  | [], _, k, h, _, _ => by
    have : k = 0 := by simpa using h
    subst this
    simp [addGo]
  | x :: r, hne, 0, _, _, h2 => by
    rw [addGo_gt (hne x (by simp)) (h2 (by simp)), addGo_true (fun y hy => hne y (List.mem_cons_of_mem _ hy))]
    simp
  | x :: r, hne, k + 1, h, h1, h2 => by
    have hx : klt d.1 x.1 = false := h1 0 (by simp) (by omega)
    rw [addGo_le (hne x (by simp)) hx, addGo_ins r (fun y hy => hne y (List.mem_cons_of_mem _ hy)) k (by simpa using h) (fun j hj hjk => h1 (j + 1) (by simpa using hj) (by omega)) (fun hk => h2 (by simpa using hk))]
    simp
/-- Where IndexFunc says that the greater ones begin. -/
theorem fidx_ins {d : De} {l : List De} (hne : ∀ y ∈ l, y.1 ≠ d.1) (hg : fidxD (fun e => klt d.1 e.1) l = -1) : addGo d false l = l ++ [d] := by
  unfold fidxD at hg
  cases e : l.findIdx? (fun e => klt d.1 e.1) with
  | some i => rw [e] at hg; simp at hg
  | none =>
    rw [List.findIdx?_eq_none_iff] at e
    rw [addGo_ins l hne l.length (Nat.le_refl _) (fun j hj _ => by simpa using e l[j] (List.getElem_mem hj)) (fun hk => absurd hk (by simp))]
    simp
theorem fidx_ins' {d : De} {l : List De} (hne : ∀ y ∈ l, y.1 ≠ d.1) : fidxD (fun e => klt d.1 e.1) l = -1 ∨ ∃ k : Nat, k < l.length ∧ fidxD (fun e => klt d.1 e.1) l = k ∧ addGo d false l = l.take k ++ d :: l.drop k := by
  unfold fidxD
  cases e : l.findIdx? (fun e => klt d.1 e.1) with
  | none => exact .inl rfl
  | some i =>
    right
    rw [List.findIdx?_eq_some_iff_getElem] at e
    obtain ⟨hi, hh, hn⟩ := e
    exact ⟨i, hi, rfl, addGo_ins l hne i (by omega) (fun j hj hjk => by simpa using hn j hjk) (fun _ => hh)⟩
/-- Which key is where. -/
theorem kidx_no {l : List De} {key : ByteArray} (h : kidx l key = -1) : ∀ y ∈ l, y.1 ≠ key := by
  unfold kidx fidxD at h
  cases e : l.findIdx? (fun d => decide (d.1 = key)) with
  | some i => rw [e] at h; simp at h
  | none =>
    rw [List.findIdx?_eq_none_iff] at e
    intro y hy
    simpa using e y hy

/-- One stamp written. -/
theorem OwnD.setS {w : World} {base g cap : Nat} {l : List De} (h : OwnD w base (.slice (some ⟨g, 0, none⟩) l.length cap) l) (i : Nat) (hi : i < l.length) (y z : Int) :
    OwnD ((w.setCell ⟨g, i * 3 + 1, none⟩ (.int .i64 y)).setCell ⟨g, i * 3 + 2, none⟩ (.int .i64 z)) base (.slice (some ⟨g, 0, none⟩) l.length cap) (l.set i (l[i].1, y, z)) := by
  have h3 := ((h.stored (i * 3 + 1) (.int .i64 y)).1.stored (i * 3 + 2) (.int .i64 z)).1
  have e : (dV l).set (i * 3) (.string l[i].1) = dV l := by
    apply List.ext_getElem?
    intro j
    rw [List.getElem?_set]
    split
    · rename_i hj
      subst hj
      rw [dV_len, if_pos (by omega), (dV_get l i hi).1]
    · rfl
  unfold OwnD
  rw [← dV_set l i (l[i].1, y, z) hi, List.length_set, e]
  exact h3
end Go.Proofs.Ytfnfpanmbmkhmaa
/- What Get, Covers and Add say of a past to which a dependency is added, and of a part of a past: plain mathematics. -/
namespace Go.Proofs.Ytfnfpanmbmkhmaa
open Go.RowKit
set_option linter.unusedVariables false

theorem gtD_mem {l : List De} (h : Srt l) {d : De} (hd : d ∈ l) : gtD l d.1 = d.2 := by
  rcases kidx_cases l d.1 with ⟨h1, _⟩ | ⟨i, hi, _, h2, h3⟩
  · exact absurd rfl (kidx_no h1 d hd)
  · rw [h3, srt_key h (List.getElem_mem hi) hd h2]
theorem gtD_no {l : List De} {key : ByteArray} (h : ∀ y ∈ l, y.1 ≠ key) : gtD l key = (0, 0) := gtD_none (fun j hj => h _ (List.getElem_mem hj))
theorem addR_mem {d : De} (hd : okD d = true) {r : List De} (h : Srt r) (m : De) : m ∈ addR r d ↔ ((m ∈ r ∧ m.1 ≠ d.1) ∨ (m.1 = d.1 ∧ ((m = d ∧ ∀ x ∈ r, x.1 = d.1 → Sm.less x.2 d.2 = true) ∨ (m ∈ r ∧ Sm.less m.2 d.2 = false)))) := by
  rw [show addR r d = addGo d false r by simp [addR, hd]]
  exact (addGo_spec hd h).2.2 m
theorem gtD_add {d : De} (hd : okD d = true) {r : List De} (h : Srt r) : gtD (addR r d) d.1 = if Sm.less (gtD r d.1) d.2 = true then d.2 else gtD r d.1 := by
  have hq := addR_srt h d
  by_cases hx : ∃ x ∈ r, x.1 = d.1
  · obtain ⟨x, hx, e⟩ := hx
    have hg : gtD r d.1 = x.2 := by rw [← e]; exact gtD_mem h hx
    rw [hg]
    cases hl : Sm.less x.2 d.2 with
    | true =>
      rw [if_pos rfl]
      refine gtD_mem hq ((addR_mem hd h d).2 (.inr ⟨rfl, .inl ⟨rfl, fun y hy ey => ?_⟩⟩))
      rw [srt_key h hy hx (ey.trans e.symm)]
      exact hl
    | false =>
      rw [if_neg (by simp), ← e]
      exact gtD_mem hq ((addR_mem hd h x).2 (.inr ⟨e, .inr ⟨hx, hl⟩⟩))
  · have hn : ∀ y ∈ r, y.1 ≠ d.1 := fun y hy e => hx ⟨y, hy, e⟩
    rw [gtD_no hn]
    have hp := okD_pos hd
    rw [if_pos (by rw [Sm.less_iff]; left; simp; omega)]
    exact gtD_mem hq ((addR_mem hd h d).2 (.inr ⟨rfl, .inl ⟨rfl, fun y hy ey => absurd ey (hn y hy)⟩⟩))
theorem gtD_add_other {d : De} (hd : okD d = true) {r : List De} (h : Srt r) {o : ByteArray} (ho : o ≠ d.1) : gtD (addR r d) o = gtD r o := by
  have hq := addR_srt h d
  by_cases hx : ∃ x ∈ r, x.1 = o
  · obtain ⟨x, hx, rfl⟩ := hx
    rw [gtD_mem h hx]
    exact gtD_mem hq ((addR_mem hd h x).2 (.inl ⟨hx, ho⟩))
  · have hn : ∀ y ∈ r, y.1 ≠ o := fun y hy e => hx ⟨y, hy, e⟩
    rw [gtD_no hn]
    refine gtD_no (fun y hy e => ?_)
    rcases (addR_mem hd h y).1 hy with ⟨h1, _⟩ | ⟨h1, _⟩
    · exact hn y h1 e
    · exact ho (e.symm.trans h1)
theorem add_covers {d : De} (hd : okD d = true) {r : List De} (h : Srt r) : (!(r.any fun x => Sm.less (gtD (addR r d) x.1) x.2)) = true := by
  rw [Bool.not_eq_true', List.any_eq_false]
  intro x hx
  by_cases e : x.1 = d.1
  · have h1 := gtD_add hd h
    rw [← e, gtD_mem h hx] at h1
    rw [h1]
    split
    · rename_i hl
      rw [Sm.less_iff] at hl
      simp only [Bool.not_eq_true, Sm.less_false]
      omega
    · simp [Sm.less_self]
  · rw [gtD_add_other hd h e, gtD_mem h hx]
    simp [Sm.less_self]
theorem addR_again {d : De} (hd : okD d = true) {r : List De} (h : Srt r) : addR (addR r d) d = addR r d := by
  have hq := addR_srt h d
  have hk : ∀ x ∈ addR r d, x.1 = d.1 → Sm.less x.2 d.2 = false := by
    intro x hx e
    have h1 := gtD_add hd h
    rw [← e, gtD_mem hq hx] at h1
    rw [h1]
    split
    · exact Sm.less_self _
    · rename_i hl; simpa using hl
  have he : ∃ x ∈ addR r d, x.1 = d.1 := by
    by_cases hx : ∃ x ∈ r, x.1 = d.1 ∧ Sm.less x.2 d.2 = false
    · obtain ⟨x, hx, e, hl⟩ := hx
      exact ⟨x, (addR_mem hd h x).2 (.inr ⟨e, .inr ⟨hx, hl⟩⟩), e⟩
    · refine ⟨d, (addR_mem hd h d).2 (.inr ⟨rfl, .inl ⟨rfl, fun x hx' e => ?_⟩⟩), rfl⟩
      cases hl : Sm.less x.2 d.2 with
      | true => rfl
      | false => exact absurd ⟨x, hx', e, hl⟩ hx
  obtain ⟨x0, hx0, e0⟩ := he
  refine srt_ext (addR_srt hq d) hq (fun m => ?_)
  rw [addR_mem hd hq m]
  constructor
  · rintro (⟨h1, _⟩ | ⟨_, ⟨rfl, h2⟩ | ⟨h1, _⟩⟩)
    · exact h1
    · have := h2 x0 hx0 e0
      rw [hk x0 hx0 e0] at this
      cases this
    · exact h1
  · intro h1
    by_cases e : m.1 = d.1
    · exact .inr ⟨e, .inr ⟨h1, hk m h1 e⟩⟩
    · exact .inl ⟨h1, e⟩
theorem chkD_one (d : De) : chkD [d] = okD d := by
  have h1 : Srt [d] ↔ okD d = true := by simp [Srt]
  unfold chkD
  cases h : okD d with
  | true => simp [h1, h]
  | false => simp [h1, h]
/-- What the law wants. -/
theorem want_eq {h0 h1 n s : Int} : (if Sm.less (h0, h1) (n, s) = true then (n, s) else (h0, h1)) = if (h0 < n ∨ (h0 = n ∧ h1 < s)) then (n, s) else (h0, h1) := by
  simp [Sm.less]

/-! A part of a past. -/
theorem part_get {l : List De} (h : Srt l) (p : De → Bool) {d : De} (hd : d ∈ l) : gtD (l.filter p) d.1 = if p d = true then d.2 else (0, 0) := by
  have hs : Srt (l.filter p) := h.sub List.filter_sublist
  by_cases hp : p d = true
  · rw [if_pos hp]
    exact gtD_mem hs (List.mem_filter.2 ⟨hd, hp⟩)
  · rw [if_neg hp]
    refine gtD_no (fun y hy e => ?_)
    obtain ⟨h1, h2⟩ := List.mem_filter.1 hy
    rw [srt_key h h1 hd e] at h2
    exact hp h2
theorem part_covers {l : List De} (h : Srt l) (p : De → Bool) : (!((l.filter p).any fun x => Sm.less (gtD l x.1) x.2)) = true := by
  rw [Bool.not_eq_true', List.any_eq_false]
  intro x hx
  rw [gtD_mem h (List.mem_filter.1 hx).1]
  simp [Sm.less_self]
end Go.Proofs.Ytfnfpanmbmkhmaa
