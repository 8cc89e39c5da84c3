/- Texts of this proof, one behind the other: NearMath, NearMath2, NearMade, PastMade, NearLaws, NearRows. -/
import Derived.Test.YtfnfpanmbmkhmaaGN56
/- Nearest dependencies: plain mathematics. -/
namespace Go.Proofs.Ytfnfpanmbmkhmaa
open Go.RowKit
set_option linter.unusedVariables false
set_option linter.unusedSimpArgs false

/-- A version. -/
structure Ve where
  key : ByteArray
  val : ByteArray
  gone : Bool
  st : Int × Int
  past : List De
def Ve.dep (v : Ve) : De := (v.key, v.st)
/-- The first version of a dependency. -/
def fnd (l : List Ve) (d : De) : Option Ve := l.find? fun v => decide (v.key = d.1 ∧ v.st = d.2)
def pastOf (l : List Ve) (d : De) : List De := match fnd l d with | none => [] | some v => v.past
def covB (p q : List De) : Bool := !(q.any fun d => Sm.less (gtD p d.1) d.2)
def clB (p : List De) (l : List Ve) : Bool := p.all fun d => (fnd l d).isSome && covB p (pastOf l d)
def impB (l : List Ve) (x y : De) : Bool := (fnd l x).isSome && !(Sm.less (gtD (pastOf l x) y.1) y.2)
def redL (p : List De) (l : List Ve) : List De := p.filter fun y => !(p.any fun x => decide (x ≠ y) && impB l x y)
def expR (p : List De) (l : List Ve) : List (List De) := p :: p.filterMap fun d => (fnd l d).map fun v => v.past
def expL (p : List De) (l : List Ve) : List De := mergeR (expR p l)
structure Snd (l : List Ve) : Prop where
  chk : ∀ v ∈ l, chkD v.past = true
  ok : ∀ v ∈ l, Sm.ok v.st.1 v.st.2 = true
  cl : ∀ v ∈ l, clB v.past l = true
  lt : ∀ v ∈ l, ∀ d ∈ v.past, Sm.less d.2 v.st = true
  one : l.Pairwise fun a b => ¬ (a.key = b.key ∧ a.st = b.st)

theorem chkD_srt {l : List De} (h : chkD l = true) : Srt l := by
  simp [chkD] at h
  exact h.2
theorem srt_nodup {l : List De} (h : Srt l) : l.Nodup := by
  refine List.Pairwise.imp ?_ h.2
  intro a b hab e
  rw [e, klt_irrefl] at hab
  cases hab
theorem nodup_len {α : Type} : ∀ {l m : List α}, l.Nodup → (∀ a ∈ l, a ∈ m) → l.length ≤ m.length
  | [], m, _, _ => by simp
  | a :: l, m, h, hs => by
    obtain ⟨m1, m2, rfl⟩ := List.append_of_mem (hs a (by simp))
    obtain ⟨hna, hnd⟩ := List.nodup_cons.1 h
    have := nodup_len (l := l) (m := m1 ++ m2) hnd (fun x hx => by
      have h1 := hs x (List.mem_cons_of_mem _ hx)
      rw [List.mem_append, List.mem_cons] at h1
      rw [List.mem_append]
      rcases h1 with h1 | rfl | h1
      · exact .inl h1
      · exact absurd hx hna
      · exact .inr h1)
    simp at this ⊢
    omega
theorem Snd.srt {l : List Ve} (h : Snd l) {v : Ve} (hv : v ∈ l) : Srt v.past := (chkD_srt (h.chk v hv))
theorem fnd_some {l : List Ve} {d : De} {v : Ve} (h : fnd l d = some v) : v ∈ l ∧ v.key = d.1 ∧ v.st = d.2 := by
  refine ⟨List.mem_of_find?_eq_some h, ?_⟩
  have := List.find?_some h
  simpa using this
theorem fnd_is {l : List Ve} {v : Ve} (hv : v ∈ l) : ∃ u, fnd l v.dep = some u := by
  cases h : fnd l v.dep with
  | some u => exact ⟨u, rfl⟩
  | none =>
    have := List.find?_eq_none.1 h v hv
    simp [Ve.dep] at this
theorem fnd_one {l : List Ve} (h : Snd l) {v : Ve} (hv : v ∈ l) : fnd l v.dep = some v := by
  obtain ⟨u, hu⟩ := fnd_is hv
  obtain ⟨h1, h2, h3⟩ := fnd_some hu
  rw [hu]
  congr 1
  by_cases e : u = v
  · exact e
  · exfalso
    have key := List.pairwise_iff_getElem.1 h.one
    obtain ⟨i, hi, rfl⟩ := List.mem_iff_getElem.1 h1
    obtain ⟨j, hj, rfl⟩ := List.mem_iff_getElem.1 hv
    rcases Nat.lt_trichotomy i j with q | q | q
    · exact key i j hi hj q ⟨h2, h3⟩
    · subst q; exact e rfl
    · exact key j i hj hi q ⟨h2.symm, h3.symm⟩
theorem okD_gt {d : De} (h : okD d = true) : Sm.less (0, 0) d.2 = true := by
  have := okD_pos h
  rw [Sm.less_iff]
  left
  show (0 : Int) < d.2.1
  omega
theorem gtD_at {l : List De} (h : Srt l) {k : ByteArray} {s : Int × Int} (hp : Sm.less (0, 0) s = true) (hg : Sm.less (gtD l k) s = false) : ∃ d ∈ l, d.1 = k ∧ gtD l k = d.2 := by
  by_cases e : ∃ y ∈ l, y.1 = k
  · obtain ⟨y, hy, rfl⟩ := e
    exact ⟨y, hy, rfl, gtD_mem h hy⟩
  · rw [gtD_no (fun y hy he => e ⟨y, hy, he⟩), hp] at hg
    cases hg
theorem cov_iff {p q : List De} : covB p q = true ↔ ∀ d ∈ q, Sm.less (gtD p d.1) d.2 = false := by
  simp [covB]
theorem cov_mem {p q : List De} (hp : Srt p) (h : covB p q = true) {d : De} (hd : d ∈ q) (ho : okD d = true) : ∃ m ∈ p, m.1 = d.1 ∧ Sm.less m.2 d.2 = false := by
  have h1 := cov_iff.1 h d hd
  obtain ⟨m, hm, h2, h3⟩ := gtD_at hp (okD_gt ho) h1
  exact ⟨m, hm, h2, by rw [← h3]; exact h1⟩
theorem cov_trans {p q r : List De} (hp : Srt p) (hq : Srt q) (h1 : covB p q = true) (h2 : covB q r = true) (hr : ∀ d ∈ r, okD d = true) : covB p r = true := by
  refine cov_iff.2 fun d hd => ?_
  obtain ⟨m, hm, e, hl⟩ := cov_mem hq h2 hd (hr d hd)
  have h3 := cov_iff.1 h1 m hm
  rw [e] at h3
  exact Sm.le_trans hl h3
theorem cov_self {p : List De} (hp : Srt p) : covB p p = true := cov_iff.2 fun d hd => by rw [gtD_mem hp hd]; exact Sm.less_self _
theorem cl_iff {p : List De} {l : List Ve} : clB p l = true ↔ ∀ d ∈ p, ∃ v, fnd l d = some v ∧ covB p v.past = true := by
  unfold clB
  rw [List.all_eq_true]
  constructor
  · intro h d hd
    have := h d hd
    rw [Bool.and_eq_true] at this
    cases hf : fnd l d with
    | none => rw [hf] at this; simp at this
    | some v =>
      refine ⟨v, rfl, ?_⟩
      have h2 := this.2
      unfold pastOf at h2
      rw [hf] at h2
      exact h2
  · intro h d hd
    obtain ⟨v, h1, h2⟩ := h d hd
    unfold pastOf
    rw [h1]
    simpa using h2
theorem imp_iff {l : List Ve} {x y : De} : impB l x y = true ↔ ∃ v, fnd l x = some v ∧ Sm.less (gtD v.past y.1) y.2 = false := by
  unfold impB pastOf
  cases hf : fnd l x with
  | none => simp
  | some v => simp
theorem red_iff {p : List De} {l : List Ve} {y : De} : y ∈ redL p l ↔ y ∈ p ∧ ∀ x ∈ p, x ≠ y → impB l x y = false := by
  unfold redL
  rw [List.mem_filter]
  simp
theorem red_sub {p : List De} {l : List Ve} {y : De} (h : y ∈ redL p l) : y ∈ p := (red_iff.1 h).1

/-- In a closed past, what is implied lies in the other one's past. -/
theorem imp_in {p : List De} {l : List Ve} (hs : Snd l) (hp : Srt p) (hc : clB p l = true) {x y : De} (hx : x ∈ p) (hy : y ∈ p) (hi : impB l x y = true) : ∃ v, fnd l x = some v ∧ y ∈ v.past := by
  obtain ⟨v, hv, hl⟩ := imp_iff.1 hi
  obtain ⟨u, hu, hcov⟩ := cl_iff.1 hc x hx
  rw [hv] at hu
  cases hu
  have hvs := hs.srt (fnd_some hv).1
  obtain ⟨m, hm, e, hg⟩ := gtD_at hvs (okD_gt (hp.1 y hy)) hl
  have h1 := cov_iff.1 hcov m hm
  rw [e, gtD_mem hp hy] at h1
  rw [hg] at hl
  have : m.2 = y.2 := Sm.le_antisymm h1 hl
  exact ⟨v, hv, by rw [show y = m from Prod.ext e.symm this.symm]; exact hm⟩
/-- Each dependency is left, or lies in the past of one that is left. -/
theorem red_all {p : List De} {l : List Ve} (hs : Snd l) (hp : Srt p) (hc : clB p l = true) {y : De} (hy : y ∈ p) : y ∈ redL p l ∨ ∃ x ∈ redL p l, ∃ v, fnd l x = some v ∧ y ∈ v.past := by
  -- x: any that has y in its past; climb
  have climb : ∀ (n : Nat) (x : De), x ∈ p → (p.filter fun z => Sm.less x.2 z.2).length ≤ n → (∃ v, fnd l x = some v ∧ y ∈ v.past) → ∃ x ∈ redL p l, ∃ v, fnd l x = some v ∧ y ∈ v.past := by
    intro n
    induction n with
    | zero =>
      intro x hx hn hv
      refine ⟨x, red_iff.2 ⟨hx, fun z hz hne => ?_⟩, hv⟩
      cases hi : impB l z x with
      | false => rfl
      | true =>
        exfalso
        obtain ⟨u, hu, hin⟩ := imp_in hs hp hc hz hx hi
        have hlt := hs.lt u (fnd_some hu).1 x hin
        rw [(fnd_some hu).2.2] at hlt
        have : z ∈ p.filter fun z => Sm.less x.2 z.2 := List.mem_filter.2 ⟨hz, hlt⟩
        have := List.length_pos_of_mem this
        omega
    | succ n ih =>
      intro x hx hn hv
      by_cases hr : x ∈ redL p l
      · exact ⟨x, hr, hv⟩
      · have : ∃ z ∈ p, z ≠ x ∧ impB l z x = true := by
          by_cases e : ∃ z ∈ p, z ≠ x ∧ impB l z x = true
          · exact e
          · exfalso
            refine hr (red_iff.2 ⟨hx, fun z hz hne => ?_⟩)
            cases hi : impB l z x with
            | false => rfl
            | true => exact absurd ⟨z, hz, hne, hi⟩ e
        obtain ⟨z, hz, hne, hi⟩ := this
        obtain ⟨u, hu, hin⟩ := imp_in hs hp hc hz hx hi
        obtain ⟨hul, huk, hus⟩ := fnd_some hu
        have hlt := hs.lt u hul x hin
        rw [hus] at hlt
        obtain ⟨v, hv1, hv2⟩ := hv
        refine ih z hz ?_ ⟨u, hu, ?_⟩
        · have hsub : (p.filter fun a => Sm.less z.2 a.2).length < (p.filter fun a => Sm.less x.2 a.2).length := by
            have hzn : z ∉ (p.filter fun a => Sm.less z.2 a.2) := by
              intro hm
              have := (List.mem_filter.1 hm).2
              rw [Sm.less_self] at this
              cases this
            have hnd : (p.filter fun a => Sm.less z.2 a.2).Nodup := (srt_nodup hp).sublist List.filter_sublist
            have h1 := nodup_len (l := z :: p.filter fun a => Sm.less z.2 a.2) (m := p.filter fun a => Sm.less x.2 a.2) (List.nodup_cons.2 ⟨hzn, hnd⟩) (fun a ha => by
              rw [List.mem_cons] at ha
              rcases ha with rfl | ha
              · exact List.mem_filter.2 ⟨hz, hlt⟩
              · have := List.mem_filter.1 ha
                exact List.mem_filter.2 ⟨this.1, Sm.less_trans hlt this.2⟩)
            simp only [List.length_cons] at h1
            omega
          omega
        · obtain ⟨u2, hu2, hcov⟩ := cl_iff.1 (hs.cl u hul) x hin
          rw [hv1] at hu2
          cases hu2
          have h3 := cov_iff.1 hcov y hv2
          have hus' := hs.srt hul
          have hyok := hp.1 y hy
          obtain ⟨m, hm, e, hg⟩ := gtD_at hus' (okD_gt hyok) h3
          obtain ⟨u4, hu4, hcov4⟩ := cl_iff.1 hc z hz
          rw [hu] at hu4
          cases hu4
          have h5 := cov_iff.1 hcov4 m hm
          rw [e, gtD_mem hp hy] at h5
          rw [hg] at h3
          rw [show y = m from Prod.ext e.symm (Sm.le_antisymm h3 h5)]
          exact hm
  by_cases hr : y ∈ redL p l
  · exact .inl hr
  · right
    have : ∃ z ∈ p, z ≠ y ∧ impB l z y = true := by
      by_cases e : ∃ z ∈ p, z ≠ y ∧ impB l z y = true
      · exact e
      · exfalso
        refine hr (red_iff.2 ⟨hy, fun z hz hne => ?_⟩)
        cases hi : impB l z y with
        | false => rfl
        | true => exact absurd ⟨z, hz, hne, hi⟩ e
    obtain ⟨z, hz, hne, hi⟩ := this
    exact climb _ z hz (Nat.le_refl _) (imp_in hs hp hc hz hy hi)
end Go.Proofs.Ytfnfpanmbmkhmaa
/- Nearest dependencies: what was reduced is expanded again; the past of one, the past of all. -/
namespace Go.Proofs.Ytfnfpanmbmkhmaa
open Go.RowKit
set_option linter.unusedVariables false
set_option linter.unusedSimpArgs false

theorem expR_mem {p : List De} {l : List Ve} {m : De} : m ∈ (expR p l).flatten ↔ (m ∈ p ∨ ∃ x ∈ p, ∃ v, fnd l x = some v ∧ m ∈ v.past) := by
  unfold expR
  rw [List.flatten_cons, List.mem_append]
  constructor
  · rintro (h | h)
    · exact .inl h
    · obtain ⟨q, hq, hm⟩ := List.mem_flatten.1 h
      obtain ⟨x, hx, he⟩ := List.mem_filterMap.1 hq
      cases hf : fnd l x with
      | none => rw [hf] at he; cases he
      | some v =>
        rw [hf] at he
        simp at he
        subst he
        exact .inr ⟨x, hx, v, hf, hm⟩
  · rintro (h | ⟨x, hx, v, hf, hm⟩)
    · exact .inl h
    · exact .inr (List.mem_flatten.2 ⟨v.past, List.mem_filterMap.2 ⟨x, hx, by rw [hf]; rfl⟩, hm⟩)

/-- What covers all of f, and lies in it, is what f makes. -/
theorem merge_of {f p : List De} (hp : Srt p) (hin : ∀ m ∈ p, m ∈ f) (hcov : ∀ e ∈ f, okD e = true → Sm.less (gtD p e.1) e.2 = false) : IsMerge f p := by
  refine ⟨hp, fun m => ⟨fun hm => ⟨hin m hm, hp.1 m hm, fun e he ho hk => ?_⟩, fun ⟨hm, ho, hmax⟩ => ?_⟩, fun e he ho => ?_⟩
  · have := hcov e he ho
    rw [hk, gtD_mem hp hm] at this
    exact this
  · have h1 := hcov m hm ho
    obtain ⟨d, hd, e, hg⟩ := gtD_at hp (okD_gt ho) h1
    have h2 := hmax d (hin d hd) (hp.1 d hd) e
    rw [hg] at h1
    rw [show m = d from Prod.ext e.symm (Sm.le_antisymm h1 h2)]
    exact hd
  · obtain ⟨d, hd, e', _⟩ := gtD_at hp (okD_gt ho) (hcov e he ho)
    exact ⟨d, hd, e'⟩
theorem merge_cov {f p : List De} (h : IsMerge f p) {e : De} (he : e ∈ f) (ho : okD e = true) : Sm.less (gtD p e.1) e.2 = false := by
  obtain ⟨x, hx, hk⟩ := h.rep e he ho
  rw [← hk, gtD_mem h.srt hx]
  exact ((h.mem x).1 hx).2.2 e he ho hk.symm

theorem exp_back {p : List De} {l : List Ve} (hs : Snd l) (hp : Srt p) (hc : clB p l = true) : expL (redL p l) l = p := by
  refine (mergeR_spec (expR (redL p l) l)).uniq (merge_of hp ?_ ?_) (fun d => Iff.rfl)
  · intro m hm
    rw [expR_mem]
    exact red_all hs hp hc hm
  · intro e he ho
    rw [expR_mem] at he
    rcases he with he | ⟨x, hx, v, hv, hm⟩
    · rw [gtD_mem hp (red_sub he)]
      exact Sm.less_self _
    · obtain ⟨u, hu, hcov⟩ := cl_iff.1 hc x (red_sub hx)
      rw [hv] at hu
      cases hu
      exact cov_iff.1 hcov e hm
/-- A closed past is what it is expanded to. -/
theorem exp_closed {p : List De} {l : List Ve} (hp : Srt p) (hc : clB p l = true) : expL p l = p := by
  refine (mergeR_spec (expR p l)).uniq (merge_of hp ?_ ?_) (fun d => Iff.rfl)
  · intro m hm
    exact expR_mem.2 (.inl hm)
  · intro e he ho
    rw [expR_mem] at he
    rcases he with he | ⟨x, hx, v, hv, hm⟩
    · rw [gtD_mem hp he]
      exact Sm.less_self _
    · obtain ⟨u, hu, hcov⟩ := cl_iff.1 hc x hx
      rw [hv] at hu
      cases hu
      exact cov_iff.1 hcov e hm
/-- What was expanded covers what it was made of. -/
theorem exp_cov {p : List De} {l : List Ve} (hp : Srt p) : covB (expL p l) p = true :=
  cov_iff.2 fun d hd => merge_cov (mergeR_spec (expR p l)) (expR_mem.2 (.inl hd)) (hp.1 d hd)
theorem red_len (p : List De) (l : List Ve) : (redL p l).length ≤ p.length := List.length_filter_le _ _
theorem red_ne {p : List De} {l : List Ve} (hs : Snd l) (hp : Srt p) (hc : clB p l = true) (hne : 0 < p.length) : 0 < (redL p l).length := by
  obtain ⟨y, hy⟩ := List.exists_mem_of_length_pos hne
  rcases red_all hs hp hc hy with h | ⟨x, hx, _⟩
  · exact List.length_pos_of_mem h
  · exact List.length_pos_of_mem hx

/-- A version's past, with the version itself. -/
def ownP (v : Ve) : List De := mergeR [v.past, [v.dep]]
theorem ownP_merge (v : Ve) : IsMerge (v.past ++ [v.dep]) (ownP v) := by
  have := mergeR_spec [v.past, [v.dep]]
  simpa [ownP] using this
theorem own_mem {l : List Ve} (hs : Snd l) {v : Ve} (hv : v ∈ l) (ho : okD v.dep = true) {m : De} : m ∈ ownP v ↔ (m = v.dep ∨ (m ∈ v.past ∧ m.1 ≠ v.key)) := by
  rw [(ownP_merge v).mem]
  constructor
  · rintro ⟨hm, hmo, hmax⟩
    rw [List.mem_append, List.mem_singleton] at hm
    rcases hm with hm | hm
    · by_cases e : m.1 = v.key
      · exfalso
        have h1 := hmax v.dep (by simp) ho e.symm
        have h2 := hs.lt v hv m hm
        rw [show v.dep.2 = v.st from rfl, h2] at h1
        cases h1
      · exact .inr ⟨hm, e⟩
    · exact .inl hm
  · rintro (rfl | ⟨hm, hne⟩)
    · refine ⟨by simp, ho, fun e he heo hk => ?_⟩
      rw [List.mem_append, List.mem_singleton] at he
      rcases he with he | rfl
      · have h2 := hs.lt v hv e he
        cases hc : Sm.less v.dep.2 e.2 with
        | false => rfl
        | true =>
          have := Sm.less_trans (show Sm.less v.st e.2 = true from hc) h2
          rw [Sm.less_self] at this
          cases this
      · exact Sm.less_self _
    · have hsp := hs.srt hv
      refine ⟨by simp [hm], hsp.1 m hm, fun e he heo hk => ?_⟩
      rw [List.mem_append, List.mem_singleton] at he
      rcases he with he | rfl
      · rw [srt_key hsp he hm hk]
        exact Sm.less_self _
      · exact absurd hk.symm hne
theorem own_cov {l : List Ve} (hs : Snd l) {v : Ve} (hv : v ∈ l) : covB (ownP v) v.past = true :=
  cov_iff.2 fun d hd => merge_cov (ownP_merge v) (by simp [hd]) ((hs.srt hv).1 d hd)
theorem own_closed {l : List Ve} (hs : Snd l) {v : Ve} (hv : v ∈ l) (ho : okD v.dep = true) : clB (ownP v) l = true := by
  refine cl_iff.2 fun d hd => ?_
  rcases (own_mem hs hv ho).1 hd with rfl | ⟨hm, _⟩
  · exact ⟨v, fnd_one hs hv, own_cov hs hv⟩
  · obtain ⟨u, hu, hcov⟩ := cl_iff.1 (hs.cl v hv) d hm
    exact ⟨u, hu, cov_trans (ownP_merge v).srt (hs.srt hv) (own_cov hs hv) hcov ((hs.srt (fnd_some hu).1).1)⟩
theorem own_red {l : List Ve} (hs : Snd l) {v : Ve} (hv : v ∈ l) (ho : okD v.dep = true) : redL (ownP v) l = [v.dep] := by
  have hsp := (ownP_merge v).srt
  refine srt_ext ⟨fun d hd => hsp.1 d (red_sub hd), hsp.2.sublist List.filter_sublist⟩ ⟨by simpa using ho, by simp⟩ (fun d => ?_)
  rw [List.mem_singleton]
  constructor
  · intro hd
    obtain ⟨h1, h2⟩ := red_iff.1 hd
    rcases (own_mem hs hv ho).1 h1 with e | ⟨hm, hne⟩
    · exact e
    · exfalso
      have h3 := h2 v.dep ((own_mem hs hv ho).2 (.inl rfl)) (fun e => hne (by rw [← e]; rfl))
      have h4 : impB l v.dep d = true := imp_iff.2 ⟨v, fnd_one hs hv, by rw [gtD_mem (hs.srt hv) hm]; exact Sm.less_self _⟩
      rw [h3] at h4
      cases h4
  · rintro rfl
    refine red_iff.2 ⟨(own_mem hs hv ho).2 (.inl rfl), fun x hx hne => ?_⟩
    rcases (own_mem hs hv ho).1 hx with e | ⟨hm, hk⟩
    · exact absurd e hne
    · cases hi : impB l x v.dep with
      | false => rfl
      | true =>
        exfalso
        obtain ⟨u, hu, hl⟩ := imp_iff.1 hi
        obtain ⟨hul, _, hus⟩ := fnd_some hu
        obtain ⟨m, hmu, e, hg⟩ := gtD_at (hs.srt hul) (okD_gt ho) hl
        have h1 := hs.lt u hul m hmu
        have h2 := hs.lt v hv x hm
        rw [hus] at h1
        have h3 := Sm.less_trans h1 h2
        rw [hg, show v.dep.2 = v.st from rfl, h3] at hl
        cases hl

/-- The past of all versions. -/
def allF (l : List Ve) : List De := l.flatMap fun v => v.past ++ [v.dep]
theorem all_closed {l : List Ve} {p : List De} (hs : Snd l) (h : IsMerge (allF l) p) : clB p l = true := by
  refine cl_iff.2 fun d hd => ?_
  have hin := ((h.mem d).1 hd).1
  unfold allF at hin
  obtain ⟨v, hv, hm⟩ := List.mem_flatMap.1 hin
  rw [List.mem_append, List.mem_singleton] at hm
  have hcov : ∀ u ∈ l, covB p u.past = true := fun u hu => cov_iff.2 fun e he => merge_cov h (List.mem_flatMap.2 ⟨u, hu, by simp [he]⟩) ((hs.srt hu).1 e he)
  rcases hm with hm | rfl
  · obtain ⟨u, hu, _⟩ := cl_iff.1 (hs.cl v hv) d hm
    exact ⟨u, hu, hcov u (fnd_some hu).1⟩
  · exact ⟨v, fnd_one hs hv, hcov v hv⟩
end Go.Proofs.Ytfnfpanmbmkhmaa
/- The versions that the statements of layer 5 make, and the past of all of them: plain mathematics. -/
namespace Go.Proofs.Ytfnfpanmbmkhmaa
open Go.RowKit
set_option linter.unusedVariables false
set_option linter.unusedSimpArgs false

/-- A write by plain numbers. -/
structure Wr where
  key : Int
  site : Int
  saw : List Int
def keyAt (i : Nat) : ByteArray := ⟨#[UInt8.ofNat (97 + i)]⟩
def sawI (q : Int) (n : Nat) : Nat := (((q.tmod (n : Int)) + (n : Int)).tmod (n : Int)).toNat
theorem sawI_lt (q : Int) {n : Nat} (h : 0 < n) : sawI q n < n := by
  have a2 := Int.lt_tmod_of_pos q (b := (n : Int)) (by omega)
  have b1 := Int.tmod_lt_of_pos (q.tmod (n : Int) + (n : Int)) (b := (n : Int)) (by omega)
  have b2 := Int.tmod_nonneg (n : Int) (a := q.tmod (n : Int) + (n : Int)) (by omega)
  unfold sawI
  omega
/-- One more that was seen. -/
def sawOne (out : List Ve) (p : List De) (q : Int) : List De :=
  match out[sawI q out.length]? with
  | none => p
  | some v => mergeR [p, v.past, [v.dep]]
def sawP (out : List Ve) (l : List Int) : List De := l.foldl (sawOne out) []
def maxN (p : List De) : Int := p.foldl (fun n d => if n < d.2.1 then d.2.1 else n) 0
def mkX (out : List Ve) (w : Wr) : Ve := ⟨keyAt (w.key % 8).toNat, ⟨#[]⟩, false, (maxN (sawP out (w.saw.take 4)) + 1, w.site % 4), sawP out (w.saw.take 4)⟩
def mkS (out : List Ve) (w : Wr) : List Ve := if (fnd out (mkX out w).dep).isSome then out else out ++ [mkX out w]
def mkV (l : List Wr) : List Ve := (l.take 14).foldl mkS []
def allV (l : List Ve) : List De := l.foldl (fun p v => mergeR [p, v.past, [v.dep]]) []

theorem key_ok {i : Nat} (h : i < 8) : Km.chk (keyAt i).data.toList = true := by
  have : ∀ i : Fin 8, Km.chk (keyAt i.1).data.toList = true := by decide +kernel
  exact this ⟨i, h⟩
theorem merge_left {f r g q : List De} (h : IsMerge f r) (h2 : IsMerge (r ++ g) q) : IsMerge (f ++ g) q := by
  refine merge_of h2.srt (fun m hm => ?_) (fun e he ho => ?_)
  · have := ((h2.mem m).1 hm).1
    rw [List.mem_append] at this ⊢
    rcases this with h3 | h3
    · exact .inl ((h.mem m).1 h3).1
    · exact .inr h3
  · rw [List.mem_append] at he
    rcases he with he | he
    · have h3 := merge_cov h he ho
      obtain ⟨x, hx, e1, hg⟩ := gtD_at h.srt (okD_gt ho) h3
      have h4 := merge_cov h2 (e := x) (by simp [hx]) (h.srt.1 x hx)
      rw [e1] at h4
      rw [hg] at h3
      exact Sm.le_trans h3 h4
    · exact merge_cov h2 (by simp [he]) ho
theorem merge3 {f p a b : List De} (h : IsMerge f p) : IsMerge (f ++ (a ++ b)) (mergeR [p, a, b]) := by
  have := mergeR_spec [p, a, b]
  simp only [List.flatten_cons, List.flatten_nil, List.append_nil] at this
  exact merge_left h this
theorem allV_go : ∀ (l : List Ve) (f p : List De), IsMerge f p → IsMerge (f ++ allF l) (l.foldl (fun p v => mergeR [p, v.past, [v.dep]]) p)
  | [], f, p, h => by simpa [allF] using h
  | v :: l, f, p, h => by
    have := allV_go l _ _ (merge3 (a := v.past) (b := [v.dep]) h)
    rw [List.foldl_cons]
    have e : f ++ allF (v :: l) = f ++ (v.past ++ [v.dep]) ++ allF l := by simp [allF]
    rw [e]
    exact this
theorem allV_is (l : List Ve) : IsMerge (allF l) (allV l) := by
  have := allV_go l [] [] IsMerge.nil
  unfold allV
  simpa using this

theorem fnd_more {l : List Ve} {d : De} {v : Ve} (h : fnd l d = some v) (m : List Ve) : fnd (l ++ m) d = some v := by
  unfold fnd at h ⊢
  rw [List.find?_append, h]
  rfl
theorem cl_more {p : List De} {l : List Ve} (h : clB p l = true) (m : List Ve) : clB p (l ++ m) = true :=
  cl_iff.2 fun d hd => by
    obtain ⟨v, h1, h2⟩ := cl_iff.1 h d hd
    exact ⟨v, fnd_more h1 m, h2⟩
/-- A past that is closed, with a version of the list put to it, is closed. -/
theorem saw_closed {out : List Ve} (hs : Snd out) {p : List De} (hp : Srt p) (hc : clB p out = true) {v : Ve} (hv : v ∈ out) : Srt (mergeR [p, v.past, [v.dep]]) ∧ clB (mergeR [p, v.past, [v.dep]]) out = true := by
  have hm := merge3 (a := v.past) (b := [v.dep]) (IsMerge.self hp)
  refine ⟨hm.srt, cl_iff.2 fun d hd => ?_⟩
  have c1 : covB (mergeR [p, v.past, [v.dep]]) p = true := cov_iff.2 fun e he => merge_cov hm (by simp [he]) (hp.1 e he)
  have c2 : covB (mergeR [p, v.past, [v.dep]]) v.past = true := cov_iff.2 fun e he => merge_cov hm (by simp [he]) ((hs.srt hv).1 e he)
  have hin := ((hm.mem d).1 hd).1
  rw [List.mem_append, List.mem_append, List.mem_singleton] at hin
  rcases hin with h1 | h1 | rfl
  · obtain ⟨u, hu, hcov⟩ := cl_iff.1 hc d h1
    exact ⟨u, hu, cov_trans hm.srt hp c1 hcov (hs.srt (fnd_some hu).1).1⟩
  · obtain ⟨u, hu, hcov⟩ := cl_iff.1 (hs.cl v hv) d h1
    exact ⟨u, hu, cov_trans hm.srt (hs.srt hv) c2 hcov (hs.srt (fnd_some hu).1).1⟩
  · exact ⟨v, fnd_one hs hv, c2⟩
theorem sawOne_closed {out : List Ve} (hs : Snd out) {p : List De} (hp : Srt p) (hc : clB p out = true) (q : Int) : Srt (sawOne out p q) ∧ clB (sawOne out p q) out = true := by
  unfold sawOne
  cases h : out[sawI q out.length]? with
  | none => exact ⟨hp, hc⟩
  | some v => exact saw_closed hs hp hc (List.mem_of_getElem? h)
theorem sawP_go {out : List Ve} (hs : Snd out) : ∀ (l : List Int) (p : List De), Srt p → clB p out = true → Srt (l.foldl (sawOne out) p) ∧ clB (l.foldl (sawOne out) p) out = true
  | [], p, hp, hc => ⟨hp, hc⟩
  | q :: l, p, hp, hc => by
    obtain ⟨h1, h2⟩ := sawOne_closed hs hp hc q
    exact sawP_go hs l _ h1 h2
theorem cl_nil (l : List Ve) : clB [] l = true := rfl
theorem sawP_closed {out : List Ve} (hs : Snd out) (l : List Int) : Srt (sawP out l) ∧ clB (sawP out l) out = true := sawP_go hs l [] Srt.nil (cl_nil out)

theorem maxN_go : ∀ (p : List De) (n : Int), n ≤ p.foldl (fun n d => if n < d.2.1 then d.2.1 else n) n ∧ (∀ d ∈ p, d.2.1 ≤ p.foldl (fun n d => if n < d.2.1 then d.2.1 else n) n) ∧ ∀ B, n ≤ B → (∀ d ∈ p, d.2.1 ≤ B) → p.foldl (fun n d => if n < d.2.1 then d.2.1 else n) n ≤ B
  | [], n => ⟨by simp, by simp, fun B h _ => by simpa using h⟩
  | d :: p, n => by
    obtain ⟨h1, h2, h3⟩ := maxN_go p (if n < d.2.1 then d.2.1 else n)
    rw [List.foldl_cons]
    have hk : n ≤ (if n < d.2.1 then d.2.1 else n) ∧ d.2.1 ≤ (if n < d.2.1 then d.2.1 else n) ∧ ((if n < d.2.1 then d.2.1 else n) = n ∨ (if n < d.2.1 then d.2.1 else n) = d.2.1) := by split <;> omega
    generalize (if n < d.2.1 then d.2.1 else n) = k at h1 h2 h3 hk ⊢
    refine ⟨by omega, ?_, fun B hB hall => h3 B ?_ (fun e he => hall e (List.mem_cons_of_mem _ he))⟩
    · intro e he
      rcases List.mem_cons.1 he with rfl | he
      · omega
      · exact h2 e he
    · have := hall d (by simp)
      omega
/-- What holds of the versions that were made so far. -/
structure Inv (out : List Ve) : Prop where
  snd : Snd out
  keys : ∀ v ∈ out, ∃ i, i < 8 ∧ v.key = keyAt i
  nums : ∀ v ∈ out, v.st.1 ≤ out.length
theorem Inv.dep {out : List Ve} (h : Inv out) {v : Ve} (hv : v ∈ out) : okD v.dep = true := by
  obtain ⟨i, hi, e⟩ := h.keys v hv
  unfold okD
  rw [Bool.and_eq_true]
  exact ⟨by rw [show v.dep.1 = v.key from rfl, e]; exact key_ok hi, h.snd.ok v hv⟩
theorem keys_len {p : List De} (hp : Srt p) (hk : ∀ d ∈ p, ∃ i, i < 8 ∧ d.1 = keyAt i) : p.length ≤ 8 := by
  have h1 : (p.map Prod.fst).Nodup := by
    unfold List.Nodup
    rw [List.pairwise_map]
    refine hp.2.imp ?_
    intro a b hab e
    rw [e, klt_irrefl] at hab
    cases hab
  have h2 := nodup_len (m := (List.range 8).map keyAt) h1 (fun a ha => by
    obtain ⟨d, hd, rfl⟩ := List.mem_map.1 ha
    obtain ⟨i, hi, e⟩ := hk d hd
    exact List.mem_map.2 ⟨i, List.mem_range.2 hi, e.symm⟩)
  simpa using h2
theorem inv_nil : Inv [] := ⟨⟨by simp, by simp, by simp, by simp, List.Pairwise.nil⟩, by simp, by simp⟩
theorem inv_step {out : List Ve} (h : Inv out) (hl : out.length < 14) (w : Wr) : Inv (mkS out w) ∧ (mkS out w).length ≤ out.length + 1 := by
  unfold mkS
  cases hf : fnd out (mkX out w).dep with
  | some u => exact ⟨by simpa using h, by simp⟩
  | none =>
    rw [if_neg (by simp)]
    obtain ⟨hp, hc⟩ := sawP_closed h.snd (w.saw.take 4)
    have hx : (mkX out w).past = sawP out (w.saw.take 4) := rfl
    have hxs : (mkX out w).st = (maxN (sawP out (w.saw.take 4)) + 1, w.site % 4) := rfl
    have hxk : (mkX out w).key = keyAt (w.key % 8).toNat := rfl
    generalize mkX out w = x at hf hx hxs hxk
    generalize sawP out (w.saw.take 4) = p at hp hc hx hxs
    obtain ⟨m1, m2, m3⟩ := maxN_go p 0
    change 0 ≤ maxN p at m1
    have hpk : ∀ d ∈ p, (∃ i, i < 8 ∧ d.1 = keyAt i) ∧ d.2.1 ≤ out.length := by
      intro d hd
      obtain ⟨v, hv, _⟩ := cl_iff.1 hc d hd
      obtain ⟨hvo, e1, e2⟩ := fnd_some hv
      obtain ⟨i, hi, e⟩ := h.keys v hvo
      have := h.nums v hvo
      exact ⟨⟨i, hi, by rw [← e1]; exact e⟩, by rw [← e2]; exact this⟩
    have hlen := keys_len hp (fun d hd => (hpk d hd).1)
    have hmax : maxN p ≤ out.length := m3 out.length (by omega) (fun d hd => (hpk d hd).2)
    have hle : ∀ d ∈ p, d.2.1 ≤ maxN p := m2
    refine ⟨⟨⟨?_, ?_, ?_, ?_, ?_⟩, ?_, ?_⟩, by simp⟩
    · intro v hv
      rw [List.mem_append, List.mem_singleton] at hv
      rcases hv with hv | rfl
      · exact h.snd.chk v hv
      · rw [hx, chkD, decide_eq_true hp, Bool.and_true]
        simp
        omega
    · intro v hv
      rw [List.mem_append, List.mem_singleton] at hv
      rcases hv with hv | rfl
      · exact h.snd.ok v hv
      · rw [hxs]
        simp only [Sm.ok, decide_eq_true_eq]
        omega
    · intro v hv
      rw [List.mem_append, List.mem_singleton] at hv
      rcases hv with hv | rfl
      · exact cl_more (h.snd.cl v hv) _
      · rw [hx]
        exact cl_more hc _
    · intro v hv d hd
      rw [List.mem_append, List.mem_singleton] at hv
      rcases hv with hv | rfl
      · exact h.snd.lt v hv d hd
      · rw [hx] at hd
        rw [hxs, Sm.less_iff]
        left
        have := hle d hd
        show d.2.1 < maxN p + 1
        omega
    · refine List.pairwise_append.2 ⟨h.snd.one, by simp, fun a ha b hb => ?_⟩
      rw [List.mem_singleton] at hb
      subst hb
      intro e
      have := List.find?_eq_none.1 hf a ha
      simp [Ve.dep, e.1, e.2] at this
    · intro v hv
      rw [List.mem_append, List.mem_singleton] at hv
      rcases hv with hv | rfl
      · exact h.keys v hv
      · exact ⟨_, by omega, hxk⟩
    · intro v hv
      rw [List.mem_append, List.mem_singleton] at hv
      rw [List.length_append, List.length_singleton]
      rcases hv with hv | rfl
      · have := h.nums v hv
        omega
      · rw [hxs]
        show maxN p + 1 ≤ _
        omega
theorem inv_go : ∀ (l : List Wr) (out : List Ve), Inv out → out.length + l.length ≤ 14 → Inv (l.foldl mkS out) ∧ (l.foldl mkS out).length ≤ out.length + l.length
  | [], out, h, _ => ⟨h, by simp⟩
  | w :: l, out, h, hl => by
    simp only [List.length_cons] at hl
    obtain ⟨h1, h2⟩ := inv_step h (by omega) w
    obtain ⟨h3, h4⟩ := inv_go l (mkS out w) h1 (by omega)
    exact ⟨h3, by simp only [List.length_cons, List.foldl_cons]; omega⟩
theorem mkV_inv (l : List Wr) : Inv (mkV l) ∧ (mkV l).length ≤ 14 := by
  obtain ⟨h1, h2⟩ := inv_go (l.take 14) [] inv_nil (by simp; omega)
  refine ⟨h1, ?_⟩
  have : (l.take 14).length ≤ 14 := by simp; omega
  simp at h2
  unfold mkV
  omega
theorem allV_srt (l : List Ve) : Srt (allV l) := (allV_is l).srt
theorem allV_closed {l : List Ve} (h : Inv l) : clB (allV l) l = true := all_closed h.snd (allV_is l)
theorem allV_len {l : List Ve} (h : Inv l) : (allV l).length ≤ 8 := by
  refine keys_len (allV_srt l) (fun d hd => ?_)
  obtain ⟨v, hv, _⟩ := cl_iff.1 (allV_closed h) d hd
  obtain ⟨hvo, e1, _⟩ := fnd_some hv
  rw [← e1]
  exact h.keys v hvo
end Go.Proofs.Ytfnfpanmbmkhmaa
/- What the law's own 'made' answers. -/
namespace Go.Proofs.Ytfnfpanmbmkhmaa
open Go.RowKit
set_option linter.unusedVariables false
set_option linter.unusedSimpArgs false

def k20 (k : ByteArray) : ByteArray := if 20 < k.size then k.extract 0 20 else k
theorem k20_size (k : ByteArray) : (k20 k).size ≤ 20 := by
  unfold k20
  split
  · rw [ByteArray.size_extract]; omega
  · omega
def cutD (d : De) : De := (k20 d.1, d.2)
/-- The past that 'made' makes. -/
def mdD (l : List De) : List De := addAll [] ((l.take 12).map cutD)
theorem mdD_srt (l : List De) : Srt (mdD l) := (IsMerge.nil.all ((l.take 12).map cutD)).srt
theorem mdD_len (l : List De) : (mdD l).length ≤ 12 := by
  have h1 := addAll_len ((l.take 12).map cutD) []
  rw [List.length_map, List.length_take, List.length_nil] at h1
  unfold mdD
  omega
theorem mdK_step (l : List De) (k : Nat) (h : k < l.length) : addAll [] ((l.take (k + 1)).map cutD) = addR (addAll [] ((l.take k).map cutD)) (cutD l[k]) := by
  rw [List.take_succ_eq_append_getElem h, List.map_append, List.map_singleton, addAll_snoc]
theorem mdK_all (l : List De) (k : Nat) (hk : k ≤ l.length) (h12 : k ≤ 12) (hx : ¬ (k < l.length ∧ k < 12)) : addAll [] ((l.take k).map cutD) = mdD l := by
  unfold mdD
  by_cases e : k = 12
  · rw [e]
  · rw [List.take_of_length_le (by omega), List.take_of_length_le (by omega)]

end Go.Proofs.Ytfnfpanmbmkhmaa
/- What the statements of layer 5 ask, of the mathematics. -/
namespace Go.Proofs.Ytfnfpanmbmkhmaa
open Go.RowKit
set_option linter.unusedVariables false
set_option linter.unusedSimpArgs false

/-- At most six dependencies, keys cut to 12 bytes, put together. -/
def k12 (k : ByteArray) : ByteArray := if 12 < k.size then k.extract 0 12 else k
theorem k12_size (k : ByteArray) : (k12 k).size ≤ 12 := by
  unfold k12
  split
  · simp
    omega
  · omega
def cutN (d : De) : De := (k12 d.1, d.2)
def fewD (l : List De) : List De := addAll [] ((l.take 6).map cutN)
theorem fewD_srt (l : List De) : Srt (fewD l) := (IsMerge.nil.all ((l.take 6).map cutN)).srt
theorem fewD_len (l : List De) : (fewD l).length ≤ 6 := by
  have h := addAll_len ((l.take 6).map cutN) []
  rw [List.length_map, List.length_take, List.length_nil] at h
  unfold fewD
  omega

/-- Left, or told of by another. -/
theorem left_iff {p : List De} {l : List Ve} (hp : Srt p) {y : De} (hy : y ∈ p) : decide (gtD (redL p l) y.1 = y.2) = !(p.any fun x => decide (x ≠ y) && impB l x y) := by
  have hr : Srt (redL p l) := ⟨fun d hd => hp.1 d (red_sub hd), hp.2.sublist List.filter_sublist⟩
  by_cases h : y ∈ redL p l
  · rw [decide_eq_true (gtD_mem hr h)]
    have := (List.mem_filter.1 h).2
    exact this.symm
  · have h1 : gtD (redL p l) y.1 = (0, 0) := gtD_no fun z hz e => h (by rw [← srt_key hp (red_sub hz) hy e]; exact hz)
    have h2 := okD_gt (hp.1 y hy)
    have h3 : (p.any fun x => decide (x ≠ y) && impB l x y) = true := by
      cases hq : (p.any fun x => decide (x ≠ y) && impB l x y) with
      | true => rfl
      | false => exact absurd (List.mem_filter.2 ⟨hy, by rw [hq]; rfl⟩) h
    rw [h3, h1]
    refine decide_eq_false fun e => ?_
    rw [← e, Sm.less_self] at h2
    cases h2
/-- Of what is left none tells of another. -/
theorem left_none {p : List De} {l : List Ve} {x y : De} (hx : x ∈ redL p l) (hy : y ∈ redL p l) (hne : x ≠ y) : impB l x y = false := (red_iff.1 hy).2 x (red_sub hx) hne
theorem red_nil (l : List Ve) : redL [] l = [] := rfl

/-- A row of writes, each of which saw the one ahead. -/
def rowW (n : Nat) : List Wr := (List.range n).map fun (i : Nat) => ⟨(i : Int), 0, if 0 < i then [(i : Int) - 1] else []⟩
theorem row_facts : ∀ n : Fin 8, (mkV (rowW (n.1 + 1))).length = n.1 + 1 ∧ (allV (mkV (rowW (n.1 + 1)))).length = n.1 + 1 ∧ (redL (allV (mkV (rowW (n.1 + 1)))) (mkV (rowW (n.1 + 1)))).map (fun d => d.1.data.toList) = [(keyAt n.1).data.toList] ∧ clB (allV (mkV (rowW (n.1 + 1)))) (mkV (rowW (n.1 + 1))) = true := by
  decide +kernel
end Go.Proofs.Ytfnfpanmbmkhmaa
/- Rows of versions in memory: six cells each: key, value, whether it is gone, the stamp's two numbers, the past. -/
namespace Go.Proofs.Ytfnfpanmbmkhmaa
open Go.RowKit
set_option linter.unusedVariables false
set_option linter.unusedSimpArgs false

/-- A past is as it was where its block is. -/
theorem DepAt.block {w w' : World} {v : Value} {l : List De} (h : DepAt w v l) (hs : w.heap.size ≤ w'.heap.size) (hb : ∀ b, v.ownBlock = some b → w'.heap[b]? = w.heap[b]?) : DepAt w' v l := by
  obtain ⟨a, cap, rfl, h1, h2, h3, hr⟩ := h
  refine ⟨a, cap, rfl, h1, h2, h3, fun i hi => ?_⟩
  obtain ⟨b, off, rfl, hlt, c0, c1, c2⟩ := hr i hi
  have hk := hb b rfl
  exact ⟨b, off, rfl, by omega, by rw [World.cell?_of_block hk]; exact c0, by rw [World.cell?_of_block hk]; exact c1, by rw [World.cell?_of_block hk]; exact c2⟩
theorem DepAt.lt {w : World} {v : Value} {l : List De} (h : DepAt w v l) (hne : l ≠ []) {b : Nat} (hb : v.ownBlock = some b) : b < w.heap.size := by
  obtain ⟨a, cap, rfl, h1, h2, h3, hr⟩ := h
  obtain ⟨b', off, rfl, hlt, _⟩ := hr 0 (by have := List.length_pos_iff.2 hne; omega)
  simp [Value.ownBlock] at hb
  omega
/-- A version as a value. -/
def verV (v : Ve) (u : Value) : Value := .agg #[.string v.key, .string v.val, .bool v.gone, .int .i64 v.st.1, .int .i64 v.st.2, u]
def verC (v : Ve) (u : Value) : List Value := [.string v.key, .string v.val, .bool v.gone, .int .i64 v.st.1, .int .i64 v.st.2, u]
def ve0 : Ve := ⟨⟨#[]⟩, ⟨#[]⟩, false, (0, 0), []⟩
def fndV (l : List Ve) (d : De) : Ve := (fnd l d).getD ve0
theorem fndV_past (l : List Ve) (d : De) : (fndV l d).past = pastOf l d := by
  unfold fndV pastOf
  cases fnd l d <;> rfl
/-- A version at a place in memory. -/
structure VerP (w : World) (b o : Nat) (v : Ve) (u : Value) : Prop where
  c0 : w.cell? ⟨b, o, none⟩ = some (.string v.key)
  c1 : w.cell? ⟨b, o + 1, none⟩ = some (.string v.val)
  c2 : w.cell? ⟨b, o + 2, none⟩ = some (.bool v.gone)
  c3 : w.cell? ⟨b, o + 3, none⟩ = some (.int .i64 v.st.1)
  c4 : w.cell? ⟨b, o + 4, none⟩ = some (.int .i64 v.st.2)
  c5 : w.cell? ⟨b, o + 5, none⟩ = some u
theorem VerP.keep {w w' : World} {b o : Nat} {v : Ve} {u : Value} (h : VerP w b o v u) (hb : Below w.heap.size w w') : VerP w' b o v u :=
  ⟨kc hb h.c0, kc hb h.c1, kc hb h.c2, kc hb h.c3, kc hb h.c4, kc hb h.c5⟩
theorem VerP.block {w w' : World} {b o : Nat} {v : Ve} {u : Value} (h : VerP w b o v u) (hb : w'.heap[b]? = w.heap[b]?) : VerP w' b o v u := by
  refine ⟨?_, ?_, ?_, ?_, ?_, ?_⟩ <;> rw [World.cell?_of_block hb]
  · exact h.c0
  · exact h.c1
  · exact h.c2
  · exact h.c3
  · exact h.c4
  · exact h.c5
/-- A row of versions in memory. -/
def VerIn (w : World) (a : Option Addr) (l : List Ve) : Prop :=
  ∀ i (h : i < l.length), ∃ b off u, a = some ⟨b, off, none⟩ ∧ b < w.heap.size ∧ VerP w b (off + i * 6) l[i] u ∧ DepAt w u l[i].past
theorem VerIn.nil (w : World) (a : Option Addr) : VerIn w a [] := fun i h => absurd h (by simp)
theorem VerIn.below {w w' : World} {a : Option Addr} {l : List Ve} (h : VerIn w a l) (hb : Below w.heap.size w w') : VerIn w' a l := by
  intro i hi
  obtain ⟨b, off, u, rfl, hlt, hp, hd⟩ := h i hi
  exact ⟨b, off, u, rfl, by have := hb.size; omega, hp.keep hb, hd.below hb⟩
/-- A slice that reads as these versions. -/
def VerAt (w : World) (v : Value) (l : List Ve) : Prop := ∃ a cap, v = .slice a l.length cap ∧ l.length ≤ cap ∧ cap ≤ maxLen ∧ (a = none → cap = 0) ∧ VerIn w a l
theorem VerAt.nil (w : World) : VerAt w (.slice none 0 0) [] := ⟨none, 0, rfl, by simp, by simp, by simp, VerIn.nil _ _⟩
theorem VerAt.below {w w' : World} {v : Value} {l : List Ve} (h : VerAt w v l) (hb : Below w.heap.size w w') : VerAt w' v l := by
  obtain ⟨a, cap, rfl, h1, h2, h3, hr⟩ := h
  exact ⟨a, cap, rfl, h1, h2, h3, hr.below hb⟩

/-- The cells of versions with these values for their pasts. -/
def vV : List (Ve × Value) → List Value := fun l => l.flatMap fun x => verC x.1 x.2
theorem vV_len (l : List (Ve × Value)) : (vV l).length = l.length * 6 := by
  unfold vV
  induction l with
  | nil => rfl
  | cons x l ih =>
    rw [List.flatMap_cons, List.length_append, ih]
    simp [verC]
    omega
theorem vV_snoc (l : List (Ve × Value)) (v : Ve) (u : Value) : vV (l ++ [(v, u)]) = vV l ++ verC v u := by simp [vV]
theorem vV_get (l : List (Ve × Value)) : ∀ (i : Nat) (h : i < l.length) (j : Nat), j < 6 → (vV l)[i * 6 + j]? = (verC l[i].1 l[i].2)[j]? := by
  induction l with
  | nil => intro i h; simp at h
  | cons x l ih =>
    intro i h j hj
    have hl : (verC x.1 x.2).length = 6 := rfl
    have e : vV (x :: l) = verC x.1 x.2 ++ vV l := by simp [vV]
    rw [e]
    cases i with
    | zero =>
      rw [List.getElem?_append_left (by rw [hl]; omega)]
      simp
    | succ i =>
      rw [List.getElem?_append_right (by rw [hl]; omega), hl, show (i + 1) * 6 + j - 6 = i * 6 + j by omega]
      exact ih i (by simpa using h) j hj
/-- A row of the call's own; T: the number of the type. -/
abbrev OwnV (T : TypeId) (w : World) (base : Nat) (v : Value) (l : List (Ve × Value)) : Prop := w.ownsRow base T 6 v l.length (vV l)
theorem OwnV.nil (T : TypeId) (w : World) (base : Nat) : OwnV T w base (.slice none 0 0) [] := ⟨rfl, .inl ⟨rfl, rfl⟩⟩
theorem OwnV.below {T : TypeId} {w w' : World} {base : Nat} {v : Value} {l : List (Ve × Value)} (h : OwnV T w base v l) (hb : Below w.heap.size w w') : OwnV T w' base v l := by
  refine ⟨h.1, ?_⟩
  rcases h.2 with h0 | ⟨g, cap, cur, rfl, hbg, hg, r⟩
  · exact .inl h0
  · exact .inr ⟨g, cap, cur, rfl, hbg, (hb.5 g (Array.getElem?_eq_some_iff.1 hg).1).trans hg, r⟩
theorem OwnV.shape {T : TypeId} {w : World} {base : Nat} {v : Value} {l : List (Ve × Value)} (h : OwnV T w base v l) : ∃ a c, v = .slice a l.length c := by
  rcases h.2 with ⟨rfl, h0⟩ | ⟨g, cap, cur, rfl, _⟩
  · exact ⟨none, 0, by rw [h0]⟩
  · exact ⟨_, _, rfl⟩
/-- A row of the call's own reads as its versions. -/
theorem VerAt.of_own {T : TypeId} {w : World} {base : Nat} {v : Value} {l : List (Ve × Value)} (h : OwnV T w base v l) (hp : ∀ x ∈ l, DepAt w x.2 x.1.past) : VerAt w v (l.map Prod.fst) := by
  rcases h.2 with ⟨rfl, h0⟩ | ⟨g, cap, cur, rfl, hb, hg, hn, hm, hs, ht⟩
  · obtain rfl : l = [] := List.length_eq_zero_iff.1 h0
    exact VerAt.nil w
  · have hlt : g < w.heap.size := (Array.getElem?_eq_some_iff.1 hg).1
    have key : ∀ j u, (vV l)[j]? = some u → w.cell? ⟨g, j, none⟩ = some u := by
      intro j u hj
      have hl : j < (vV l).length := (List.getElem?_eq_some_iff.1 hj).1
      rw [vV_len] at hl
      rw [← ht, List.getElem?_take, if_pos (by omega), Array.getElem?_toList] at hj
      simp [World.cell?, hg, hj]
    refine ⟨some ⟨g, 0, none⟩, cap, by rw [List.length_map], by rw [List.length_map]; exact hn, hm, by simp, fun i hi => ?_⟩
    have hi' : i < l.length := by simpa using hi
    have hg' := vV_get l i hi'
    have k := fun j (hj : j < 6) u (hu : (verC l[i].1 l[i].2)[j]? = some u) => key (i * 6 + j) u (by rw [hg' j hj]; exact hu)
    refine ⟨g, 0, l[i].2, rfl, hlt, ?_, by simpa using hp _ (List.getElem_mem hi')⟩
    rw [Nat.zero_add, List.getElem_map]
    exact ⟨k 0 (by omega) _ rfl, k 1 (by omega) _ rfl, k 2 (by omega) _ rfl, k 3 (by omega) _ rfl, k 4 (by omega) _ rfl, k 5 (by omega) _ rfl⟩
end Go.Proofs.Ytfnfpanmbmkhmaa
