/- Where labels go: plain mathematics: what leads to an owner, the search by breadth, what it comes to. -/
import Derived.Test.YthjjidfoclcghaaGR9
namespace Go.Proofs.Ythjjidfoclcghaa
set_option linter.unusedVariables false
set_option linter.unusedSimpArgs false
namespace Tm

/-- Does the step lead to an owner? -/
def leads (p : List Int) (own : Nat → Bool) (a b : Nat) : Bool := (List.range p.length).any fun s => via p a b s && own s
theorem leads_iff {p : List Int} {own : Nat → Bool} {a b : Nat} : leads p own a b = true ↔ ∃ s, s < p.length ∧ via p a b s = true ∧ own s = true := by
  unfold leads
  rw [List.any_eq_true]
  simp only [List.mem_range, Bool.and_eq_true]
/-- Two masks have a bit in common. -/
def meetN (x y : Nat) : Bool := decide (x &&& y ≠ 0)
theorem meetN_iff {x y : Nat} : meetN x y = true ↔ ∃ k, x.testBit k = true ∧ y.testBit k = true := by
  unfold meetN
  rw [decide_eq_true_eq]
  constructor
  · intro h
    refine Classical.byContradiction fun hn => h (Nat.eq_of_testBit_eq fun k => ?_)
    rw [Nat.testBit_and, Nat.zero_testBit]
    cases h1 : x.testBit k with
    | false => rfl
    | true =>
      cases h2 : y.testBit k with
      | false => rfl
      | true => exact absurd ⟨k, h1, h2⟩ hn
  · rintro ⟨k, h1, h2⟩ e
    have := congrArg (fun z => z.testBit k) e
    simp only [Nat.testBit_and, Nat.zero_testBit, h1, h2] at this
    cases this
theorem meet_side {p : List Int} {a b m : Nat} : meetN (sideN p a b) m = leads p (fun s => m.testBit s) a b := by
  rw [Bool.eq_iff_iff, meetN_iff, leads_iff]
  unfold sideN
  constructor
  · rintro ⟨k, h1, h2⟩
    rw [sumB_bit, Bool.and_eq_true, decide_eq_true_eq] at h1
    exact ⟨k, h1.1, h1.2, h2⟩
  · rintro ⟨k, h1, h2, h3⟩
    refine ⟨k, ?_, h3⟩
    rw [sumB_bit, decide_eq_true h1, h2]
    rfl
theorem via_same2 {p : List Int} {a b c k : Nat} (h1 : via p a b k = true) (h2 : via p a c k = true) : b = c := by
  rw [via_iff] at h1 h2
  rw [h1] at h2
  simpa using h2
section
variable {p : List Int} (h : Tr p)
include h
/-- What stands on a way: both parts are ways. -/
theorem Tr.way_parts {a b m : Nat} (ha : a < p.length) (hb : b < p.length) (hm : m ∈ way p a b) : m < p.length ∧ ∃ l r, way p a b = l ++ m :: r ∧ way p a m = l ++ [m] ∧ way p m b = m :: r := by
  have w := h.way_wk ha hb
  have hml := w.lt m hm
  obtain ⟨l, r, e⟩ := List.append_of_mem hm
  rw [e] at w
  exact ⟨hml, l, r, e, (h.only hml _ _ w.left).symm, (h.only hb _ _ w.right).symm⟩
theorem Tr.via_cons {a b s : Nat} (ha : a < p.length) (hs : s < p.length) (hv : via p a b s = true) : b < p.length ∧ adj p a b ∧ way p a s = a :: way p b s := by
  have h1 := h.via_adj ha hs hv
  by_cases e : s = a
  · subst e; rw [h.via_self ha] at hv; cases hv
  · obtain ⟨c, t, e1, _, _, e2⟩ := h.step1 ha hs e
    rw [via_iff, e1] at hv
    have : c = b := by simpa using hv
    subst this
    exact ⟨h1.1, h1.2, by rw [e1, e2]⟩
/-- Whoever stands on the way behind a step lies on that side. -/
theorem Tr.via_on {a b s z : Nat} (ha : a < p.length) (hs : s < p.length) (hv : via p a b s = true) (hz : z ∈ way p b s) : via p a b z = true := by
  obtain ⟨hb, hab, e⟩ := h.via_cons ha hs hv
  have hz2 : z ∈ way p a s := by rw [e]; exact List.mem_cons_of_mem _ hz
  obtain ⟨hzl, l, r, e1, e2, _⟩ := h.way_parts ha hs hz2
  have hza : z ≠ a := by
    rintro rfl
    have nd := (h.way_wk ha hs).nd
    rw [e, List.nodup_cons] at nd
    exact nd.1 hz
  rw [via_iff, e2]
  rw [e] at e1
  obtain ⟨t, et⟩ := h.way_cons hb hs
  rw [et] at e1
  cases l with
  | nil => simp at e1; exact absurd e1.1.symm hza
  | cons y l =>
    cases l with
    | nil => simp at e1; simp [e1.2.1]
    | cons y2 l => simp at e1; simp [e1.2.1]
/-- Two ways over a step make one. -/
theorem Tr.glue {x a b s : Nat} (hx : x < p.length) (ha : a < p.length) (hs : s < p.length) (h1 : via p a b s = true) (h2 : via p b a x = true) : way p x s = way p x a ++ way p b s := by
  obtain ⟨hb, hab, _⟩ := h.via_cons ha hs h1
  have w1 := h.way_wk hx ha
  have w2 := h.way_wk hb hs
  obtain ⟨t1, e1⟩ := h.way_cons hx ha
  obtain ⟨t2, e2⟩ := h.way_cons hb hs
  refine (h.only hs _ _ ⟨by rw [e1]; rfl, ?_, ?_, ?_, ?_⟩).symm
  · have h3 := w2.tl
    rw [List.getLast?_append, h3]
    rfl
  · have h4 : adjs p (way p x a ++ way p b s) := by
      have e3 : way p x a = (way p x a).dropLast ++ [a] := by
        have hl := w1.tl
        have hne : way p x a ≠ [] := by rw [e1]; simp
        rw [List.getLast?_eq_some_getLast hne] at hl
        conv => lhs; rw [← List.dropLast_concat_getLast hne]
        congr 2
        simpa using hl
      rw [e3, List.append_assoc]
      have h5 := w1.ad
      rw [e3] at h5
      refine adjs_glue h5 ?_
      rw [e2]
      refine ⟨hab, ?_⟩
      have := w2.ad
      rw [e2] at this
      exact this
    exact h4
  · refine List.nodup_append.2 ⟨w1.nd, w2.nd, fun y hy z hz e => ?_⟩
    subst e
    have hzv := h.via_on ha hs h1 hz
    have hyr : y ∈ way p a x := by rw [h.way_rev hx ha]; simpa using hy
    have hyv := h.via_on hb hx h2 hyr
    have hyl := w1.lt y hy
    have h6 := h.sides ha hb hyl hab
    rw [← via_iff, ← via_iff] at h6
    exact h6.1 hzv hyv
  · intro y hy
    rcases List.mem_append.1 hy with hy | hy
    · exact w1.lt y hy
    · exact w2.lt y hy
end
/-- Where a label goes on. -/
def nextL (p : List Int) (own : Nat → Bool) (a : Nat) (fr : Int) : List Nat := (nearL p a).filter fun b => decide ((b : Int) ≠ fr) && leads p own a b
theorem nextL_mem {p : List Int} {own : Nat → Bool} {a b : Nat} {fr : Int} : b ∈ nextL p own a fr ↔ b < p.length ∧ adj p a b ∧ (b : Int) ≠ fr ∧ leads p own a b = true := by
  unfold nextL
  rw [List.mem_filter, nearL_mem, Bool.and_eq_true, decide_eq_true_eq, and_assoc]
def nextI (p : List Int) (own : Nat → Bool) (a fr : Int) : List Nat := if okS p a then nextL p own a.toNat fr else []
theorem nextL_but (p : List Int) (own : Nat → Bool) (a : Nat) (fr : Int) (hfr : 0 ≤ fr) : nextL p own a fr = (nextL p own a (-1)).filter fun (b : Nat) => decide ((b : Int) ≠ fr) := by
  unfold nextL
  rw [List.filter_filter]
  congr 1
theorem nextL_nodup (p : List Int) (own : Nat → Bool) (a : Nat) (fr : Int) : (nextL p own a fr).Nodup := (((nearL_rise p a).imp (fun h => by omega)) : (nearL p a).Nodup).filter _
theorem nextL_len (p : List Int) (own : Nat → Bool) (a : Nat) (fr : Int) : (nextL p own a fr).length ≤ p.length := by
  have h1 := List.length_filter_le (fun b : Nat => decide ((b : Int) ≠ fr) && leads p own a b) (nearL p a)
  have h2 := nearK_len p a p.length
  rw [nearK_all] at h2
  exact Nat.le_trans h1 h2
/-- The search by breadth: who was come to, and from where, behind so many rounds. -/
def stB (nx : Int → Int → List Nat) (fr : Int) : Nat → List (Int × Int)
  | 0 => [(fr, -1)]
  | i + 1 => match (stB nx fr i)[i]? with
    | none => stB nx fr i
    | some e => stB nx fr i ++ (nx e.1 e.2).map fun (s : Nat) => ((s : Int), e.1)
theorem stB_some {nx : Int → Int → List Nat} {fr : Int} {i : Nat} (hi : i < (stB nx fr i).length) : stB nx fr (i + 1) = stB nx fr i ++ (nx (stB nx fr i)[i].1 (stB nx fr i)[i].2).map fun (s : Nat) => ((s : Int), (stB nx fr i)[i].1) := by
  rw [stB, List.getElem?_eq_getElem hi]
theorem stB_none {nx : Int → Int → List Nat} {fr : Int} {i : Nat} (hi : (stB nx fr i).length ≤ i) : stB nx fr (i + 1) = stB nx fr i := by
  rw [stB, List.getElem?_eq_none hi]
theorem stB_stop {nx : Int → Int → List Nat} {fr : Int} {i : Nat} (hi : (stB nx fr i).length ≤ i) : ∀ j, i ≤ j → stB nx fr j = stB nx fr i
  | 0, hj => by
    have : i = 0 := by omega
    rw [this]
  | j + 1, hj => by
    by_cases e : i = j + 1
    · rw [e]
    · have ih := stB_stop hi j (by omega)
      rw [stB_none (by rw [ih]; omega), ih]
theorem stB_pre (nx : Int → Int → List Nat) (fr : Int) : ∀ (i : Nat), ∃ t, stB nx fr (i + 1) = stB nx fr i ++ t := by
  intro i
  by_cases hi : i < (stB nx fr i).length
  · exact ⟨_, stB_some hi⟩
  · exact ⟨[], by rw [stB_none (by omega), List.append_nil]⟩
theorem stB_pre2 (nx : Int → Int → List Nat) (fr : Int) (i : Nat) : ∀ (j : Nat), i ≤ j → ∃ t, stB nx fr j = stB nx fr i ++ t
  | 0, hj => ⟨[], by rw [List.append_nil]; congr 1; omega⟩
  | j + 1, hj => by
    by_cases e : i = j + 1
    · exact ⟨[], by rw [List.append_nil, e]⟩
    · obtain ⟨t, ht⟩ := stB_pre2 nx fr i j (by omega)
      obtain ⟨t2, ht2⟩ := stB_pre nx fr j
      exact ⟨t ++ t2, by rw [ht2, ht, List.append_assoc]⟩
/-- The steps that were found. -/
def stepsL (q : List (Int × Int)) : List (Int × Int) := (q.drop 1).map fun e => (e.2, e.1)
theorem stepsL_app {q : List (Int × Int)} (hq : 0 < q.length) (t : List (Int × Int)) : stepsL (q ++ t) = stepsL q ++ t.map fun e => (e.2, e.1) := by
  unfold stepsL
  rw [List.drop_append_of_le_length (by omega), List.map_append]
/-- One that was come to: x itself, or one that is come to from the right side. -/
def Good (p : List Int) (own : Nat → Bool) (x : Nat) (e : Int × Int) : Prop := e = ((x : Int), -1) ∨ ∃ b a : Nat, e = ((b : Int), (a : Int)) ∧ b < p.length ∧ a < p.length ∧ adj p a b ∧ via p b a x = true ∧ leads p own a b = true
/-- How the search stands. -/
structure Bf (p : List Int) (own : Nat → Bool) (x i : Nat) (q : List (Int × Int)) : Prop where
  hd : q[0]? = some ((x : Int), -1)
  ok : ∀ e ∈ q, Good p own x e
  nd : (q.map Prod.fst).Nodup
  pr : ∀ t e, q[t]? = some e → e = ((x : Int), -1) ∨ ∃ j e2, j < i ∧ j < t ∧ q[j]? = some e2 ∧ e2.1 = e.2
  nx : ∀ j e, j < i → q[j]? = some e → ∀ s ∈ nextI p own e.1 e.2, ((s : Int), e.1) ∈ q
theorem good_site {p : List Int} {own : Nat → Bool} {x : Nat} (hx : x < p.length) {e : Int × Int} (he : Good p own x e) : ∃ y : Nat, e.1 = (y : Int) ∧ y < p.length := by
  rcases he with rfl | ⟨b, a, rfl, hb, _⟩
  · exact ⟨x, rfl, hx⟩
  · exact ⟨b, rfl, hb⟩
theorem bf_len {p : List Int} {own : Nat → Bool} {x i : Nat} {q : List (Int × Int)} (hx : x < p.length) (hq : Bf p own x i q) : q.length ≤ p.length := by
  have h1 : ((q.map Prod.fst).map Int.toNat).Nodup := by
    have := hq.nd
    unfold List.Nodup at this ⊢
    rw [List.pairwise_map]
    refine (List.Pairwise.imp_of_mem (R := (· ≠ ·)) (fun {u v} hu hv hne => ?_) this)
    obtain ⟨e1, he1, rfl⟩ := List.mem_map.1 hu
    obtain ⟨e2, he2, rfl⟩ := List.mem_map.1 hv
    obtain ⟨y1, h1, _⟩ := good_site hx (hq.ok e1 he1)
    obtain ⟨y2, h2, _⟩ := good_site hx (hq.ok e2 he2)
    rw [h1, h2] at hne ⊢
    rw [Int.toNat_natCast, Int.toNat_natCast]
    omega
  have h2 := nodup_len p.length _ h1 (fun y hy => by
    obtain ⟨z, hz, rfl⟩ := List.mem_map.1 hy
    obtain ⟨e, he, rfl⟩ := List.mem_map.1 hz
    obtain ⟨y, h1, h2⟩ := good_site hx (hq.ok e he)
    rw [h1]
    simpa using h2)
  simpa using h2
theorem bf_zero {p : List Int} {own : Nat → Bool} {x : Nat} : Bf p own x 0 [((x : Int), -1)] where
  hd := rfl
  ok e he := by simp at he; exact .inl he
  nd := by simp
  pr t e he := .inl (by
    have := List.mem_of_getElem? he
    simpa using this)
  nx j e hj := by omega
section
variable {p : List Int} (h : Tr p)
include h
/-- Who is next is come to from the right side. -/
theorem Tr.good_next {own : Nat → Bool} {x y : Nat} (hx : x < p.length) {e : Int × Int} (he : Good p own x e) (hy : e.1 = (y : Int)) {s : Nat} (hs : s ∈ nextL p own y e.2) : s < p.length ∧ y < p.length ∧ adj p y s ∧ via p s y x = true ∧ leads p own y s = true := by
  obtain ⟨h1, h2, h3, h4⟩ := nextL_mem.1 hs
  rcases he with rfl | ⟨b, a, rfl, hb, ha, hab, hv, _⟩
  · have : y = x := by simp at hy; omega
    subst this
    exact ⟨h1, hx, h2, h.via_near h1 hx h2.symm, h4⟩
  · have : y = b := by simp at hy; omega
    subst this
    refine ⟨h1, hb, h2, ?_, h4⟩
    have h5 := h.sides hb h1 hx h2
    rw [← via_iff, ← via_iff] at h5
    cases h6 : via p s y x with
    | true => rfl
    | false =>
      have h7 : via p y s x = true := h5.2 (by rw [h6]; simp)
      have := via_same2 h7 hv
      subst this
      exact absurd rfl h3
theorem Tr.bf_next {own : Nat → Bool} {x i : Nat} {q : List (Int × Int)} (hx : x < p.length) (hq : Bf p own x i q) (hi : i < q.length) : Bf p own x (i + 1) (q ++ (nextI p own q[i].1 q[i].2).map fun (s : Nat) => ((s : Int), q[i].1)) := by
  have hgi := hq.ok q[i] (List.getElem_mem hi)
  obtain ⟨y, hy, hyl⟩ := good_site hx hgi
  have hc := (chkT_iff p).2 h
  have en : nextI p own q[i].1 q[i].2 = nextL p own y q[i].2 := by
    unfold nextI
    rw [hy, okS_nat hc hyl, if_pos rfl, Int.toNat_natCast]
  rw [en, hy]
  have hgood := fun s hs => h.good_next (own := own) hx hgi hy (s := s) hs
  have hi0 : 0 < q.length := by omega
  refine ⟨by rw [List.getElem?_append_left hi0]; exact hq.hd, fun e he => ?_, ?_, fun t e he => ?_, fun j e hj he s hs => ?_⟩
  · rcases List.mem_append.1 he with he | he
    · exact hq.ok e he
    · obtain ⟨s, hs, rfl⟩ := List.mem_map.1 he
      obtain ⟨a1, a2, a3, a4, a5⟩ := hgood s hs
      exact .inr ⟨s, y, rfl, a1, a2, a3, a4, a5⟩
  · rw [List.map_append, List.map_map]
    refine List.nodup_append.2 ⟨hq.nd, ?_, fun u hu v hv e => ?_⟩
    · have h1 := nextL_nodup p own y q[i].2
      unfold List.Nodup at h1 ⊢
      rw [List.pairwise_map]
      exact h1.imp (fun hne => by simp; omega)
    · subst e
      obtain ⟨s, hs, rfl⟩ := List.mem_map.1 hv
      obtain ⟨a1, a2, a3, a4, a5⟩ := hgood s hs
      obtain ⟨e0, he0, e1⟩ := List.mem_map.1 hu
      have e1 : e0.1 = (s : Int) := e1
      rcases hq.ok e0 he0 with rfl | ⟨b, a, rfl, hb, ha, hab, hv2, _⟩
      · have : x = s := by simp at e1; omega
        subst this
        rw [h.via_self hx] at a4
        cases a4
      · have : b = s := by simp at e1; omega
        subst this
        have ha2 := via_same2 hv2 a4
        subst ha2
        obtain ⟨t0, ht0, et0⟩ := List.getElem_of_mem he0
        rcases hq.pr t0 _ ((List.getElem?_eq_getElem ht0).trans (by rw [et0])) with e2 | ⟨j, e2, hj, _, hj2, e3⟩
        · simp at e2 <;> omega
        · have hjl : j < q.length := (List.getElem?_eq_some_iff.1 hj2).1
          have e4 : q[j] = e2 := (List.getElem?_eq_some_iff.1 hj2).2
          have hp := List.pairwise_iff_getElem.1 hq.nd j i (by simpa using hjl) (by simpa using hi) hj
          rw [List.getElem_map, List.getElem_map, e4, e3, hy] at hp
          exact hp rfl
  · by_cases ht : t < q.length
    · rw [List.getElem?_append_left ht] at he
      rcases hq.pr t e he with h1 | ⟨j, e2, hj, hjt, hj2, h3⟩
      · exact .inl h1
      · refine .inr ⟨j, e2, by omega, hjt, ?_, h3⟩
        rw [List.getElem?_append_left (List.getElem?_eq_some_iff.1 hj2).1]
        exact hj2
    · rw [List.getElem?_append_right (by omega)] at he
      obtain ⟨s, hs, rfl⟩ := List.mem_map.1 (List.mem_of_getElem? he)
      refine .inr ⟨i, q[i], by omega, by omega, ?_, hy⟩
      rw [List.getElem?_append_left hi]
      exact List.getElem?_eq_getElem hi
  · have hjl : j < q.length := by omega
    rw [List.getElem?_append_left hjl] at he
    by_cases e0 : j = i
    · subst e0
      rw [List.getElem?_eq_getElem hjl] at he
      have : q[j] = e := by simpa using he
      subst this
      rw [en] at hs
      refine List.mem_append_right _ (List.mem_map.2 ⟨s, hs, by rw [hy]⟩)
    · exact List.mem_append_left _ (hq.nx j e (by omega) he s hs)
/-- As far as it goes on. -/
theorem Tr.bf_at {own : Nat → Bool} {x : Nat} (hx : x < p.length) : ∀ i, ∃ k, k ≤ i ∧ (k = i ∨ (stB (nextI p own) (x : Int) i).length ≤ k) ∧ stB (nextI p own) (x : Int) i = stB (nextI p own) (x : Int) k ∧ k ≤ (stB (nextI p own) (x : Int) i).length ∧ Bf p own x k (stB (nextI p own) (x : Int) i)
  | 0 => ⟨0, by omega, .inl rfl, rfl, by omega, bf_zero⟩
  | i + 1 => by
    obtain ⟨k, hk, hk2, he, hkl, hB⟩ := Tr.bf_at (own := own) hx i
    by_cases hi : i < (stB (nextI p own) (x : Int) i).length
    · rcases hk2 with rfl | hk2
      · refine ⟨k + 1, by omega, .inl rfl, rfl, ?_, ?_⟩
        · rw [stB_some hi, List.length_append]; omega
        · rw [stB_some hi]
          exact h.bf_next hx hB hi
      · omega
    · refine ⟨k, by omega, .inr ?_, ?_, ?_, ?_⟩
      · rw [stB_none (by omega)]
        rcases hk2 with rfl | hk2
        · omega
        · exact hk2
      · rw [stB_none (by omega)]; exact he
      · rw [stB_none (by omega)]; exact hkl
      · rw [stB_none (by omega)]; exact hB
/-- All that was found. -/
theorem Tr.bf_done {own : Nat → Bool} {x : Nat} (hx : x < p.length) : ∀ i, p.length ≤ i → Bf p own x (stB (nextI p own) (x : Int) i).length (stB (nextI p own) (x : Int) i) := fun i hi => by
  obtain ⟨k, hk, hk2, _, hkl, hB⟩ := h.bf_at (own := own) hx i
  have hl := bf_len hx hB
  have : k = (stB (nextI p own) (x : Int) i).length := by omega
  rw [← this]
  exact hB
theorem Tr.way_back {x y a : Nat} (hx : x < p.length) (hy : y < p.length) (hv : via p y a x = true) : a < p.length ∧ adj p a y ∧ way p x y = way p x a ++ [y] := by
  obtain ⟨ha, hya, e⟩ := h.via_cons hy hx hv
  refine ⟨ha, hya.symm, ?_⟩
  rw [h.way_rev hy hx, e, List.reverse_cons, ← h.way_rev ha hx]
end
/-- What a label comes to: where it begins, and all on the ways to owners. -/
def hit (p : List Int) (own : Nat → Bool) (x y : Nat) : Prop := y = x ∨ ∃ s, s < p.length ∧ own s = true ∧ y ∈ way p x s
section
variable {p : List Int} (h : Tr p)
include h
theorem Tr.found_hit {own : Nat → Bool} {x i : Nat} {q : List (Int × Int)} (hx : x < p.length) (hq : Bf p own x i q) {e : Int × Int} (he : e ∈ q) : ∃ y : Nat, e.1 = (y : Int) ∧ y < p.length ∧ hit p own x y := by
  rcases hq.ok e he with rfl | ⟨b, a, rfl, hb, ha, hab, hv, hl⟩
  · exact ⟨x, rfl, hx, .inl rfl⟩
  · refine ⟨b, rfl, hb, .inr ?_⟩
    obtain ⟨s, hs, hvs, ho⟩ := leads_iff.1 hl
    refine ⟨s, hs, ho, ?_⟩
    rw [h.glue hx ha hs hvs hv]
    obtain ⟨t, et⟩ := h.way_cons hb hs
    rw [et]
    simp
theorem Tr.hit_found {own : Nat → Bool} {x : Nat} {q : List (Int × Int)} (hx : x < p.length) (hq : Bf p own x q.length q) : ∀ (n y : Nat), (way p x y).length = n → y < p.length → hit p own x y → ∃ e ∈ q, e.1 = (y : Int)
  | n, y, hn, hy, hh => by
    by_cases e0 : y = x
    · refine ⟨((x : Int), -1), List.mem_of_getElem? hq.hd, by rw [e0]⟩
    · rcases hh with e1 | ⟨s, hs, ho, hm⟩
      · exact absurd e1 e0
      · obtain ⟨a, _, hv, _⟩ := h.via_one hy hx (fun e => e0 e.symm)
        obtain ⟨ha, hay, ew⟩ := h.way_back hx hy hv
        obtain ⟨_, l, r, e1, e2, _⟩ := h.way_parts hx hs hm
        have el : l = way p x a := by
          rw [ew] at e2
          exact (List.append_inj_left' e2 rfl).symm
        have hma : a ∈ way p x a := by
          have := h.way_rev ha hx
          obtain ⟨t, et⟩ := h.way_cons ha hx
          rw [this, et]
          simp
        have hma2 : a ∈ way p x s := by rw [e1, el]; exact List.mem_append_left _ hma
        have hlt : (way p x a).length < n := by rw [← hn, ew, List.length_append]; simp
        obtain ⟨e, he, hea⟩ := Tr.hit_found (own := own) hx hq (way p x a).length a rfl ha (.inr ⟨s, hs, ho, hma2⟩)
        obtain ⟨j, hj, ej⟩ := List.getElem_of_mem he
        obtain ⟨_, l2, r2, e3, e4, e5⟩ := h.way_parts hx hs hma2
        have er : r2 = y :: r := by
          rw [e1, el, e4, List.append_assoc] at e3
          have := List.append_cancel_left e3
          simpa using this.symm
        have hvs : via p a y s = true := by rw [via_iff, e5, er]; rfl
        have hne : (y : Int) ≠ e.2 := by
          rcases hq.ok e he with rfl | ⟨b', a', rfl, hb', ha', hab', hv', _⟩
          · show (y : Int) ≠ -1
            omega
          · have : b' = a := by simp at hea; omega
            subst this
            intro e6
            have : y = a' := by simp at e6; omega
            subst this
            have h7 := h.sides ha hy hx hay
            rw [← via_iff, ← via_iff] at h7
            exact h7.1 hv' hv
        have hin : y ∈ nextI p own e.1 e.2 := by
          unfold nextI
          rw [hea, okS_nat ((chkT_iff p).2 h) ha, if_pos rfl, Int.toNat_natCast]
          exact nextL_mem.2 ⟨hy, hay, hne, leads_iff.2 ⟨s, hs, hvs, ho⟩⟩
        exact ⟨_, hq.nx j e hj ((List.getElem?_eq_getElem hj).trans (by rw [ej])) y hin, rfl⟩
  termination_by n => n
  decreasing_by all_goals omega
end
/-- The steps, of whatever numbers. -/
def bfq (p : List Int) (own : Nat → Bool) (fr : Int) : List (Int × Int) := stB (nextI p own) fr 7
def waysI (p : List Int) (own : Nat → Bool) (fr : Int) : List (Int × Int) := stepsL (bfq p own fr)
def cameB (p : List Int) (own : Nat → Bool) (fr : Int) (s : Nat) : Bool := (bfq p own fr).any fun e => decide (e.1 = (s : Int))
def reachI (p : List Int) (own : Nat → Bool) (fr : Int) : Nat := if okS p fr then sumB (cameB p own fr) 6 else 0
theorem nextI_no {p : List Int} {own : Nat → Bool} {a fr : Int} (h : okS p a = false) : nextI p own a fr = [] := by
  unfold nextI
  rw [h]
  rfl
theorem stB_no {p : List Int} {own : Nat → Bool} {fr : Int} (h : okS p fr = false) : ∀ i, stB (nextI p own) fr i = [(fr, -1)]
  | 0 => rfl
  | i + 1 => by
    have ih := stB_no (own := own) h i
    rw [stB]
    rw [ih]
    cases i with
    | zero => simp [nextI_no h]
    | succ i => rfl
theorem stB_len {p : List Int} {own : Nat → Bool} {fr : Int} (i : Nat) : 1 ≤ (stB (nextI p own) fr i).length ∧ (stB (nextI p own) fr i).length ≤ 6 := by
  cases ho : okS p fr with
  | false => rw [stB_no ho]; simp
  | true =>
    obtain ⟨ht, x, rfl, hx⟩ := okS_some ho
    obtain ⟨k, hk, hk2, _, hkl, hB⟩ := ht.bf_at (own := own) hx i
    have hl := bf_len hx hB
    have := ht.n6
    have h0 := (List.getElem?_eq_some_iff.1 hB.hd).1
    omega
theorem bfq_stop {p : List Int} {own : Nat → Bool} {fr : Int} {i : Nat} (hi : (stB (nextI p own) fr i).length ≤ i) : stB (nextI p own) fr i = bfq p own fr := by
  unfold bfq
  by_cases h7 : i ≤ 7
  · exact (stB_stop hi 7 h7).symm
  · exact stB_stop (by have := (stB_len (p := p) (own := own) (fr := fr) 7).2; omega) i (by omega)
theorem waysI_len (p : List Int) (own : Nat → Bool) (fr : Int) : (waysI p own fr).length + 1 = (bfq p own fr).length := by
  have := (stB_len (p := p) (own := own) (fr := fr) 7).1
  unfold waysI stepsL bfq
  rw [List.length_map, List.length_drop]
  omega
section
variable {p : List Int} (h : Tr p)
include h
theorem Tr.bfq_bf {own : Nat → Bool} {x : Nat} (hx : x < p.length) : Bf p own x (bfq p own (x : Int)).length (bfq p own (x : Int)) := h.bf_done hx 7 (by have := h.n6; omega)
theorem Tr.came_iff {own : Nat → Bool} {x y : Nat} (hx : x < p.length) : cameB p own (x : Int) y = true ↔ y < p.length ∧ hit p own x y := by
  unfold cameB
  rw [List.any_eq_true]
  have hB := h.bfq_bf (own := own) hx
  constructor
  · rintro ⟨e, he, h1⟩
    rw [decide_eq_true_eq] at h1
    obtain ⟨z, h2, h3, h4⟩ := h.found_hit hx hB he
    have : z = y := by omega
    subst this
    exact ⟨h3, h4⟩
  · rintro ⟨h1, h2⟩
    obtain ⟨e, he, h3⟩ := h.hit_found hx hB _ y rfl h1 h2
    exact ⟨e, he, by rw [decide_eq_true_eq]; exact h3⟩
theorem Tr.ways_few {own : Nat → Bool} {x : Nat} (hx : x < p.length) : (waysI p own (x : Int)).length < p.length := by
  have h1 := waysI_len p own (x : Int)
  have h2 := bf_len hx (h.bfq_bf (own := own) hx)
  omega
/-- Where all own it, all is come to; where the beginning alone does, nothing else is. -/
theorem Tr.came_all {own : Nat → Bool} {x y : Nat} (hx : x < p.length) (hy : y < p.length) (ho : own y = true) : cameB p own (x : Int) y = true := by
  rw [h.came_iff hx]
  refine ⟨hy, .inr ⟨y, hy, ho, ?_⟩⟩
  obtain ⟨t, et⟩ := h.way_cons hy hx
  rw [h.way_rev hy hx, et]
  simp
theorem Tr.came_one {own : Nat → Bool} {x y : Nat} (hx : x < p.length) (ho : ∀ s, s < p.length → own s = true → s = x) : cameB p own (x : Int) y = decide (y = x) := by
  rw [Bool.eq_iff_iff, h.came_iff hx, decide_eq_true_eq]
  constructor
  · rintro ⟨h1, h2 | ⟨s, hs, h3, h4⟩⟩
    · exact h2
    · have := ho s hs h3
      subst this
      rw [h.way_self hx] at h4
      simpa using h4
  · rintro rfl
    exact ⟨hx, .inl rfl⟩
end
end Tm
end Go.Proofs.Ythjjidfoclcghaa
