/- Texts of this proof, one behind the other: KeysSets, KeysOneMath, RowV. -/
import Derived.Test.YthjjidfoclcghaaGR5
import Derived.Lib.SlicesCompact
/- Rows of texts that rise. Plain lemmas: they speak of no one program. -/
namespace Go.Proofs.Ythjjidfoclcghaa.Km
set_option linter.unusedVariables false

def rises (l : List (List UInt8)) : Prop := l.Pairwise fun x y => Op.bytesLess x y = true

theorem rises_uniq : ∀ (a b : List (List UInt8)), rises a → rises b → (∀ x, x ∈ a ↔ x ∈ b) → a = b
  | [], [], _, _, _ => rfl
  | [], y :: b, _, _, h => by
    have := (h y).2 (by simp)
    simp at this
  | x :: a, [], _, _, h => by
    have := (h x).1 (by simp)
    simp at this
  | x :: a, y :: b, ha, hb, h => by
    obtain ⟨ha1, ha2⟩ := List.pairwise_cons.1 ha
    obtain ⟨hb1, hb2⟩ := List.pairwise_cons.1 hb
    have e : x = y := by
      have hx : x = y ∨ x ∈ b := by simpa using (h x).1 (by simp)
      have hy : y = x ∨ y ∈ a := by simpa using (h y).2 (by simp)
      rcases hx with hx | hx
      · exact hx
      · rcases hy with hy | hy
        · exact hy.symm
        · have h1 := hb1 x hx
          have h2 := ha1 y hy
          rw [bl_asymm h1] at h2
          cases h2
    subst e
    congr 1
    refine rises_uniq a b ha2 hb2 fun z => ?_
    have hz := h z
    simp only [List.mem_cons] at hz
    constructor
    · intro hm
      rcases hz.1 (.inr hm) with rfl | hr
      · have := ha1 z hm
        rw [bl_irrefl] at this
        cases this
      · exact hr
    · intro hm
      rcases hz.2 (.inr hm) with rfl | hr
      · have := hb1 z hm
        rw [bl_irrefl] at this
        cases this
      · exact hr

theorem le_eq (x y : List UInt8) : decide (x ≤ y) = !Op.bytesLess y x := by
  rw [bl_eq, Bool.eq_iff_iff]
  simp

theorem sorted_ge (l : List (List UInt8)) : (l.mergeSort fun x y => decide (x ≤ y)).Pairwise fun x y => Op.bytesLess y x = false := by
  have h := List.pairwise_mergeSort (le := fun x y : List UInt8 => decide (x ≤ y))
    (fun a b c h1 h2 => by
      rw [le_eq] at *
      simp at *
      exact bl_le_trans h1 h2)
    (fun a b => by
      rw [le_eq, le_eq]
      cases h1 : Op.bytesLess b a with
      | false => simp
      | true => simp [bl_asymm h1]) l
  refine h.imp ?_
  intro a b hab
  rw [le_eq] at hab
  simpa using hab

theorem compact_inv (d : Array (List UInt8)) (hs : ∀ i j, i < j → j < d.size → Op.bytesLess d[j]! d[i]! = false) : ∀ m, m ≤ d.size →
    rises (Lib.compactUpTo d m) ∧ (∀ x, x ∈ Lib.compactUpTo d m ↔ ∃ j, j < m ∧ x = d[j]!)
  | 0, _ => by simp [Lib.compactUpTo, rises]
  | m + 1, hm => by
    obtain ⟨ih1, ih2⟩ := compact_inv d hs m (by omega)
    rw [Lib.compactUpTo_succ]
    by_cases hk : Lib.keeps d m = true
    · rw [if_pos hk]
      refine ⟨?_, fun x => ?_⟩
      · refine List.pairwise_append.2 ⟨ih1, by simp, fun a ha b hb => ?_⟩
        simp at hb
        subst hb
        obtain ⟨j, hj, rfl⟩ := (ih2 a).1 ha
        have hm0 : 0 < m := by omega
        have hne : d[m]! ≠ d[m - 1]! := by
          unfold Lib.keeps at hk
          simp at hk
          rcases hk with h | h
          · omega
          · exact h
        have h1 : Op.bytesLess d[m - 1]! d[m]! = true := by
          cases hc : Op.bytesLess d[m - 1]! d[m]! with
          | true => rfl
          | false => exact absurd (bl_tri (hs (m - 1) m (by omega) (by omega)) hc) hne
        by_cases e : j = m - 1
        · subst e; exact h1
        · exact bl_le_lt (hs j (m - 1) (by omega) (by omega)) h1
      · rw [List.mem_append, ih2]
        constructor
        · rintro (⟨j, hj, rfl⟩ | h)
          · exact ⟨j, by omega, rfl⟩
          · simp at h; exact ⟨m, by omega, h⟩
        · rintro ⟨j, hj, rfl⟩
          by_cases e : j = m
          · subst e; right; simp
          · left; exact ⟨j, by omega, rfl⟩
    · rw [if_neg hk, List.append_nil]
      refine ⟨ih1, fun x => ?_⟩
      rw [ih2]
      constructor
      · rintro ⟨j, hj, rfl⟩
        exact ⟨j, by omega, rfl⟩
      · rintro ⟨j, hj, rfl⟩
        by_cases e : j = m
        · subst e
          have hk' : ¬ (j = 0 ∨ d[j]! ≠ d[j - 1]!) := by
            unfold Lib.keeps at hk
            simpa using hk
          refine ⟨j - 1, by omega, ?_⟩
          exact Classical.byContradiction fun h => hk' (.inr h)
        · exact ⟨j, by omega, rfl⟩

theorem compact_sorted (l : List (List UInt8)) : rises (Lib.compact (l.mergeSort fun x y => decide (x ≤ y))) ∧ ∀ x, x ∈ Lib.compact (l.mergeSort fun x y => decide (x ≤ y)) ↔ x ∈ l := by
  have hp := sorted_ge l
  have hm : ∀ x, x ∈ (l.mergeSort fun x y => decide (x ≤ y)) ↔ x ∈ l := fun x => (List.mergeSort_perm l _).mem_iff
  generalize (l.mergeSort fun x y => decide (x ≤ y)) = s at hp hm
  unfold Lib.compact
  have hs : ∀ i j, i < j → j < s.toArray.size → Op.bytesLess s.toArray[j]! s.toArray[i]! = false := by
    intro i j hij hj
    have hj' : j < s.length := by simpa using hj
    have := List.pairwise_iff_getElem.1 hp i j (by omega) hj' hij
    rw [getElem!_pos _ j hj, getElem!_pos _ i (by omega)]
    simpa using this
  obtain ⟨h1, h2⟩ := compact_inv s.toArray hs s.length (by simp)
  refine ⟨h1, fun x => ?_⟩
  rw [h2, ← hm]
  constructor
  · rintro ⟨j, hj, rfl⟩
    rw [getElem!_pos _ j (by simpa using hj)]
    simp
  · intro hx
    obtain ⟨j, hj, rfl⟩ := List.getElem_of_mem hx
    exact ⟨j, hj, by rw [getElem!_pos _ j (by simpa using hj)]; simp⟩

/-- What stands in a range's bounds that is something. -/
def ne (s : List UInt8) : List (List UInt8) := if s = [] then [] else [s]
def nes (rs : List (List UInt8 × List UInt8)) : List (List UInt8) := rs.flatMap fun r => ne r.1 ++ ne r.2
theorem mem_ne (x s : List UInt8) : x ∈ ne s ↔ x = s ∧ x ≠ [] := by
  unfold ne
  by_cases h : s = []
  · rw [if_pos h]; subst h; simp
  · rw [if_neg h]
    simp
    rintro rfl
    exact h
theorem mem_nes (x : List UInt8) (rs : List (List UInt8 × List UInt8)) : x ∈ nes rs ↔ x ≠ [] ∧ ∃ r ∈ rs, x = r.1 ∨ x = r.2 := by
  unfold nes
  simp only [List.mem_flatMap, List.mem_append, mem_ne]
  constructor
  · rintro ⟨r, hr, ⟨rfl, h⟩ | ⟨rfl, h⟩⟩
    · exact ⟨h, r, hr, .inl rfl⟩
    · exact ⟨h, r, hr, .inr rfl⟩
  · rintro ⟨h, r, hr, rfl | rfl⟩
    · exact ⟨r, hr, .inl ⟨rfl, h⟩⟩
    · exact ⟨r, hr, .inr ⟨rfl, h⟩⟩

/-- bs are the bounds of the ranges. -/
def isB (rs : List (List UInt8 × List UInt8)) (bs : List (List UInt8)) : Prop := rises bs ∧ ∀ x, x ∈ bs ↔ x ∈ nes rs
theorem isB_uniq {rs : List (List UInt8 × List UInt8)} {a b : List (List UInt8)} (ha : isB rs a) (hb : isB rs b) : a = b :=
  rises_uniq a b ha.1 hb.1 fun x => by rw [ha.2, hb.2]
theorem isB_compact (rs : List (List UInt8 × List UInt8)) : isB rs (Lib.compact ((nes rs).mergeSort fun x y => decide (x ≤ y))) := compact_sorted _

theorem nes_len (rs : List (List UInt8 × List UInt8)) : (nes rs).length ≤ 2 * rs.length := by
  induction rs with
  | nil => simp [nes]
  | cons r t ih =>
    have e : nes (r :: t) = (ne r.1 ++ ne r.2) ++ nes t := by simp [nes]
    rw [e, List.length_append, List.length_append, List.length_cons]
    have h1 : ∀ s, (ne s).length ≤ 1 := by intro s; unfold ne; split <;> simp
    have := h1 r.1
    have := h1 r.2
    omega
theorem nes_snoc (rs : List (List UInt8 × List UInt8)) (k : Nat) (h : k < rs.length) : nes (rs.take (k + 1)) = nes (rs.take k) ++ ne rs[k].1 ++ ne rs[k].2 := by
  unfold nes
  rw [List.take_succ_eq_append_getElem h, List.flatMap_append, List.flatMap_singleton, List.append_assoc]

/-- A text put to a row that rises. -/
def isAdd (l : List (List UInt8)) (s : List UInt8) (out : List (List UInt8)) : Prop := rises out ∧ ∀ x, x ∈ out ↔ x ∈ l ∨ x ∈ ne s
theorem isAdd_nil {l : List (List UInt8)} (h : rises l) : isAdd l [] l := ⟨h, fun x => by simp [ne]⟩
theorem isAdd_in {l : List (List UInt8)} {s : List UInt8} (h : rises l) (hs : s ∈ l) : isAdd l s l := ⟨h, fun x => by
  rw [mem_ne]
  constructor
  · exact .inl
  · rintro (hx | ⟨rfl, _⟩)
    · exact hx
    · exact hs⟩
theorem isAdd_mid {l : List (List UInt8)} {s : List UInt8} {p : Nat} (h : rises l) (hs : s ≠ []) (h1 : ∀ j (hj : j < l.length), j < p → Op.bytesLess l[j] s = true) (h2 : ∀ j (hj : j < l.length), p ≤ j → Op.bytesLess s l[j] = true) :
    isAdd l s (l.take p ++ [s] ++ l.drop p) := by
  have hd := List.take_append_drop p l
  have hr : (l.take p ++ l.drop p).Pairwise fun x y => Op.bytesLess x y = true := by rw [hd]; exact h
  obtain ⟨ra, rb, rc⟩ := List.pairwise_append.1 hr
  have m1 : ∀ x ∈ l.take p, Op.bytesLess x s = true := by
    intro x hx
    obtain ⟨j, hj, rfl⟩ := List.getElem_of_mem hx
    simp at hj
    simpa using h1 j (by omega) (by omega)
  have m2 : ∀ x ∈ l.drop p, Op.bytesLess s x = true := by
    intro x hx
    obtain ⟨j, hj, rfl⟩ := List.getElem_of_mem hx
    simp at hj
    simpa using h2 (p + j) (by omega) (by omega)
  refine ⟨?_, fun x => ?_⟩
  · refine List.pairwise_append.2 ⟨List.pairwise_append.2 ⟨ra, by simp, fun a ha b hb => ?_⟩, rb, fun a ha b hb => ?_⟩
    · simp at hb; subst hb; exact m1 a ha
    · rw [List.mem_append] at ha
      rcases ha with ha | ha
      · exact rc a ha b hb
      · simp at ha; subst ha; exact m2 b hb
  · have : x ∈ l ↔ x ∈ l.take p ∨ x ∈ l.drop p := by
      conv => lhs; rw [← hd]
      rw [List.mem_append]
    rw [this, mem_ne]
    simp only [List.mem_append, List.mem_singleton]
    constructor
    · rintro ((a | rfl) | b)
      · exact .inl (.inl a)
      · exact .inr ⟨rfl, hs⟩
      · exact .inl (.inr b)
    · rintro ((a | b) | ⟨rfl, _⟩)
      · exact .inl (.inl a)
      · exact .inr b
      · exact .inl (.inr rfl)
end Go.Proofs.Ythjjidfoclcghaa.Km
/- Ranges that go on from one another. Plain lemmas. -/
namespace Go.Proofs.Ythjjidfoclcghaa
set_option linter.unusedVariables false

namespace Km
def isWord (u : List UInt8) : Prop := ∃ m, run m u ∧ 1 ≤ m ∧ m ≤ 5
theorem word_bound {u : List UInt8} (h : isWord u) : bound u = true := by
  obtain ⟨m, h⟩ := h
  unfold bound
  rw [run_chk h.1]
  simp
  omega
theorem word_ne {u : List UInt8} (h : isWord u) : u ≠ [] := by
  obtain ⟨m, h⟩ := h
  rintro rfl
  have := run_cnt h.1 (low := 0) (by omega)
  rw [cnt_nil] at this
  simp at this
  omega

/-- The ranges from e on. -/
def chainL (e : List UInt8) : List (List UInt8) → List (List UInt8 × List UInt8)
  | [] => [(e, [])]
  | u :: t => (e, u) :: chainL u t
theorem chain_len (e : List UInt8) (us : List (List UInt8)) : (chainL e us).length = us.length + 1 := by
  induction us generalizing e with
  | nil => rfl
  | cons u t ih => simp [chainL, ih]
theorem chain_get (e : List UInt8) (us : List (List UInt8)) (i : Nat) (h : i < (chainL e us).length) :
    (chainL e us)[i] = ((e :: us)[i]'(by rw [chain_len] at h; simpa using h), (us ++ [[]])[i]'(by rw [chain_len] at h; simpa using h)) := by
  induction us generalizing e i with
  | nil =>
    obtain rfl : i = 0 := by simpa [chainL] using h
    rfl
  | cons u t ih =>
    cases i with
    | zero => rfl
    | succ i =>
      have := ih u i (by simpa [chainL] using h)
      simpa [chainL] using this

theorem good_next {e u : List UInt8} (he : bound e = true) (hu : isWord u) (h : Op.bytesLess e u = true) : good e u = true := by
  unfold good
  rw [he, word_bound hu, h]
  simp
theorem good_last {e : List UInt8} (he : bound e = true) : good e [] = true := by
  unfold good
  rw [he]
  rfl
theorem chain_whole (b : Bool) (e : List UInt8) (us : List (List UInt8)) (hb : b = true ∨ e ≠ []) (he : bound e = true) (hw : ∀ u ∈ us, isWord u) (hr : rises (e :: us)) : whGo b e (chainL e us) = true := by
  induction us generalizing b e with
  | nil =>
    have : (b || !e.isEmpty) = true := by
      rcases hb with h | h
      · rw [h]; rfl
      · have : e.isEmpty = false := by simpa using h
        rw [this]; simp
    simp only [chainL, whGo, good_last he, this]
    simp
  | cons u t ih =>
    have hlt : Op.bytesLess e u = true := (List.pairwise_cons.1 hr).1 u (by simp)
    have : (b || !e.isEmpty) = true := by
      rcases hb with h | h
      · rw [h]; rfl
      · have : e.isEmpty = false := by simpa using h
        rw [this]; simp
    simp only [chainL, whGo, good_next he (hw u (by simp)) hlt, this]
    rw [ih false u (.inr (word_ne (hw u (by simp)))) (word_bound (hw u (by simp))) (fun x hx => hw x (by simp [hx])) (List.pairwise_cons.1 hr).2]
    simp
theorem rises_nil {us : List (List UInt8)} (hw : ∀ u ∈ us, isWord u) (hr : rises us) : rises ([] :: us) :=
  List.pairwise_cons.2 ⟨fun u hu => bl_nil_left (word_ne (hw u hu)), hr⟩
theorem one_whole {us : List (List UInt8)} (hw : ∀ u ∈ us, isWord u) (hr : rises us) : whole (chainL [] us) = true := by
  unfold whole
  rw [chain_whole true [] us (.inl rfl) rfl hw (rises_nil hw hr)]
  cases us <;> rfl

theorem mem_chain_nes (e : List UInt8) (us : List (List UInt8)) (hw : ∀ u ∈ us, isWord u) (x : List UInt8) : x ∈ nes (chainL e us) ↔ x ∈ ne e ∨ x ∈ us := by
  induction us generalizing e with
  | nil => simp [chainL, nes, ne]
  | cons u t ih =>
    have e1 : nes (chainL e (u :: t)) = (ne e ++ ne u) ++ nes (chainL u t) := by simp [chainL, nes]
    rw [e1, List.mem_append, List.mem_append, ih u (fun y hy => hw y (by simp [hy])), mem_ne x u]
    have := word_ne (hw u (by simp))
    constructor
    · rintro ((h | ⟨rfl, h⟩) | (⟨rfl, h⟩ | h))
      · exact .inl h
      · exact .inr (by simp)
      · exact .inr (by simp)
      · exact .inr (by simp [h])
    · rintro (h | h)
      · exact .inl (.inl h)
      · rcases List.mem_cons.1 h with rfl | h
        · exact .inl (.inr ⟨rfl, this⟩)
        · exact .inr (.inr h)
theorem one_bounds {us : List (List UInt8)} (hw : ∀ u ∈ us, isWord u) (hr : rises us) : isB (chainL [] us) us :=
  ⟨hr, fun x => by rw [mem_chain_nes [] us hw]; simp [ne]⟩

theorem from_good {us : List (List UInt8)} (hw : ∀ u ∈ us, isWord u) (i : Nat) (h : i < ([] :: us).length) : bound ([] :: us)[i] = true := by
  cases i with
  | zero => rfl
  | succ i => exact word_bound (hw _ (by simp))

/-- Of the ranges just one has a key. -/
theorem one_has {us : List (List UInt8)} (hw : ∀ u ∈ us, isWord u) (hr : rises us) (key : List UInt8) :
    ∃ c, c ≤ us.length ∧ ∀ i (h : i < (chainL [] us).length), has (chainL [] us)[i].1 (chainL [] us)[i].2 key = decide (i = c) := by
  refine ⟨us.findIdx fun u => Op.bytesLess key u, List.findIdx_le_length, fun i h => ?_⟩
  have hlen : i ≤ us.length := by rw [chain_len] at h; omega
  generalize hc : (us.findIdx fun u => Op.bytesLess key u) = c
  have hlow : ∀ j (hj : j < us.length), j < c → Op.bytesLess key us[j] = false := by
    intro j hj hjc
    rw [← hc] at hjc
    have := List.not_of_lt_findIdx hjc
    simpa using this
  have hhigh : ∀ j (hj : j < us.length), c ≤ j → Op.bytesLess key us[j] = true := by
    intro j hj hcj
    have hcl : c < us.length := by omega
    have h1 : Op.bytesLess key us[c] = true := by
      have := List.findIdx_getElem (w := by rw [hc]; exact hcl) (xs := us) (p := fun u => Op.bytesLess key u)
      simpa [hc] using this
    by_cases e : j = c
    · subst e; exact h1
    · exact bl_trans h1 (List.pairwise_iff_getElem.1 hr c j hcl hj (by omega))
  have hcl : c ≤ us.length := by rw [← hc]; exact List.findIdx_le_length
  rw [chain_get]
  unfold has
  have hF : (!Op.bytesLess key (([] :: us)[i]'(by simp; omega))) = decide (i ≤ c) := by
    cases i with
    | zero => simp [bl_nil]
    | succ i =>
      have hi : i < us.length := by omega
      by_cases hic : i < c
      · simp [hlow i hi hic]; omega
      · simp [hhigh i hi (by omega)]; omega
  have hT : (((us ++ [[]])[i]'(by simp; omega)).isEmpty || Op.bytesLess key ((us ++ [[]])[i]'(by simp; omega))) = decide (c ≤ i) := by
    by_cases hi : i < us.length
    · rw [List.getElem_append_left hi]
      have hne : us[i].isEmpty = false := by simpa using word_ne (hw us[i] (by simp))
      by_cases hic : i < c
      · rw [hne, hlow i hi hic]; simp; omega
      · rw [hhigh i hi (by omega)]; simp; omega
    · obtain rfl : i = us.length := by omega
      rw [List.getElem_append_right (by omega)]
      simp
      omega
  rw [hF, hT, Bool.eq_iff_iff]
  simp
  omega

/-- None of them meet. -/
theorem one_meet {us : List (List UInt8)} (hw : ∀ u ∈ us, isWord u) (hr : rises us) (i k : Nat) (hk : k < i) (hi : i < (chainL [] us).length) :
    meet (chainL [] us)[i].1 (chainL [] us)[i].2 ((chainL [] us)[k]'(by omega)).1 ((chainL [] us)[k]'(by omega)).2 = false := by
  have hlen : i ≤ us.length := by rw [chain_len] at hi; omega
  have h1 : has (chainL [] us)[i].1 (chainL [] us)[i].2 ((chainL [] us)[k]'(by omega)).1 = false := by
    rw [chain_get, chain_get]
    unfold has
    have := List.pairwise_iff_getElem.1 (rises_nil hw hr) k i (by simp; omega) (by simp; omega) hk
    rw [this]
    rfl
  have h2 : has ((chainL [] us)[k]'(by omega)).1 ((chainL [] us)[k]'(by omega)).2 (chainL [] us)[i].1 = false := by
    rw [chain_get, chain_get]
    unfold has
    have hk' : k < us.length := by omega
    have e1 : ([] :: us)[i]'(by simp; omega) = us[i - 1]'(by omega) := by
      cases i with
      | zero => omega
      | succ i => simp
    have e2 : (us ++ [[]])[k]'(by simp; omega) = us[k] := List.getElem_append_left hk'
    simp only [e1, e2]
    have hne : us[k].isEmpty = false := by simpa using word_ne (hw us[k] (by simp))
    have hno : Op.bytesLess us[i - 1] us[k] = false := by
      by_cases e : k = i - 1
      · subst e; exact bl_irrefl _
      · exact bl_asymm (List.pairwise_iff_getElem.1 hr k (i - 1) hk' (by omega) (by omega))
    rw [hne, hno]
    simp
  unfold meet
  rw [h1, h2]
  simp

/-- The ranges that were made, and where the next one begins. -/
def preL (e : List UInt8) : List (List UInt8) → List (List UInt8 × List UInt8)
  | [] => []
  | u :: t => (e, u) :: preL u t
def lastL (e : List UInt8) : List (List UInt8) → List UInt8
  | [] => e
  | u :: t => lastL u t
theorem pre_len (e : List UInt8) (us : List (List UInt8)) : (preL e us).length = us.length := by
  induction us generalizing e with
  | nil => rfl
  | cons u t ih => simp [preL, ih]
theorem pre_snoc (e : List UInt8) (us : List (List UInt8)) (u : List UInt8) : preL e (us ++ [u]) = preL e us ++ [(lastL e us, u)] := by
  induction us generalizing e with
  | nil => rfl
  | cons x t ih => simp [preL, lastL, ih]
theorem last_snoc (e : List UInt8) (us : List (List UInt8)) (u : List UInt8) : lastL e (us ++ [u]) = u := by
  induction us generalizing e with
  | nil => rfl
  | cons x t ih => simp [lastL, ih]
theorem pre_chain (e : List UInt8) (us : List (List UInt8)) : chainL e us = preL e us ++ [(lastL e us, [])] := by
  induction us generalizing e with
  | nil => rfl
  | cons x t ih => simp [chainL, preL, lastL, ih]
theorem last_mem (e : List UInt8) (us : List (List UInt8)) : lastL e us = e ∨ lastL e us ∈ us := by
  induction us generalizing e with
  | nil => exact .inl rfl
  | cons x t ih =>
    rcases ih x with h | h
    · right; simp [lastL, h]
    · right; simp [lastL, h]
theorem last_ge (e : List UInt8) (us : List (List UInt8)) (h : rises (e :: us)) : ∀ x ∈ e :: us, x = lastL e us ∨ Op.bytesLess x (lastL e us) = true := by
  induction us generalizing e with
  | nil => intro x hx; left; simpa [lastL] using hx
  | cons u t ih =>
    intro x hx
    obtain ⟨h1, h2⟩ := List.pairwise_cons.1 h
    rcases List.mem_cons.1 hx with rfl | hx
    · right
      rcases ih u h2 u (by simp) with e1 | e1
      · have := h1 u (by simp)
        show Op.bytesLess x (lastL u t) = true
        rw [← e1]
        exact this
      · exact bl_trans (h1 u (by simp)) e1
    · exact ih u h2 x hx
theorem rises_snoc {us : List (List UInt8)} {u : List UInt8} (hw : ∀ x ∈ us, isWord x) (hr : rises us) (h : Op.bytesLess (lastL [] us) u = true) : rises (us ++ [u]) := by
  refine List.pairwise_append.2 ⟨hr, by simp, fun a ha b hb => ?_⟩
  simp at hb
  subst hb
  rcases last_ge [] us (rises_nil hw hr) a (by simp [ha]) with e | e
  · rw [e]; exact h
  · exact bl_trans e h
end Km
end Go.Proofs.Ythjjidfoclcghaa
/- A variable of a row's type whose slices are the call's own, and grow. -/
namespace Go.Proofs.Ythjjidfoclcghaa
open Go.RowKit
set_option linter.unusedVariables false
set_option linter.unusedSimpArgs false

theorem cell_put7 {w : World} {b i j : Nat} {x y : Value} (hne : j ≠ i) (h : w.cell? ⟨b, i, none⟩ = some y) : (w.setCell ⟨b, j, none⟩ x).cell? ⟨b, i, none⟩ = some y := by
  rw [World.cell?_setCell_other _ _ _ _ (by simp [hne])]; exact h
theorem VrP.put0 {w : World} {b : Nat} {u0 u1 u2 : Value} (h : VrP w b u0 u1 u2) (x : Value) : VrP (w.setCell ⟨b, 0, none⟩ x) b x u1 u2 :=
  ⟨World.cell?_setCell_same _ _ _ h.c0, cell_put7 (by decide) h.c1, cell_put7 (by decide) h.c2, fun j hj => by simpa using h.f j hj⟩
theorem VrP.put1 {w : World} {b : Nat} {u0 u1 u2 : Value} (h : VrP w b u0 u1 u2) (x : Value) : VrP (w.setCell ⟨b, 1, none⟩ x) b u0 x u2 :=
  ⟨cell_put7 (by decide) h.c0, World.cell?_setCell_same _ _ _ h.c1, cell_put7 (by decide) h.c2, fun j hj => by simpa using h.f j hj⟩
theorem VrP.put2 {w : World} {b : Nat} {u0 u1 u2 : Value} (h : VrP w b u0 u1 u2) (x : Value) : VrP (w.setCell ⟨b, 2, none⟩ x) b u0 u1 x :=
  ⟨cell_put7 (by decide) h.c0, cell_put7 (by decide) h.c1, World.cell?_setCell_same _ _ _ h.c2, fun j hj => by simpa using h.f j hj⟩

/-- The variable lies at B; its slices' blocks are none of B, and each its own. -/
structure RwV (base B : Nat) (w : World) (u0 u1 u2 : Value) (c : Rw) : Prop where
  v : VrP w B u0 u1 u2
  r : OwnR KR w base u0 c.rs
  o : OwnR KI w base u1 c.ow
  p : OwnR KI w base u2 c.pa
  b : base ≤ B
  n0 : u0.ownBlock ≠ some B
  n1 : u1.ownBlock ≠ some B
  n2 : u2.ownBlock ≠ some B
  d01 : ∀ g, u0.ownBlock = some g → u1.ownBlock ≠ some g
  d02 : ∀ g, u0.ownBlock = some g → u2.ownBlock ≠ some g
  d12 : ∀ g, u1.ownBlock = some g → u2.ownBlock ≠ some g
/-- What an append leaves of another row. -/
theorem OwnR.kept7 {α β : Type} {K : RK α} {w w' : World} {base : Nat} {v u : Value} {l : List α} (h : OwnR K w base v l) (hk : KeptD u w w') (hd : ∀ g, v.ownBlock = some g → u.ownBlock ≠ some g) : OwnR K w' base v l :=
  h.block (fun g e => hk g (h.lt g e).2 (hd g e))
theorem OwnR.put7 {α : Type} {K : RK α} {w : World} {base B o : Nat} {v x : Value} {l : List α} (h : OwnR K w base v l) (hne : v.ownBlock ≠ some B) : OwnR K (w.setCell ⟨B, o, none⟩ x) base v l :=
  h.block (fun g e => Below.heap_setCell _ _ _ _ (fun e' => hne (by rw [e]; exact congrArg some e')))
theorem RwV.put0 {base B : Nat} {wr w2 : World} {u0 u1 u2 u0' : Value} {c : Rw} {l : List (ByteArray × ByteArray)} (h : RwV base B wr u0 u1 u2 c) (ho : OwnR KR w2 base u0' l) (hk : KeptD u0 wr w2) (hat : ∀ g, u0'.ownBlock = some g → u0.ownBlock = some g ∨ wr.heap.size ≤ g) :
    RwV base B (w2.setCell ⟨B, 0, none⟩ u0') u0' u1 u2 ⟨l, c.ow, c.pa⟩ := by
  have hn0 : u0'.ownBlock ≠ some B := fun e => by
    rcases hat B e with h1 | h1
    · exact h.n0 h1
    · have := h.v.lt; omega
  have hn : ∀ g, u0'.ownBlock = some g → ∀ (v : Value), (∀ g, u0.ownBlock = some g → v.ownBlock ≠ some g) → (∀ g, v.ownBlock = some g → g < wr.heap.size) → v.ownBlock ≠ some g := by
    intro g e v h1 h2 e2
    rcases hat g e with h3 | h3
    · exact h1 g h3 e2
    · have := h2 g e2; omega
  refine ⟨(h.v.block (hk B h.v.lt h.n0)).put0 u0', ho.put7 hn0, ?_, ?_, h.b, hn0, h.n1, h.n2, ?_, ?_, h.d12⟩
  · exact (OwnR.kept7 (β := Nat) h.o hk (fun g e e' => h.d01 g e' e)).put7 h.n1
  · exact (OwnR.kept7 (β := Nat) h.p hk (fun g e e' => h.d02 g e' e)).put7 h.n2
  · exact fun g e => hn g e u1 h.d01 (fun g e => (h.o.lt g e).2)
  · exact fun g e => hn g e u2 h.d02 (fun g e => (h.p.lt g e).2)
theorem RwV.put1 {base B : Nat} {wr w2 : World} {u0 u1 u2 u1' : Value} {c : Rw} {l : List Int} (h : RwV base B wr u0 u1 u2 c) (ho : OwnR KI w2 base u1' l) (hk : KeptD u1 wr w2) (hat : ∀ g, u1'.ownBlock = some g → u1.ownBlock = some g ∨ wr.heap.size ≤ g) :
    RwV base B (w2.setCell ⟨B, 1, none⟩ u1') u0 u1' u2 ⟨c.rs, l, c.pa⟩ := by
  have hn1 : u1'.ownBlock ≠ some B := fun e => by
    rcases hat B e with h1 | h1
    · exact h.n1 h1
    · have := h.v.lt; omega
  have hn : ∀ g, u1'.ownBlock = some g → ∀ (v : Value), (∀ g, u1.ownBlock = some g → v.ownBlock ≠ some g) → (∀ g, v.ownBlock = some g → g < wr.heap.size) → v.ownBlock ≠ some g := by
    intro g e v h1 h2 e2
    rcases hat g e with h3 | h3
    · exact h1 g h3 e2
    · have := h2 g e2; omega
  refine ⟨(h.v.block (hk B h.v.lt h.n1)).put1 u1', ?_, ho.put7 hn1, ?_, h.b, h.n0, hn1, h.n2, ?_, h.d02, ?_⟩
  · exact (OwnR.kept7 (β := Nat) h.r hk (fun g e e' => h.d01 g e e')).put7 h.n0
  · exact (OwnR.kept7 (β := Nat) h.p hk (fun g e e' => h.d12 g e' e)).put7 h.n2
  · exact fun g e e' => hn g e' u0 (fun g a b => h.d01 g b a) (fun g e => (h.r.lt g e).2) e
  · exact fun g e => hn g e u2 h.d12 (fun g e => (h.p.lt g e).2)
theorem RwV.put2 {base B : Nat} {wr w2 : World} {u0 u1 u2 u2' : Value} {c : Rw} {l : List Int} (h : RwV base B wr u0 u1 u2 c) (ho : OwnR KI w2 base u2' l) (hk : KeptD u2 wr w2) (hat : ∀ g, u2'.ownBlock = some g → u2.ownBlock = some g ∨ wr.heap.size ≤ g) :
    RwV base B (w2.setCell ⟨B, 2, none⟩ u2') u0 u1 u2' ⟨c.rs, c.ow, l⟩ := by
  have hn2 : u2'.ownBlock ≠ some B := fun e => by
    rcases hat B e with h1 | h1
    · exact h.n2 h1
    · have := h.v.lt; omega
  have hn : ∀ g, u2'.ownBlock = some g → ∀ (v : Value), (∀ g, u2.ownBlock = some g → v.ownBlock ≠ some g) → (∀ g, v.ownBlock = some g → g < wr.heap.size) → v.ownBlock ≠ some g := by
    intro g e v h1 h2 e2
    rcases hat g e with h3 | h3
    · exact h1 g h3 e2
    · have := h2 g e2; omega
  refine ⟨(h.v.block (hk B h.v.lt h.n2)).put2 u2', ?_, ?_, ho.put7 hn2, h.b, h.n0, h.n1, hn2, h.d01, ?_, ?_⟩
  · exact (OwnR.kept7 (β := Nat) h.r hk (fun g e e' => h.d02 g e e')).put7 h.n0
  · exact (OwnR.kept7 (β := Nat) h.o hk (fun g e e' => h.d12 g e e')).put7 h.n1
  · exact fun g e e' => hn g e' u0 (fun g a b => h.d02 g b a) (fun g e => (h.r.lt g e).2) e
  · exact fun g e e' => hn g e' u1 (fun g a b => h.d12 g b a) (fun g e => (h.o.lt g e).2) e
theorem RwV.below {base B : Nat} {w w' : World} {u0 u1 u2 : Value} {c : Rw} (h : RwV base B w u0 u1 u2 c) (hb : Below w.heap.size w w') : RwV base B w' u0 u1 u2 c :=
  ⟨h.v.keep hb, h.r.below hb, h.o.below hb, h.p.below hb, h.b, h.n0, h.n1, h.n2, h.d01, h.d02, h.d12⟩
theorem RwV.nil (w : World) (T : TypeId) (base : Nat) (hb : base ≤ w.heap.size) : RwV base w.heap.size (w.alloc (.cells #[.slice none 0 0, .slice none 0 0, .slice none 0 0] T)) (.slice none 0 0) (.slice none 0 0) (.slice none 0 0) ⟨[], [], []⟩ :=
  ⟨VrP.new w _ _ _ T, OwnR.nil _ _ _, OwnR.nil _ _ _, OwnR.nil _ _ _, hb, by simp [Value.ownBlock], by simp [Value.ownBlock], by simp [Value.ownBlock], by simp [Value.ownBlock], by simp [Value.ownBlock], by simp [Value.ownBlock]⟩
theorem RwV.at {base B : Nat} {w : World} {u0 u1 u2 : Value} {c : Rw} (h : RwV base B w u0 u1 u2 c) (hz : Szs c.rs) : RwAt w u0 u1 u2 c :=
  ⟨RowAt.of_own kr_ok h.r, RowAt.of_own ki_ok h.o, RowAt.of_own ki_ok h.p, hz⟩
/-- A row whose slices are the call's own. -/
structure RwO (base : Nat) (w : World) (u0 u1 u2 : Value) (c : Rw) : Prop where
  r : OwnR KR w base u0 c.rs
  o : OwnR KI w base u1 c.ow
  p : OwnR KI w base u2 c.pa
  sz : Szs c.rs
theorem RwO.at {base : Nat} {w : World} {u0 u1 u2 : Value} {c : Rw} (h : RwO base w u0 u1 u2 c) : RwAt w u0 u1 u2 c :=
  ⟨RowAt.of_own kr_ok h.r, RowAt.of_own ki_ok h.o, RowAt.of_own ki_ok h.p, h.sz⟩
theorem RwO.below {base : Nat} {w w' : World} {u0 u1 u2 : Value} {c : Rw} (h : RwO base w u0 u1 u2 c) (hb : Below w.heap.size w w') : RwO base w' u0 u1 u2 c :=
  ⟨h.r.below hb, h.o.below hb, h.p.below hb, h.sz⟩
theorem RwO.mono {base base' : Nat} {w : World} {u0 u1 u2 : Value} {c : Rw} (h : RwO base w u0 u1 u2 c) (hb : base' ≤ base) : RwO base' w u0 u1 u2 c :=
  ⟨h.r.mono hb, h.o.mono hb, h.p.mono hb, h.sz⟩
theorem RwO.put {base B o : Nat} {w : World} {u0 u1 u2 : Value} {c : Rw} (h : RwO base w u0 u1 u2 c) (hb : B < base) (x : Value) : RwO base (w.setCell ⟨B, o, none⟩ x) u0 u1 u2 c :=
  ⟨h.r.put7 (h.r.lo hb), h.o.put7 (h.o.lo hb), h.p.put7 (h.p.lo hb), h.sz⟩
theorem own_at7 {a : Nat} {n c : Nat} : ∀ g, (Value.slice (some ⟨a, 0, none⟩) n c).ownBlock = some g → g = a := by
  intro g h
  simp [Value.ownBlock] at h
  exact h.symm
end Go.Proofs.Ythjjidfoclcghaa
