/- Ranges that go on from one another. Plain lemmas. -/
import Derived.Test.YtllagelopdedfaaKeysWhole
import Derived.Test.YtllagelopdedfaaKeysRunesMath
import Derived.Test.YtllagelopdedfaaKeysSets
namespace Go.Proofs.Ytllagelopdedfaa
set_option linter.unusedVariables false

namespace Km
def isWord (u : List UInt8) : Prop := ∃ m, run m u ∧ 1 ≤ m ∧ m ≤ 5
theorem word_bound {u : List UInt8} (h : isWord u) : bound u = true := by
  obtain ⟨m, h⟩ := h
  unfold bound
  rw [run_chk h.1]
  simp
  omega
theorem word_ne {u : List UInt8} (h : isWord u) : u ≠ [] := by
  obtain ⟨m, h⟩ := h
  rintro rfl
  have := run_cnt h.1 (low := 0) (by omega)
  rw [cnt_nil] at this
  simp at this
  omega

/-- The ranges from e on. -/
def chainL (e : List UInt8) : List (List UInt8) → List (List UInt8 × List UInt8)
  | [] => [(e, [])]
  | u :: t => (e, u) :: chainL u t
theorem chain_len (e : List UInt8) (us : List (List UInt8)) : (chainL e us).length = us.length + 1 := by
  induction us generalizing e with
  | nil => rfl
  | cons u t ih => simp [chainL, ih]
theorem chain_get (e : List UInt8) (us : List (List UInt8)) (i : Nat) (h : i < (chainL e us).length) :
    (chainL e us)[i] = ((e :: us)[i]'(by rw [chain_len] at h; simpa using h), (us ++ [[]])[i]'(by rw [chain_len] at h; simpa using h)) := by
  induction us generalizing e i with
  | nil =>
    obtain rfl : i = 0 := by simpa [chainL] using h
    rfl
  | cons u t ih =>
    cases i with
    | zero => rfl
    | succ i =>
      have := ih u i (by simpa [chainL] using h)
      simpa [chainL] using this

theorem good_next {e u : List UInt8} (he : bound e = true) (hu : isWord u) (h : Op.bytesLess e u = true) : good e u = true := by
  unfold good
  rw [he, word_bound hu, h]
  simp
theorem good_last {e : List UInt8} (he : bound e = true) : good e [] = true := by
  unfold good
  rw [he]
  rfl
theorem chain_whole (b : Bool) (e : List UInt8) (us : List (List UInt8)) (hb : b = true ∨ e ≠ []) (he : bound e = true) (hw : ∀ u ∈ us, isWord u) (hr : rises (e :: us)) : whGo b e (chainL e us) = true := by
  induction us generalizing b e with
  | nil =>
    have : (b || !e.isEmpty) = true := by
      rcases hb with h | h
      · rw [h]; rfl
      · have : e.isEmpty = false := by simpa using h
        rw [this]; simp
    simp only [chainL, whGo, good_last he, this]
    simp
  | cons u t ih =>
    have hlt : Op.bytesLess e u = true := (List.pairwise_cons.1 hr).1 u (by simp)
    have : (b || !e.isEmpty) = true := by
      rcases hb with h | h
      · rw [h]; rfl
      · have : e.isEmpty = false := by simpa using h
        rw [this]; simp
    simp only [chainL, whGo, good_next he (hw u (by simp)) hlt, this]
    rw [ih false u (.inr (word_ne (hw u (by simp)))) (word_bound (hw u (by simp))) (fun x hx => hw x (by simp [hx])) (List.pairwise_cons.1 hr).2]
    simp
theorem rises_nil {us : List (List UInt8)} (hw : ∀ u ∈ us, isWord u) (hr : rises us) : rises ([] :: us) :=
  List.pairwise_cons.2 ⟨fun u hu => bl_nil_left (word_ne (hw u hu)), hr⟩
theorem one_whole {us : List (List UInt8)} (hw : ∀ u ∈ us, isWord u) (hr : rises us) : whole (chainL [] us) = true := by
  unfold whole
  rw [chain_whole true [] us (.inl rfl) rfl hw (rises_nil hw hr)]
  cases us <;> rfl

theorem mem_chain_nes (e : List UInt8) (us : List (List UInt8)) (hw : ∀ u ∈ us, isWord u) (x : List UInt8) : x ∈ nes (chainL e us) ↔ x ∈ ne e ∨ x ∈ us := by
  induction us generalizing e with
  | nil => simp [chainL, nes, ne]
  | cons u t ih =>
    have e1 : nes (chainL e (u :: t)) = (ne e ++ ne u) ++ nes (chainL u t) := by simp [chainL, nes]
    rw [e1, List.mem_append, List.mem_append, ih u (fun y hy => hw y (by simp [hy])), mem_ne x u]
    have := word_ne (hw u (by simp))
    constructor
    · rintro ((h | ⟨rfl, h⟩) | (⟨rfl, h⟩ | h))
      · exact .inl h
      · exact .inr (by simp)
      · exact .inr (by simp)
      · exact .inr (by simp [h])
    · rintro (h | h)
      · exact .inl (.inl h)
      · rcases List.mem_cons.1 h with rfl | h
        · exact .inl (.inr ⟨rfl, this⟩)
        · exact .inr (.inr h)
theorem one_bounds {us : List (List UInt8)} (hw : ∀ u ∈ us, isWord u) (hr : rises us) : isB (chainL [] us) us :=
  ⟨hr, fun x => by rw [mem_chain_nes [] us hw]; simp [ne]⟩

theorem from_good {us : List (List UInt8)} (hw : ∀ u ∈ us, isWord u) (i : Nat) (h : i < ([] :: us).length) : bound ([] :: us)[i] = true := by
  cases i with
  | zero => rfl
  | succ i => exact word_bound (hw _ (by simp))

/-- Of the ranges just one has a key. -/
theorem one_has {us : List (List UInt8)} (hw : ∀ u ∈ us, isWord u) (hr : rises us) (key : List UInt8) :
    ∃ c, c ≤ us.length ∧ ∀ i (h : i < (chainL [] us).length), has (chainL [] us)[i].1 (chainL [] us)[i].2 key = decide (i = c) := by
  refine ⟨us.findIdx fun u => Op.bytesLess key u, List.findIdx_le_length, fun i h => ?_⟩
  have hlen : i ≤ us.length := by rw [chain_len] at h; omega
  generalize hc : (us.findIdx fun u => Op.bytesLess key u) = c
  have hlow : ∀ j (hj : j < us.length), j < c → Op.bytesLess key us[j] = false := by
    intro j hj hjc
    rw [← hc] at hjc
    have := List.not_of_lt_findIdx hjc
    simpa using this
  have hhigh : ∀ j (hj : j < us.length), c ≤ j → Op.bytesLess key us[j] = true := by
    intro j hj hcj
    have hcl : c < us.length := by omega
    have h1 : Op.bytesLess key us[c] = true := by
      have := List.findIdx_getElem (w := by rw [hc]; exact hcl) (xs := us) (p := fun u => Op.bytesLess key u)
      simpa [hc] using this
    by_cases e : j = c
    · subst e; exact h1
    · exact bl_trans h1 (List.pairwise_iff_getElem.1 hr c j hcl hj (by omega))
  have hcl : c ≤ us.length := by rw [← hc]; exact List.findIdx_le_length
  rw [chain_get]
  unfold has
  have hF : (!Op.bytesLess key (([] :: us)[i]'(by simp; omega))) = decide (i ≤ c) := by
    cases i with
    | zero => simp [bl_nil]
    | succ i =>
      have hi : i < us.length := by omega
      by_cases hic : i < c
      · simp [hlow i hi hic]; omega
      · simp [hhigh i hi (by omega)]; omega
  have hT : (((us ++ [[]])[i]'(by simp; omega)).isEmpty || Op.bytesLess key ((us ++ [[]])[i]'(by simp; omega))) = decide (c ≤ i) := by
    by_cases hi : i < us.length
    · rw [List.getElem_append_left hi]
      have hne : us[i].isEmpty = false := by simpa using word_ne (hw us[i] (by simp))
      by_cases hic : i < c
      · rw [hne, hlow i hi hic]; simp; omega
      · rw [hhigh i hi (by omega)]; simp; omega
    · obtain rfl : i = us.length := by omega
      rw [List.getElem_append_right (by omega)]
      simp
      omega
  rw [hF, hT, Bool.eq_iff_iff]
  simp
  omega

/-- None of them meet. -/
theorem one_meet {us : List (List UInt8)} (hw : ∀ u ∈ us, isWord u) (hr : rises us) (i k : Nat) (hk : k < i) (hi : i < (chainL [] us).length) :
    meet (chainL [] us)[i].1 (chainL [] us)[i].2 ((chainL [] us)[k]'(by omega)).1 ((chainL [] us)[k]'(by omega)).2 = false := by
  have hlen : i ≤ us.length := by rw [chain_len] at hi; omega
  have h1 : has (chainL [] us)[i].1 (chainL [] us)[i].2 ((chainL [] us)[k]'(by omega)).1 = false := by
    rw [chain_get, chain_get]
    unfold has
    have := List.pairwise_iff_getElem.1 (rises_nil hw hr) k i (by simp; omega) (by simp; omega) hk
    rw [this]
    rfl
  have h2 : has ((chainL [] us)[k]'(by omega)).1 ((chainL [] us)[k]'(by omega)).2 (chainL [] us)[i].1 = false := by
    rw [chain_get, chain_get]
    unfold has
    have hk' : k < us.length := by omega
    have e1 : ([] :: us)[i]'(by simp; omega) = us[i - 1]'(by omega) := by
      cases i with
      | zero => omega
      | succ i => simp
    have e2 : (us ++ [[]])[k]'(by simp; omega) = us[k] := List.getElem_append_left hk'
    simp only [e1, e2]
    have hne : us[k].isEmpty = false := by simpa using word_ne (hw us[k] (by simp))
    have hno : Op.bytesLess us[i - 1] us[k] = false := by
      by_cases e : k = i - 1
      · subst e; exact bl_irrefl _
      · exact bl_asymm (List.pairwise_iff_getElem.1 hr k (i - 1) hk' (by omega) (by omega))
    rw [hne, hno]
    simp
  unfold meet
  rw [h1, h2]
  simp

/-- The ranges that were made, and where the next one begins. -/
def preL (e : List UInt8) : List (List UInt8) → List (List UInt8 × List UInt8)
  | [] => []
  | u :: t => (e, u) :: preL u t
def lastL (e : List UInt8) : List (List UInt8) → List UInt8
  | [] => e
  | u :: t => lastL u t
theorem pre_len (e : List UInt8) (us : List (List UInt8)) : (preL e us).length = us.length := by
  induction us generalizing e with
  | nil => rfl
  | cons u t ih => simp [preL, ih]
theorem pre_snoc (e : List UInt8) (us : List (List UInt8)) (u : List UInt8) : preL e (us ++ [u]) = preL e us ++ [(lastL e us, u)] := by
  induction us generalizing e with
  | nil => rfl
  | cons x t ih => simp [preL, lastL, ih]
theorem last_snoc (e : List UInt8) (us : List (List UInt8)) (u : List UInt8) : lastL e (us ++ [u]) = u := by
  induction us generalizing e with
  | nil => rfl
  | cons x t ih => simp [lastL, ih]
theorem pre_chain (e : List UInt8) (us : List (List UInt8)) : chainL e us = preL e us ++ [(lastL e us, [])] := by
  induction us generalizing e with
  | nil => rfl
  | cons x t ih => simp [chainL, preL, lastL, ih]
theorem last_mem (e : List UInt8) (us : List (List UInt8)) : lastL e us = e ∨ lastL e us ∈ us := by
  induction us generalizing e with
  | nil => exact .inl rfl
  | cons x t ih =>
    rcases ih x with h | h
    · right; simp [lastL, h]
    · right; simp [lastL, h]
theorem last_ge (e : List UInt8) (us : List (List UInt8)) (h : rises (e :: us)) : ∀ x ∈ e :: us, x = lastL e us ∨ Op.bytesLess x (lastL e us) = true := by
  induction us generalizing e with
  | nil => intro x hx; left; simpa [lastL] using hx
  | cons u t ih =>
    intro x hx
    obtain ⟨h1, h2⟩ := List.pairwise_cons.1 h
    rcases List.mem_cons.1 hx with rfl | hx
    · right
      rcases ih u h2 u (by simp) with e1 | e1
      · have := h1 u (by simp)
        show Op.bytesLess x (lastL u t) = true
        rw [← e1]
        exact this
      · exact bl_trans (h1 u (by simp)) e1
    · exact ih u h2 x hx
theorem rises_snoc {us : List (List UInt8)} {u : List UInt8} (hw : ∀ x ∈ us, isWord x) (hr : rises us) (h : Op.bytesLess (lastL [] us) u = true) : rises (us ++ [u]) := by
  refine List.pairwise_append.2 ⟨hr, by simp, fun a ha b hb => ?_⟩
  simp at hb
  subst hb
  rcases last_ge [] us (rises_nil hw hr) a (by simp [ha]) with e | e
  · rw [e]; exact h
  · exact bl_trans e h
end Km
end Go.Proofs.Ytllagelopdedfaa
