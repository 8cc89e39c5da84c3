/- Rows of texts that rise. Plain lemmas: they speak of no one program. -/
import Derived.Test.YtllagelopdedfaaKeysOrd
import Derived.Lib.SlicesCompact
namespace Go.Proofs.Ytllagelopdedfaa.Km
set_option linter.unusedVariables false

def rises (l : List (List UInt8)) : Prop := l.Pairwise fun x y => Op.bytesLess x y = true

theorem rises_uniq : ∀ (a b : List (List UInt8)), rises a → rises b → (∀ x, x ∈ a ↔ x ∈ b) → a = b
  | [], [], _, _, _ => rfl
  | [], y :: b, _, _, h => by
    have := (h y).2 (by simp)
    simp at this
  | x :: a, [], _, _, h => by
    have := (h x).1 (by simp)
    simp at this
  | x :: a, y :: b, ha, hb, h => by
    obtain ⟨ha1, ha2⟩ := List.pairwise_cons.1 ha
    obtain ⟨hb1, hb2⟩ := List.pairwise_cons.1 hb
    have e : x = y := by
      have hx : x = y ∨ x ∈ b := by simpa using (h x).1 (by simp)
      have hy : y = x ∨ y ∈ a := by simpa using (h y).2 (by simp)
      rcases hx with hx | hx
      · exact hx
      · rcases hy with hy | hy
        · exact hy.symm
        · have h1 := hb1 x hx
          have h2 := ha1 y hy
          rw [bl_asymm h1] at h2
          cases h2
    subst e
    congr 1
    refine rises_uniq a b ha2 hb2 fun z => ?_
    have hz := h z
    simp only [List.mem_cons] at hz
    constructor
    · intro hm
      rcases hz.1 (.inr hm) with rfl | hr
      · have := ha1 z hm
        rw [bl_irrefl] at this
        cases this
      · exact hr
    · intro hm
      rcases hz.2 (.inr hm) with rfl | hr
      · have := hb1 z hm
        rw [bl_irrefl] at this
        cases this
      · exact hr

theorem le_eq (x y : List UInt8) : decide (x ≤ y) = !Op.bytesLess y x := by
  rw [bl_eq, Bool.eq_iff_iff]
  simp

theorem sorted_ge (l : List (List UInt8)) : (l.mergeSort fun x y => decide (x ≤ y)).Pairwise fun x y => Op.bytesLess y x = false := by
  have h := List.pairwise_mergeSort (le := fun x y : List UInt8 => decide (x ≤ y))
    (fun a b c h1 h2 => by
      rw [le_eq] at *
      simp at *
      exact bl_le_trans h1 h2)
    (fun a b => by
      rw [le_eq, le_eq]
      cases h1 : Op.bytesLess b a with
      | false => simp
      | true => simp [bl_asymm h1]) l
  refine h.imp ?_
  intro a b hab
  rw [le_eq] at hab
  simpa using hab

theorem compact_inv (d : Array (List UInt8)) (hs : ∀ i j, i < j → j < d.size → Op.bytesLess d[j]! d[i]! = false) : ∀ m, m ≤ d.size →
    rises (Lib.compactUpTo d m) ∧ (∀ x, x ∈ Lib.compactUpTo d m ↔ ∃ j, j < m ∧ x = d[j]!)
  | 0, _ => by simp [Lib.compactUpTo, rises]
  | m + 1, hm => by
    obtain ⟨ih1, ih2⟩ := compact_inv d hs m (by omega)
    rw [Lib.compactUpTo_succ]
    by_cases hk : Lib.keeps d m = true
    · rw [if_pos hk]
      refine ⟨?_, fun x => ?_⟩
      · refine List.pairwise_append.2 ⟨ih1, by simp, fun a ha b hb => ?_⟩
        simp at hb
        subst hb
        obtain ⟨j, hj, rfl⟩ := (ih2 a).1 ha
        have hm0 : 0 < m := by omega
        have hne : d[m]! ≠ d[m - 1]! := by
          unfold Lib.keeps at hk
          simp at hk
          rcases hk with h | h
          · omega
          · exact h
        have h1 : Op.bytesLess d[m - 1]! d[m]! = true := by
          cases hc : Op.bytesLess d[m - 1]! d[m]! with
          | true => rfl
          | false => exact absurd (bl_tri (hs (m - 1) m (by omega) (by omega)) hc) hne
        by_cases e : j = m - 1
        · subst e; exact h1
        · exact bl_le_lt (hs j (m - 1) (by omega) (by omega)) h1
      · rw [List.mem_append, ih2]
        constructor
        · rintro (⟨j, hj, rfl⟩ | h)
          · exact ⟨j, by omega, rfl⟩
          · simp at h; exact ⟨m, by omega, h⟩
        · rintro ⟨j, hj, rfl⟩
          by_cases e : j = m
          · subst e; right; simp
          · left; exact ⟨j, by omega, rfl⟩
    · rw [if_neg hk, List.append_nil]
      refine ⟨ih1, fun x => ?_⟩
      rw [ih2]
      constructor
      · rintro ⟨j, hj, rfl⟩
        exact ⟨j, by omega, rfl⟩
      · rintro ⟨j, hj, rfl⟩
        by_cases e : j = m
        · subst e
          have hk' : ¬ (j = 0 ∨ d[j]! ≠ d[j - 1]!) := by
            unfold Lib.keeps at hk
            simpa using hk
          refine ⟨j - 1, by omega, ?_⟩
          exact Classical.byContradiction fun h => hk' (.inr h)
        · exact ⟨j, by omega, rfl⟩

theorem compact_sorted (l : List (List UInt8)) : rises (Lib.compact (l.mergeSort fun x y => decide (x ≤ y))) ∧ ∀ x, x ∈ Lib.compact (l.mergeSort fun x y => decide (x ≤ y)) ↔ x ∈ l := by
  have hp := sorted_ge l
  have hm : ∀ x, x ∈ (l.mergeSort fun x y => decide (x ≤ y)) ↔ x ∈ l := fun x => (List.mergeSort_perm l _).mem_iff
  generalize (l.mergeSort fun x y => decide (x ≤ y)) = s at hp hm
  unfold Lib.compact
  have hs : ∀ i j, i < j → j < s.toArray.size → Op.bytesLess s.toArray[j]! s.toArray[i]! = false := by
    intro i j hij hj
    have hj' : j < s.length := by simpa using hj
    have := List.pairwise_iff_getElem.1 hp i j (by omega) hj' hij
    rw [getElem!_pos _ j hj, getElem!_pos _ i (by omega)]
    simpa using this
  obtain ⟨h1, h2⟩ := compact_inv s.toArray hs s.length (by simp)
  refine ⟨h1, fun x => ?_⟩
  rw [h2, ← hm]
  constructor
  · rintro ⟨j, hj, rfl⟩
    rw [getElem!_pos _ j (by simpa using hj)]
    simp
  · intro hx
    obtain ⟨j, hj, rfl⟩ := List.getElem_of_mem hx
    exact ⟨j, hj, by rw [getElem!_pos _ j (by simpa using hj)]; simp⟩

/-- What stands in a range's bounds that is something. -/
def ne (s : List UInt8) : List (List UInt8) := if s = [] then [] else [s]
def nes (rs : List (List UInt8 × List UInt8)) : List (List UInt8) := rs.flatMap fun r => ne r.1 ++ ne r.2
theorem mem_ne (x s : List UInt8) : x ∈ ne s ↔ x = s ∧ x ≠ [] := by
  unfold ne
  by_cases h : s = []
  · rw [if_pos h]; subst h; simp
  · rw [if_neg h]
    simp
    rintro rfl
    exact h
theorem mem_nes (x : List UInt8) (rs : List (List UInt8 × List UInt8)) : x ∈ nes rs ↔ x ≠ [] ∧ ∃ r ∈ rs, x = r.1 ∨ x = r.2 := by
  unfold nes
  simp only [List.mem_flatMap, List.mem_append, mem_ne]
  constructor
  · rintro ⟨r, hr, ⟨rfl, h⟩ | ⟨rfl, h⟩⟩
    · exact ⟨h, r, hr, .inl rfl⟩
    · exact ⟨h, r, hr, .inr rfl⟩
  · rintro ⟨h, r, hr, rfl | rfl⟩
    · exact ⟨r, hr, .inl ⟨rfl, h⟩⟩
    · exact ⟨r, hr, .inr ⟨rfl, h⟩⟩

/-- bs are the bounds of the ranges. -/
def isB (rs : List (List UInt8 × List UInt8)) (bs : List (List UInt8)) : Prop := rises bs ∧ ∀ x, x ∈ bs ↔ x ∈ nes rs
theorem isB_uniq {rs : List (List UInt8 × List UInt8)} {a b : List (List UInt8)} (ha : isB rs a) (hb : isB rs b) : a = b :=
  rises_uniq a b ha.1 hb.1 fun x => by rw [ha.2, hb.2]
theorem isB_compact (rs : List (List UInt8 × List UInt8)) : isB rs (Lib.compact ((nes rs).mergeSort fun x y => decide (x ≤ y))) := compact_sorted _

theorem nes_len (rs : List (List UInt8 × List UInt8)) : (nes rs).length ≤ 2 * rs.length := by
  induction rs with
  | nil => simp [nes]
  | cons r t ih =>
    have e : nes (r :: t) = (ne r.1 ++ ne r.2) ++ nes t := by simp [nes]
    rw [e, List.length_append, List.length_append, List.length_cons]
    have h1 : ∀ s, (ne s).length ≤ 1 := by intro s; unfold ne; split <;> simp
    have := h1 r.1
    have := h1 r.2
    omega
theorem nes_snoc (rs : List (List UInt8 × List UInt8)) (k : Nat) (h : k < rs.length) : nes (rs.take (k + 1)) = nes (rs.take k) ++ ne rs[k].1 ++ ne rs[k].2 := by
  unfold nes
  rw [List.take_succ_eq_append_getElem h, List.flatMap_append, List.flatMap_singleton, List.append_assoc]

/-- A text put to a row that rises. -/
def isAdd (l : List (List UInt8)) (s : List UInt8) (out : List (List UInt8)) : Prop := rises out ∧ ∀ x, x ∈ out ↔ x ∈ l ∨ x ∈ ne s
theorem isAdd_nil {l : List (List UInt8)} (h : rises l) : isAdd l [] l := ⟨h, fun x => by simp [ne]⟩
theorem isAdd_in {l : List (List UInt8)} {s : List UInt8} (h : rises l) (hs : s ∈ l) : isAdd l s l := ⟨h, fun x => by
  rw [mem_ne]
  constructor
  · exact .inl
  · rintro (hx | ⟨rfl, _⟩)
    · exact hx
    · exact hs⟩
theorem isAdd_mid {l : List (List UInt8)} {s : List UInt8} {p : Nat} (h : rises l) (hs : s ≠ []) (h1 : ∀ j (hj : j < l.length), j < p → Op.bytesLess l[j] s = true) (h2 : ∀ j (hj : j < l.length), p ≤ j → Op.bytesLess s l[j] = true) :
    isAdd l s (l.take p ++ [s] ++ l.drop p) := by
  have hd := List.take_append_drop p l
  have hr : (l.take p ++ l.drop p).Pairwise fun x y => Op.bytesLess x y = true := by rw [hd]; exact h
  obtain ⟨ra, rb, rc⟩ := List.pairwise_append.1 hr
  have m1 : ∀ x ∈ l.take p, Op.bytesLess x s = true := by
    intro x hx
    obtain ⟨j, hj, rfl⟩ := List.getElem_of_mem hx
    simp at hj
    simpa using h1 j (by omega) (by omega)
  have m2 : ∀ x ∈ l.drop p, Op.bytesLess s x = true := by
    intro x hx
    obtain ⟨j, hj, rfl⟩ := List.getElem_of_mem hx
    simp at hj
    simpa using h2 (p + j) (by omega) (by omega)
  refine ⟨?_, fun x => ?_⟩
  · refine List.pairwise_append.2 ⟨List.pairwise_append.2 ⟨ra, by simp, fun a ha b hb => ?_⟩, rb, fun a ha b hb => ?_⟩
    · simp at hb; subst hb; exact m1 a ha
    · rw [List.mem_append] at ha
      rcases ha with ha | ha
      · exact rc a ha b hb
      · simp at ha; subst ha; exact m2 b hb
  · have : x ∈ l ↔ x ∈ l.take p ∨ x ∈ l.drop p := by
      conv => lhs; rw [← hd]
      rw [List.mem_append]
    rw [this, mem_ne]
    simp only [List.mem_append, List.mem_singleton]
    constructor
    · rintro ((a | rfl) | b)
      · exact .inl (.inl a)
      · exact .inr ⟨rfl, hs⟩
      · exact .inl (.inr b)
    · rintro ((a | b) | ⟨rfl, _⟩)
      · exact .inl (.inl a)
      · exact .inr b
      · exact .inl (.inr rfl)
end Go.Proofs.Ytllagelopdedfaa.Km
