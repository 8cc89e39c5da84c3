/- Texts of this proof, one behind the other: PastSrt, KeysSets, ShMap, VaryAdd, VaryJoin, StampBytes. -/
import Derived.Test.YtjfmgplhcinkfaaGO5
import Derived.Lib.SlicesCompact
import Derived.Sort.KeysCollected
import Derived.Test.YtjfmgplhcinkfaaProg
import Derived.WalkKit
import Derived.WalkLawsBesides
import Derived.Lib.Hide
import Derived.Laws.BitsAllLaws
/- Pasts that may be: rows that rise. Plain mathematics. -/
namespace Go.Proofs.Ytjfmgplhcinkfaa
open Go.RowKit
set_option linter.unusedVariables false

theorem ba_inj {a b : ByteArray} (h : a.data.toList = b.data.toList) : a = b := ByteArray.ext (Array.toList_inj.1 h)
theorem klt_irrefl (a : ByteArray) : klt a a = false := Km.bl_irrefl _
theorem klt_trans {a b c : ByteArray} (h : klt a b = true) (k : klt b c = true) : klt a c = true := Km.bl_trans h k
theorem klt_asymm {a b : ByteArray} (h : klt a b = true) : klt b a = false := Km.bl_asymm h
theorem klt_tri {a b : ByteArray} (h : klt a b = false) (k : klt b a = false) : a = b := ba_inj (Km.bl_tri h k)
theorem klt_ne {a b : ByteArray} (h : klt a b = true) : a ≠ b := by
  rintro rfl
  rw [klt_irrefl] at h
  cases h

/-- All may be, and the keys rise. -/
def Srt (l : List De) : Prop := (∀ d ∈ l, okD d = true) ∧ l.Pairwise (fun x y => klt x.1 y.1 = true)
instance (l : List De) : Decidable (Srt l) := inferInstanceAs (Decidable (_ ∧ _))
theorem Srt.nil : Srt [] := ⟨by simp, List.Pairwise.nil⟩
theorem Srt.take {l : List De} (h : Srt l) (k : Nat) : Srt (l.take k) := ⟨fun d hd => h.1 d (List.mem_of_mem_take hd), h.2.sublist (List.take_sublist k l)⟩
theorem Srt.tail {d : De} {l : List De} (h : Srt (d :: l)) : Srt l := ⟨fun e he => h.1 e (List.mem_cons_of_mem _ he), (List.pairwise_cons.1 h.2).2⟩
theorem Srt.sub {l m : List De} (h : Srt l) (s : m.Sublist l) : Srt m := ⟨fun d hd => h.1 d (s.subset hd), h.2.sublist s⟩

theorem srt_snoc (p : List De) (d : De) : Srt (p ++ [d]) ↔ Srt p ∧ folD p d = true := by
  unfold Srt folD
  rw [List.pairwise_append]
  constructor
  · rintro ⟨h1, h2, h3, h4⟩
    refine ⟨⟨fun e he => h1 e (by simp [he]), h2⟩, ?_⟩
    rw [h1 d (by simp), Bool.true_and]
    cases hg : p.getLast? with
    | none => rfl
    | some x =>
      have hx : x ∈ p := List.mem_of_getLast? hg
      exact h4 x hx d (by simp)
  · rintro ⟨⟨h1, h2⟩, h3⟩
    simp only [Bool.and_eq_true] at h3
    obtain ⟨h3, h4⟩ := h3
    refine ⟨fun e he => ?_, h2, List.pairwise_singleton _ _, ?_⟩
    · simp at he
      rcases he with he | rfl
      · exact h1 e he
      · exact h3
    · intro x hx y hy
      simp at hy
      subst hy
      cases hg : p.getLast? with
      | none =>
        rw [List.getLast?_eq_none_iff] at hg
        subst hg
        simp at hx
      | some z =>
        rw [hg] at h4
        simp only at h4
        obtain ⟨q, rfl⟩ := List.getLast?_eq_some_iff.1 hg
        simp at hx
        rcases hx with hx | rfl
        · exact klt_trans ((List.pairwise_append.1 h2).2.2 x hx z (by simp)) h4
        · exact h4
/-- May this past be? -/
def chkD (l : List De) : Bool := decide (l.length ≤ 24) && decide (Srt l)
theorem srt_step {l : List De} {k : Nat} (h : k < l.length) : Srt (l.take (k + 1)) ↔ Srt (l.take k) ∧ folD (l.take k) l[k] = true := by
  rw [List.take_succ_eq_append_getElem h, srt_snoc]
theorem srt_stop {l : List De} {k : Nat} (h : k < l.length) (hf : folD (l.take k) l[k] = false) : ¬ Srt l := by
  intro hs
  have := ((srt_step h).1 (hs.take (k + 1))).2
  rw [hf] at this
  cases this
theorem wid4 (l : List UInt8) : Km.wid l ≤ 4 := by
  unfold Km.wid
  split
  · omega
  · rename_i h
    exact (Km.widN_le (List.length_pos_iff.2 h)).2
theorem cnt_ge (low : Nat) (l : List UInt8) (n : Nat) (h : Km.cnt low l = some n) : l.length ≤ 4 * n := by
  induction hk : l.length using Nat.strongRecOn generalizing l n with
  | ind k ih =>
    by_cases h0 : l = []
    · subst h0
      simp at hk
      omega
    · by_cases hb : Km.wid l = 0 ∨ Km.nth l 0 < low
      · rw [Km.cnt_bad h0 hb] at h
        cases h
      · rw [Km.cnt_go h0 (by omega) (by omega)] at h
        have hp := List.length_pos_iff.2 h0
        cases hc : Km.cnt low (l.drop (Km.wid l)) with
        | none => rw [hc] at h; cases h
        | some m =>
          rw [hc] at h
          simp only [Option.map_some, Option.some.injEq] at h
          have := ih (l.drop (Km.wid l)).length (by simp; omega) (l.drop (Km.wid l)) m hc rfl
          have h4 := wid4 l
          simp at this
          omega
theorem chk_size {l : List UInt8} (h : Km.chk l = true) : l.length ≤ 32 ∧ 1 ≤ l.length := by
  unfold Km.chk Km.capV at h
  cases hc : Km.cnt 33 l with
  | none => rw [hc] at h; simp at h
  | some n =>
    rw [hc] at h
    have h1 := cnt_ge 33 l n hc
    have h2 := Km.cnt_le 33 l n hc
    simp at h
    split at h <;> simp at h
    omega
theorem okD_chk {d : De} (h : okD d = true) : Km.chk d.1.data.toList = true := by
  unfold okD at h
  simp at h
  exact h.1
theorem okD_size {d : De} (h : okD d = true) : d.1.size ≤ 32 := (chk_size (okD_chk h)).1
end Go.Proofs.Ytjfmgplhcinkfaa
/- Rows of texts that rise. Plain lemmas: they speak of no one program. -/
namespace Go.Proofs.Ytjfmgplhcinkfaa.Km
set_option linter.unusedVariables false

def rises (l : List (List UInt8)) : Prop := l.Pairwise fun x y => Op.bytesLess x y = true

theorem rises_uniq : ∀ (a b : List (List UInt8)), rises a → rises b → (∀ x, x ∈ a ↔ x ∈ b) → a = b
  | [], [], _, _, _ => rfl
  | [], y :: b, _, _, h => by
    have := (h y).2 (by simp)
    simp at this
  | x :: a, [], _, _, h => by
    have := (h x).1 (by simp)
    simp at this
  | x :: a, y :: b, ha, hb, h => by
    obtain ⟨ha1, ha2⟩ := List.pairwise_cons.1 ha
    obtain ⟨hb1, hb2⟩ := List.pairwise_cons.1 hb
    have e : x = y := by
      have hx : x = y ∨ x ∈ b := by simpa using (h x).1 (by simp)
      have hy : y = x ∨ y ∈ a := by simpa using (h y).2 (by simp)
      rcases hx with hx | hx
      · exact hx
      · rcases hy with hy | hy
        · exact hy.symm
        · have h1 := hb1 x hx
          have h2 := ha1 y hy
          rw [bl_asymm h1] at h2
          cases h2
    subst e
    congr 1
    refine rises_uniq a b ha2 hb2 fun z => ?_
    have hz := h z
    simp only [List.mem_cons] at hz
    constructor
    · intro hm
      rcases hz.1 (.inr hm) with rfl | hr
      · have := ha1 z hm
        rw [bl_irrefl] at this
        cases this
      · exact hr
    · intro hm
      rcases hz.2 (.inr hm) with rfl | hr
      · have := hb1 z hm
        rw [bl_irrefl] at this
        cases this
      · exact hr

theorem le_eq (x y : List UInt8) : decide (x ≤ y) = !Op.bytesLess y x := by
  rw [bl_eq, Bool.eq_iff_iff]
  simp

theorem sorted_ge (l : List (List UInt8)) : (l.mergeSort fun x y => decide (x ≤ y)).Pairwise fun x y => Op.bytesLess y x = false := by
  have h := List.pairwise_mergeSort (le := fun x y : List UInt8 => decide (x ≤ y))
    (fun a b c h1 h2 => by
      rw [le_eq] at *
      simp at *
      exact bl_le_trans h1 h2)
    (fun a b => by
      rw [le_eq, le_eq]
      cases h1 : Op.bytesLess b a with
      | false => simp
      | true => simp [bl_asymm h1]) l
  refine h.imp ?_
  intro a b hab
  rw [le_eq] at hab
  simpa using hab

theorem compact_inv (d : Array (List UInt8)) (hs : ∀ i j, i < j → j < d.size → Op.bytesLess d[j]! d[i]! = false) : ∀ m, m ≤ d.size →
    rises (Lib.compactUpTo d m) ∧ (∀ x, x ∈ Lib.compactUpTo d m ↔ ∃ j, j < m ∧ x = d[j]!)
  | 0, _ => by simp [Lib.compactUpTo, rises]
  | m + 1, hm => by
    obtain ⟨ih1, ih2⟩ := compact_inv d hs m (by omega)
    rw [Lib.compactUpTo_succ]
    by_cases hk : Lib.keeps d m = true
    · rw [if_pos hk]
      refine ⟨?_, fun x => ?_⟩
      · refine List.pairwise_append.2 ⟨ih1, by simp, fun a ha b hb => ?_⟩
        simp at hb
        subst hb
        obtain ⟨j, hj, rfl⟩ := (ih2 a).1 ha
        have hm0 : 0 < m := by omega
        have hne : d[m]! ≠ d[m - 1]! := by
          unfold Lib.keeps at hk
          simp at hk
          rcases hk with h | h
          · omega
          · exact h
        have h1 : Op.bytesLess d[m - 1]! d[m]! = true := by
          cases hc : Op.bytesLess d[m - 1]! d[m]! with
          | true => rfl
          | false => exact absurd (bl_tri (hs (m - 1) m (by omega) (by omega)) hc) hne
        by_cases e : j = m - 1
        · subst e; exact h1
        · exact bl_le_lt (hs j (m - 1) (by omega) (by omega)) h1
      · rw [List.mem_append, ih2]
        constructor
        · rintro (⟨j, hj, rfl⟩ | h)
          · exact ⟨j, by omega, rfl⟩
          · simp at h; exact ⟨m, by omega, h⟩
        · rintro ⟨j, hj, rfl⟩
          by_cases e : j = m
          · subst e; right; simp
          · left; exact ⟨j, by omega, rfl⟩
    · rw [if_neg hk, List.append_nil]
      refine ⟨ih1, fun x => ?_⟩
      rw [ih2]
      constructor
      · rintro ⟨j, hj, rfl⟩
        exact ⟨j, by omega, rfl⟩
      · rintro ⟨j, hj, rfl⟩
        by_cases e : j = m
        · subst e
          have hk' : ¬ (j = 0 ∨ d[j]! ≠ d[j - 1]!) := by
            unfold Lib.keeps at hk
            simpa using hk
          refine ⟨j - 1, by omega, ?_⟩
          exact Classical.byContradiction fun h => hk' (.inr h)
        · exact ⟨j, by omega, rfl⟩

theorem compact_sorted (l : List (List UInt8)) : rises (Lib.compact (l.mergeSort fun x y => decide (x ≤ y))) ∧ ∀ x, x ∈ Lib.compact (l.mergeSort fun x y => decide (x ≤ y)) ↔ x ∈ l := by
  have hp := sorted_ge l
  have hm : ∀ x, x ∈ (l.mergeSort fun x y => decide (x ≤ y)) ↔ x ∈ l := fun x => (List.mergeSort_perm l _).mem_iff
  generalize (l.mergeSort fun x y => decide (x ≤ y)) = s at hp hm
  unfold Lib.compact
  have hs : ∀ i j, i < j → j < s.toArray.size → Op.bytesLess s.toArray[j]! s.toArray[i]! = false := by
    intro i j hij hj
    have hj' : j < s.length := by simpa using hj
    have := List.pairwise_iff_getElem.1 hp i j (by omega) hj' hij
    rw [getElem!_pos _ j hj, getElem!_pos _ i (by omega)]
    simpa using this
  obtain ⟨h1, h2⟩ := compact_inv s.toArray hs s.length (by simp)
  refine ⟨h1, fun x => ?_⟩
  rw [h2, ← hm]
  constructor
  · rintro ⟨j, hj, rfl⟩
    rw [getElem!_pos _ j (by simpa using hj)]
    simp
  · intro hx
    obtain ⟨j, hj, rfl⟩ := List.getElem_of_mem hx
    exact ⟨j, hj, by rw [getElem!_pos _ j (by simpa using hj)]; simp⟩

/-- What stands in a range's bounds that is something. -/
def ne (s : List UInt8) : List (List UInt8) := if s = [] then [] else [s]
def nes (rs : List (List UInt8 × List UInt8)) : List (List UInt8) := rs.flatMap fun r => ne r.1 ++ ne r.2
theorem mem_ne (x s : List UInt8) : x ∈ ne s ↔ x = s ∧ x ≠ [] := by
  unfold ne
  by_cases h : s = []
  · rw [if_pos h]; subst h; simp
  · rw [if_neg h]
    simp
    rintro rfl
    exact h
theorem mem_nes (x : List UInt8) (rs : List (List UInt8 × List UInt8)) : x ∈ nes rs ↔ x ≠ [] ∧ ∃ r ∈ rs, x = r.1 ∨ x = r.2 := by
  unfold nes
  simp only [List.mem_flatMap, List.mem_append, mem_ne]
  constructor
  · rintro ⟨r, hr, ⟨rfl, h⟩ | ⟨rfl, h⟩⟩
    · exact ⟨h, r, hr, .inl rfl⟩
    · exact ⟨h, r, hr, .inr rfl⟩
  · rintro ⟨h, r, hr, rfl | rfl⟩
    · exact ⟨r, hr, .inl ⟨rfl, h⟩⟩
    · exact ⟨r, hr, .inr ⟨rfl, h⟩⟩

/-- bs are the bounds of the ranges. -/
def isB (rs : List (List UInt8 × List UInt8)) (bs : List (List UInt8)) : Prop := rises bs ∧ ∀ x, x ∈ bs ↔ x ∈ nes rs
theorem isB_uniq {rs : List (List UInt8 × List UInt8)} {a b : List (List UInt8)} (ha : isB rs a) (hb : isB rs b) : a = b :=
  rises_uniq a b ha.1 hb.1 fun x => by rw [ha.2, hb.2]
theorem isB_compact (rs : List (List UInt8 × List UInt8)) : isB rs (Lib.compact ((nes rs).mergeSort fun x y => decide (x ≤ y))) := compact_sorted _

theorem nes_len (rs : List (List UInt8 × List UInt8)) : (nes rs).length ≤ 2 * rs.length := by
  induction rs with
  | nil => simp [nes]
  | cons r t ih =>
    have e : nes (r :: t) = (ne r.1 ++ ne r.2) ++ nes t := by simp [nes]
    rw [e, List.length_append, List.length_append, List.length_cons]
    have h1 : ∀ s, (ne s).length ≤ 1 := by intro s; unfold ne; split <;> simp
    have := h1 r.1
    have := h1 r.2
    omega
theorem nes_snoc (rs : List (List UInt8 × List UInt8)) (k : Nat) (h : k < rs.length) : nes (rs.take (k + 1)) = nes (rs.take k) ++ ne rs[k].1 ++ ne rs[k].2 := by
  unfold nes
  rw [List.take_succ_eq_append_getElem h, List.flatMap_append, List.flatMap_singleton, List.append_assoc]

/-- A text put to a row that rises. -/
def isAdd (l : List (List UInt8)) (s : List UInt8) (out : List (List UInt8)) : Prop := rises out ∧ ∀ x, x ∈ out ↔ x ∈ l ∨ x ∈ ne s
theorem isAdd_nil {l : List (List UInt8)} (h : rises l) : isAdd l [] l := ⟨h, fun x => by simp [ne]⟩
theorem isAdd_in {l : List (List UInt8)} {s : List UInt8} (h : rises l) (hs : s ∈ l) : isAdd l s l := ⟨h, fun x => by
  rw [mem_ne]
  constructor
  · exact .inl
  · rintro (hx | ⟨rfl, _⟩)
    · exact hx
    · exact hs⟩
theorem isAdd_mid {l : List (List UInt8)} {s : List UInt8} {p : Nat} (h : rises l) (hs : s ≠ []) (h1 : ∀ j (hj : j < l.length), j < p → Op.bytesLess l[j] s = true) (h2 : ∀ j (hj : j < l.length), p ≤ j → Op.bytesLess s l[j] = true) :
    isAdd l s (l.take p ++ [s] ++ l.drop p) := by
  have hd := List.take_append_drop p l
  have hr : (l.take p ++ l.drop p).Pairwise fun x y => Op.bytesLess x y = true := by rw [hd]; exact h
  obtain ⟨ra, rb, rc⟩ := List.pairwise_append.1 hr
  have m1 : ∀ x ∈ l.take p, Op.bytesLess x s = true := by
    intro x hx
    obtain ⟨j, hj, rfl⟩ := List.getElem_of_mem hx
    simp at hj
    simpa using h1 j (by omega) (by omega)
  have m2 : ∀ x ∈ l.drop p, Op.bytesLess s x = true := by
    intro x hx
    obtain ⟨j, hj, rfl⟩ := List.getElem_of_mem hx
    simp at hj
    simpa using h2 (p + j) (by omega) (by omega)
  refine ⟨?_, fun x => ?_⟩
  · refine List.pairwise_append.2 ⟨List.pairwise_append.2 ⟨ra, by simp, fun a ha b hb => ?_⟩, rb, fun a ha b hb => ?_⟩
    · simp at hb; subst hb; exact m1 a ha
    · rw [List.mem_append] at ha
      rcases ha with ha | ha
      · exact rc a ha b hb
      · simp at ha; subst ha; exact m2 b hb
  · have : x ∈ l ↔ x ∈ l.take p ∨ x ∈ l.drop p := by
      conv => lhs; rw [← hd]
      rw [List.mem_append]
    rw [this, mem_ne]
    simp only [List.mem_append, List.mem_singleton]
    constructor
    · rintro ((a | rfl) | b)
      · exact .inl (.inl a)
      · exact .inr ⟨rfl, hs⟩
      · exact .inl (.inr b)
    · rintro ((a | b) | ⟨rfl, _⟩)
      · exact .inl (.inl a)
      · exact .inr b
      · exact .inl (.inr rfl)
end Go.Proofs.Ytjfmgplhcinkfaa.Km
/- Maps whose keys are texts: all that is said of them, and which keys there are. -/
namespace Go.Proofs.Ytjfmgplhcinkfaa
open Go.RowKit Go.Maps
set_option linter.unusedVariables false
set_option linter.unusedSimpArgs false

/-- The bytes of a text. -/
abbrev bts (s : ByteArray) : List UInt8 := s.data.toList
theorem bts_mk (x : List UInt8) : bts ⟨x.toArray⟩ = x := rfl
theorem mk_bts (s : ByteArray) : (⟨(bts s).toArray⟩ : ByteArray) = s := ba_inj rfl
theorem sz_mk {x : List UInt8} (h : x.length ≤ maxLen) : (⟨x.toArray⟩ : ByteArray).size ≤ maxLen := by
  show x.toArray.size ≤ maxLen
  simpa using h
/-- What lies at a key, if it is a text. -/
def litS (g : ByteArray → Option Value) : Lit → Option Value
  | .string x => if x.length ≤ maxLen then g ⟨x.toArray⟩ else none
  | _ => none
theorem litS_str (g : ByteArray → Option Value) {s : ByteArray} (h : s.size ≤ maxLen) : litS g (.string (bts s)) = g s := by
  have : (bts s).length ≤ maxLen := by simpa using h
  simp only [litS]
  rw [if_pos this, mk_bts]
def updG (g : ByteArray → Option Value) (x : ByteArray) (v : Value) : ByteArray → Option Value := fun d => if d = x then some v else g d
theorem litS_upd {g : ByteArray → Option Value} {x : ByteArray} (h : x.size ≤ maxLen) {v : Value} {f : Lit → Option Value} (hs : SetF (litS g) (.string (bts x)) v f) : f = litS (updG g x v) := by
  funext l
  obtain ⟨h1, h2⟩ := hs
  by_cases e : l = .string (bts x)
  · rw [e, h1, litS_str _ h]
    simp [updG]
  · rw [h2 l e]
    cases l <;> try rfl
    rename_i y
    simp only [litS]
    by_cases hy : y.length ≤ maxLen
    · rw [if_pos hy, if_pos hy]
      unfold updG
      rw [if_neg (fun e' => e (by rw [← e'])) ]
    · rw [if_neg hy, if_neg hy]
/-- Block b is a map of n entries; g: what lies at each text. -/
def MapZ (w : World) (b n : Nat) (g : ByteArray → Option Value) : Prop := MapF w 9 b n (litS g)
theorem litS_none : litS (fun _ => none) = fun _ => none := by
  funext l
  cases l <;> try rfl
  simp [litS]
theorem MapZ.made (w : World) : MapZ (w.alloc (.map #[] 0)) w.heap.size 0 (fun _ => none) := by
  unfold MapZ
  rw [litS_none]
  exact MapF.made w _
theorem MapZ.lt {w : World} {b n : Nat} {g : ByteArray → Option Value} (h : MapZ w b n g) : b < w.heap.size := MapF.lt h
theorem MapZ.block {w w' : World} {b n : Nat} {g : ByteArray → Option Value} (h : MapZ w b n g) (hb : w'.heap[b]? = w.heap[b]?) : MapZ w' b n g := MapF.block h hb
theorem MapZ.below {w w' : World} {b n : Nat} {g : ByteArray → Option Value} (h : MapZ w b n g) (hb : Below w.heap.size w w') : MapZ w' b n g := MapF.below h hb
theorem litS_congr {g g' : ByteArray → Option Value} (e : ∀ s : ByteArray, s.size ≤ maxLen → g s = g' s) : litS g = litS g' := by
  funext l
  cases l <;> try rfl
  rename_i x
  simp only [litS]
  by_cases hx : x.length ≤ maxLen
  · rw [if_pos hx, if_pos hx, e _ (sz_mk hx)]
  · rw [if_neg hx, if_neg hx]
theorem MapZ.congr {w : World} {b n : Nat} {g g' : ByteArray → Option Value} (h : MapZ w b n g) (e : ∀ s : ByteArray, s.size ≤ maxLen → g s = g' s) : MapZ w b n g' := by
  unfold MapZ at *
  rw [← litS_congr e]
  exact h
theorem keyed_text : Keyed Try.prog 9 := Maps.string_keyed Try.underlying9
theorem key_text {s : ByteArray} (h : s.size ≤ maxLen) : keyOf Try.prog 9 (.string s) = some (.string (bts s)) := WideMaps.keyOf_string_mk Try.underlying9 h
section
variable {w : World} {t e : TypeId} {b n : Nat} {g : ByteArray → Option Value}
theorem MapZ.look (h : MapZ w b n g) (ht : Try.prog.underlying t = some (.map 9 e)) {z : Value} (hz : (zeroValue e).run Try.prog w = .ok z w) {x : ByteArray} (hk : x.size ≤ maxLen) :
    (Instr.lookup t (.map (some b)) (.string x) false).run Try.prog w = .ok ((g x).getD z) w := by
  have := MapF.look h keyed_text ht hz (key_text hk)
  rw [litS_str _ hk] at this
  exact this
theorem MapZ.store (h : MapZ w b n g) (ht : Try.prog.underlying t = some (.map 9 e)) (hn : n < maxLen) {x : ByteArray} (hk : x.size ≤ maxLen) (val : Value) :
    ∃ w', (Instr.mapUpdate t (.map (some b)) (.string x) val).run Try.prog w = .ok () w' ∧ MapZ w' b (if (g x).isSome then n else n + 1) (updG g x val) ∧ w.mapTurned w' b := by
  obtain ⟨w', hrun, ⟨f', r1, r3⟩, r2⟩ := MapF.store (val := val) h keyed_text ht hn (key_text hk)
  rw [litS_str _ hk] at r1
  refine ⟨w', hrun, ?_, r2⟩
  unfold MapZ
  rw [← litS_upd hk r3]
  exact r1
end
set_option maxRecDepth 100000 in
/-- The store at the operation. -/
theorem wp_mapSetZ {w : World} {t e : TypeId} {b n : Nat} {g : ByteArray → Option Value} {ops : Array Oper} {rest : List Oper} {o : Oper} {a : Act} {Q : Exit → Act → World → Prop}
    (hg : o.guard = none) (m x v : Operand) (hop : o.op = Op.mapUpdate t m x v) (ht : Try.prog.underlying t = some (.map 9 e)) (hm : a.eval m = .map (some b)) (hown : MapZ w b n g) (hn : n < maxLen)
    (k : ByteArray) (val : Value) (hx : a.eval x = .string k) (hv : a.eval v = val) (hk : k.size ≤ maxLen)
    (hK : ∀ w', MapZ w' b (if (g k).isSome then n else n + 1) (updG g k val) → w.mapTurned w' b → wpList Try.prog ops Q rest (a.put o.dst undef) w') :
    wpList Try.prog ops Q (o :: rest) a w := by
  refine wpList_plain hg fun K' hK' => ?_
  obtain ⟨w', hrun, r1, r2⟩ := hown.store ht hn hk val
  unfold Oper.wp
  simp [execOp, hop, hm, hx, hv, hrun, Result.andThen]
  exact hK' _ _ (hK w' r1 r2)

/-- The keys of a map of texts, in whatever order. -/
theorem MapZ.keys {w : World} {b n : Nat} {g : ByteArray → Option Value} (h : MapZ w b n g) {L : List ByteArray} (hnd : (L.map bts).Nodup) (hm : ∀ s, s ∈ L ↔ s.size ≤ maxLen ∧ (g s).isSome = true) :
    ∃ D, w.ownsMap Try.prog 9 hvR b n D ∧ Maps.size D = n ∧ (L.map bts).Perm (strKeys D) ∧ n = L.length := by
  obtain ⟨D, ho, hsz, hf⟩ := h
  obtain ⟨es, rfl, hpw, _⟩ := ho.entries keyed_text
  obtain ⟨es', e, hko⟩ := ho.keysOf
  cases e
  have hperm : (L.map bts).Perm (strKeys (.map es)) := perm_strKeys hpw (fun p hp => by
      obtain ⟨v, hv⟩ := hko p hp
      obtain ⟨x, _, hx, _⟩ := Maps.keyOf_str Try.underlying9 hv
      exact ⟨x, hx⟩) hnd (fun x => by
      rw [(hf (.string x) trivial).1, List.mem_map]
      simp only [litS]
      constructor
      · rintro ⟨s, hs, rfl⟩
        obtain ⟨h1, h2⟩ := (hm s).1 hs
        rw [if_pos (by simpa using h1), mk_bts]
        exact h2
      · intro hx
        by_cases hl : x.length ≤ maxLen
        · rw [if_pos hl] at hx
          exact ⟨⟨x.toArray⟩, (hm _).2 ⟨sz_mk hl, hx⟩, rfl⟩
        · rw [if_neg hl] at hx
          cases hx)
  refine ⟨_, ho, hsz, hperm, ?_⟩
  have h1 := hperm.length_eq
  rw [← hsz]
  simp [strKeys] at h1
  rw [size_eq, h1]
/-- A row of texts that rises is the sorted row of its members. -/
theorem rises_sort {l m : List (List UInt8)} (hr : Km.rises l) (hp : m.Perm l) : m.mergeSort (fun x y => decide (x ≤ y)) = l := by
  have hnd : m.Nodup := hp.nodup_iff.2 (hr.imp fun {a b} h e => by subst e; rw [Km.bl_irrefl] at h; cases h)
  refine Km.rises_uniq _ _ ?_ hr (fun x => by rw [(List.mergeSort_perm m _).mem_iff, hp.mem_iff])
  have h1 := Km.sorted_ge m
  have h2 : (m.mergeSort fun x y => decide (x ≤ y)).Nodup := (List.mergeSort_perm m _).nodup_iff.2 hnd
  refine (h1.and h2).imp fun {a b} ⟨h3, h4⟩ => ?_
  cases h5 : Op.bytesLess a b with
  | true => rfl
  | false => exact absurd (Km.bl_tri h5 h3) h4
theorem rises_nodup {l : List (List UInt8)} (hr : Km.rises l) : l.Nodup := hr.imp fun {a b} h e => by subst e; rw [Km.bl_irrefl] at h; cases h
end Go.Proofs.Ytjfmgplhcinkfaa
/- What the closure of vary.Join does: it appends the bytes of one number to the captured row. -/
namespace Go.Proofs.Ytjfmgplhcinkfaa
open Go.RowKit

theorem info_u8 : (Try.prog.info? 5).map (fun i => (i.zero, i.size, i.bytes)) = some (some (.int .u8 0), 1, 1) := by kernel_rfl

def bytesV (l : List UInt8) : List Value := l.map fun c => .int .u8 (c.toNat : Int)

/-- The captured row of bytes: Bv is the variable's block, base: from where on the call's own blocks lie. -/
structure Buf (base Bv : Nat) (l : List UInt8) (w : World) : Prop where
  le : base ≤ Bv
  var : ∃ v, w.heap[Bv]? = some (.cells #[v] 71 (0, 0)) ∧ w.ownsRow base 5 1 v l.length (bytesV l)

theorem own_shape {w1 : World} {base e n : Nat} {v' : Value} {xs : List Value} (h : w1.ownsRow base e 1 v' n xs) : ∃ a k c, v' = .slice a k c := by
  rcases h.2 with ⟨rfl, _⟩ | ⟨g, cap, cur, rfl, _⟩
  · exact ⟨_, _, _, rfl⟩
  · exact ⟨_, _, _, rfl⟩

theorem buf_push {base Bv : Nat} {l : List UInt8} {c : UInt8} {wr w1 : World} {v v' : Value} {X : Obj} (hle : base ≤ Bv) (hbs : base ≤ wr.heap.size)
    (hv : wr.heap[Bv]? = some (.cells #[v] 71 (0, 0))) (ho : wr.ownsRow base 5 1 v l.length (bytesV l))
    (ho' : w1.ownsRow base 5 1 v' (l.length + 1) (bytesV l ++ [.int .u8 (c.toNat : Int)])) (hg : (wr.alloc X).grownBy w1 v.ownBlock) :
    w1.cell? ⟨Bv, 0, none⟩ = some v ∧ w1.frozen? ⟨Bv, 0, none⟩ = false ∧ Buf base Bv (l ++ [c]) (w1.setCell ⟨Bv, 0, none⟩ v') ∧ Below base wr (w1.setCell ⟨Bv, 0, none⟩ v') := by
  have hlt := lt_of_block hv
  have hne : some Bv ≠ v.ownBlock := by
    intro e
    rcases ho.2 with ⟨rfl, _⟩ | ⟨g, cap, cur, rfl, _, hh, _⟩
    · simp [Value.ownBlock] at e
    · simp [Value.ownBlock] at e
      subst e
      rw [hh] at hv
      simp at hv
  have hv1 : w1.heap[Bv]? = some (.cells #[v] 71 (0, 0)) := by
    rw [hg.block Bv (by simp; omega) hne, Below.heap_alloc _ _ _ hlt]
    exact hv
  have hne' : v'.ownBlock ≠ some Bv := by
    intro e
    rcases ho'.2 with ⟨rfl, _⟩ | ⟨g, cap, cur, rfl, _, hh, _⟩
    · simp [Value.ownBlock] at e
    · simp [Value.ownBlock] at e
      subst e
      rw [hh] at hv1
      simp at hv1
  refine ⟨cell_of_one hv1, free_of_one hv1, ⟨hle, _, one_setCell hv1, ?_⟩, ?_⟩
  · have := ownsRow_setCell_other ho' (a := ⟨Bv, 0, none⟩) hne' v'
    simpa [bytesV] using this
  · refine Below.setCell ?_ hle _
    refine ((Below.refl base wr).alloc hbs X).grown hg (by simp; omega) ?_
    intro k hk
    exact (ho.lt k hk).1

end Go.Proofs.Ytjfmgplhcinkfaa
/- What vary.Join answers. -/
namespace Go.Proofs.Ytjfmgplhcinkfaa
open Go.RowKit

theorem lt_of_cell? {w : World} {a : Addr} {v : Value} (h : w.cell? a = some v) : a.block < w.heap.size := by
  unfold World.cell? at h
  split at h
  · rename_i hb
    exact lt_of_block hb
  · cases h

/-- A row of numbers of 64 bits that is read: nil, or cells. -/
def U64s (w : World) (a : Option Addr) (zs : List Nat) : Prop :=
  (∀ z ∈ zs, z < 18446744073709551616) ∧ ∀ i (h : i < zs.length), ∃ b off, a = some ⟨b, off, none⟩ ∧ w.cell? ⟨b, off + i, none⟩ = some (.int .u64 (zs[i] : Int))

theorem buf_string {base Bv : Nat} {l : List UInt8} {w : World} (h : Buf base Bv l w) : ∃ v, w.cell? ⟨Bv, 0, none⟩ = some v ∧ (convert 71 9 v).run Try.prog w = .ok (.string ⟨l.toArray⟩) w := by
  obtain ⟨_, v, hv, ho⟩ := h
  refine ⟨v, cell_of_one hv, ?_⟩
  rcases ho.2 with ⟨rfl, h0⟩ | ⟨g, cap, cur, rfl, r⟩
  · obtain rfl : l = [] := List.length_eq_zero_iff.1 h0
    rw [run_convert_bytes_string w 71 9 5 none 0 0 Try.underlying71 Try.underlying5 Try.underlying9]
    rfl
  · have hcells : ∀ j (hj : j < l.length), w.cell? ((⟨g, 0, none⟩ : Addr).add j) = some (.int .u8 (l[j].toNat : Int)) := fun j hj => by
      rw [Addr.add_lit, Nat.zero_add, ho.cellAt j (by omega)]
      simp [bytesV, hj]
    exact run_convert_bytes_back (P := Try.prog) w 71 9 5 ⟨g, 0, none⟩ cap l Try.underlying71 Try.underlying5 Try.underlying9 hcells

/-- The bytes of all numbers, one behind the other. -/
def encs (zs : List Nat) : List UInt8 := zs.flatMap Vm.enc
theorem encs_len {zs : List Nat} (h : ∀ z ∈ zs, z < 18446744073709551616) : (encs zs).length ≤ 10 * zs.length := by
  induction zs with
  | nil => simp [encs]
  | cons z r ih =>
    have h1 := Vm.enc_len10 (h z (by simp))
    have h2 := ih (fun x hx => h x (by simp [hx]))
    simp [encs] at h2 ⊢
    omega
theorem encs_snoc (zs : List Nat) (k : Nat) (hk : k < zs.length) : encs (zs.take (k + 1)) = encs (zs.take k) ++ Vm.enc zs[k] := by
  unfold encs
  rw [List.take_succ_eq_append_getElem hk, List.flatMap_append, List.flatMap_singleton]

end Go.Proofs.Ytjfmgplhcinkfaa
/- What stamp.Bytes answers. -/
namespace Go.Proofs.Ytjfmgplhcinkfaa
open Go.RowKit
set_option linter.unusedVariables false

/-- The bytes of a stamp. -/
def sbytes (n s : Int) : List UInt8 := if Sm.ok n s = true then Vm.enc n.toNat ++ Vm.enc s.toNat else []

theorem Sm.ok_nat {n s : Int} (h : Sm.ok n s = true) : ∃ a b : Nat, n = a ∧ s = b ∧ 1 ≤ a ∧ a ≤ 1099511627776 ∧ b < 6 := by
  simp only [Sm.ok, decide_eq_true_eq] at h
  exact ⟨n.toNat, s.toNat, by omega, by omega, by omega, by omega, by omega⟩

end Go.Proofs.Ytjfmgplhcinkfaa
