/- Texts of this proof, one behind the other: KeysSets, ShMap, VaryAdd, VaryJoin, StampBytes, PastCheck, PastBytesMath, VaryRead, VaryText, StampRead, StampBackMath. -/
import Derived.Test.YtjfmgplhcinkfaaGreatGP4
import Derived.Lib.SlicesCompact
import Derived.Sort.KeysCollected
import Derived.Test.YtjfmgplhcinkfaaGreatProg
import Derived.WalkKit
import Derived.WalkLawsBesides
import Derived.Lib.Hide
import Derived.Laws.BitsAllLaws
import Derived.Lib.Strings
/- Rows of texts that rise. Plain lemmas: they speak of no one program. -/
namespace Go.Proofs.YtjfmgplhcinkfaaGreat.Km
set_option linter.unusedVariables false

def rises (l : List (List UInt8)) : Prop := l.Pairwise fun x y => Op.bytesLess x y = true

theorem rises_uniq : ∀ (a b : List (List UInt8)), rises a → rises b → (∀ x, x ∈ a ↔ x ∈ b) → a = b
  | [], [], _, _, _ => rfl
  | [], y :: b, _, _, h => by
    have := (h y).2 (by simp)
    simp at this
  | x :: a, [], _, _, h => by
    have := (h x).1 (by simp)
    simp at this
  | x :: a, y :: b, ha, hb, h => by
    obtain ⟨ha1, ha2⟩ := List.pairwise_cons.1 ha
    obtain ⟨hb1, hb2⟩ := List.pairwise_cons.1 hb
    have e : x = y := by
      have hx : x = y ∨ x ∈ b := by simpa using (h x).1 (by simp)
      have hy : y = x ∨ y ∈ a := by simpa using (h y).2 (by simp)
      rcases hx with hx | hx
      · exact hx
      · rcases hy with hy | hy
        · exact hy.symm
        · have h1 := hb1 x hx
          have h2 := ha1 y hy
          rw [bl_asymm h1] at h2
          cases h2
    subst e
    congr 1
    refine rises_uniq a b ha2 hb2 fun z => ?_
    have hz := h z
    simp only [List.mem_cons] at hz
    constructor
    · intro hm
      rcases hz.1 (.inr hm) with rfl | hr
      · have := ha1 z hm
        rw [bl_irrefl] at this
        cases this
      · exact hr
    · intro hm
      rcases hz.2 (.inr hm) with rfl | hr
      · have := hb1 z hm
        rw [bl_irrefl] at this
        cases this
      · exact hr

theorem le_eq (x y : List UInt8) : decide (x ≤ y) = !Op.bytesLess y x := by
  rw [bl_eq, Bool.eq_iff_iff]
  simp

theorem sorted_ge (l : List (List UInt8)) : (l.mergeSort fun x y => decide (x ≤ y)).Pairwise fun x y => Op.bytesLess y x = false := by
  have h := List.pairwise_mergeSort (le := fun x y : List UInt8 => decide (x ≤ y))
    (fun a b c h1 h2 => by
      rw [le_eq] at *
      simp at *
      exact bl_le_trans h1 h2)
    (fun a b => by
      rw [le_eq, le_eq]
      cases h1 : Op.bytesLess b a with
      | false => simp
      | true => simp [bl_asymm h1]) l
  refine h.imp ?_
  intro a b hab
  rw [le_eq] at hab
  simpa using hab

theorem compact_inv (d : Array (List UInt8)) (hs : ∀ i j, i < j → j < d.size → Op.bytesLess d[j]! d[i]! = false) : ∀ m, m ≤ d.size →
    rises (Lib.compactUpTo d m) ∧ (∀ x, x ∈ Lib.compactUpTo d m ↔ ∃ j, j < m ∧ x = d[j]!)
  | 0, _ => by simp [Lib.compactUpTo, rises]
  | m + 1, hm => by
    obtain ⟨ih1, ih2⟩ := compact_inv d hs m (by omega)
    rw [Lib.compactUpTo_succ]
    by_cases hk : Lib.keeps d m = true
    · rw [if_pos hk]
      refine ⟨?_, fun x => ?_⟩
      · refine List.pairwise_append.2 ⟨ih1, by simp, fun a ha b hb => ?_⟩
        simp at hb
        subst hb
        obtain ⟨j, hj, rfl⟩ := (ih2 a).1 ha
        have hm0 : 0 < m := by omega
        have hne : d[m]! ≠ d[m - 1]! := by
          unfold Lib.keeps at hk
          simp at hk
          rcases hk with h | h
          · omega
          · exact h
        have h1 : Op.bytesLess d[m - 1]! d[m]! = true := by
          cases hc : Op.bytesLess d[m - 1]! d[m]! with
          | true => rfl
          | false => exact absurd (bl_tri (hs (m - 1) m (by omega) (by omega)) hc) hne
        by_cases e : j = m - 1
        · subst e; exact h1
        · exact bl_le_lt (hs j (m - 1) (by omega) (by omega)) h1
      · rw [List.mem_append, ih2]
        constructor
        · rintro (⟨j, hj, rfl⟩ | h)
          · exact ⟨j, by omega, rfl⟩
          · simp at h; exact ⟨m, by omega, h⟩
        · rintro ⟨j, hj, rfl⟩
          by_cases e : j = m
          · subst e; right; simp
          · left; exact ⟨j, by omega, rfl⟩
    · rw [if_neg hk, List.append_nil]
      refine ⟨ih1, fun x => ?_⟩
      rw [ih2]
      constructor
      · rintro ⟨j, hj, rfl⟩
        exact ⟨j, by omega, rfl⟩
      · rintro ⟨j, hj, rfl⟩
        by_cases e : j = m
        · subst e
          have hk' : ¬ (j = 0 ∨ d[j]! ≠ d[j - 1]!) := by
            unfold Lib.keeps at hk
            simpa using hk
          refine ⟨j - 1, by omega, ?_⟩
          exact Classical.byContradiction fun h => hk' (.inr h)
        · exact ⟨j, by omega, rfl⟩

theorem compact_sorted (l : List (List UInt8)) : rises (Lib.compact (l.mergeSort fun x y => decide (x ≤ y))) ∧ ∀ x, x ∈ Lib.compact (l.mergeSort fun x y => decide (x ≤ y)) ↔ x ∈ l := by
  have hp := sorted_ge l
  have hm : ∀ x, x ∈ (l.mergeSort fun x y => decide (x ≤ y)) ↔ x ∈ l := fun x => (List.mergeSort_perm l _).mem_iff
  generalize (l.mergeSort fun x y => decide (x ≤ y)) = s at hp hm
  unfold Lib.compact
  have hs : ∀ i j, i < j → j < s.toArray.size → Op.bytesLess s.toArray[j]! s.toArray[i]! = false := by
    intro i j hij hj
    have hj' : j < s.length := by simpa using hj
    have := List.pairwise_iff_getElem.1 hp i j (by omega) hj' hij
    rw [getElem!_pos _ j hj, getElem!_pos _ i (by omega)]
    simpa using this
  obtain ⟨h1, h2⟩ := compact_inv s.toArray hs s.length (by simp)
  refine ⟨h1, fun x => ?_⟩
  rw [h2, ← hm]
  constructor
  · rintro ⟨j, hj, rfl⟩
    rw [getElem!_pos _ j (by simpa using hj)]
    simp
  · intro hx
    obtain ⟨j, hj, rfl⟩ := List.getElem_of_mem hx
    exact ⟨j, hj, by rw [getElem!_pos _ j (by simpa using hj)]; simp⟩

/-- What stands in a range's bounds that is something. -/
def ne (s : List UInt8) : List (List UInt8) := if s = [] then [] else [s]
def nes (rs : List (List UInt8 × List UInt8)) : List (List UInt8) := rs.flatMap fun r => ne r.1 ++ ne r.2
theorem mem_ne (x s : List UInt8) : x ∈ ne s ↔ x = s ∧ x ≠ [] := by
  unfold ne
  by_cases h : s = []
  · rw [if_pos h]; subst h; simp
  · rw [if_neg h]
    simp
    rintro rfl
    exact h
theorem mem_nes (x : List UInt8) (rs : List (List UInt8 × List UInt8)) : x ∈ nes rs ↔ x ≠ [] ∧ ∃ r ∈ rs, x = r.1 ∨ x = r.2 := by
  unfold nes
  simp only [List.mem_flatMap, List.mem_append, mem_ne]
  constructor
  · rintro ⟨r, hr, ⟨rfl, h⟩ | ⟨rfl, h⟩⟩
    · exact ⟨h, r, hr, .inl rfl⟩
    · exact ⟨h, r, hr, .inr rfl⟩
  · rintro ⟨h, r, hr, rfl | rfl⟩
    · exact ⟨r, hr, .inl ⟨rfl, h⟩⟩
    · exact ⟨r, hr, .inr ⟨rfl, h⟩⟩

/-- bs are the bounds of the ranges. -/
def isB (rs : List (List UInt8 × List UInt8)) (bs : List (List UInt8)) : Prop := rises bs ∧ ∀ x, x ∈ bs ↔ x ∈ nes rs
theorem isB_uniq {rs : List (List UInt8 × List UInt8)} {a b : List (List UInt8)} (ha : isB rs a) (hb : isB rs b) : a = b :=
  rises_uniq a b ha.1 hb.1 fun x => by rw [ha.2, hb.2]
theorem isB_compact (rs : List (List UInt8 × List UInt8)) : isB rs (Lib.compact ((nes rs).mergeSort fun x y => decide (x ≤ y))) := compact_sorted _

theorem nes_len (rs : List (List UInt8 × List UInt8)) : (nes rs).length ≤ 2 * rs.length := by
  induction rs with
  | nil => simp [nes]
  | cons r t ih =>
    have e : nes (r :: t) = (ne r.1 ++ ne r.2) ++ nes t := by simp [nes]
    rw [e, List.length_append, List.length_append, List.length_cons]
    have h1 : ∀ s, (ne s).length ≤ 1 := by intro s; unfold ne; split <;> simp
    have := h1 r.1
    have := h1 r.2
    omega
theorem nes_snoc (rs : List (List UInt8 × List UInt8)) (k : Nat) (h : k < rs.length) : nes (rs.take (k + 1)) = nes (rs.take k) ++ ne rs[k].1 ++ ne rs[k].2 := by
  unfold nes
  rw [List.take_succ_eq_append_getElem h, List.flatMap_append, List.flatMap_singleton, List.append_assoc]

/-- A text put to a row that rises. -/
def isAdd (l : List (List UInt8)) (s : List UInt8) (out : List (List UInt8)) : Prop := rises out ∧ ∀ x, x ∈ out ↔ x ∈ l ∨ x ∈ ne s
theorem isAdd_nil {l : List (List UInt8)} (h : rises l) : isAdd l [] l := ⟨h, fun x => by simp [ne]⟩
theorem isAdd_in {l : List (List UInt8)} {s : List UInt8} (h : rises l) (hs : s ∈ l) : isAdd l s l := ⟨h, fun x => by
  rw [mem_ne]
  constructor
  · exact .inl
  · rintro (hx | ⟨rfl, _⟩)
    · exact hx
    · exact hs⟩
theorem isAdd_mid {l : List (List UInt8)} {s : List UInt8} {p : Nat} (h : rises l) (hs : s ≠ []) (h1 : ∀ j (hj : j < l.length), j < p → Op.bytesLess l[j] s = true) (h2 : ∀ j (hj : j < l.length), p ≤ j → Op.bytesLess s l[j] = true) :
    isAdd l s (l.take p ++ [s] ++ l.drop p) := by
  have hd := List.take_append_drop p l
  have hr : (l.take p ++ l.drop p).Pairwise fun x y => Op.bytesLess x y = true := by rw [hd]; exact h
  obtain ⟨ra, rb, rc⟩ := List.pairwise_append.1 hr
  have m1 : ∀ x ∈ l.take p, Op.bytesLess x s = true := by
    intro x hx
    obtain ⟨j, hj, rfl⟩ := List.getElem_of_mem hx
    simp at hj
    simpa using h1 j (by omega) (by omega)
  have m2 : ∀ x ∈ l.drop p, Op.bytesLess s x = true := by
    intro x hx
    obtain ⟨j, hj, rfl⟩ := List.getElem_of_mem hx
    simp at hj
    simpa using h2 (p + j) (by omega) (by omega)
  refine ⟨?_, fun x => ?_⟩
  · refine List.pairwise_append.2 ⟨List.pairwise_append.2 ⟨ra, by simp, fun a ha b hb => ?_⟩, rb, fun a ha b hb => ?_⟩
    · simp at hb; subst hb; exact m1 a ha
    · rw [List.mem_append] at ha
      rcases ha with ha | ha
      · exact rc a ha b hb
      · simp at ha; subst ha; exact m2 b hb
  · have : x ∈ l ↔ x ∈ l.take p ∨ x ∈ l.drop p := by
      conv => lhs; rw [← hd]
      rw [List.mem_append]
    rw [this, mem_ne]
    simp only [List.mem_append, List.mem_singleton]
    constructor
    · rintro ((a | rfl) | b)
      · exact .inl (.inl a)
      · exact .inr ⟨rfl, hs⟩
      · exact .inl (.inr b)
    · rintro ((a | b) | ⟨rfl, _⟩)
      · exact .inl (.inl a)
      · exact .inr b
      · exact .inl (.inr rfl)
end Go.Proofs.YtjfmgplhcinkfaaGreat.Km
/- Maps whose keys are texts: all that is said of them, and which keys there are. -/
namespace Go.Proofs.YtjfmgplhcinkfaaGreat
open Go.RowKit Go.Maps
set_option linter.unusedVariables false
set_option linter.unusedSimpArgs false

/-- The bytes of a text. -/
abbrev bts (s : ByteArray) : List UInt8 := s.data.toList
theorem bts_mk (x : List UInt8) : bts ⟨x.toArray⟩ = x := rfl
theorem mk_bts (s : ByteArray) : (⟨(bts s).toArray⟩ : ByteArray) = s := ba_inj rfl
theorem sz_mk {x : List UInt8} (h : x.length ≤ maxLen) : (⟨x.toArray⟩ : ByteArray).size ≤ maxLen := by
  show x.toArray.size ≤ maxLen
  simpa using h
/-- What lies at a key, if it is a text. -/
def litS (g : ByteArray → Option Value) : Lit → Option Value
  | .string x => if x.length ≤ maxLen then g ⟨x.toArray⟩ else none
  | _ => none
theorem litS_str (g : ByteArray → Option Value) {s : ByteArray} (h : s.size ≤ maxLen) : litS g (.string (bts s)) = g s := by
  have : (bts s).length ≤ maxLen := by simpa using h
  simp only [litS]
  rw [if_pos this, mk_bts]
def updG (g : ByteArray → Option Value) (x : ByteArray) (v : Value) : ByteArray → Option Value := fun d => if d = x then some v else g d
theorem litS_upd {g : ByteArray → Option Value} {x : ByteArray} (h : x.size ≤ maxLen) {v : Value} {f : Lit → Option Value} (hs : SetF (litS g) (.string (bts x)) v f) : f = litS (updG g x v) := by
  funext l
  obtain ⟨h1, h2⟩ := hs
  by_cases e : l = .string (bts x)
  · rw [e, h1, litS_str _ h]
    simp [updG]
  · rw [h2 l e]
    cases l <;> try rfl
    rename_i y
    simp only [litS]
    by_cases hy : y.length ≤ maxLen
    · rw [if_pos hy, if_pos hy]
      unfold updG
      rw [if_neg (fun e' => e (by rw [← e'])) ]
    · rw [if_neg hy, if_neg hy]
/-- Block b is a map of n entries; g: what lies at each text. -/
def MapZ (w : World) (b n : Nat) (g : ByteArray → Option Value) : Prop := MapF w 9 b n (litS g)
theorem litS_none : litS (fun _ => none) = fun _ => none := by
  funext l
  cases l <;> try rfl
  simp [litS]
theorem MapZ.made (w : World) : MapZ (w.alloc (.map #[] 0)) w.heap.size 0 (fun _ => none) := by
  unfold MapZ
  rw [litS_none]
  exact MapF.made w _
theorem MapZ.lt {w : World} {b n : Nat} {g : ByteArray → Option Value} (h : MapZ w b n g) : b < w.heap.size := MapF.lt h
theorem MapZ.block {w w' : World} {b n : Nat} {g : ByteArray → Option Value} (h : MapZ w b n g) (hb : w'.heap[b]? = w.heap[b]?) : MapZ w' b n g := MapF.block h hb
theorem MapZ.below {w w' : World} {b n : Nat} {g : ByteArray → Option Value} (h : MapZ w b n g) (hb : Below w.heap.size w w') : MapZ w' b n g := MapF.below h hb
theorem litS_congr {g g' : ByteArray → Option Value} (e : ∀ s : ByteArray, s.size ≤ maxLen → g s = g' s) : litS g = litS g' := by
  funext l
  cases l <;> try rfl
  rename_i x
  simp only [litS]
  by_cases hx : x.length ≤ maxLen
  · rw [if_pos hx, if_pos hx, e _ (sz_mk hx)]
  · rw [if_neg hx, if_neg hx]
theorem MapZ.congr {w : World} {b n : Nat} {g g' : ByteArray → Option Value} (h : MapZ w b n g) (e : ∀ s : ByteArray, s.size ≤ maxLen → g s = g' s) : MapZ w b n g' := by
  unfold MapZ at *
  rw [← litS_congr e]
  exact h
theorem keyed_text : Keyed Tryz.prog 9 := Maps.string_keyed Tryz.underlying9
theorem key_text {s : ByteArray} (h : s.size ≤ maxLen) : keyOf Tryz.prog 9 (.string s) = some (.string (bts s)) := WideMaps.keyOf_string_mk Tryz.underlying9 h
section
variable {w : World} {t e : TypeId} {b n : Nat} {g : ByteArray → Option Value}
theorem MapZ.look (h : MapZ w b n g) (ht : Tryz.prog.underlying t = some (.map 9 e)) {z : Value} (hz : (zeroValue e).run Tryz.prog w = .ok z w) {x : ByteArray} (hk : x.size ≤ maxLen) :
    (Instr.lookup t (.map (some b)) (.string x) false).run Tryz.prog w = .ok ((g x).getD z) w := by
  have := MapF.look h keyed_text ht hz (key_text hk)
  rw [litS_str _ hk] at this
  exact this
theorem MapZ.store (h : MapZ w b n g) (ht : Tryz.prog.underlying t = some (.map 9 e)) (hn : n < maxLen) {x : ByteArray} (hk : x.size ≤ maxLen) (val : Value) :
    ∃ w', (Instr.mapUpdate t (.map (some b)) (.string x) val).run Tryz.prog w = .ok () w' ∧ MapZ w' b (if (g x).isSome then n else n + 1) (updG g x val) ∧ w.mapTurned w' b := by
  obtain ⟨w', hrun, ⟨f', r1, r3⟩, r2⟩ := MapF.store (val := val) h keyed_text ht hn (key_text hk)
  rw [litS_str _ hk] at r1
  refine ⟨w', hrun, ?_, r2⟩
  unfold MapZ
  rw [← litS_upd hk r3]
  exact r1
end
set_option maxRecDepth 100000 in
/-- The store at the operation. -/
theorem wp_mapSetZ {w : World} {t e : TypeId} {b n : Nat} {g : ByteArray → Option Value} {ops : Array Oper} {rest : List Oper} {o : Oper} {a : Act} {Q : Exit → Act → World → Prop}
    (hg : o.guard = none) (m x v : Operand) (hop : o.op = Op.mapUpdate t m x v) (ht : Tryz.prog.underlying t = some (.map 9 e)) (hm : a.eval m = .map (some b)) (hown : MapZ w b n g) (hn : n < maxLen)
    (k : ByteArray) (val : Value) (hx : a.eval x = .string k) (hv : a.eval v = val) (hk : k.size ≤ maxLen)
    (hK : ∀ w', MapZ w' b (if (g k).isSome then n else n + 1) (updG g k val) → w.mapTurned w' b → wpList Tryz.prog ops Q rest (a.put o.dst undef) w') :
    wpList Tryz.prog ops Q (o :: rest) a w := by
  refine wpList_plain hg fun K' hK' => ?_
  obtain ⟨w', hrun, r1, r2⟩ := hown.store ht hn hk val
  unfold Oper.wp
  simp [execOp, hop, hm, hx, hv, hrun, Result.andThen]
  exact hK' _ _ (hK w' r1 r2)

/-- The keys of a map of texts, in whatever order. -/
theorem MapZ.keys {w : World} {b n : Nat} {g : ByteArray → Option Value} (h : MapZ w b n g) {L : List ByteArray} (hnd : (L.map bts).Nodup) (hm : ∀ s, s ∈ L ↔ s.size ≤ maxLen ∧ (g s).isSome = true) :
    ∃ D, w.ownsMap Tryz.prog 9 hvR b n D ∧ Maps.size D = n ∧ (L.map bts).Perm (strKeys D) ∧ n = L.length := by
  obtain ⟨D, ho, hsz, hf⟩ := h
  obtain ⟨es, rfl, hpw, _⟩ := ho.entries keyed_text
  obtain ⟨es', e, hko⟩ := ho.keysOf
  cases e
  have hperm : (L.map bts).Perm (strKeys (.map es)) := perm_strKeys hpw (fun p hp => by
      obtain ⟨v, hv⟩ := hko p hp
      obtain ⟨x, _, hx, _⟩ := Maps.keyOf_str Tryz.underlying9 hv
      exact ⟨x, hx⟩) hnd (fun x => by
      rw [(hf (.string x) trivial).1, List.mem_map]
      simp only [litS]
      constructor
      · rintro ⟨s, hs, rfl⟩
        obtain ⟨h1, h2⟩ := (hm s).1 hs
        rw [if_pos (by simpa using h1), mk_bts]
        exact h2
      · intro hx
        by_cases hl : x.length ≤ maxLen
        · rw [if_pos hl] at hx
          exact ⟨⟨x.toArray⟩, (hm _).2 ⟨sz_mk hl, hx⟩, rfl⟩
        · rw [if_neg hl] at hx
          cases hx)
  refine ⟨_, ho, hsz, hperm, ?_⟩
  have h1 := hperm.length_eq
  rw [← hsz]
  simp [strKeys] at h1
  rw [size_eq, h1]
/-- A row of texts that rises is the sorted row of its members. -/
theorem rises_sort {l m : List (List UInt8)} (hr : Km.rises l) (hp : m.Perm l) : m.mergeSort (fun x y => decide (x ≤ y)) = l := by
  have hnd : m.Nodup := hp.nodup_iff.2 (hr.imp fun {a b} h e => by subst e; rw [Km.bl_irrefl] at h; cases h)
  refine Km.rises_uniq _ _ ?_ hr (fun x => by rw [(List.mergeSort_perm m _).mem_iff, hp.mem_iff])
  have h1 := Km.sorted_ge m
  have h2 : (m.mergeSort fun x y => decide (x ≤ y)).Nodup := (List.mergeSort_perm m _).nodup_iff.2 hnd
  refine (h1.and h2).imp fun {a b} ⟨h3, h4⟩ => ?_
  cases h5 : Op.bytesLess a b with
  | true => rfl
  | false => exact absurd (Km.bl_tri h5 h3) h4
theorem rises_nodup {l : List (List UInt8)} (hr : Km.rises l) : l.Nodup := hr.imp fun {a b} h e => by subst e; rw [Km.bl_irrefl] at h; cases h
end Go.Proofs.YtjfmgplhcinkfaaGreat
/- What the closure of vary.Join does: it appends the bytes of one number to the captured row. -/
namespace Go.Proofs.YtjfmgplhcinkfaaGreat
open Go.RowKit

theorem info_u8 : (Tryz.prog.info? 5).map (fun i => (i.zero, i.size, i.bytes)) = some (some (.int .u8 0), 1, 1) := by kernel_rfl

def bytesV (l : List UInt8) : List Value := l.map fun c => .int .u8 (c.toNat : Int)

/-- The captured row of bytes: Bv is the variable's block, base: from where on the call's own blocks lie. -/
structure Buf (base Bv : Nat) (l : List UInt8) (w : World) : Prop where
  le : base ≤ Bv
  var : ∃ v, w.heap[Bv]? = some (.cells #[v] 70 (0, 0)) ∧ w.ownsRow base 5 1 v l.length (bytesV l)

theorem own_shape {w1 : World} {base e n : Nat} {v' : Value} {xs : List Value} (h : w1.ownsRow base e 1 v' n xs) : ∃ a k c, v' = .slice a k c := by
  rcases h.2 with ⟨rfl, _⟩ | ⟨g, cap, cur, rfl, _⟩
  · exact ⟨_, _, _, rfl⟩
  · exact ⟨_, _, _, rfl⟩

theorem buf_push {base Bv : Nat} {l : List UInt8} {c : UInt8} {wr w1 : World} {v v' : Value} {X : Obj} (hle : base ≤ Bv) (hbs : base ≤ wr.heap.size)
    (hv : wr.heap[Bv]? = some (.cells #[v] 70 (0, 0))) (ho : wr.ownsRow base 5 1 v l.length (bytesV l))
    (ho' : w1.ownsRow base 5 1 v' (l.length + 1) (bytesV l ++ [.int .u8 (c.toNat : Int)])) (hg : (wr.alloc X).grownBy w1 v.ownBlock) :
    w1.cell? ⟨Bv, 0, none⟩ = some v ∧ w1.frozen? ⟨Bv, 0, none⟩ = false ∧ Buf base Bv (l ++ [c]) (w1.setCell ⟨Bv, 0, none⟩ v') ∧ Below base wr (w1.setCell ⟨Bv, 0, none⟩ v') := by
  have hlt := lt_of_block hv
  have hne : some Bv ≠ v.ownBlock := by
    intro e
    rcases ho.2 with ⟨rfl, _⟩ | ⟨g, cap, cur, rfl, _, hh, _⟩
    · simp [Value.ownBlock] at e
    · simp [Value.ownBlock] at e
      subst e
      rw [hh] at hv
      simp at hv
  have hv1 : w1.heap[Bv]? = some (.cells #[v] 70 (0, 0)) := by
    rw [hg.block Bv (by simp; omega) hne, Below.heap_alloc _ _ _ hlt]
    exact hv
  have hne' : v'.ownBlock ≠ some Bv := by
    intro e
    rcases ho'.2 with ⟨rfl, _⟩ | ⟨g, cap, cur, rfl, _, hh, _⟩
    · simp [Value.ownBlock] at e
    · simp [Value.ownBlock] at e
      subst e
      rw [hh] at hv1
      simp at hv1
  refine ⟨cell_of_one hv1, free_of_one hv1, ⟨hle, _, one_setCell hv1, ?_⟩, ?_⟩
  · have := ownsRow_setCell_other ho' (a := ⟨Bv, 0, none⟩) hne' v'
    simpa [bytesV] using this
  · refine Below.setCell ?_ hle _
    refine ((Below.refl base wr).alloc hbs X).grown hg (by simp; omega) ?_
    intro k hk
    exact (ho.lt k hk).1

end Go.Proofs.YtjfmgplhcinkfaaGreat
/- What vary.Join answers. -/
namespace Go.Proofs.YtjfmgplhcinkfaaGreat
open Go.RowKit

theorem lt_of_cell? {w : World} {a : Addr} {v : Value} (h : w.cell? a = some v) : a.block < w.heap.size := by
  unfold World.cell? at h
  split at h
  · rename_i hb
    exact lt_of_block hb
  · cases h

/-- A row of numbers of 64 bits that is read: nil, or cells. -/
def U64s (w : World) (a : Option Addr) (zs : List Nat) : Prop :=
  (∀ z ∈ zs, z < 18446744073709551616) ∧ ∀ i (h : i < zs.length), ∃ b off, a = some ⟨b, off, none⟩ ∧ w.cell? ⟨b, off + i, none⟩ = some (.int .u64 (zs[i] : Int))

theorem buf_string {base Bv : Nat} {l : List UInt8} {w : World} (h : Buf base Bv l w) : ∃ v, w.cell? ⟨Bv, 0, none⟩ = some v ∧ (convert 70 9 v).run Tryz.prog w = .ok (.string ⟨l.toArray⟩) w := by
  obtain ⟨_, v, hv, ho⟩ := h
  refine ⟨v, cell_of_one hv, ?_⟩
  rcases ho.2 with ⟨rfl, h0⟩ | ⟨g, cap, cur, rfl, r⟩
  · obtain rfl : l = [] := List.length_eq_zero_iff.1 h0
    rw [run_convert_bytes_string w 70 9 5 none 0 0 Tryz.underlying70 Tryz.underlying5 Tryz.underlying9]
    rfl
  · have hcells : ∀ j (hj : j < l.length), w.cell? ((⟨g, 0, none⟩ : Addr).add j) = some (.int .u8 (l[j].toNat : Int)) := fun j hj => by
      rw [Addr.add_lit, Nat.zero_add, ho.cellAt j (by omega)]
      simp [bytesV, hj]
    exact run_convert_bytes_back (P := Tryz.prog) w 70 9 5 ⟨g, 0, none⟩ cap l Tryz.underlying70 Tryz.underlying5 Tryz.underlying9 hcells

/-- The bytes of all numbers, one behind the other. -/
def encs (zs : List Nat) : List UInt8 := zs.flatMap Vm.enc
theorem encs_len {zs : List Nat} (h : ∀ z ∈ zs, z < 18446744073709551616) : (encs zs).length ≤ 10 * zs.length := by
  induction zs with
  | nil => simp [encs]
  | cons z r ih =>
    have h1 := Vm.enc_len10 (h z (by simp))
    have h2 := ih (fun x hx => h x (by simp [hx]))
    simp [encs] at h2 ⊢
    omega
theorem encs_snoc (zs : List Nat) (k : Nat) (hk : k < zs.length) : encs (zs.take (k + 1)) = encs (zs.take k) ++ Vm.enc zs[k] := by
  unfold encs
  rw [List.take_succ_eq_append_getElem hk, List.flatMap_append, List.flatMap_singleton]

end Go.Proofs.YtjfmgplhcinkfaaGreat
/- What stamp.Bytes answers. -/
namespace Go.Proofs.YtjfmgplhcinkfaaGreat
open Go.RowKit
set_option linter.unusedVariables false

/-- The bytes of a stamp. -/
def sbytes (n s : Int) : List UInt8 := if Sm.ok n s = true then Vm.enc n.toNat ++ Vm.enc s.toNat else []

theorem Sm.ok_nat {n s : Int} (h : Sm.ok n s = true) : ∃ a b : Nat, n = a ∧ s = b ∧ 1 ≤ a ∧ a ≤ 1099511627776 ∧ b < 6 := by
  simp only [Sm.ok, decide_eq_true_eq] at h
  exact ⟨n.toNat, s.toNat, by omega, by omega, by omega, by omega, by omega⟩

end Go.Proofs.YtjfmgplhcinkfaaGreat
/- What past.Check and the document's Check answer. -/
namespace Go.Proofs.YtjfmgplhcinkfaaGreat
open Go.RowKit
set_option linter.unusedVariables false
set_option linter.unusedSimpArgs false

/-- No key is longer than a string can be. -/
def Szd (l : List De) : Prop := ∀ d ∈ l, d.1.size ≤ 9223372036854775807
theorem Srt.szd {l : List De} (h : Srt l) : Szd l := fun d hd => by have := okD_size (h.1 d hd); omega

theorem boxed3 {wr w1 : World} {x y z : Value} {T : TypeId} (hb : Below (wr.alloc (.cells #[x, y, z] T)).heap.size (wr.alloc (.cells #[x, y, z] T)) w1) : Below wr.heap.size wr w1 := (box3 hb).2.2.2.2

set_option maxRecDepth 100000 in
set_option maxHeartbeats 1600000 in
theorem pcheck_any (v : Value) (l : List De) (w : World) (hl : l.length ≤ 1000000) (hz : Szd l) (hr : DepAt w v l) :
    Calls Tryz.prog 76 #[v] w fun e w' => e = .returned (.bool (chkD l)) ∧ Below w.heap.size w w' := by
  obtain ⟨a, cap, rfl, hcap, hmx, _, hr⟩ := hr
  unfold maxLen at hmx
  have HR := Lib.hid hr
  have HZ := Lib.hid hz
  clear hr hz
  by_cases h24 : l.length ≤ 24
  · have hlt24 : ¬ (24 : Int) < (l.length : Int) := by omega
    have hc24 : chkD l = decide (Srt l) := by simp [chkD, h24]
    rw [hc24]
    clear hc24
    go_enter Tryz.func76, Tryz.ntmps76
    go_wp2
    go_loopw [10] (fun i wr => ∃ k : Nat, k ≤ l.length ∧ i = .int .i64 k ∧ Srt (l.take k) ∧ Below w.heap.size w wr) (fun i _ => l.length - (intOf i).toNat)
    case atStart => exact ⟨0, by omega, rfl, by simpa using Srt.nil, Below.refl _ _⟩
    case round =>
      obtain ⟨k, hk, rfl, hst, hbel⟩ := hrel
      have HS := Lib.hid hst
      clear hst
      by_cases hlt : k < l.length
      · obtain ⟨b, off, rfl, hbl, c0, c1, c2⟩ := HR.out.below hbel k hlt
        have HD := Lib.hid (HR.out.below hbel)
        have HP := Lib.hid (@srt_step l k hlt)
        have HQ := Lib.hid (@srt_stop l k hlt)
        have hs := HZ.out l[k] (List.getElem_mem hlt)
        generalize l[k] = d at c0 c1 c2 HP HQ hs
        obtain ⟨x, y, z⟩ := d
        dsimp only at c0 c1 c2 hs
        have hki : (k : Int) ≤ (cap : Int) := by omega
        have g0 : (wr.alloc (.cells #[.string x, .int .i64 y, .int .i64 z] 38)).cell? ⟨wr.heap.size, 0, none⟩ = some (.string x) ∧ (wr.alloc (.cells #[.string x, .int .i64 y, .int .i64 z] 38)).cell? ⟨wr.heap.size, 1, none⟩ = some (.int .i64 y) ∧ (wr.alloc (.cells #[.string x, .int .i64 y, .int .i64 z] 38)).cell? ⟨wr.heap.size, 2, none⟩ = some (.int .i64 z) := by
          refine ⟨?_, ?_, ?_⟩ <;> simp
        have HG := Lib.hid (HD.out.below (balloc (Below.refl _ wr) (.cells #[.string x, .int .i64 y, .int .i64 z] 38)))
        have hkl : Hid ((l.take k).length = k) := Lib.hid (by simp; omega)
        generalize hf : folD (l.take k) (x, y, z) = c at HP HQ
        have HF := Lib.hid hf
        clear hf
        go_wp2_with fail
        go_region_held3 (fun w' => w'.cell? ⟨wr.heap.size, 0, none⟩ = some (.string x) ∧ w'.cell? ⟨wr.heap.size, 1, none⟩ = some (.int .i64 y) ∧ w'.cell? ⟨wr.heap.size, 2, none⟩ = some (.int .i64 z))
          (first | exact g0 | exact g1)
          (first
            | (go_at_call 90; ((refine (follows_at _ k cap (l.take k) x y z c _ hkl.out (by have := hkl.out; omega) (HG.out.take k).drew hs HF.out).mono ?_); rintro e wa ⟨rfl, ha⟩; have g1 := keepC3 ha g0)))
        have hb2 := bstep hbel (boxed3 (bstep (Below.refl _ _).drew ha))
        cases c with
        | true =>
          go_wp2
          go_roundw
          case rel => exact ⟨k + 1, by omega, by go_num, HP.out.2 ⟨HS.out, rfl⟩, hb2⟩
          case measure => simp [intOf]; omega
        | false =>
          go_wp2
          go_ret
          exact ⟨ret_bool (decide_eq_false (HQ.out (by first | rfl | trivial))).symm, hb2⟩
      · obtain rfl : k = l.length := by omega
        have HE : Hid (Srt l) := Lib.hid (by have h := HS.out; rw [List.take_of_length_le (Nat.le_refl _)] at h; exact h)
        go_wp2
        go_ret
        exact ⟨ret_bool (decide_eq_true HE.out).symm, hbel⟩
  · have hlt24 : (24 : Int) < (l.length : Int) := by omega
    rw [show chkD l = false by simp [chkD, h24]]
    go_enter Tryz.func76, Tryz.ntmps76
    go_wp2
    go_ret
    exact ⟨rfl, Below.refl _ _⟩
end Go.Proofs.YtjfmgplhcinkfaaGreat
/- The bytes of a past: plain mathematics. -/
namespace Go.Proofs.YtjfmgplhcinkfaaGreat
open Go.RowKit
set_option linter.unusedVariables false

theorem enc_ne (n : Nat) : Vm.enc n ≠ [] := by
  rw [Vm.enc]
  split <;> simp
def dbytes (d : De) : List UInt8 := (Vm.enc d.1.size ++ d.1.data.toList) ++ sbytes d.2.1 d.2.2
def pbody (l : List De) : List UInt8 := l.flatMap dbytes
/-- The bytes of a past; none: it may not be. -/
def pbV (l : List De) : List UInt8 := if chkD l = true then Vm.enc l.length ++ pbody l else []
theorem pbody_take (l : List De) (k : Nat) (h : k < l.length) : pbody (l.take (k + 1)) = pbody (l.take k) ++ dbytes l[k] := by
  unfold pbody
  rw [List.take_succ_eq_append_getElem h, List.flatMap_append]
  simp
theorem pbody_cons (d : De) (l : List De) : pbody (d :: l) = dbytes d ++ pbody l := by simp [pbody]
theorem sbytes_len20 (n s : Int) : (sbytes n s).length ≤ 20 := by
  unfold sbytes
  split
  · rename_i h
    obtain ⟨a, b, rfl, rfl, h1, h2, h3⟩ := Sm.ok_nat h
    have e1 := Vm.enc_len10 (n := a) (by omega)
    have e2 := Vm.enc_len10 (n := b) (by omega)
    simp only [Int.toNat_natCast, List.length_append]
    omega
  · simp
theorem dbytes_len {d : De} (h : d.1.size ≤ 32) : (dbytes d).length ≤ 62 := by
  have e1 := Vm.enc_len10 (n := d.1.size) (by omega)
  have e2 := sbytes_len20 d.2.1 d.2.2
  have e3 : d.1.data.toList.length = d.1.size := rfl
  unfold dbytes
  simp only [List.length_append]
  omega
theorem pbody_len : ∀ (l : List De), (∀ d ∈ l, d.1.size ≤ 32) → (pbody l).length ≤ l.length * 62
  | [], _ => by simp [pbody]
  | d :: l, h => by
    have h1 := dbytes_len (h d (by simp))
    have h2 := pbody_len l (fun e he => h e (List.mem_cons_of_mem _ he))
    rw [pbody_cons, List.length_append, List.length_cons]
    omega
theorem srt_sizes {l : List De} (h : Srt l) : ∀ d ∈ l, d.1.size ≤ 32 := fun d hd => okD_size (h.1 d hd)
theorem chkD_parts {l : List De} (h : chkD l = true) : l.length ≤ 24 ∧ Srt l := by
  simp [chkD] at h
  exact h
end Go.Proofs.YtjfmgplhcinkfaaGreat
/- What vary.Read answers. -/
namespace Go.Proofs.YtjfmgplhcinkfaaGreat
open Go.RowKit

/-- The answer of vary.Read. -/
def rd (l : List UInt8) (at_ : Int) : Option (Nat × Nat) :=
  if at_ < 0 ∨ (l.length : Int) < at_ then none else (Vm.dec 0 (l.drop at_.toNat)).map fun x => (x.1, at_.toNat + x.2)
def rdV : Option (Nat × Nat) → Value
  | none => .tuple #[.int .u64 0, .int .i64 0, .bool false]
  | some (n, e) => .tuple #[.int .u64 (n : Int), .int .i64 (e : Int), .bool true]

theorem or_shift (k acc x : Nat) (c : Int) (hc : c = x) (hacc : acc < 2 ^ (7 * k)) (hx : x * 2 ^ (7 * k) < 18446744073709551616) (hk : 2 ^ (7 * k) ≤ 18446744073709551616) :
    bits .or .u64 (acc : Int) (IntKind.u64.wrap (c * 2 ^ (7 * k))) = ((acc + x * 2 ^ (7 * k) : Nat) : Int) := by
  subst hc
  have e : ((x : Int) * 2 ^ (7 * k)) = ((x * 2 ^ (7 * k) : Nat) : Int) := by simp
  rw [e, IntKind.wrap_u64, Int.emod_eq_of_lt (by omega) (by omega), u64_or_nat _ _ (by omega) hx]
  congr 1
  rw [Nat.mul_comm, Nat.or_comm, ← Nat.two_pow_add_eq_or_of_lt hacc, Nat.add_comm]

theorem pow7 {k : Nat} (h : k ≤ 9) : 2 ^ (7 * k) ≤ 9223372036854775808 := by
  have : (2 : Nat) ^ (7 * k) ≤ 2 ^ 63 := Nat.pow_le_pow_right (by omega) (by omega)
  simpa using this
theorem pow7' {k : Nat} (h : k ≤ 8) : 2 ^ (7 * k) ≤ 72057594037927936 := by
  have : (2 : Nat) ^ (7 * k) ≤ 2 ^ 56 := Nat.pow_le_pow_right (by omega) (by omega)
  simpa using this

theorem drop_at (t : ByteArray) (k : Nat) (h : k < t.size) : t.data.toList.drop k = t[k] :: t.data.toList.drop (k + 1) := by
  rw [List.drop_eq_getElem_cons (by simpa using h)]
  rfl

theorem or_shift9 (acc x : Nat) (hacc : acc < 2 ^ (7 * 9)) (hx : (x : Int) ≤ 1) : bits .or .u64 (acc : Int) ((x : Int) * 9223372036854775808) = ((acc + x * 2 ^ (7 * 9) : Nat) : Int) := by
  have hx' : x ≤ 1 := by omega
  have h := or_shift 9 acc x x rfl hacc (by simp; omega) (by simp)
  rw [IntKind.wrap_u64, Int.emod_eq_of_lt (by omega) (by simp; omega)] at h
  simpa using h
theorem or_zero (acc p : Nat) (h : acc < 18446744073709551616) : bits .or .u64 (acc : Int) 0 = ((acc + 0 * p : Nat) : Int) := by
  have := u64_or_nat acc 0 h (by omega)
  simpa using this
theorem ret_rd {x y : Int} {n e : Nat} (hx : x = (n : Int)) (hy : y = (e : Int)) : Ending.returned (.tuple #[.int .u64 x, .int .i64 y, .bool true]) = .returned (rdV (some (n, e))) := by
  subst hx hy; rfl

section
variable {D : Option (Nat × Nat)} {k acc : Nat} {b : UInt8} {r : List UInt8}
theorem way_none9 (he : D = Vm.more k acc (Vm.dec k (b :: r))) (hk : k = 9) (hb : 1 < (b.toNat : Int)) : D = none := by
  rw [he, Vm.dec, if_pos (by omega)]; rfl
theorem way_none0 (he : D = Vm.more k acc (Vm.dec k (b :: r))) (hk : 0 < k) (hb : b.toNat = 0) : D = none := by
  rw [he, Vm.dec, if_neg (by omega), if_neg (by omega), if_pos (by omega)]; rfl
theorem way_ret (he : D = Vm.more k acc (Vm.dec k (b :: r))) (hb : (b.toNat : Int) < 128) (h9 : k = 9 → (b.toNat : Int) ≤ 1) (h0 : ¬ (b.toNat = 0 ∧ 0 < k)) : D = some (acc + b.toNat * 2 ^ (7 * k), k + 1) := by
  rw [he, Vm.dec, if_neg (by omega), if_neg (by omega), if_neg h0]; rfl
theorem way_more (he : D = Vm.more k acc (Vm.dec k (b :: r))) (hb : 128 ≤ (b.toNat : Int)) (h9 : ¬ k = 9) : D = Vm.more (k + 1) (acc + (b.toNat - 128) * 2 ^ (7 * k)) (Vm.dec (k + 1) r) := by
  rw [he, Vm.dec, if_neg (by omega), if_pos (by omega)]
  cases Vm.dec (k + 1) r with
  | none => rfl
  | some x =>
    simp only [Vm.more, Option.map_some, Option.some.injEq, Prod.mk.injEq]
    refine ⟨?_, by omega⟩
    rw [show 7 * (k + 1) = 7 * k + 7 from by omega, Nat.pow_add, Nat.add_mul, Nat.add_assoc]
    congr 2
    rw [Nat.mul_comm 128, Nat.mul_assoc, Nat.mul_comm 128]
end

end Go.Proofs.YtjfmgplhcinkfaaGreat
/- What vary.ReadText answers. -/
namespace Go.Proofs.YtjfmgplhcinkfaaGreat
open Go.RowKit

/-- The answer of vary.ReadText. -/
def rdt (l : List UInt8) (at_ most : Int) : Option (List UInt8 × Nat) :=
  match rd l at_ with
  | none => none
  | some (n, e) => if most < (n : Int) ∨ l.length < e + n then none else some ((l.drop e).take n, e + n)
def rdtV : Option (List UInt8 × Nat) → Value
  | none => .tuple #[.string ⟨#[]⟩, .int .i64 0, .bool false]
  | some (t, e) => .tuple #[.string ⟨t.toArray⟩, .int .i64 (e : Int), .bool true]

theorem ret_rdt {x : ByteArray} {y : Int} {t : List UInt8} {e : Nat} (hx : x.data.toList = t) (hy : y = (e : Int)) : Ending.returned (.tuple #[.string x, .int .i64 y, .bool true]) = .returned (rdtV (some (t, e))) := by
  subst hx hy; rfl

theorem rd_some {l : List UInt8} {at_ : Int} {n e : Nat} (h : rd l at_ = some (n, e)) : n < 18446744073709551616 ∧ e ≤ l.length ∧ 0 ≤ at_ ∧ at_ < e := by
  rw [rd] at h
  by_cases c : at_ < 0 ∨ (l.length : Int) < at_
  · rw [if_pos c] at h; cases h
  · rw [if_neg c] at h
    cases hd : Vm.dec 0 (l.drop at_.toNat) with
    | none => rw [hd] at h; cases h
    | some x =>
      obtain ⟨m, k⟩ := x
      rw [hd] at h
      simp at h
      obtain ⟨rfl, rfl⟩ := h
      obtain ⟨h1, h2, h3⟩ := Vm.dec0_inv _ _ _ hd
      have hp := Vm.enc_pos m
      have hk : k = (Vm.enc m).length := by rw [← h3]; simp; simp at h2; omega
      simp at h2
      exact ⟨h1, by omega, by omega, by omega⟩

/-! What was written is read, wherever it stands. -/
theorem rd_back (a b : List UInt8) (n : Nat) (hn : n < 18446744073709551616) : rd (a ++ Vm.enc n ++ b) (a.length : Int) = some (n, a.length + (Vm.enc n).length) := by
  rw [rd, if_neg (by simp; omega), Int.toNat_natCast, List.append_assoc, List.drop_left, Vm.dec0_enc n b hn]
  rfl
theorem rdt_back (a b t : List UInt8) (most : Int) (ht : t.length < 18446744073709551616) (hm : (t.length : Int) ≤ most) :
    rdt (a ++ (Vm.enc t.length ++ t) ++ b) (a.length : Int) most = some (t, a.length + (Vm.enc t.length).length + t.length) := by
  have e : a ++ (Vm.enc t.length ++ t) ++ b = a ++ Vm.enc t.length ++ (t ++ b) := by simp
  rw [rdt, e, rd_back a (t ++ b) t.length ht]
  simp only
  rw [if_neg (by simp; omega)]
  congr 2
  have e2 : a.length + (Vm.enc t.length).length = (a ++ Vm.enc t.length).length := by simp
  rw [e2, List.drop_left, List.take_left]
theorem rdt_less (a b t : List UInt8) (most : Int) (ht : t.length < 18446744073709551616) (hm : most < (t.length : Int)) :
    rdt (a ++ (Vm.enc t.length ++ t) ++ b) (a.length : Int) most = none := by
  have e : a ++ (Vm.enc t.length ++ t) ++ b = a ++ Vm.enc t.length ++ (t ++ b) := by simp
  rw [rdt, e, rd_back a (t ++ b) t.length ht]
  simp only
  rw [if_pos (Or.inl hm)]

end Go.Proofs.YtjfmgplhcinkfaaGreat
/- What stamp.Read answers. -/
namespace Go.Proofs.YtjfmgplhcinkfaaGreat
open Go.RowKit
set_option linter.unusedVariables false

/-- The answer of stamp.Read, as a value. -/
def srV : Option ((Int × Int) × Nat) → Value
  | none => .tuple #[.agg #[.int .i64 0, .int .i64 0], .int .i64 0, .bool false]
  | some (p, e) => .tuple #[.agg #[.int .i64 p.1, .int .i64 p.2], .int .i64 (e : Int), .bool true]

theorem rd_bounds {l : List UInt8} {a : Int} {n e : Nat} (h : rd l a = some (n, e)) : n < 18446744073709551616 ∧ e ≤ l.length ∧ 0 ≤ a ∧ a < e := by
  unfold rd at h
  split at h
  · cases h
  · rename_i hc
    cases hd : Vm.dec 0 (l.drop a.toNat) with
    | none => rw [hd] at h; cases h
    | some x =>
      obtain ⟨y, k⟩ := x
      rw [hd] at h
      simp at h
      obtain ⟨rfl, rfl⟩ := h
      obtain ⟨h1, h2, h3⟩ := Vm.dec0_inv _ _ _ hd
      have h4 := Vm.enc_pos y
      rw [← h3] at h4
      simp at h2 h4
      exact ⟨h1, by omega, by omega, by omega⟩

theorem ok_wrap (n k : Nat) (hn : n < 18446744073709551616) (hk : k < 18446744073709551616) : Sm.ok (wrap64 n) (wrap64 k) = Sm.ok n k := by
  unfold wrap64
  exact decide_eq_decide.2 (by omega)

end Go.Proofs.YtjfmgplhcinkfaaGreat
/- What was written as a stamp's bytes is read, wherever it stands. -/
namespace Go.Proofs.YtjfmgplhcinkfaaGreat
open Go.RowKit
set_option linter.unusedVariables false

theorem rd_at (p r : List UInt8) (n : Nat) (hn : n < 18446744073709551616) : rd (p ++ (Vm.enc n ++ r)) (p.length : Int) = some (n, p.length + (Vm.enc n).length) := by
  unfold rd
  rw [if_neg (by simp; omega), Int.toNat_natCast, List.drop_left' rfl, Vm.dec0_enc n r hn]
  rfl
theorem sbytes_ok {n s : Int} (h : Sm.ok n s = true) : sbytes n s = Vm.enc n.toNat ++ Vm.enc s.toNat := by simp [sbytes, h]
theorem sbytes_len (n s : Int) : (sbytes n s).length ≤ 20 := by
  unfold sbytes
  split
  · rename_i h
    simp only [Sm.ok, decide_eq_true_eq] at h
    have h1 := Vm.enc_len10 (n := n.toNat) (by omega)
    have h2 := Vm.enc_len10 (n := s.toNat) (by omega)
    simp; omega
  · simp
theorem sbytes_pos {n s : Int} (h : Sm.ok n s = true) : 2 ≤ (sbytes n s).length := by
  rw [sbytes_ok h]
  have h1 := Vm.enc_pos n.toNat
  have h2 := Vm.enc_pos s.toNat
  simp; omega
theorem srd_at (p r : List UInt8) {n s : Int} (h : Sm.ok n s = true) : Sm.rdS (rd (p ++ (sbytes n s ++ r))) (p.length : Int) = some ((n, s), p.length + (sbytes n s).length) := by
  have hk := h
  simp only [Sm.ok, decide_eq_true_eq] at hk
  rw [sbytes_ok h]
  have e1 := rd_at p (Vm.enc s.toNat ++ r) n.toNat (by omega)
  have e2 := rd_at (p ++ Vm.enc n.toNat) r s.toNat (by omega)
  rw [List.length_append, List.append_assoc] at e2
  unfold Sm.rdS
  rw [List.append_assoc, e1]
  simp only
  rw [e2]
  simp only
  rw [Int.toNat_of_nonneg (by omega), Int.toNat_of_nonneg (by omega), if_pos h]
  simp
  omega

theorem bytes_data (x y z : ByteArray) : (x ++ y ++ z).data.toList = x.data.toList ++ (y.data.toList ++ z.data.toList) := by simp
theorem srd_bytes (x z : ByteArray) (l : List UInt8) {n s : Int} (h : Sm.ok n s = true) (hl : sbytes n s = l) : Sm.rdS (rd (x ++ ⟨l.toArray⟩ ++ z).data.toList) (x.size : Int) = some ((n, s), x.size + l.length) := by
  subst hl
  rw [bytes_data]
  have := srd_at x.data.toList z.data.toList h
  simpa using this
end Go.Proofs.YtjfmgplhcinkfaaGreat
