/- Texts of this proof, one behind the other: KeysSets, KeysRng, Shelf, KeysRows, KeysRef3, KeysFidx. -/
import Derived.Test.YtkaehjehpclgcaaGW12
import Derived.Lib.SlicesCompact
import Derived.Shelf.Strings.Builder1
import Derived.Test.YtkaehjehpclgcaaProg
import Derived.Lib.OthersKept
import Derived.Lib.OwnBridge
import Derived.Sort.OwnSorted
import Derived.Sort.Grow
/- Rows of texts that rise. Plain lemmas: they speak of no one program. -/
namespace Go.Proofs.Ytkaehjehpclgcaa.Km
set_option linter.unusedVariables false

def rises (l : List (List UInt8)) : Prop := l.Pairwise fun x y => Op.bytesLess x y = true

theorem rises_uniq : ∀ (a b : List (List UInt8)), rises a → rises b → (∀ x, x ∈ a ↔ x ∈ b) → a = b
  | [], [], _, _, _ => rfl
  | [], y :: b, _, _, h => by
    have := (h y).2 (by simp)
    simp at this
  | x :: a, [], _, _, h => by
    have := (h x).1 (by simp)
    simp at this
  | x :: a, y :: b, ha, hb, h => by
    obtain ⟨ha1, ha2⟩ := List.pairwise_cons.1 ha
    obtain ⟨hb1, hb2⟩ := List.pairwise_cons.1 hb
    have e : x = y := by
      have hx : x = y ∨ x ∈ b := by simpa using (h x).1 (by simp)
      have hy : y = x ∨ y ∈ a := by simpa using (h y).2 (by simp)
      rcases hx with hx | hx
      · exact hx
      · rcases hy with hy | hy
        · exact hy.symm
        · have h1 := hb1 x hx
          have h2 := ha1 y hy
          rw [bl_asymm h1] at h2
          cases h2
    subst e
    congr 1
    refine rises_uniq a b ha2 hb2 fun z => ?_
    have hz := h z
    simp only [List.mem_cons] at hz
    constructor
    · intro hm
      rcases hz.1 (.inr hm) with rfl | hr
      · have := ha1 z hm
        rw [bl_irrefl] at this
        cases this
      · exact hr
    · intro hm
      rcases hz.2 (.inr hm) with rfl | hr
      · have := hb1 z hm
        rw [bl_irrefl] at this
        cases this
      · exact hr

theorem le_eq (x y : List UInt8) : decide (x ≤ y) = !Op.bytesLess y x := by
  rw [bl_eq, Bool.eq_iff_iff]
  simp

theorem sorted_ge (l : List (List UInt8)) : (l.mergeSort fun x y => decide (x ≤ y)).Pairwise fun x y => Op.bytesLess y x = false := by
  have h := List.pairwise_mergeSort (le := fun x y : List UInt8 => decide (x ≤ y))
    (fun a b c h1 h2 => by
      rw [le_eq] at *
      simp at *
      exact bl_le_trans h1 h2)
    (fun a b => by
      rw [le_eq, le_eq]
      cases h1 : Op.bytesLess b a with
      | false => simp
      | true => simp [bl_asymm h1]) l
  refine h.imp ?_
  intro a b hab
  rw [le_eq] at hab
  simpa using hab

theorem compact_inv (d : Array (List UInt8)) (hs : ∀ i j, i < j → j < d.size → Op.bytesLess d[j]! d[i]! = false) : ∀ m, m ≤ d.size →
    rises (Lib.compactUpTo d m) ∧ (∀ x, x ∈ Lib.compactUpTo d m ↔ ∃ j, j < m ∧ x = d[j]!)
  | 0, _ => by simp [Lib.compactUpTo, rises]
  | m + 1, hm => by
    obtain ⟨ih1, ih2⟩ := compact_inv d hs m (by omega)
    rw [Lib.compactUpTo_succ]
    by_cases hk : Lib.keeps d m = true
    · rw [if_pos hk]
      refine ⟨?_, fun x => ?_⟩
      · refine List.pairwise_append.2 ⟨ih1, by simp, fun a ha b hb => ?_⟩
        simp at hb
        subst hb
        obtain ⟨j, hj, rfl⟩ := (ih2 a).1 ha
        have hm0 : 0 < m := by omega
        have hne : d[m]! ≠ d[m - 1]! := by
          unfold Lib.keeps at hk
          simp at hk
          rcases hk with h | h
          · omega
          · exact h
        have h1 : Op.bytesLess d[m - 1]! d[m]! = true := by
          cases hc : Op.bytesLess d[m - 1]! d[m]! with
          | true => rfl
          | false => exact absurd (bl_tri (hs (m - 1) m (by omega) (by omega)) hc) hne
        by_cases e : j = m - 1
        · subst e; exact h1
        · exact bl_le_lt (hs j (m - 1) (by omega) (by omega)) h1
      · rw [List.mem_append, ih2]
        constructor
        · rintro (⟨j, hj, rfl⟩ | h)
          · exact ⟨j, by omega, rfl⟩
          · simp at h; exact ⟨m, by omega, h⟩
        · rintro ⟨j, hj, rfl⟩
          by_cases e : j = m
          · subst e; right; simp
          · left; exact ⟨j, by omega, rfl⟩
    · rw [if_neg hk, List.append_nil]
      refine ⟨ih1, fun x => ?_⟩
      rw [ih2]
      constructor
      · rintro ⟨j, hj, rfl⟩
        exact ⟨j, by omega, rfl⟩
      · rintro ⟨j, hj, rfl⟩
        by_cases e : j = m
        · subst e
          have hk' : ¬ (j = 0 ∨ d[j]! ≠ d[j - 1]!) := by
            unfold Lib.keeps at hk
            simpa using hk
          refine ⟨j - 1, by omega, ?_⟩
          exact Classical.byContradiction fun h => hk' (.inr h)
        · exact ⟨j, by omega, rfl⟩

theorem compact_sorted (l : List (List UInt8)) : rises (Lib.compact (l.mergeSort fun x y => decide (x ≤ y))) ∧ ∀ x, x ∈ Lib.compact (l.mergeSort fun x y => decide (x ≤ y)) ↔ x ∈ l := by
  have hp := sorted_ge l
  have hm : ∀ x, x ∈ (l.mergeSort fun x y => decide (x ≤ y)) ↔ x ∈ l := fun x => (List.mergeSort_perm l _).mem_iff
  generalize (l.mergeSort fun x y => decide (x ≤ y)) = s at hp hm
  unfold Lib.compact
  have hs : ∀ i j, i < j → j < s.toArray.size → Op.bytesLess s.toArray[j]! s.toArray[i]! = false := by
    intro i j hij hj
    have hj' : j < s.length := by simpa using hj
    have := List.pairwise_iff_getElem.1 hp i j (by omega) hj' hij
    rw [getElem!_pos _ j hj, getElem!_pos _ i (by omega)]
    simpa using this
  obtain ⟨h1, h2⟩ := compact_inv s.toArray hs s.length (by simp)
  refine ⟨h1, fun x => ?_⟩
  rw [h2, ← hm]
  constructor
  · rintro ⟨j, hj, rfl⟩
    rw [getElem!_pos _ j (by simpa using hj)]
    simp
  · intro hx
    obtain ⟨j, hj, rfl⟩ := List.getElem_of_mem hx
    exact ⟨j, hj, by rw [getElem!_pos _ j (by simpa using hj)]; simp⟩

/-- What stands in a range's bounds that is something. -/
def ne (s : List UInt8) : List (List UInt8) := if s = [] then [] else [s]
def nes (rs : List (List UInt8 × List UInt8)) : List (List UInt8) := rs.flatMap fun r => ne r.1 ++ ne r.2
theorem mem_ne (x s : List UInt8) : x ∈ ne s ↔ x = s ∧ x ≠ [] := by
  unfold ne
  by_cases h : s = []
  · rw [if_pos h]; subst h; simp
  · rw [if_neg h]
    simp
    rintro rfl
    exact h
theorem mem_nes (x : List UInt8) (rs : List (List UInt8 × List UInt8)) : x ∈ nes rs ↔ x ≠ [] ∧ ∃ r ∈ rs, x = r.1 ∨ x = r.2 := by
  unfold nes
  simp only [List.mem_flatMap, List.mem_append, mem_ne]
  constructor
  · rintro ⟨r, hr, ⟨rfl, h⟩ | ⟨rfl, h⟩⟩
    · exact ⟨h, r, hr, .inl rfl⟩
    · exact ⟨h, r, hr, .inr rfl⟩
  · rintro ⟨h, r, hr, rfl | rfl⟩
    · exact ⟨r, hr, .inl ⟨rfl, h⟩⟩
    · exact ⟨r, hr, .inr ⟨rfl, h⟩⟩

/-- bs are the bounds of the ranges. -/
def isB (rs : List (List UInt8 × List UInt8)) (bs : List (List UInt8)) : Prop := rises bs ∧ ∀ x, x ∈ bs ↔ x ∈ nes rs
theorem isB_uniq {rs : List (List UInt8 × List UInt8)} {a b : List (List UInt8)} (ha : isB rs a) (hb : isB rs b) : a = b :=
  rises_uniq a b ha.1 hb.1 fun x => by rw [ha.2, hb.2]
theorem isB_compact (rs : List (List UInt8 × List UInt8)) : isB rs (Lib.compact ((nes rs).mergeSort fun x y => decide (x ≤ y))) := compact_sorted _

theorem nes_len (rs : List (List UInt8 × List UInt8)) : (nes rs).length ≤ 2 * rs.length := by
  induction rs with
  | nil => simp [nes]
  | cons r t ih =>
    have e : nes (r :: t) = (ne r.1 ++ ne r.2) ++ nes t := by simp [nes]
    rw [e, List.length_append, List.length_append, List.length_cons]
    have h1 : ∀ s, (ne s).length ≤ 1 := by intro s; unfold ne; split <;> simp
    have := h1 r.1
    have := h1 r.2
    omega
theorem nes_snoc (rs : List (List UInt8 × List UInt8)) (k : Nat) (h : k < rs.length) : nes (rs.take (k + 1)) = nes (rs.take k) ++ ne rs[k].1 ++ ne rs[k].2 := by
  unfold nes
  rw [List.take_succ_eq_append_getElem h, List.flatMap_append, List.flatMap_singleton, List.append_assoc]

/-- A text put to a row that rises. -/
def isAdd (l : List (List UInt8)) (s : List UInt8) (out : List (List UInt8)) : Prop := rises out ∧ ∀ x, x ∈ out ↔ x ∈ l ∨ x ∈ ne s
theorem isAdd_nil {l : List (List UInt8)} (h : rises l) : isAdd l [] l := ⟨h, fun x => by simp [ne]⟩
theorem isAdd_in {l : List (List UInt8)} {s : List UInt8} (h : rises l) (hs : s ∈ l) : isAdd l s l := ⟨h, fun x => by
  rw [mem_ne]
  constructor
  · exact .inl
  · rintro (hx | ⟨rfl, _⟩)
    · exact hx
    · exact hs⟩
theorem isAdd_mid {l : List (List UInt8)} {s : List UInt8} {p : Nat} (h : rises l) (hs : s ≠ []) (h1 : ∀ j (hj : j < l.length), j < p → Op.bytesLess l[j] s = true) (h2 : ∀ j (hj : j < l.length), p ≤ j → Op.bytesLess s l[j] = true) :
    isAdd l s (l.take p ++ [s] ++ l.drop p) := by
  have hd := List.take_append_drop p l
  have hr : (l.take p ++ l.drop p).Pairwise fun x y => Op.bytesLess x y = true := by rw [hd]; exact h
  obtain ⟨ra, rb, rc⟩ := List.pairwise_append.1 hr
  have m1 : ∀ x ∈ l.take p, Op.bytesLess x s = true := by
    intro x hx
    obtain ⟨j, hj, rfl⟩ := List.getElem_of_mem hx
    simp at hj
    simpa using h1 j (by omega) (by omega)
  have m2 : ∀ x ∈ l.drop p, Op.bytesLess s x = true := by
    intro x hx
    obtain ⟨j, hj, rfl⟩ := List.getElem_of_mem hx
    simp at hj
    simpa using h2 (p + j) (by omega) (by omega)
  refine ⟨?_, fun x => ?_⟩
  · refine List.pairwise_append.2 ⟨List.pairwise_append.2 ⟨ra, by simp, fun a ha b hb => ?_⟩, rb, fun a ha b hb => ?_⟩
    · simp at hb; subst hb; exact m1 a ha
    · rw [List.mem_append] at ha
      rcases ha with ha | ha
      · exact rc a ha b hb
      · simp at ha; subst ha; exact m2 b hb
  · have : x ∈ l ↔ x ∈ l.take p ∨ x ∈ l.drop p := by
      conv => lhs; rw [← hd]
      rw [List.mem_append]
    rw [this, mem_ne]
    simp only [List.mem_append, List.mem_singleton]
    constructor
    · rintro ((a | rfl) | b)
      · exact .inl (.inl a)
      · exact .inr ⟨rfl, hs⟩
      · exact .inl (.inr b)
    · rintro ((a | b) | ⟨rfl, _⟩)
      · exact .inl (.inl a)
      · exact .inr b
      · exact .inl (.inr rfl)
end Go.Proofs.Ytkaehjehpclgcaa.Km
/- Rows of ranges in memory. -/
namespace Go.Proofs.Ytkaehjehpclgcaa
open Go.RowKit
set_option linter.unusedVariables false

theorem RngIn.below {w w' : World} {a : Option Addr} {rs : List (ByteArray × ByteArray)} (h : RngIn w a rs) (hb : Below w.heap.size w w') : RngIn w' a rs := by
  intro i hi
  obtain ⟨b, off, rfl, hlt, h0, h1⟩ := h i hi
  exact ⟨b, off, rfl, by have := hb.size; omega, kcell hb hlt h0, kcell hb hlt h1⟩

/-- The texts of ranges. -/
def tls (rs : List (ByteArray × ByteArray)) : List (List UInt8 × List UInt8) := rs.map fun r => (r.1.data.toList, r.2.data.toList)
theorem tls_len (rs : List (ByteArray × ByteArray)) : (tls rs).length = rs.length := by simp [tls]
theorem tls_get (rs : List (ByteArray × ByteArray)) (i : Nat) (h : i < rs.length) : (tls rs)[i]'(by rw [tls_len]; exact h) = (rs[i].1.data.toList, rs[i].2.data.toList) := by simp [tls]
theorem tls_take (rs : List (ByteArray × ByteArray)) (k : Nat) : (tls rs).take k = tls (rs.take k) := by simp [tls, List.map_take]

end Go.Proofs.Ytkaehjehpclgcaa
/- Contracts of the library's own functions at this program, laid by the kit's own tool. -/
namespace Go.Proofs
open Go.Shelf
def Try.lays169_ren : Go.Shelf.Ren := ⟨fun | 169 => 60 | n => n, fun | 70 => 98 | 9 => 9 | 0 => 0 | 72 => 100 | 37 => 33 | 127 => 138 | 3 => 3 | 5 => 5 | n => n, fun | n => n⟩
theorem Try.lays169 : Go.Proofs.Lays.n169 Try.prog Try.lays169_ren := {
  mixed := by kernel_rfl
  f169 := Try.func60.trans (congrArg some (by kernel_rfl))
  t0 := Try.underlying0
  a0 := Try.isAgg0
  z0 := Try.sizeOf0
  v0 := Try.zeroValue0
  t3 := Try.underlying3
  a3 := Try.isAgg3
  z3 := Try.sizeOf3
  v3 := Try.zeroValue3
  t9 := Try.underlying9
  a9 := Try.isAgg9
  z9 := Try.sizeOf9
  v9 := Try.zeroValue9
  t37 := Try.underlying33
  a37 := Try.isAgg33
  z37 := Try.sizeOf33
  v37 := Try.zeroValue33
  t70 := Try.underlying98
  a70 := Try.isAgg98
  z70 := Try.sizeOf98
  v70 := Try.zeroValue98
  t72 := Try.underlying100
  a72 := Try.isAgg100
  z72 := Try.sizeOf100
  v72 := Try.zeroValue100
  t127 := Try.underlying138
  a127 := Try.isAgg138
  z127 := Try.sizeOf138
  v127 := Try.zeroValue138 }
theorem Try.Builder_Extra_169 : Builder.Extra Try.prog Try.lays169_ren := {
  sizeBuilder := by kernel_rfl
  liesBuilder := by kernel_rfl
  t5 := Try.underlying5
  a5 := Try.isAgg5
  z5 := Try.sizeOf5
  v5 := Try.zeroValue5
  infoByte := by kernel_rfl
  cellsByte := by kernel_rfl
  sizeByte := by kernel_rfl
  neB5 := by decide }
open Go.RowKit in
theorem Try.Builder_String (B b : Nat) (l : List UInt8) (w : World) (h : Lib.IsBuilder 100 5 B b (Lib.byteCells l) w) (h0 : l ≠ []) :
    Calls Try.prog 60 #[.pointer (some ⟨b, 0, none⟩)] w fun e w' => e = .returned (.string ⟨l.toArray⟩) ∧ Below B w w' := Any.Builder_String Try.lays169 Try.Builder_Extra_169 B b l w h h0
end Go.Proofs
/- Rows of texts and of ranges in memory; keys.Bounds. -/
namespace Go.Proofs.Ytkaehjehpclgcaa
open Go.RowKit Go.Sort
set_option linter.unusedVariables false

/-- A slice that reads as these texts. -/
def StrAt (w : World) (v : Value) (bs : List (List UInt8)) : Prop :=
  ∃ a cap, v = .slice a bs.length cap ∧ ∀ i (h : i < bs.length), ∃ b off, a = some ⟨b, off, none⟩ ∧ b < w.heap.size ∧ w.cell? ⟨b, off + i, none⟩ = some (.string ⟨bs[i].toArray⟩)
theorem StrAt.nil (w : World) : StrAt w (.slice none 0 0) [] := ⟨none, 0, rfl, fun i h => absurd h (by simp)⟩
theorem StrAt.below {w w' : World} {v : Value} {bs : List (List UInt8)} (h : StrAt w v bs) (hb : Below w.heap.size w w') : StrAt w' v bs := by
  obtain ⟨a, cap, rfl, hc⟩ := h
  refine ⟨a, cap, rfl, fun i hi => ?_⟩
  obtain ⟨b, off, rfl, hlt, hcell⟩ := hc i hi
  exact ⟨b, off, rfl, by have := hb.size; omega, kcell hb hlt hcell⟩
theorem StrAt.of_own {w : World} {base : Nat} {e : TypeId} {v : Value} {bs : List (List UInt8)} (h : w.ownsRow base e 1 v bs.length (bs.map encStr)) : StrAt w v bs := by
  have hown := h
  rcases h.2 with ⟨rfl, h0⟩ | ⟨g, cap, cur, rfl, hb, hg, hn, hm, hs, ht⟩
  · obtain rfl : bs = [] := List.length_eq_zero_iff.1 h0
    exact StrAt.nil w
  · refine ⟨some ⟨g, 0, none⟩, cap, rfl, fun i hi => ⟨g, 0, rfl, (Array.getElem?_eq_some_iff.1 hg).1, ?_⟩⟩
    rw [Nat.zero_add, hown.cellAt i (by omega)]
    simp [hi]

theorem info_str : (Try.prog.info? 9).map (fun i => (i.zero, i.size, i.bytes)) = some (some (.string ⟨#[]⟩), 1, 16) := by kernel_rfl

/-- The captured row of texts: Bv is the variable's block, base: from where on the call's own blocks lie. -/
structure BufS (base Bv : Nat) (l : List (List UInt8)) (w : World) : Prop where
  le : base ≤ Bv
  var : ∃ v, w.heap[Bv]? = some (.cells #[v] 107 (0, 0)) ∧ w.ownsRow base 9 1 v l.length (l.map encStr)

theorem ownS_shape {w1 : World} {base e n : Nat} {v' : Value} {xs : List Value} (h : w1.ownsRow base e 1 v' n xs) : ∃ a k c, v' = .slice a k c := by
  rcases h.2 with ⟨rfl, _⟩ | ⟨g, cap, cur, rfl, _⟩
  · exact ⟨_, _, _, rfl⟩
  · exact ⟨_, _, _, rfl⟩

theorem bufS_push {base Bv : Nat} {l : List (List UInt8)} {c : List UInt8} {wr w1 : World} {v v' : Value} {T : TypeId} {X : Array Value} (hle : base ≤ Bv) (hbs : base ≤ wr.heap.size)
    (hv : wr.heap[Bv]? = some (.cells #[v] 107 (0, 0))) (ho : wr.ownsRow base 9 1 v l.length (l.map encStr))
    (ho' : w1.ownsRow base 9 1 v' (l.length + 1) (l.map encStr ++ [.string ⟨c.toArray⟩])) (hg : (wr.alloc (.cells X T)).grownBy w1 v.ownBlock) :
    w1.cell? ⟨Bv, 0, none⟩ = some v ∧ w1.frozen? ⟨Bv, 0, none⟩ = false ∧ BufS base Bv (l ++ [c]) (w1.setCell ⟨Bv, 0, none⟩ v') ∧ Below base wr (w1.setCell ⟨Bv, 0, none⟩ v') ∧ Lib.OthersKept 9 (some Bv) wr (w1.setCell ⟨Bv, 0, none⟩ v') := by
  have hlt : Bv < wr.heap.size := (Array.getElem?_eq_some_iff.1 hv).1
  have hne : some Bv ≠ v.ownBlock := by
    intro e
    rcases ho.2 with ⟨rfl, _⟩ | ⟨g, cap, cur, rfl, _, hh, _⟩
    · simp [Value.ownBlock] at e
    · simp [Value.ownBlock] at e
      subst e
      rw [hh] at hv
      simp at hv
  have hv1 : w1.heap[Bv]? = some (.cells #[v] 107 (0, 0)) := by
    rw [hg.block Bv (by simp; omega) hne, Below.heap_alloc _ _ _ hlt]
    exact hv
  have hne' : v'.ownBlock ≠ some Bv := by
    intro e
    rcases ho'.2 with ⟨rfl, _⟩ | ⟨g, cap, cur, rfl, _, hh, _⟩
    · simp [Value.ownBlock] at e
    · simp [Value.ownBlock] at e
      subst e
      rw [hh] at hv1
      simp at hv1
  refine ⟨cell_of_one hv1, free_of_one hv1, ⟨hle, _, one_setCell hv1, ?_⟩, ?_, ?_⟩
  · have := ownsRow_setCell_other ho' (a := ⟨Bv, 0, none⟩) hne' v'
    simpa using this
  · refine Below.setCell ?_ hle _
    refine ((Below.refl base wr).alloc hbs _).grown hg (by simp; omega) ?_
    intro k hk
    exact (ho.lt k hk).1
  · refine Lib.OthersKept.setCell (b := Bv) ?_ ⟨Bv, 0, none⟩ rfl v'
    refine Lib.OthersKept.grown ((Lib.OthersKept.refl _ _ wr).alloc _) hg ?_
    intro g hgv
    rcases ho.2 with ⟨rfl, _⟩ | ⟨g', cap, cur, rfl, _, hh, _⟩
    · simp [Value.ownBlock] at hgv
    · simp [Value.ownBlock] at hgv
      subst hgv
      exact ⟨cur, _, by rw [Below.heap_alloc _ _ _ (Array.getElem?_eq_some_iff.1 hh).1]; exact hh⟩

theorem BufS.alloc {base Bv : Nat} {l : List (List UInt8)} {w : World} (h : BufS base Bv l w) (o : Obj) : BufS base Bv l (w.alloc o) := by
  obtain ⟨hle, v, hv, ho⟩ := h
  exact ⟨hle, v, by rw [Below.heap_alloc _ _ _ (Array.getElem?_eq_some_iff.1 hv).1]; exact hv, ho.alloc _⟩
theorem BufS.lt {base Bv : Nat} {l : List (List UInt8)} {w : World} (h : BufS base Bv l w) : Bv < w.heap.size := by
  obtain ⟨hle, v, hv, ho⟩ := h
  exact (Array.getElem?_eq_some_iff.1 hv).1
/-- The box of a range behind a call of the closure. -/
theorem box_kept {wr w2 : World} {Bv : Nat} {x y : Value} (hne : wr.heap.size ≠ Bv) (h : Lib.OthersKept 9 (some Bv) (wr.alloc (.cells #[x, y] 55)) w2) : w2.cell? ⟨wr.heap.size, 1, none⟩ = some y := by
  have h1 := h wr.heap.size _ (heap_alloc_new _ _) (by simpa using hne) (fun c fz e => by cases e)
  unfold World.cell?
  simp [h1]
theorem own_zero {w : World} {base e : Nat} {v : Value} {xs : List Value} (h : w.ownsRow base e 1 v 0 xs) : ∃ p c, v = .slice p 0 c := by
  rcases h.2 with ⟨rfl, _⟩ | ⟨g, cap, cur, rfl, _⟩
  · exact ⟨_, _, rfl⟩
  · exact ⟨_, _, rfl⟩

/-- What Bounds leaves. -/
def BoundsPost (w : World) (rs : List (ByteArray × ByteArray)) (e : Ending) (w' : World) : Prop :=
  ∃ v bs, e = .returned v ∧ Km.isB (tls rs) bs ∧ StrAt w' v bs ∧ bs.length ≤ 2 * rs.length ∧ Below w.heap.size w w'

theorem compact_len (l : List (List UInt8)) : (Lib.compact l).length ≤ l.length := by
  unfold Lib.compact Lib.compactUpTo
  rw [List.length_map]
  have := List.length_filter_le (Lib.keeps l.toArray) (List.range l.length)
  simpa using this

/-- From what sort and compact leave to the answer. -/
theorem bounds_left {w w1 : World} {g cap n nn q : Nat} {os : Array Obj} {ss : List (List UInt8)} (hown : w1.ownsRow w.heap.size 9 1 (.slice (some ⟨g, 0, none⟩) n cap) n (ss.map encStr)) (hbel : Below w.heap.size w w1) (hbg : w.heap.size ≤ g) (hlen : ss.length = n) :
    (putRow encStr (Sort.ahead (grow (putRow encStr (Sort.ahead w1 nn) g 0 (ss.mergeSort fun x y => decide (x ≤ y)).toArray) os) q) g 0 (Lib.compact (ss.mergeSort fun x y => decide (x ≤ y)) ++ List.replicate (n - (Lib.compact (ss.mergeSort fun x y => decide (x ≤ y))).length) []).toArray).ownsRow w.heap.size 9 1 (.slice (some ⟨g, 0, none⟩) (Lib.compact (ss.mergeSort fun x y => decide (x ≤ y))).length cap) (Lib.compact (ss.mergeSort fun x y => decide (x ≤ y))).length ((Lib.compact (ss.mergeSort fun x y => decide (x ≤ y))).map encStr) ∧
      Below w.heap.size w (putRow encStr (Sort.ahead (grow (putRow encStr (Sort.ahead w1 nn) g 0 (ss.mergeSort fun x y => decide (x ≤ y)).toArray) os) q) g 0 (Lib.compact (ss.mergeSort fun x y => decide (x ≤ y)) ++ List.replicate (n - (Lib.compact (ss.mergeSort fun x y => decide (x ≤ y))).length) []).toArray) := by
  have hl2 : (ss.mergeSort fun x y => decide (x ≤ y)).length = ss.length := List.length_mergeSort ss
  have hle := compact_len (ss.mergeSort fun x y => decide (x ≤ y))
  subst hlen
  rcases hown.2 with ⟨h0, _⟩ | ⟨g', cap', cur, hv, hbase, hb, h1, h2, h3, h4⟩
  · cases h0
  cases hv
  have hs := ownsRow_sorted (n := nn) (os := os) (ts := ss.mergeSort fun x y => decide (x ≤ y)) hl2 hbase hb h1 h2 h3
  have hc := Lib.ownsRow_putRow (q := q) (k := (Lib.compact (ss.mergeSort fun x y => decide (x ≤ y))).length) (ys := Lib.compact (ss.mergeSort fun x y => decide (x ≤ y)) ++ List.replicate (ss.length - (Lib.compact (ss.mergeSort fun x y => decide (x ≤ y))).length) []) hs (by simp; omega) (by omega)
  rw [List.take_left] at hc
  exact ⟨hc, Lib.below_putRow (hbel.grown (grownBy_sorted _) hbel.size (fun j hj => by cases hj; exact hbase)) hbg⟩

/-- The variable's block stands behind the sort. -/
theorem var_sorted {w1 : World} {g Bv n : Nat} {os : Array Obj} {v : Value} {d : Array (List UInt8)} (hv : w1.heap[Bv]? = some (.cells #[v] 107 (0, 0))) (hne : Bv ≠ g) :
    (grow (putRow encStr (Sort.ahead w1 n) g 0 d) os).cell? ⟨Bv, 0, none⟩ = some v := by
  have hlt : Bv < w1.heap.size := (Array.getElem?_eq_some_iff.1 hv).1
  have h := (grownBy_sorted (w := w1) (g := g) (n := n) (os := os) d).block Bv hlt (by simpa using hne)
  exact cell_of_one (h.trans hv)

end Go.Proofs.Ytkaehjehpclgcaa
/- The document's Good and Meet. -/
namespace Go.Proofs.Ytkaehjehpclgcaa
open Go.RowKit
set_option linter.unusedVariables false

set_option maxRecDepth 100000 in
set_option maxHeartbeats 800000 in
theorem refGood_any (f t : ByteArray) (w : World) (hf : f.size ≤ 9223372036854775807) (ht : t.size ≤ 9223372036854775807) :
    Calls Try.prog 91 #[.agg #[.string f, .string t]] w fun e w' => e = .returned (.bool (Km.good f.data.toList t.data.toList)) ∧ Below w.heap.size w w' := by
  go_enter Try.func91, Try.ntmps91
  go_wp2_with fail
  refine (refCheck_any f _ hf).mono ?_
  rintro e w1 ⟨rfl, rfl⟩
  generalize hx : Km.chk f.data.toList = x
  have HX := Lib.hid hx
  clear hx
  go_wp2_with fail
  refine (refCheck_any t _ ht).mono ?_
  rintro e w1 ⟨rfl, rfl⟩
  generalize hy : Km.chk t.data.toList = y
  have HY := Lib.hid hy
  clear hy
  cases x <;> cases y
  all_goals
    go_wp2
    all_goals
      go_ret
      refine ⟨ret_bool ?_, (Below.refl _ _).alloc (Nat.le_refl _) _⟩
      unfold Km.good Km.bound
      rw [HX.out, HY.out, ← Lib.toList_data, ← Lib.toList_data]
      simp_all

end Go.Proofs.Ytkaehjehpclgcaa
/- The place of the first range that has a key. -/
namespace Go.Proofs.Ytkaehjehpclgcaa
open Go.RowKit
set_option linter.unusedVariables false

namespace Km
def fidx (rs : List (List UInt8 × List UInt8)) (key : List UInt8) : Int := match rs.findIdx? (fun r => has r.1 r.2 key) with | none => -1 | some i => i
theorem fidx_hit {rs : List (List UInt8 × List UInt8)} {key : List UInt8} {k : Nat} (hk : k < rs.length) (h : ∀ j (hj : j < rs.length), j < k → has rs[j].1 rs[j].2 key = false) (hh : has rs[k].1 rs[k].2 key = true) : fidx rs key = k := by
  unfold fidx
  have : rs.findIdx? (fun r => has r.1 r.2 key) = some k := by
    rw [List.findIdx?_eq_some_iff_getElem]
    refine ⟨hk, by simpa using hh, fun j hj => ?_⟩
    rw [h j (by omega) hj]
    simp
  rw [this]
theorem fidx_none {rs : List (List UInt8 × List UInt8)} {key : List UInt8} (h : ∀ j (hj : j < rs.length), has rs[j].1 rs[j].2 key = false) : fidx rs key = -1 := by
  unfold fidx
  have : rs.findIdx? (fun r => has r.1 r.2 key) = none := by
    rw [List.findIdx?_eq_none_iff]
    intro x hx
    obtain ⟨j, hj, rfl⟩ := List.getElem_of_mem hx
    exact h j hj
  rw [this]
end Km
end Go.Proofs.Ytkaehjehpclgcaa
