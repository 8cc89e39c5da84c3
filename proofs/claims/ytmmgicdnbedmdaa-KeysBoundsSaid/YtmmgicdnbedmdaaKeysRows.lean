/- Rows of texts and of ranges in memory; keys.Bounds. -/
import Derived.Test.YtmmgicdnbedmdaaKeysHas
import Derived.Test.YtmmgicdnbedmdaaKeysSets
import Derived.Test.YtmmgicdnbedmdaaOpen2
import Derived.Test.YtmmgicdnbedmdaaShelf
import Derived.Lib.OthersKept
import Derived.Lib.OwnBridge
import Derived.Sort.OwnSorted
import Derived.Sort.Grow
namespace Go.Proofs.Ytmmgicdnbedmdaa
open Go.RowKit Go.Sort
set_option linter.unusedVariables false

/-- A slice that reads as these texts. -/
def StrAt (w : World) (v : Value) (bs : List (List UInt8)) : Prop :=
  ∃ a cap, v = .slice a bs.length cap ∧ ∀ i (h : i < bs.length), ∃ b off, a = some ⟨b, off, none⟩ ∧ b < w.heap.size ∧ w.cell? ⟨b, off + i, none⟩ = some (.string ⟨bs[i].toArray⟩)
theorem StrAt.nil (w : World) : StrAt w (.slice none 0 0) [] := ⟨none, 0, rfl, fun i h => absurd h (by simp)⟩
theorem StrAt.below {w w' : World} {v : Value} {bs : List (List UInt8)} (h : StrAt w v bs) (hb : Below w.heap.size w w') : StrAt w' v bs := by
  obtain ⟨a, cap, rfl, hc⟩ := h
  refine ⟨a, cap, rfl, fun i hi => ?_⟩
  obtain ⟨b, off, rfl, hlt, hcell⟩ := hc i hi
  exact ⟨b, off, rfl, by have := hb.size; omega, kcell hb hlt hcell⟩
theorem StrAt.of_own {w : World} {base : Nat} {e : TypeId} {v : Value} {bs : List (List UInt8)} (h : w.ownsRow base e 1 v bs.length (bs.map encStr)) : StrAt w v bs := by
  have hown := h
  rcases h.2 with ⟨rfl, h0⟩ | ⟨g, cap, cur, rfl, hb, hg, hn, hm, hs, ht⟩
  · obtain rfl : bs = [] := List.length_eq_zero_iff.1 h0
    exact StrAt.nil w
  · refine ⟨some ⟨g, 0, none⟩, cap, rfl, fun i hi => ⟨g, 0, rfl, (Array.getElem?_eq_some_iff.1 hg).1, ?_⟩⟩
    rw [Nat.zero_add, hown.cellAt i (by omega)]
    simp [hi]

theorem RngIn.below {w w' : World} {a : Option Addr} {rs : List (ByteArray × ByteArray)} (h : RngIn w a rs) (hb : Below w.heap.size w w') : RngIn w' a rs := by
  intro i hi
  obtain ⟨b, off, rfl, hlt, h0, h1⟩ := h i hi
  exact ⟨b, off, rfl, by have := hb.size; omega, kcell hb hlt h0, kcell hb hlt h1⟩

/-- The texts of ranges. -/
def tls (rs : List (ByteArray × ByteArray)) : List (List UInt8 × List UInt8) := rs.map fun r => (r.1.data.toList, r.2.data.toList)
theorem tls_len (rs : List (ByteArray × ByteArray)) : (tls rs).length = rs.length := by simp [tls]
theorem tls_get (rs : List (ByteArray × ByteArray)) (i : Nat) (h : i < rs.length) : (tls rs)[i]'(by rw [tls_len]; exact h) = (rs[i].1.data.toList, rs[i].2.data.toList) := by simp [tls]
theorem tls_take (rs : List (ByteArray × ByteArray)) (k : Nat) : (tls rs).take k = tls (rs.take k) := by simp [tls, List.map_take]

theorem info_str : (Try.prog.info? 9).map (fun i => (i.zero, i.size, i.bytes)) = some (some (.string ⟨#[]⟩), 1, 16) := by kernel_rfl

/-- The captured row of texts: Bv is the variable's block, base: from where on the call's own blocks lie. -/
structure BufS (base Bv : Nat) (l : List (List UInt8)) (w : World) : Prop where
  le : base ≤ Bv
  var : ∃ v, w.heap[Bv]? = some (.cells #[v] 34 (0, 0)) ∧ w.ownsRow base 9 1 v l.length (l.map encStr)

theorem ownS_shape {w1 : World} {base e n : Nat} {v' : Value} {xs : List Value} (h : w1.ownsRow base e 1 v' n xs) : ∃ a k c, v' = .slice a k c := by
  rcases h.2 with ⟨rfl, _⟩ | ⟨g, cap, cur, rfl, _⟩
  · exact ⟨_, _, _, rfl⟩
  · exact ⟨_, _, _, rfl⟩

theorem bufS_push {base Bv : Nat} {l : List (List UInt8)} {c : List UInt8} {wr w1 : World} {v v' : Value} {T : TypeId} {X : Array Value} (hle : base ≤ Bv) (hbs : base ≤ wr.heap.size)
    (hv : wr.heap[Bv]? = some (.cells #[v] 34 (0, 0))) (ho : wr.ownsRow base 9 1 v l.length (l.map encStr))
    (ho' : w1.ownsRow base 9 1 v' (l.length + 1) (l.map encStr ++ [.string ⟨c.toArray⟩])) (hg : (wr.alloc (.cells X T)).grownBy w1 v.ownBlock) :
    w1.cell? ⟨Bv, 0, none⟩ = some v ∧ w1.frozen? ⟨Bv, 0, none⟩ = false ∧ BufS base Bv (l ++ [c]) (w1.setCell ⟨Bv, 0, none⟩ v') ∧ Below base wr (w1.setCell ⟨Bv, 0, none⟩ v') ∧ Lib.OthersKept 9 (some Bv) wr (w1.setCell ⟨Bv, 0, none⟩ v') := by
  have hlt : Bv < wr.heap.size := (Array.getElem?_eq_some_iff.1 hv).1
  have hne : some Bv ≠ v.ownBlock := by
    intro e
    rcases ho.2 with ⟨rfl, _⟩ | ⟨g, cap, cur, rfl, _, hh, _⟩
    · simp [Value.ownBlock] at e
    · simp [Value.ownBlock] at e
      subst e
      rw [hh] at hv
      simp at hv
  have hv1 : w1.heap[Bv]? = some (.cells #[v] 34 (0, 0)) := by
    rw [hg.block Bv (by simp; omega) hne, Below.heap_alloc _ _ _ hlt]
    exact hv
  have hne' : v'.ownBlock ≠ some Bv := by
    intro e
    rcases ho'.2 with ⟨rfl, _⟩ | ⟨g, cap, cur, rfl, _, hh, _⟩
    · simp [Value.ownBlock] at e
    · simp [Value.ownBlock] at e
      subst e
      rw [hh] at hv1
      simp at hv1
  refine ⟨cell_of_one hv1, free_of_one hv1, ⟨hle, _, one_setCell hv1, ?_⟩, ?_, ?_⟩
  · have := ownsRow_setCell_other ho' (a := ⟨Bv, 0, none⟩) hne' v'
    simpa using this
  · refine Below.setCell ?_ hle _
    refine ((Below.refl base wr).alloc hbs _).grown hg (by simp; omega) ?_
    intro k hk
    exact (ho.lt k hk).1
  · refine Lib.OthersKept.setCell (b := Bv) ?_ ⟨Bv, 0, none⟩ rfl v'
    refine Lib.OthersKept.grown ((Lib.OthersKept.refl _ _ wr).alloc _) hg ?_
    intro g hgv
    rcases ho.2 with ⟨rfl, _⟩ | ⟨g', cap, cur, rfl, _, hh, _⟩
    · simp [Value.ownBlock] at hgv
    · simp [Value.ownBlock] at hgv
      subst hgv
      exact ⟨cur, _, by rw [Below.heap_alloc _ _ _ (Array.getElem?_eq_some_iff.1 hh).1]; exact hh⟩

set_option maxRecDepth 100000 in
set_option maxHeartbeats 800000 in
theorem kadd_any (base Bv : Nat) (s : ByteArray) (l : List (List UInt8)) (w : World) (hl : l.length ≤ 1000) (hb : BufS base Bv l w) :
    Calls Try.prog 35 #[.string s, .pointer (some ⟨Bv, 0, none⟩)] w fun e w' => e = .returned (.tuple #[]) ∧ BufS base Bv (l ++ Km.ne s.data.toList) w' ∧ Below base w w' ∧ Lib.OthersKept 9 (some Bv) w w' := by
  by_cases hs : s.data.toList = []
  · have h1 : s.toList = [] := by rw [Lib.toList_data]; exact hs
    have h2 : (!s.toList.isEmpty) = false := by rw [h1]; rfl
    have e : l ++ Km.ne s.data.toList = l := by rw [hs]; simp [Km.ne]
    rw [e]
    clear e hs
    go_enter Try.func35, Try.ntmps35
    go_wp2
    go_end0
    exact ⟨rfl, hb, Below.refl _ _, Lib.OthersKept.refl _ _ _⟩
  · have h1 : ¬ s.toList = [] := by rw [Lib.toList_data]; exact hs
    have h2 : s.toList.isEmpty = false := by simpa using h1
    have h3 : (!s.toList.isEmpty) = true := by rw [h2]; rfl
    have e : Km.ne s.data.toList = [s.data.toList] := by unfold Km.ne; rw [if_neg hs]
    rw [e]
    clear e hs
    obtain ⟨i0, hi, hz0, hz1, hz2⟩ := info_parts info_str
    obtain ⟨hle, v, hv, ho⟩ := hb
    have hbs : base ≤ w.heap.size := by have := (Array.getElem?_eq_some_iff.1 hv).1; omega
    have cV := cell_of_one hv
    have fV := free_of_one hv
    go_enter Try.func35, Try.ntmps35
    go_wp2_with (at_builtin; refine wpList_append_own _ rfl _ _ 34 rfl base 9 i0 (.string ⟨#[]⟩) 1 16 Try.underlying34 hi hz0 hz1 hz2 rfl (by decide) _ _ _ rfl (ho.alloc _) ⟨w.heap.size, 0, none⟩ 1 1 [.string s] rfl rfl ?d1 ?d2 ?d3 ?d4 ?d5 ?_)
    case d1 =>
      intro j u hj
      match j, hj with
      | 0, hj => simp at hj; subst hj; simp [Addr.add]
    case d2 => intro u hu; simp at hu; subst hu; rfl
    case d3 => unfold maxLen; omega
    case d4 => omega
    case d5 => simp; omega
    · intro v' w1 ho' hg _
      obtain ⟨k1, k2, k3, k4, k5⟩ := bufS_push (c := s.data.toList) hle hbs hv ho (by simpa using ho') hg
      obtain ⟨sa, sn, sc, rfl⟩ := ownS_shape ho'
      clear ho' hg cV fV
      go_wp2
      go_end0
      exact ⟨rfl, k3, k4, k5⟩

theorem BufS.alloc {base Bv : Nat} {l : List (List UInt8)} {w : World} (h : BufS base Bv l w) (o : Obj) : BufS base Bv l (w.alloc o) := by
  obtain ⟨hle, v, hv, ho⟩ := h
  exact ⟨hle, v, by rw [Below.heap_alloc _ _ _ (Array.getElem?_eq_some_iff.1 hv).1]; exact hv, ho.alloc _⟩
theorem BufS.lt {base Bv : Nat} {l : List (List UInt8)} {w : World} (h : BufS base Bv l w) : Bv < w.heap.size := by
  obtain ⟨hle, v, hv, ho⟩ := h
  exact (Array.getElem?_eq_some_iff.1 hv).1
/-- The box of a range behind a call of the closure. -/
theorem box_kept {wr w2 : World} {Bv : Nat} {x y : Value} (hne : wr.heap.size ≠ Bv) (h : Lib.OthersKept 9 (some Bv) (wr.alloc (.cells #[x, y] 30)) w2) : w2.cell? ⟨wr.heap.size, 1, none⟩ = some y := by
  have h1 := h wr.heap.size _ (heap_alloc_new _ _) (by simpa using hne) (fun c fz e => by cases e)
  unfold World.cell?
  simp [h1]
theorem own_zero {w : World} {base e : Nat} {v : Value} {xs : List Value} (h : w.ownsRow base e 1 v 0 xs) : ∃ p c, v = .slice p 0 c := by
  rcases h.2 with ⟨rfl, _⟩ | ⟨g, cap, cur, rfl, _⟩
  · exact ⟨_, _, rfl⟩
  · exact ⟨_, _, rfl⟩

/-- What Bounds leaves. -/
def BoundsPost (w : World) (rs : List (ByteArray × ByteArray)) (e : Ending) (w' : World) : Prop :=
  ∃ v bs, e = .returned v ∧ Km.isB (tls rs) bs ∧ StrAt w' v bs ∧ bs.length ≤ 2 * rs.length ∧ Below w.heap.size w w'

theorem compact_len (l : List (List UInt8)) : (Lib.compact l).length ≤ l.length := by
  unfold Lib.compact Lib.compactUpTo
  rw [List.length_map]
  have := List.length_filter_le (Lib.keeps l.toArray) (List.range l.length)
  simpa using this

/-- From what sort and compact leave to the answer. -/
theorem bounds_left {w w1 : World} {g cap n nn q : Nat} {os : Array Obj} {ss : List (List UInt8)} (hown : w1.ownsRow w.heap.size 9 1 (.slice (some ⟨g, 0, none⟩) n cap) n (ss.map encStr)) (hbel : Below w.heap.size w w1) (hbg : w.heap.size ≤ g) (hlen : ss.length = n) :
    (putRow encStr (Sort.ahead (grow (putRow encStr (Sort.ahead w1 nn) g 0 (ss.mergeSort fun x y => decide (x ≤ y)).toArray) os) q) g 0 (Lib.compact (ss.mergeSort fun x y => decide (x ≤ y)) ++ List.replicate (n - (Lib.compact (ss.mergeSort fun x y => decide (x ≤ y))).length) []).toArray).ownsRow w.heap.size 9 1 (.slice (some ⟨g, 0, none⟩) (Lib.compact (ss.mergeSort fun x y => decide (x ≤ y))).length cap) (Lib.compact (ss.mergeSort fun x y => decide (x ≤ y))).length ((Lib.compact (ss.mergeSort fun x y => decide (x ≤ y))).map encStr) ∧
      Below w.heap.size w (putRow encStr (Sort.ahead (grow (putRow encStr (Sort.ahead w1 nn) g 0 (ss.mergeSort fun x y => decide (x ≤ y)).toArray) os) q) g 0 (Lib.compact (ss.mergeSort fun x y => decide (x ≤ y)) ++ List.replicate (n - (Lib.compact (ss.mergeSort fun x y => decide (x ≤ y))).length) []).toArray) := by
  have hl2 : (ss.mergeSort fun x y => decide (x ≤ y)).length = ss.length := List.length_mergeSort ss
  have hle := compact_len (ss.mergeSort fun x y => decide (x ≤ y))
  subst hlen
  rcases hown.2 with ⟨h0, _⟩ | ⟨g', cap', cur, hv, hbase, hb, h1, h2, h3, h4⟩
  · cases h0
  cases hv
  have hs := ownsRow_sorted (n := nn) (os := os) (ts := ss.mergeSort fun x y => decide (x ≤ y)) hl2 hbase hb h1 h2 h3
  have hc := Lib.ownsRow_putRow (q := q) (k := (Lib.compact (ss.mergeSort fun x y => decide (x ≤ y))).length) (ys := Lib.compact (ss.mergeSort fun x y => decide (x ≤ y)) ++ List.replicate (ss.length - (Lib.compact (ss.mergeSort fun x y => decide (x ≤ y))).length) []) hs (by simp; omega) (by omega)
  rw [List.take_left] at hc
  exact ⟨hc, Lib.below_putRow (hbel.grown (grownBy_sorted _) hbel.size (fun j hj => by cases hj; exact hbase)) hbg⟩

/-- The variable's block stands behind the sort. -/
theorem var_sorted {w1 : World} {g Bv n : Nat} {os : Array Obj} {v : Value} {d : Array (List UInt8)} (hv : w1.heap[Bv]? = some (.cells #[v] 34 (0, 0))) (hne : Bv ≠ g) :
    (grow (putRow encStr (Sort.ahead w1 n) g 0 d) os).cell? ⟨Bv, 0, none⟩ = some v := by
  have hlt : Bv < w1.heap.size := (Array.getElem?_eq_some_iff.1 hv).1
  have h := (grownBy_sorted (w := w1) (g := g) (n := n) (os := os) d).block Bv hlt (by simpa using hne)
  exact cell_of_one (h.trans hv)

set_option maxRecDepth 100000 in
set_option maxHeartbeats 1600000 in
theorem bounds_any (a : Option Addr) (cap : Nat) (rs : List (ByteArray × ByteArray)) (w : World) (hl : rs.length ≤ 100) (hr : RngIn w a rs) :
    Calls Try.prog 25 #[.slice a rs.length cap] w (BoundsPost w rs) := by
  have hmf : ∀ (fn : Fn) (first cap : Array Value) (w : World), (Instr.makeFunc fn first cap).run Try.prog w = .ok (.func fn first cap) w := fun _ _ _ _ => rfl
  have HR := Lib.hid hr
  clear hr
  have hbuf0 : BufS w.heap.size w.heap.size (Km.nes (tls (rs.take 0))) (w.alloc (.cells #[.slice none 0 0] 34)) :=
    ⟨Nat.le_refl _, _, heap_alloc_new _ _, ⟨by simp [tls, Km.nes], .inl ⟨rfl, by simp [tls, Km.nes]⟩⟩⟩
  have HB0 := Lib.hid hbuf0
  clear hbuf0
  go_enter Try.func25, Try.ntmps25
  go_wp2
  go_loopw [10] (fun i wr => ∃ k : Nat, k ≤ rs.length ∧ i = .int .i64 k ∧ BufS w.heap.size w.heap.size (Km.nes (tls (rs.take k))) wr ∧ Below w.heap.size w wr) (fun i _ => rs.length - (intOf i).toNat)
  case atStart => exact ⟨0, Nat.zero_le _, rfl, HB0.out, (Below.refl _ _).alloc (Nat.le_refl _) _⟩
  case round =>
    obtain ⟨k, hk, rfl, hb, hbel⟩ := hrel
    have HB := Lib.hid hb
    clear hb HB0
    by_cases hlt : k < rs.length
    · obtain ⟨b, off, rfl, hbl, hc0, hc1⟩ := HR.out.below hbel k hlt
      have hnl := Km.nes_len (tls (rs.take k))
      rw [tls_len, List.length_take] at hnl
      generalize hp : rs[k].1 = p at hc0
      generalize hq : rs[k].2 = q at hc1
      have HP := Lib.hid hp
      have HQ := Lib.hid hq
      clear hp hq
      have hbv := HB.out.lt
      go_wp2_with fail
      refine (kadd_any w.heap.size w.heap.size p _ _ (by omega) (HB.out.alloc _)).mono ?_
      rintro e w2 ⟨rfl, hb2, hbl2, hok⟩
      have hcq := box_kept (by omega) hok
      have hz2 : wr.heap.size < w2.heap.size := by
        unfold World.cell? at hcq
        split at hcq
        · rename_i hh
          exact (Array.getElem?_eq_some_iff.1 hh).1
        · cases hcq
      have HB2 := Lib.hid hb2
      clear hb2 hok
      have hne1 : (Km.ne p.data.toList).length ≤ 1 := by unfold Km.ne; split <;> simp
      go_wp2_with fail
      refine (kadd_any w.heap.size w.heap.size q _ _ (by rw [List.length_append]; omega) HB2.out).mono ?_
      rintro e w3 ⟨rfl, hb3, hbl3, hok⟩
      have HB3 := Lib.hid hb3
      clear hb3 hok
      go_wp2
      go_roundw
      case rel =>
        refine ⟨k + 1, by omega, by go_num, ?_, ((hbel.alloc hbel.size _).trans hbl2).trans hbl3⟩
        have e := Km.nes_snoc (tls rs) k (by rw [tls_len]; exact hlt)
        rw [tls_take, tls_take, tls_get rs k hlt, HP.out, HQ.out] at e
        rw [e]
        exact HB3.out
      case measure => simp [intOf]; omega
    · obtain rfl : k = rs.length := by omega
      obtain ⟨_, v, hv, ho⟩ := HB.out
      rw [List.take_length] at ho
      have hnl := Km.nes_len (tls rs)
      rw [tls_len] at hnl
      have hB := Km.isB_compact (tls rs)
      have cV := cell_of_one hv
      generalize hss : Km.nes (tls rs) = ss at *
      by_cases h0 : ss.length = 0
      · obtain rfl : ss = [] := List.length_eq_zero_iff.1 h0
        obtain ⟨pp, cc, rfl⟩ := own_zero ho
        have hst : StrAt wr (.slice pp 0 cc) [] := ⟨pp, cc, rfl, fun i h => absurd h (by simp)⟩
        have HST := Lib.hid hst
        have HBB := Lib.hid hB
        clear hst hB hv ho HB hss
        go_wp2_with fail
        refine (Try.slices_Sort_string_none pp cc _).mono ?_
        rintro e w2 ⟨rfl, rfl⟩
        go_wp2_with fail
        refine (Try.slices_Compact_string_empty pp cc _).mono ?_
        rintro e w3 ⟨rfl, rfl⟩
        go_wp2
        go_ret
        exact ⟨_, [], rfl, by simpa [Lib.compact, Lib.compactUpTo] using HBB.out, HST.out, by simp, hbel⟩
      · have hnn : v ≠ .slice none 0 0 := by
          rintro rfl
          rcases ho.2 with ⟨_, h⟩ | ⟨g, c, cur, h, _⟩
          · omega
          · cases h
        obtain ⟨g, cap', rfl, hbg, hgl, hncap, hcm, hlen, hH⟩ := Lib.holds_of_ownsRow ho hnn
        have hne : w.heap.size ≠ g := by
          rintro rfl
          rcases ho.2 with ⟨h, _⟩ | ⟨g', c, cur, h, _, hh, _⟩
          · cases h
          · cases h
            rw [hh] at hv
            simp at hv
        have hsort := Try.slices_Sort_string g 0 cap' ss wr hH hgl (by omega)
        have hl2 : (ss.mergeSort fun x y => decide (x ≤ y)).length = ss.length := List.length_mergeSort ss
        have hcl := compact_len (ss.mergeSort fun x y => decide (x ≤ y))
        have HV := Lib.hid hv
        have HO := Lib.hid ho
        have HBB := Lib.hid hB
        have HH := Lib.hid hH
        have HL2 := Lib.hid hl2
        have HS := Lib.hid hsort
        clear hv ho hB hH hl2 hsort HB hss hnn
        go_wp2_with fail
        refine HS.out.mono ?_
        rintro e w2 ⟨rfl, nn, os, rfl⟩
        have hcv := var_sorted (n := nn) (os := os) (d := (ss.mergeSort fun x y => decide (x ≤ y)).toArray) HV.out hne
        have hH2 : Holds encStr (grow (putRow encStr (Sort.ahead wr nn) g 0 (ss.mergeSort fun x y => decide (x ≤ y)).toArray) os) g 0 (ss.mergeSort fun x y => decide (x ≤ y)).toArray :=
          holds_grow encStr _ os g 0 _ (by simpa [putRow, mapBlock, Sort.ahead] using hgl) (holds_putRow encStr _ g 0 _ _ (holds_ahead encStr wr nn g 0 _ HH.out) (by simp))
        have hcomp := Try.slices_Compact_string g 0 cap' (ss.mergeSort fun x y => decide (x ≤ y)) _ hH2 (by rw [HL2.out]; omega) (by rw [HL2.out]; omega)
        rw [HL2.out] at hcomp
        have HC := Lib.hid hcomp
        have hleft := fun q => bounds_left (q := q) (nn := nn) (os := os) HO.out hbel hbg rfl
        have HLf := Lib.hid hleft
        clear hH2 hcomp hleft HH HS HV
        generalize hW : grow (putRow encStr (Sort.ahead wr nn) g 0 (ss.mergeSort fun x y => decide (x ≤ y)).toArray) os = W2 at *
        go_wp2_with fail
        refine HC.out.mono ?_
        rintro e w3 ⟨rfl, qq, rfl⟩
        obtain ⟨o1, o2⟩ := HLf.out qq
        go_wp2
        go_ret
        exact ⟨_, _, rfl, HBB.out, StrAt.of_own o1, by have := HL2.out; omega, o2⟩
end Go.Proofs.Ytmmgicdnbedmdaa
