/- The walk of the law KeysOne. -/
import Derived.Test.YtmmgicdnbedmdaaKeysOneMath
import Derived.Test.YtmmgicdnbedmdaaKeysFew
import Derived.Test.YtmmgicdnbedmdaaKeysFind
import Derived.Test.YtmmgicdnbedmdaaKeysRefB
import Derived.Test.YtmmgicdnbedmdaaKeysWord
import Derived.Test.YtmmgicdnbedmdaaKeysRunesWalk
import Derived.Deep.RegionHeld3
namespace Go.Proofs.Ytmmgicdnbedmdaa
open Go.RowKit
set_option linter.unusedVariables false

theorem okeep4 {W w' : World} {b o1 o2 o3 o4 : Nat} {x1 x2 x3 x4 : Value} (hb : Below W.heap.size W w') (hlt : b < W.heap.size)
    (h : W.cell? ⟨b, o1, none⟩ = some x1 ∧ W.cell? ⟨b, o2, none⟩ = some x2 ∧ W.cell? ⟨b, o3, none⟩ = some x3 ∧ W.cell? ⟨b, o4, none⟩ = some x4) :
    w'.cell? ⟨b, o1, none⟩ = some x1 ∧ w'.cell? ⟨b, o2, none⟩ = some x2 ∧ w'.cell? ⟨b, o3, none⟩ = some x3 ∧ w'.cell? ⟨b, o4, none⟩ = some x4 :=
  ⟨kcell hb hlt h.1, kcell hb hlt h.2.1, kcell hb hlt h.2.2.1, kcell hb hlt h.2.2.2⟩

/-- Ranges as texts, and as they stand in memory. -/
def bas (rs : List (List UInt8 × List UInt8)) : List (ByteArray × ByteArray) := rs.map fun r => (⟨r.1.toArray⟩, ⟨r.2.toArray⟩)
theorem bas_len (rs : List (List UInt8 × List UInt8)) : (bas rs).length = rs.length := by simp [bas]
theorem tls_bas (rs : List (List UInt8 × List UInt8)) : tls (bas rs) = rs := by
  unfold tls bas
  rw [List.map_map]
  conv => rhs; rw [← List.map_id rs]
  apply List.map_congr_left
  intro r _
  rfl
theorem bas_snoc (rs : List (List UInt8 × List UInt8)) (f t : List UInt8) : bas (rs ++ [(f, t)]) = bas rs ++ [(⟨f.toArray⟩, ⟨t.toArray⟩)] := by simp [bas]
theorem bas_get (rs : List (List UInt8 × List UInt8)) (i : Nat) (h : i < rs.length) : (bas rs)[i]'(by rw [bas_len]; exact h) = (⟨rs[i].1.toArray⟩, ⟨rs[i].2.toArray⟩) := by simp [bas]

structure OneSt (us : List (List UInt8)) : Prop where
  words : ∀ u ∈ us, Km.isWord u
  rises : Km.rises us

theorem len5 {u : List UInt8} (h : Km.isWord u) : u.length ≤ 20 := by
  obtain ⟨m, h⟩ := h
  have := h.1.1
  omega
theorem last20 {us : List (List UInt8)} (h : OneSt us) : (Km.lastL [] us).length ≤ 20 := by
  rcases Km.last_mem [] us with e | e
  · rw [e]; simp
  · exact len5 (h.words _ e)
theorem one_szs {us : List (List UInt8)} (h : OneSt us) : Szs (bas (Km.chainL [] us)) := by
  intro r hr
  obtain ⟨i, hi, rfl⟩ := List.getElem_of_mem hr
  rw [bas_len] at hi
  rw [bas_get _ i hi, Km.chain_get]
  have h1 : ∀ j (hj : j < ([] :: us).length), (([] :: us)[j]).length ≤ 20 := by
    intro j hj
    cases j with
    | zero => simp
    | succ j => simpa using len5 (h.words (us[j]'(by simpa using hj)) (by simp))
  have h2 : ∀ j (hj : j < (us ++ [[]]).length), ((us ++ [[]])[j]).length ≤ 20 := by
    intro j hj
    by_cases e : j < us.length
    · rw [List.getElem_append_left e]; exact len5 (h.words us[j] (by simp))
    · rw [List.getElem_append_right (by omega)]; simp
  rw [Km.chain_len] at hi
  have a1 := h1 i (by simpa using hi)
  have a2 := h2 i (by simpa using hi)
  refine ⟨?_, ?_⟩
  · show (([] :: us)[i]'(by simpa using hi)).toArray.size ≤ _
    rw [List.size_toArray]
    omega
  · show ((us ++ [[]])[i]'(by simpa using hi)).toArray.size ≤ _
    rw [List.size_toArray]
    omega

theorem own_below {w w' : World} {base e size n : Nat} {v : Value} {xs : List Value} (h : w.ownsRow base e size v n xs) (hb : Below w.heap.size w w') : w'.ownsRow base e size v n xs := by
  refine ⟨h.1, ?_⟩
  rcases h.2 with h0 | ⟨g, cap, cur, rfl, hbg, hg, r⟩
  · exact .inl h0
  · exact .inr ⟨g, cap, cur, rfl, hbg, (hb.5 g (Array.getElem?_eq_some_iff.1 hg).1).trans hg, r⟩

/-- What holds of the ranges. -/
structure OneR (us : List (List UInt8)) (key : List UInt8) (c : Nat) (rs : List (ByteArray × ByteArray)) : Prop where
  len : rs.length = us.length + 1
  lt : c < rs.length
  szs : Szs rs
  has : ∀ i (h : i < rs.length), Km.has rs[i].1.data.toList rs[i].2.data.toList key = decide (i = c)
  meet : ∀ i k (hk : k < i) (hi : i < rs.length), Km.meet rs[i].1.data.toList rs[i].2.data.toList (rs[k]'(by omega)).1.data.toList (rs[k]'(by omega)).2.data.toList = false
  whole : Km.whole (tls rs) = true
  bnd : Km.isB (tls rs) us
  find : Km.fidx (tls rs) key = c

theorem one_facts {us : List (List UInt8)} (h : OneSt us) (key : List UInt8) : ∃ c, OneR us key c (bas (Km.chainL [] us)) := by
  obtain ⟨c, hc, hh⟩ := Km.one_has h.words h.rises key
  have hl : (bas (Km.chainL [] us)).length = us.length + 1 := by rw [bas_len, Km.chain_len]
  have hg : ∀ i (hi : i < (bas (Km.chainL [] us)).length), (bas (Km.chainL [] us))[i] = (⟨((Km.chainL [] us)[i]'(by rw [bas_len] at hi; exact hi)).1.toArray⟩, ⟨((Km.chainL [] us)[i]'(by rw [bas_len] at hi; exact hi)).2.toArray⟩) := fun i hi => bas_get _ i (by rw [bas_len] at hi; exact hi)
  refine ⟨c, hl, by omega, one_szs h, fun i hi => ?_, fun i k hk hi => ?_, by rw [tls_bas]; exact Km.one_whole h.words h.rises, by rw [tls_bas]; exact Km.one_bounds h.words h.rises, ?_⟩
  · rw [hg i hi]
    exact hh i (by rw [bas_len] at hi; exact hi)
  · rw [hg i hi, hg k (by omega)]
    exact Km.one_meet h.words h.rises i k hk (by rw [bas_len] at hi; exact hi)
  · rw [tls_bas]
    refine Km.fidx_hit (by rw [Km.chain_len]; omega) (fun j hj hjc => ?_) ?_
    · rw [hh j hj]
      exact decide_eq_false (by omega)
    · rw [hh c (by rw [Km.chain_len]; omega)]
      exact decide_eq_true rfl

def cntc (c i : Nat) : Int := if c < i then 1 else 0
theorem ohas_b (f t k : ByteArray) (b : Bool) (w : World) (hb : Km.has f.data.toList t.data.toList k.data.toList = b) :
    Calls Try.prog 20 #[.agg #[.string f, .string t], .string k] w fun e w' => e = .returned (.bool b) ∧ Below w.heap.size w w' := by
  rw [← hb]
  exact has_any f t k w
theorem omeet_b (f t f2 t2 : ByteArray) (b : Bool) (w : World) (hf : f.size ≤ 1099511627776) (ht : t.size ≤ 1099511627776) (hf2 : f2.size ≤ 1099511627776) (ht2 : t2.size ≤ 1099511627776) (hb : Km.meet f.data.toList t.data.toList f2.data.toList t2.data.toList = b) :
    Calls Try.prog 22 #[.agg #[.string f, .string t], .agg #[.string f2, .string t2]] w fun e w' => e = .returned (.bool b) ∧ Below w.heap.size w w' := by
  rw [← hb]
  exact meet_any f t f2 t2 w hf ht hf2 ht2
theorem ofind_b (a : Option Addr) (cap : Nat) (rs : List (ByteArray × ByteArray)) (key : ByteArray) (c : Nat) (w : World) (hl : rs.length ≤ 100) (hr : RngIn w a rs) (hc : Km.fidx (tls rs) key.data.toList = c) :
    Calls Try.prog 29 #[.slice a rs.length cap, .string key] w fun e w' => e = .returned (.int .i64 (c : Int)) ∧ Below w.heap.size w w' := by
  rw [← hc]
  exact find_any a cap rs key w hl hr
theorem owhole_b (a : Option Addr) (cap : Nat) (rs : List (ByteArray × ByteArray)) (w : World) (hl : rs.length ≤ 100) (hz : Szs rs) (hr : RngIn w a rs) (hc : Km.whole (tls rs) = true) :
    Calls Try.prog 27 #[.slice a rs.length cap] w fun e w' => e = .returned (.bool true) ∧ Below w.heap.size w w' := by
  rw [← hc]
  exact whole_any a cap rs w hl hz hr

set_option maxRecDepth 100000 in
set_option maxHeartbeats 8000000 in
theorem walkKeysOne (w : World) (a : Option Addr) (len cap : Nat) (zs : List Int) (h0 : IsRow .i64 w a len cap zs) (key : ByteArray) (hkey : key.size ≤ maxLen) :
    Calls Try.prog 5 #[.slice a len cap, .string key] w fun e w' => e = .returned (.bool true) ∧ Below w.heap.size w w' := by
  have hlen := isRow_len h0
  have H0 := Lib.hid h0
  clear h0 hkey
  obtain ⟨i0, hi, hz0, hz1, hz2⟩ := info_parts info_rng
  go_enter Try.func5, Try.ntmps5
  go_wp2_with fail
  refine (kawake_any _).mono ?_
  rintro e w1 ⟨rfl, hb1⟩
  go_wp2_with fail
  go_loopw [6, 7, 8] (fun o s i wr => ∃ (k : Nat) (us : List (List UInt8)), k ≤ len ∧ k ≤ 6 ∧ i = .int .i64 k ∧ us.length ≤ k ∧ OneSt us ∧ s = .string ⟨(Km.lastL [] us).toArray⟩ ∧ wr.ownsRow w.heap.size 30 2 o (bas (Km.preL [] us)).length (rngV (bas (Km.preL [] us))) ∧ Below w.heap.size w wr) (fun _ _ i _ => 6 - (intOf i).toNat)
  case atStart => exact ⟨0, [], by omega, by omega, rfl, by simp, ⟨by simp, by simp [Km.rises]⟩, rfl, ⟨by simp [Km.preL, bas, rngV], .inl ⟨rfl, by simp [Km.preL, bas]⟩⟩, hb1⟩
  case round =>
    obtain ⟨k, us, hk, hk6, rfl, hul, hst, rfl, ho, hbel⟩ := hrel
    have HST := Lib.hid hst
    have hl20 := last20 hst
    have hbl8 : (bas (Km.preL [] us)).length ≤ 6 := by rw [bas_len, Km.pre_len]; omega
    have hbs : w.heap.size ≤ wr.heap.size := hbel.size
    clear hst
    by_cases hlt : k < len ∧ k < 6
    · obtain ⟨hk1, hk2⟩ := hlt
      obtain ⟨b, off, rfl, hc, hbl, hwf⟩ := isRow_cell H0.out hbel k hk1
      generalize zs.getD k 0 = x at hc hwf
      have hwz := bounds_i64 hwf
      obtain ⟨sa, sn, sc, rfl⟩ := ownR_shape ho
      clear hwf
      go_wp2_with fail
      refine (word_any x _ hwz).mono ?_
      rintro e w2 ⟨u, m, rfl, hrun, hm1, hm5, hb2⟩
      have hwd : Km.isWord u := ⟨m, hrun, hm1, hm5⟩
      have HWD := Lib.hid hwd
      have ho2 := own_below ho hb2
      have hbel2 := bstep hbel hb2
      have hbs2 : w.heap.size ≤ w2.heap.size := hbel2.size
      have hu20 := len5 hwd
      clear ho hrun hwd hbel hb2
      have hgt := Km.bl_gtr (Km.lastL [] us) u
      cases hls : Op.bytesLess (Km.lastL [] us) u with
      | false =>
        rw [hls] at hgt
        have t1 : (!Op.bytesLess (⟨u.toArray⟩ : ByteArray).toList (⟨(Km.lastL [] us).toArray⟩ : ByteArray).toList && !(⟨u.toArray⟩ : ByteArray).toList == (⟨(Km.lastL [] us).toArray⟩ : ByteArray).toList) = false := by rw [str_list, str_list]; exact hgt
        have HO := Lib.hid ho2
        clear hls ho2
        generalize hL : Km.lastL [] us = L at *
        have HL := Lib.hid hL
        clear hL
        go_wp2
        go_roundw
        case rel => exact ⟨k + 1, us, by omega, by omega, by go_num, by omega, HST.out, by rw [HL.out], HO.out, hbel2⟩
        case measure => simp [intOf]; omega
      | true =>
        rw [hls] at hgt
        have t1 : (!Op.bytesLess (⟨u.toArray⟩ : ByteArray).toList (⟨(Km.lastL [] us).toArray⟩ : ByteArray).toList && !(⟨u.toArray⟩ : ByteArray).toList == (⟨(Km.lastL [] us).toArray⟩ : ByteArray).toList) = true := by rw [str_list, str_list]; exact hgt
        have hnew : OneSt (us ++ [u]) := ⟨fun y hy => by
          rcases List.mem_append.1 hy with h | h
          · exact HST.out.words y h
          · simp at h; rw [h]; exact HWD.out, Km.rises_snoc HST.out.words HST.out.rises hls⟩
        have hpre : bas (Km.preL [] (us ++ [u])) = bas (Km.preL [] us) ++ [(⟨(Km.lastL [] us).toArray⟩, ⟨u.toArray⟩)] := by rw [Km.pre_snoc, bas_snoc]
        have HNEW := Lib.hid hnew
        have HPRE := Lib.hid hpre
        clear hls hnew hpre
        generalize hL : Km.lastL [] us = L at *
        clear hL
        go_wp2_with (at_builtin; refine wpList_append_own _ rfl _ _ 26 rfl w.heap.size 30 i0 _ 2 32 Try.underlying26 hi hz0 hz1 hz2 rfl (by decide) _ _ _ rfl (ho2.alloc _) ⟨w2.heap.size, 0, none⟩ 1 1 [.string ⟨L.toArray⟩, .string ⟨u.toArray⟩] rfl rfl ?d1 ?d2 ?d3 ?d4 ?d5 ?_)
        case d1 => exact World.news_of_block (cs := #[.string ⟨L.toArray⟩, .string ⟨u.toArray⟩]) (t := 30) (fr := (0, 0)) (heap_alloc_new w2 _)
        case d2 => simp [Value.oneCell']
        case d3 => unfold maxLen; omega
        case d4 => omega
        case d5 => simp; omega
        intro v' w3 ho' hg _
        obtain ⟨k1, k2⟩ := ownR_push (f := ⟨L.toArray⟩) (t := ⟨u.toArray⟩) hbs2 ho2 (by simpa using ho') hg
        clear ho' hg ho2
        go_wp2
        go_roundw
        case rel => exact ⟨k + 1, us ++ [u], by omega, by omega, by go_num, by simp; omega, HNEW.out, by rw [Km.last_snoc], by rw [HPRE.out]; exact k1, hbel2.trans k2⟩
        case measure => simp [intOf]; omega
    · obtain ⟨c, hone⟩ := one_facts HST.out key.data.toList
      have hpre : bas (Km.chainL [] us) = bas (Km.preL [] us) ++ [(⟨(Km.lastL [] us).toArray⟩, ⟨#[]⟩)] := by rw [Km.pre_chain, bas_snoc]
      have HPRE := Lib.hid hpre
      have HONE := Lib.hid hone
      clear hpre hone
      generalize bas (Km.chainL [] us) = rs at HPRE HONE
      generalize hL : Km.lastL [] us = L at *
      clear hL
      rcases (show (decide (k < len) = false) ∨ (decide (k < len) = true ∧ decide ((k : Int) < 6) = false) by simp; omega) with hd | ⟨hd, hd2⟩
      all_goals
        go_wp2_with (at_builtin; refine wpList_append_own _ rfl _ _ 26 rfl w.heap.size 30 i0 _ 2 32 Try.underlying26 hi hz0 hz1 hz2 rfl (by decide) _ _ _ rfl (ho.alloc _) ⟨wr.heap.size, 0, none⟩ 1 1 [.string ⟨L.toArray⟩, .string ⟨#[]⟩] rfl rfl ?_ ?_ ?_ ?_ ?_ ?_)
        · exact World.news_of_block (cs := #[.string ⟨L.toArray⟩, .string ⟨#[]⟩]) (t := 30) (fr := (0, 0)) (heap_alloc_new wr _)
        · simp [Value.oneCell']
        · unfold maxLen; omega
        · omega
        · simp; omega
        intro v' w3 ho' hg _
        obtain ⟨k1, k2⟩ := ownR_push (f := ⟨L.toArray⟩) (t := ⟨#[]⟩) hbs ho (by simpa using ho') hg
        rw [← HPRE.out] at k1
        have hbel3 := hbel.trans k2
        obtain ⟨ra, rc, rfl, hin⟩ := RngAt.of_own k1
        have HIN := Lib.hid hin
        have hrl : rs.length ≤ 7 := by have := HONE.out.len; omega
        have hcl := HONE.out.lt
        clear ho' hg ho k1 k2 hbel hin
        go_wp2_with fail
        go_loopw [10, 11] (fun n i wr2 => ∃ i' : Nat, i' ≤ rs.length ∧ i = .int .i64 i' ∧ n = .int .i64 (cntc c i') ∧ Below w3.heap.size w3 wr2) (fun _ i _ => rs.length - (intOf i).toNat)
        case atStart => exact ⟨0, by omega, rfl, rfl, Below.refl _ _⟩
        case round =>
          obtain ⟨i', hi', rfl, rfl, hbelA⟩ := hrel
          by_cases hil : i' < rs.length
          · obtain ⟨b0, of0, rfl, hb0l, c0, c1⟩ := HIN.out.below hbelA i' hil
            have hhas := HONE.out.has i' hil
            generalize rs[i'].1 = p at c0 hhas
            generalize rs[i'].2 = q at c1 hhas
            by_cases hic : i' = c
            · have HHAS : Hid (Km.has p.data.toList q.data.toList key.data.toList = true) := Lib.hid (hhas.trans (decide_eq_true hic))
              have e1 : cntc c i' = 0 := by unfold cntc; rw [if_neg (by omega)]
              have HN1 : Hid (cntc c (i' + 1) = 1) := Lib.hid (by unfold cntc; rw [if_pos (by omega)])
              rw [e1]
              clear hhas hic
              go_wp2_with fail
              refine (ohas_b p q key true _ HHAS.out).mono ?_
              rintro e w4 ⟨rfl, hb4⟩
              have hbelB := bstep hbelA hb4
              clear hb4 hbelA c0 c1
              clear e1
              go_wp2_with fail
              go_loopw [12] (fun j wr3 => ∃ j' : Nat, j' ≤ i' ∧ j = .int .i64 j' ∧ Below w3.heap.size w3 wr3) (fun j _ => i' - (intOf j).toNat)
              case atStart => exact ⟨0, by omega, rfl, hbelB⟩
              case round =>
                obtain ⟨j', hj', rfl, hbelC⟩ := hrel
                by_cases hjl : j' < i'
                · obtain ⟨b1, of1, e1, hlt1, g1a, g1b⟩ := HIN.out.below hbelC i' hil
                  obtain ⟨b2, of2, e2, hlt2, g2a, g2b⟩ := HIN.out.below hbelC j' (by omega)
                  cases e1
                  cases e2
                  have hmm := HONE.out.meet i' j' hjl hil
                  obtain ⟨x1, x2⟩ := HONE.out.szs rs[i'] (List.getElem_mem hil)
                  obtain ⟨x3, x4⟩ := HONE.out.szs rs[j'] (List.getElem_mem (by omega))
                  generalize rs[i'].1 = p1 at g1a x1 hmm
                  generalize rs[i'].2 = q1 at g1b x2 hmm
                  generalize rs[j'].1 = p2 at g2a x3 hmm
                  generalize rs[j'].2 = q2 at g2b x4 hmm
                  have HMM := Lib.hid hmm
                  clear hmm
                  have g0 := And.intro g1a (And.intro g1b (And.intro g2a g2b))
                  have v1 : (0 : Int) ≤ (i' : Int) := by omega
                  have v2 : (i' : Int) < (rs.length : Int) := by omega
                  have v3 : (0 : Int) ≤ (j' : Int) := by omega
                  have v4 : (j' : Int) < (rs.length : Int) := by omega
                  have v5 : j' < rs.length := by omega
                  go_wp2_with fail
                  go_region_held3 (fun w' => w'.cell? ⟨b0, of0 + i' * 2, none⟩ = some (.string p1) ∧ w'.cell? ⟨b0, of0 + i' * 2 + 1, none⟩ = some (.string q1) ∧ w'.cell? ⟨b0, of0 + j' * 2, none⟩ = some (.string p2) ∧ w'.cell? ⟨b0, of0 + j' * 2 + 1, none⟩ = some (.string q2))
                    (first | exact g0 | exact g1)
                    (first | (go_at_call 22; ((with_reducible refine (omeet_b p1 q1 p2 q2 false _ x1 x2 x3 x4 HMM.out).mono ?_); rintro e wm ⟨rfl, hm⟩; have g1 := okeep4 hm hlt1 g0)))
                  have hbelD := bstep hbelC.drew hm
                  clear g0 g1 g1a g1b g2a g2b hm
                  go_wp2
                  go_roundw
                  case rel => exact ⟨j' + 1, by omega, by go_num, hbelD⟩
                  case measure => simp [intOf]; omega
                · go_wp2
                  go_roundw
                  case rel => exact ⟨i' + 1, by omega, by go_num, by rw [HN1.out], hbelC⟩
                  case measure => simp [intOf]; omega
            · have HHAS : Hid (Km.has p.data.toList q.data.toList key.data.toList = false) := Lib.hid (hhas.trans (decide_eq_false hic))
              have HN1 : Hid (cntc c (i' + 1) = cntc c i') := Lib.hid (by unfold cntc; by_cases h : c < i' <;> simp [h] <;> omega)
              have e1 : True := trivial
              clear hhas hic
              generalize hnn : cntc c i' = nn at HN1
              clear hnn
              go_wp2_with fail
              refine (ohas_b p q key false _ HHAS.out).mono ?_
              rintro e w4 ⟨rfl, hb4⟩
              have hbelB := bstep hbelA hb4
              clear hb4 hbelA c0 c1
              clear e1
              go_wp2_with fail
              go_loopw [12] (fun j wr3 => ∃ j' : Nat, j' ≤ i' ∧ j = .int .i64 j' ∧ Below w3.heap.size w3 wr3) (fun j _ => i' - (intOf j).toNat)
              case atStart => exact ⟨0, by omega, rfl, hbelB⟩
              case round =>
                obtain ⟨j', hj', rfl, hbelC⟩ := hrel
                by_cases hjl : j' < i'
                · obtain ⟨b1, of1, e1, hlt1, g1a, g1b⟩ := HIN.out.below hbelC i' hil
                  obtain ⟨b2, of2, e2, hlt2, g2a, g2b⟩ := HIN.out.below hbelC j' (by omega)
                  cases e1
                  cases e2
                  have hmm := HONE.out.meet i' j' hjl hil
                  obtain ⟨x1, x2⟩ := HONE.out.szs rs[i'] (List.getElem_mem hil)
                  obtain ⟨x3, x4⟩ := HONE.out.szs rs[j'] (List.getElem_mem (by omega))
                  generalize rs[i'].1 = p1 at g1a x1 hmm
                  generalize rs[i'].2 = q1 at g1b x2 hmm
                  generalize rs[j'].1 = p2 at g2a x3 hmm
                  generalize rs[j'].2 = q2 at g2b x4 hmm
                  have HMM := Lib.hid hmm
                  clear hmm
                  have g0 := And.intro g1a (And.intro g1b (And.intro g2a g2b))
                  have v1 : (0 : Int) ≤ (i' : Int) := by omega
                  have v2 : (i' : Int) < (rs.length : Int) := by omega
                  have v3 : (0 : Int) ≤ (j' : Int) := by omega
                  have v4 : (j' : Int) < (rs.length : Int) := by omega
                  have v5 : j' < rs.length := by omega
                  go_wp2_with fail
                  go_region_held3 (fun w' => w'.cell? ⟨b0, of0 + i' * 2, none⟩ = some (.string p1) ∧ w'.cell? ⟨b0, of0 + i' * 2 + 1, none⟩ = some (.string q1) ∧ w'.cell? ⟨b0, of0 + j' * 2, none⟩ = some (.string p2) ∧ w'.cell? ⟨b0, of0 + j' * 2 + 1, none⟩ = some (.string q2))
                    (first | exact g0 | exact g1)
                    (first | (go_at_call 22; ((with_reducible refine (omeet_b p1 q1 p2 q2 false _ x1 x2 x3 x4 HMM.out).mono ?_); rintro e wm ⟨rfl, hm⟩; have g1 := okeep4 hm hlt1 g0)))
                  have hbelD := bstep hbelC.drew hm
                  clear g0 g1 g1a g1b g2a g2b hm
                  go_wp2
                  go_roundw
                  case rel => exact ⟨j' + 1, by omega, by go_num, hbelD⟩
                  case measure => simp [intOf]; omega
                · go_wp2
                  go_roundw
                  case rel => exact ⟨i' + 1, by omega, by go_num, by rw [HN1.out], hbelC⟩
                  case measure => simp [intOf]; omega
          · obtain rfl : i' = rs.length := by omega
            have e1 : cntc c rs.length = 1 := by unfold cntc; rw [if_pos hcl]
            rw [e1]
            clear e1
            have hbelE := bstep hbel3 hbelA
            have HI := Lib.hid (HIN.out.below hbelA)
            have HL1 := Lib.hid HONE.out.len
            clear hbelA HIN
            go_wp2_with fail
            refine (ofind_b ra rc rs key c _ (by omega) HI.out HONE.out.find).mono ?_
            rintro e w5 ⟨rfl, hb5⟩
            have hbelF := bstep hbelE hb5
            have HI5 := Lib.hid (HI.out.below hb5)
            clear hbelE HI hb5
            go_wp2_with fail
            refine (owhole_b ra rc rs _ (by omega) HONE.out.szs HI5.out HONE.out.whole).mono ?_
            rintro e w6 ⟨rfl, hb6⟩
            have hbelG := bstep hbelF hb6
            have HI6 := Lib.hid (HI5.out.below hb6)
            clear hbelF HI5 hb6
            obtain ⟨b0, of0, rfl, hb0l, c0, c1⟩ := HI6.out c hcl
            have hhas := HONE.out.has c hcl
            generalize rs[c].1 = p at c0 hhas
            generalize rs[c].2 = q at c1 hhas
            have HHAS : Hid (Km.has p.data.toList q.data.toList key.data.toList = true) := Lib.hid (hhas.trans (decide_eq_true rfl))
            clear hhas
            have v1 : decide ((0 : Int) ≤ (c : Int)) = true := decide_eq_true (by omega)
            have v2 : decide ((c : Int) < (rs.length : Int)) = true := decide_eq_true (by omega)
            have v3 : decide (c < rs.length) = true := decide_eq_true hcl
            go_wp2_with fail
            refine (ohas_b p q key true _ HHAS.out).mono ?_
            rintro e w7 ⟨rfl, hb7⟩
            have hbelH := bstep hbelG hb7
            have HI7 := Lib.hid (HI6.out.below hb7)
            clear hbelG HI6 hb7 c0 c1
            go_wp2_with fail
            refine (bounds_any _ rc rs _ (by omega) HI7.out).mono ?_
            rintro e w8 ⟨vb, bs, rfl, hB, hst, hbl, hb8⟩
            obtain rfl : bs = us := Km.isB_uniq hB HONE.out.bnd
            obtain ⟨ba, bc, rfl, _⟩ := hst
            have y1 : ((bs.length : Int) == (rs.length : Int) - 1) = true := by have := HL1.out; simp; omega
            clear hB
            go_wp2
            go_ret
            exact ⟨ret_bool (by first | rfl | simpa using y1), bstep hbelH hb8⟩
end Go.Proofs.Ytmmgicdnbedmdaa
