/- What table.Check answers, and the document's. -/
import Derived.Test.YtllagelopdedfaaTabHas
import Derived.Test.YtllagelopdedfaaContI
import Derived.Deep.QuietTactic
import Derived.BigQuiet
namespace Go.Proofs.Ytllagelopdedfaa
open Go.RowKit
set_option linter.unusedVariables false
set_option linter.unusedSimpArgs false

set_option maxRecDepth 100000 in
theorem noO7_any (o : Int) (n B : Nat) (w : World) (hn : 1 ≤ n ∧ n ≤ 6) (hc : w.cell? ⟨B, 0, none⟩ = some (.int .i64 (n : Int))) :
    Calls Try.prog 41 #[.int .i64 o, .pointer (some ⟨B, 0, none⟩)] w fun e w' => e = .returned (.bool (noO n o)) ∧ Below w.heap.size w w' := by
  unfold noO
  have hw : wrap64 ((2 : Int) ^ n) = ((2 ^ n : Nat) : Int) := by
    rcases (show n = 1 ∨ n = 2 ∨ n = 3 ∨ n = 4 ∨ n = 5 ∨ n = 6 by omega) with rfl | rfl | rfl | rfl | rfl | rfl <;> kernel_rfl
  by_cases h1 : o < 1
  · go_enter Try.func41, Try.ntmps41
    go_wp2
    go_ret
    exact ⟨ret_bool (by simp [h1]), Below.refl _ _⟩
  · rw [decide_eq_false h1, Bool.false_or]
    go_enter Try.func41, Try.ntmps41
    go_wp2
    go_ret
    exact ⟨ret_bool (by first | rw [hw] | rfl), Below.refl _ _⟩

theorem kc7 {W w1 : World} {b o : Nat} {v : Value} (hb : Below W.heap.size W w1) (h : W.cell? ⟨b, o, none⟩ = some v) : w1.cell? ⟨b, o, none⟩ = some v := (hb.cell (p := ⟨b, o, none⟩) (World.block_lt_of_cell? W _ h)).trans h

set_option maxRecDepth 100000 in
set_option maxHeartbeats 1600000 in
theorem check7_any (c : Rw) (u0 u1 u2 : Value) (w : World) (h : RwAt w u0 u1 u2 c) :
    Calls Try.prog 17 #[.agg #[u0, u1, u2]] w fun e w' => e = .returned (.bool (tOk c)) ∧ Below w.heap.size w w' := by
  have hmf : ∀ (fn : Fn) (first cap : Array Value) (w : World), (Instr.makeFunc fn first cap).run Try.prog w = .ok (.func fn first cap) w := fun _ _ _ _ => rfl
  have HW := Lib.hid h
  obtain ⟨a0, cp0, hu0, hq0, hm0, _, hri0⟩ := h.rs
  obtain ⟨a1, cp1, hu1, hq1, hm1, _⟩ := h.ow
  obtain ⟨rs, ow, pa⟩ := c
  dsimp only at hu0 hu1 hq0 hq1 hri0
  unfold maxLen at hm0 hm1
  subst hu0 hu1
  have hV := VrP.new w (.slice a0 rs.length cp0) (.slice a1 ow.length cp1) u2 25
  have hb0 : Below w.heap.size w (w.alloc (.cells #[.slice a0 rs.length cp0, .slice a1 ow.length cp1, u2] 25)) := balloc (Below.refl _ w) _
  clear h
  generalize hOK : tOk ⟨rs, ow, pa⟩ = OK
  have HOK := Lib.hid hOK
  clear hOK
  go_enter Try.func17, Try.ntmps17
  go_wp2_with fail
  refine (sites_any ⟨rs, ow, pa⟩ _ _ _ _ (HW.out.pa.below hb0)).mono ?_
  rintro e w1 ⟨rfl, hb1⟩
  have hbw1 := bstep hb0 hb1
  have hV1 := hV.keep hb1
  dsimp only
  have hbn := balloc (Below.refl _ w1) (.cells #[.int .i64 (pa.length : Int)] 3)
  have hN : (w1.alloc (.cells #[.int .i64 (pa.length : Int)] 3)).cell? ⟨w1.heap.size, 0, none⟩ = some (.int .i64 (pa.length : Int)) := by simp
  have hV2 := hV1.keep hbn
  have hbw := bstep hbw1 hbn
  have hm2 : pa.length ≤ 9223372036854775807 := by
    obtain ⟨a2, cp2, _, hq2, hm2, _⟩ := HW.out.pa
    unfold maxLen at hm2
    exact Nat.le_trans hq2 hm2
  have HNN : Hid (∃ B, B = w1.heap.size) := Lib.hid ⟨_, rfl⟩
  clear hb0 hV hb1 hbw1 hV1 hbn
  go_upto_region 2 with fail
  generalize w1.alloc (.cells #[.int .i64 (pa.length : Int)] 3) = w2 at *
  have HV2 := Lib.hid hV2
  have HBW := Lib.hid hbw
  obtain ⟨c0, c1, c2, _⟩ := hV2
  clear hbw
  by_cases hok : 1 ≤ pa.length ∧ pa.length ≤ 6 ∧ rs.length ≤ 8 ∧ ow.length = rs.length
  · obtain ⟨k1, k2, k3, k4⟩ := hok
    have t1 : ¬ (pa.length : Int) < 1 := by omega
    have t2 : ¬ (6 : Int) < (pa.length : Int) := by omega
    have t3 : ¬ (8 : Int) < (rs.length : Int) := by omega
    have t4 : ((ow.length : Int) != (rs.length : Int)) = false := by rw [k4, bne_self_eq_false]
    have hwh := fun W (hb : Below w.heap.size w W) => whole_any a0 cp0 rs W (by omega) HW.out.sz (RowIn.rng (hri0.below hb))
    have hco := fun W (hb : Below w.heap.size w W) (hn : W.cell? ⟨w1.heap.size, 0, none⟩ = some (.int .i64 (pa.length : Int))) => contFuncI_any 41 #[.pointer (some ⟨w1.heap.size, 0, none⟩)] (enters_of Try.func41 (by kernel_rfl) rfl) (noO pa.length) (.slice a1 ow.length cp1) W.heap.size ow W (by omega) (HW.out.ow.below hb) (Nat.le_refl _) (fun W' d _ hb' => noO7_any d pa.length _ W' ⟨k1, k2⟩ (kc7 hb' hn))
    have e0 : tOk ⟨rs, ow, pa⟩ = (Km.whole (tls rs) && !(ow.any (noO pa.length))) := by
      unfold tOk
      rw [decide_eq_true (show 1 ≤ pa.length ∧ pa.length ≤ 6 ∧ rs.length ≤ 8 ∧ ow.length = rs.length from ⟨k1, k2, k3, k4⟩), Bool.true_and]
    rw [e0] at HOK
    generalize Km.whole (tls rs) = wb at hwh HOK
    generalize ow.any (noO pa.length) = ob at hco HOK
    clear e0 k1 k2 k3 k4
    have hbw := HBW.out
    go_wp2_with fail
    refine (hwh _ hbw).mono ?_
    rintro e w3 ⟨rfl, hb3⟩
    have HB3 := Lib.hid (bstep hbw hb3)
    have hV3 := HV2.out.keep hb3
    have hN3 := kc7 hb3 hN
    clear c0 c1 c2 hb3 hbw hwh
    obtain ⟨c0, c1, c2, _⟩ := hV3
    cases wb with
    | false =>
      go_wp2
      go_ret
      exact ⟨ret_bool (by rw [← HOK.out]; rfl), HB3.out⟩
    | true =>
      go_wp2_with fail
      refine (hco _ HB3.out hN3).mono ?_
      rintro e w5 ⟨rfl, hb5⟩
      go_wp2
      go_ret
      exact ⟨ret_bool (by rw [← HOK.out]; simp), bstep HB3.out hb5⟩
  · have e0 : OK = false := by
      rw [← HOK.out]
      unfold tOk
      rw [decide_eq_false (show ¬ (1 ≤ pa.length ∧ pa.length ≤ 6 ∧ rs.length ≤ 8 ∧ ow.length = rs.length) from hok)]
      rfl
    subst e0
    clear HOK
    by_cases t1 : (pa.length : Int) < 1
    · clear hok
      go_wp2
      go_ret
      exact ⟨ret_bool (by simp_all), HBW.out⟩
    · by_cases t2 : (6 : Int) < (pa.length : Int)
      · clear hok
        go_wp2
        go_ret
        exact ⟨ret_bool (by simp_all), HBW.out⟩
      · by_cases t3 : (8 : Int) < (rs.length : Int)
        · clear hok
          go_wp2
          go_ret
          exact ⟨ret_bool (by simp_all), HBW.out⟩
        · have t4 : ((ow.length : Int) != (rs.length : Int)) = true := by rw [bne_iff_ne]; omega
          clear hok
          go_wp2
          go_ret
          exact ⟨ret_bool (by simp_all), HBW.out⟩

theorem two7_same (n : Nat) (w : World) (hn : n ≤ 60) :
    Calls Try.prog 45 #[.int .i64 (n : Int)] w fun e w' => e = .returned (.int .i64 ((2 ^ n : Nat) : Int)) ∧ w' = w :=
  (two7_any n w hn).mono fun _ _ h => ⟨h.1, h.2.symm⟩

set_option maxRecDepth 100000 in
set_option maxHeartbeats 1600000 in
theorem refCheck7_any (c : Rw) (u0 u1 u2 : Value) (w : World) (h : RwAt w u0 u1 u2 c) (hl : c.rs.length ≤ 100) :
    Calls Try.prog 18 #[.agg #[u0, u1, u2]] w fun e w' => e = .returned (.bool (tOk c)) ∧ Below w.heap.size w w' := by
  have HW := Lib.hid h
  obtain ⟨a0, cp0, hu0, hq0, hm0, _, hri0⟩ := h.rs
  obtain ⟨a1, cp1, hu1, hq1, hm1, _⟩ := h.ow
  obtain ⟨a2, cp2, hu2, hq2, hm2, _⟩ := h.pa
  obtain ⟨rs, ow, pa⟩ := c
  dsimp only at hu0 hu1 hu2 hq0 hq1 hq2 hri0 hl
  unfold maxLen at hm0 hm1 hm2
  subst hu0 hu1 hu2
  have hV := VrP.new w (.slice a0 rs.length cp0) (.slice a1 ow.length cp1) (.slice a2 pa.length cp2) 25
  have hb0 : Below w.heap.size w (w.alloc (.cells #[.slice a0 rs.length cp0, .slice a1 ow.length cp1, .slice a2 pa.length cp2] 25)) := balloc (Below.refl _ w) _
  have HRI := Lib.hid hri0
  clear h hri0
  generalize hOK : tOk ⟨rs, ow, pa⟩ = OK
  have HOK := Lib.hid hOK
  clear hOK
  go_enter Try.func18, Try.ntmps18
  go_wp2_with fail
  refine (refWhole_any a0 cp0 rs _ hl HW.out.sz (RowIn.rng (HRI.out.below hb0))).mono ?_
  rintro e w2 ⟨rfl, hb2⟩
  have hbw := bstep hb0 hb2
  have hV2 := hV.keep hb2
  have HV2 := Lib.hid hV2
  have HBW := Lib.hid hbw
  obtain ⟨c0, c1, c2, _⟩ := hV2
  clear hb0 hV hb2 hbw
  generalize hwq : Km.whole (tls rs) = wb
  have HWQ := Lib.hid hwq
  clear hwq
  by_cases hok : 1 ≤ pa.length ∧ pa.length ≤ 6 ∧ rs.length ≤ 8 ∧ ow.length = rs.length
  · have e0 : tOk ⟨rs, ow, pa⟩ = (wb && !(ow.any (noO pa.length))) := by
      unfold tOk
      rw [decide_eq_true (show 1 ≤ pa.length ∧ pa.length ≤ 6 ∧ rs.length ≤ 8 ∧ ow.length = rs.length from hok), Bool.true_and, HWQ.out]
    rw [e0] at HOK
    clear e0
    obtain ⟨k1, k2, k3, k4⟩ := hok
    have t1 : ¬ (pa.length : Int) < 1 := by omega
    have t2 : ¬ (6 : Int) < (pa.length : Int) := by omega
    have t3 : ¬ (8 : Int) < (rs.length : Int) := by omega
    have t4 : ((ow.length : Int) != (rs.length : Int)) = false := by rw [k4, bne_self_eq_false]
    have k4' : ow.length ≤ 8 := by omega
    clear k4
    cases wb with
    | false =>
      go_wp2
      go_ret
      exact ⟨ret_bool (by rw [← HOK.out]; rfl), HBW.out⟩
    | true =>
      generalize hpa : pa.length = n at *
      have HPA := Lib.hid hpa
      clear hpa
      go_wp2_with fail
      go_loopw [5] (fun i wr => ∃ k : Nat, k ≤ ow.length ∧ i = .int .i64 k ∧ (ow.take k).any (noO n) = false ∧ Below w2.heap.size w2 wr) (fun i _ => ow.length - (intOf i).toNat)
      case atStart => exact ⟨0, by omega, rfl, rfl, Below.refl _ _⟩
      case round =>
        obtain ⟨k, hk, rfl, hno, hbel⟩ := hrel
        have hVr := HV2.out.keep hbel
        have HBR := Lib.hid (bstep HBW.out hbel)
        have HBL := Lib.hid hbel
        clear c0 c1 c2 hbel
        obtain ⟨c0, c1, c2, _⟩ := hVr
        have HNO := Lib.hid hno
        clear hno
        by_cases hlt : k < ow.length
        · have hrow : RowIn KI wr a1 ow := by
            obtain ⟨a', cp', e, _, _, _, hr⟩ := HW.out.ow.below HBR.out
            cases e
            exact hr
          obtain ⟨b, off, rfl, hbl, cc⟩ := hrow.int k hlt
          have HST : Hid ((ow.take (k + 1)).any (noO n) = noO n ow[k]) := Lib.hid (by
            rw [List.take_succ_eq_append_getElem hlt, List.any_append, HNO.out]
            simp)
          have HAL : Hid (noO n ow[k] = true → ow.any (noO n) = true) := Lib.hid (fun h => List.any_eq_true.2 ⟨_, List.getElem_mem hlt, h⟩)
          generalize ow[k] = o at cc HST HAL
          have htw := fun W => two7_same n W (by omega)
          have HNOO : Hid (noO n o = (decide (o < 1) || decide (((2 ^ n : Nat) : Int) ≤ o))) := Lib.hid rfl
          generalize 2 ^ n = q at htw HNOO
          by_cases h1 : o < 1
          · go_wp2_with fail
            go_quiet (fail)
            go_wp2
            go_ret
            exact ⟨ret_bool (by rw [← HOK.out, HAL.out (by rw [HNOO.out, decide_eq_true h1]; rfl)]; rfl), bstep HBR.out (below_drewN (Below.refl _ _) _)⟩
          · have h1' : decide (o < 1) = false := decide_eq_false h1
            by_cases h2 : (q : Int) ≤ o
            · go_wp2_with fail
              go_quiet ((go_at_call 45; exact Calls.quiet_of_same (htw _)))
              go_wp2
              go_ret
              exact ⟨ret_bool (by rw [← HOK.out, HAL.out (by rw [HNOO.out, decide_eq_true h2]; simp)]; rfl), bstep HBR.out (below_drewN (Below.refl _ _) _)⟩
            · go_wp2_with fail
              go_quiet ((go_at_call 45; exact Calls.quiet_of_same (htw _)))
              go_wp2
              go_roundw
              case rel => exact ⟨k + 1, by omega, by go_num, by rw [HST.out, HNOO.out, decide_eq_false (show ¬ o < 1 by omega), decide_eq_false (show ¬ (q : Int) ≤ o by omega)]; rfl, bstep HBL.out (below_drewN (Below.refl _ _) _)⟩
              case measure => simp [intOf]; omega
        · obtain rfl : k = ow.length := by omega
          go_wp2
          go_ret
          exact ⟨ret_bool (by rw [← HOK.out]; have := HNO.out; rw [List.take_length] at this; rw [this]; rfl), HBR.out⟩
  · have e0 : OK = false := by
      rw [← HOK.out]
      unfold tOk
      rw [decide_eq_false (show ¬ (1 ≤ pa.length ∧ pa.length ≤ 6 ∧ rs.length ≤ 8 ∧ ow.length = rs.length) from hok)]
      rfl
    subst e0
    clear HOK
    cases wb with
    | false =>
      clear hok
      go_wp2
      go_ret
      exact ⟨ret_bool rfl, HBW.out⟩
    | true =>
      by_cases t1 : (8 : Int) < (rs.length : Int)
      · clear hok
        go_wp2
        go_ret
        exact ⟨ret_bool (by simp_all), HBW.out⟩
      · cases t2 : ((ow.length : Int) != (rs.length : Int)) with
        | true =>
          clear hok
          go_wp2
          go_ret
          exact ⟨ret_bool (by simp_all), HBW.out⟩
        | false =>
          have t2' : ow.length = rs.length := by
            have : (ow.length : Int) = (rs.length : Int) := by simpa using t2
            omega
          have HT2 := Lib.hid t2'
          clear t2'
          by_cases t3 : (pa.length : Int) < 1
          · clear hok
            go_wp2
            go_ret
            exact ⟨ret_bool (by simp_all), HBW.out⟩
          · have t4 : (6 : Int) < (pa.length : Int) := by have := HT2.out; omega
            clear hok
            go_wp2
            go_ret
            exact ⟨ret_bool (by simp_all), HBW.out⟩
end Go.Proofs.Ytllagelopdedfaa
