/- The walk of the law RouteReach. -/
import Derived.Test.YthjjidfoclcghaaGR28
import Derived.Deep.DeepCutAuto
import Derived.Deep.QuietTactic
import Derived.BigQuiet
import Derived.IntWalk
namespace Go.Proofs.Ythjjidfoclcghaa
open Go.RowKit
set_option linter.unusedVariables false
set_option linter.unusedSimpArgs false

set_option maxRecDepth 100000 in
set_option maxHeartbeats 6400000 in
theorem walkRouteReach (w : World) (a0 b0 c0 : Value) (l0 m0 n0 : List Int) (w0 : RowAt KI w a0 l0 ∧ ∀ z ∈ l0, -9223372036854775808 ≤ z ∧ z ≤ 9223372036854775807) (x0 : RowAt KI w b0 m0 ∧ ∀ z ∈ m0, -9223372036854775808 ≤ z ∧ z ≤ 9223372036854775807) (y0 : RowAt KI w c0 n0 ∧ ∀ z ∈ n0, -9223372036854775808 ≤ z ∧ z ≤ 9223372036854775807) (key : ByteArray) (wk : key.size ≤ maxLen) (t : Int) (wt : (Lit.int .i64 t).wf = true) :
    Calls Try.prog 6 #[.agg #[a0, b0, c0], .string key, .int .i64 t] w fun e w' => e = .returned (.bool true) ∧ Below w.heap.size w w' := by
  obtain ⟨w0, w0b⟩ := w0
  obtain ⟨x0, x0b⟩ := x0
  obtain ⟨y0, y0b⟩ := y0
  have hrow := fun W hb' => row9_any a0 b0 c0 l0 m0 n0 W (w0.below hb') (x0.below hb') (y0.below hb') w0b x0b y0b
  obtain ⟨i0, j0, rfl, _⟩ := w0
  obtain ⟨i1, j1, rfl, _⟩ := x0
  obtain ⟨i2, j2, rfl, _⟩ := y0
  obtain ⟨ht1, ht2⟩ := bounds_i64 wt
  clear w0b x0b y0b wk wt
  have hb : Below w.heap.size w (w.alloc (.cells #[.slice i0 l0.length j0, .slice i1 m0.length j1, .slice i2 n0.length j2] 24)) := balloc (Below.refl _ _) _
  have hS0 := VrP.new w (.slice i0 l0.length j0) (.slice i1 m0.length j1) (.slice i2 n0.length j2) 24
  go_enter Try.func6, Try.ntmps6
  go_wp2_with fail
  generalize w.alloc (.cells #[.slice i0 l0.length j0, .slice i1 m0.length j1, .slice i2 n0.length j2] 24) = wb at *
  refine (awake9_any _).mono ?_
  rintro e wa ⟨rfl, hba⟩
  obtain ⟨p0, p1, p2, _⟩ := hS0.keep hba
  have HBA := Lib.hid (bstep hb hba)
  clear hb hba hS0
  go_wp2_with fail
  refine (hrow _ HBA.out).mono ?_
  rintro e wS ⟨c, u0, u1, u2, rfl, hRO, hok, hbr⟩
  have hR := hRO.at
  obtain ⟨a2, cp2, hu2, hq2, hm2, _, hri2⟩ := hR.pa
  unfold maxLen at hm2
  subst hu2
  obtain ⟨z0, t0, rfl, _⟩ := id hR.rs
  obtain ⟨z1, t1, rfl, _⟩ := id hR.ow
  have HOK := Lib.hid hok
  have hba := balloc (Below.refl _ wS) (.cells #[.slice z0 c.rs.length t0, .slice z1 c.ow.length t1, .slice a2 c.pa.length cp2] 29)
  have HR := Lib.hid (hR.below hba)
  have HRI := Lib.hid (hri2.below hba)
  have HV := Lib.hid (VrP.new wS (.slice z0 c.rs.length t0) (.slice z1 c.ow.length t1) (.slice a2 c.pa.length cp2) 29)
  have HB := Lib.hid (bstep (bstep HBA.out hbr) hba)
  have hT := (Tm.chkT_iff c.pa).1 (chk9_parts hok).2
  have hn1 := hT.n1
  have hn6 := hT.n6
  have HR8 : Hid (c.rs.length ≤ 8) := Lib.hid ((tOk_iff c).1 (chk9_parts hok).1).r8
  have HT := Lib.hid hT
  clear hrow p0 p1 p2 hbr hRO hok hR hri2 hT hba HBA
  go_upto_region 3 with fail
  generalize wS.alloc (.cells #[.slice z0 c.rs.length t0, .slice z1 c.ow.length t1, .slice a2 c.pa.length cp2] 29) = w9 at *
  obtain ⟨d0, d1, d2, _⟩ := HV.out
  obtain ⟨y1, y2⟩ := tmod_bdT t (c.pa.length : Int) (by omega)
  generalize hy : t.tmod (c.pa.length : Int) = y at y1 y2
  go_upto_region 5 with fail
  have ho1 := Int.emod_nonneg (y + (c.pa.length : Int)) (b := (c.pa.length : Int)) (by omega)
  have ho2 := Int.emod_lt_of_pos (y + (c.pa.length : Int)) (b := (c.pa.length : Int)) (by omega)
  generalize (y + (c.pa.length : Int)) % (c.pa.length : Int) = o at *
  obtain ⟨x, rfl⟩ : ∃ x : Nat, o = (x : Int) := ⟨o.toNat, by omega⟩
  have hx : x < c.pa.length := by omega
  clear hy y1 y2 ho1 ho2 ht1 ht2
  have hm := ownN_lt c key.data.toList
  have hOW := refOwners7_any c (.slice z0 c.rs.length t0) (.slice z1 c.ow.length t1) (.slice a2 c.pa.length cp2) key w9 HR.out (by have := HR8.out; omega)
  have HWY := Lib.hid (fun (W : World) (hb : Below w9.heap.size w9 W) => rways_any c (.slice z0 c.rs.length t0) (.slice z1 c.ow.length t1) (.slice a2 c.pa.length cp2) (x : Int) key W (HR.out.below hb))
  have HRE := Lib.hid (fun (W : World) (hb : Below w9.heap.size w9 W) => rreach_any c (.slice z0 c.rs.length t0) (.slice z1 c.ow.length t1) (.slice a2 c.pa.length cp2) (x : Int) key W (HR.out.below hb))
  rw [reach9_eq HOK.out key.data.toList (Tm.isS_iff.2 ⟨by omega, by omega⟩)] at HRE
  have HPA := Lib.hid (fun (s : Nat) (hs : s < c.pa.length) (W : World) (hb : Below w9.heap.size w9 W) => (show Calls Try.prog 30 #[.slice a2 c.pa.length cp2, .int .i64 (x : Int), .int .i64 (s : Int)] W fun e w' => ∃ v, e = .returned v ∧ OwnR KI w' W.heap.size v (Tm.ln (Tm.way c.pa x s)) ∧ Below W.heap.size W w' by
    have h := refPath_any c.pa a2 cp2 (x : Int) (s : Int) W (by omega) (HRI.out.below hb)
    rw [Tm.pathI_nat (chk9_parts HOK.out).2 hx hs] at h
    exact h))
  have HPL : Hid (∀ s, s < c.pa.length → (∀ z ∈ Tm.way c.pa x s, z < c.pa.length) ∧ (Tm.way c.pa x s).length ≤ 6) := Lib.hid (fun s hs => ⟨fun z hz => (HT.out.way_wk hx hs).lt z hz, Nat.le_trans (HT.out.way_len hx hs) (by omega)⟩)
  have HW0 : Hid (∀ z, (if z = x then true else false) = wantK c key.data.toList x 0 z) := Lib.hid (fun z => by
    rw [wantK_zero]
    by_cases e : z = x
    · rw [if_pos e, decide_eq_true e]
    · rw [if_neg e, decide_eq_false e])
  have HWS := Lib.hid (fun s z => wantK_succ c key.data.toList x s z)
  have HWC := Lib.hid (fun z => want_came HOK.out key.data.toList hx z)
  have hwl := ways9_few HOK.out key.data.toList hx
  generalize came9 c key.data.toList (x : Int) (ways9 c key.data.toList (x : Int)).length = CM at *
  generalize ways9 c key.data.toList (x : Int) = WL at *
  generalize wantK c key.data.toList x = WK at *
  generalize Tm.way c.pa x = P at *
  generalize ownN c key.data.toList = m at *
  have hx6 : x < 6 := by omega
  go_wp2_with fail
  refine hOW.mono ?_
  rintro e wA ⟨rfl, hbA⟩
  have HBA := Lib.hid hbA
  have HVA := Lib.hid (HV.out.keep hbA)
  have HN := Lib.hid (BoolIn.new wA)
  have HBN := Lib.hid (balloc (Below.refl _ wA) (.cells #[.bool false, .bool false, .bool false, .bool false, .bool false, .bool false] 49))
  have HSA := Lib.hid hbA.size
  clear d0 d1 d2 hbA hOW
  go_upto_region 7 with fail
  generalize wA.alloc (.cells #[.bool false, .bool false, .bool false, .bool false, .bool false, .bool false] 49) = wN at *
  have hfz := HN.out.f x hx6
  have hcz := HN.out.c x hx6
  have HS1 := Lib.hid ((HN.out.set hx6 true).cong (fun s _ => HW0.out s))
  have HB2 := Lib.hid (HBN.out.setCell (p := ⟨wA.heap.size, x, none⟩) (Nat.le_refl _) (.bool true))
  go_upto_region 8 with fail
  generalize wN.setCell ⟨wA.heap.size, x, none⟩ (.bool true) = wT at *
  have HBT := Lib.hid (bstep HBA.out HB2.out)
  clear hfz hcz HN HBN HB2 HBA HW0
  go_wp2_with fail
  go_loopw [13] (fun i wr => ∃ s : Nat, s ≤ c.pa.length ∧ i = .int .i64 s ∧ Hid (BoolIn wr wA.heap.size (WK s)) ∧ Below w9.heap.size w9 wr) (fun i _ => c.pa.length - (intOf i).toNat)
  case atStart => exact ⟨0, by omega, rfl, HS1, HBT.out⟩
  case round =>
    clear HS1 HBT
    obtain ⟨s, hs, rfl, HS, hbel⟩ := hrel
    have HBL := Lib.hid hbel
    by_cases hls : s < c.pa.length
    · have hsi : (s : Int) < (c.pa.length : Int) := by omega
      obtain ⟨wO, hwO⟩ : ∃ wO : World, wO = wr := ⟨wr, rfl⟩
      subst hwO
      have hbit := bit7_any m s wO hm (by omega)
      have HWS1 := Lib.hid (fun z => HWS.out s z)
      generalize bitN m (s : Int) = bb at hbit HWS1
      clear hbel
      cases bb with
      | false =>
        have HS2 : Hid (BoolIn wO wA.heap.size (WK (s + 1))) := Lib.hid (HS.out.cong (fun z _ => by rw [HWS1.out]; simp))
        go_wp2_with fail
        refine hbit.mono ?_
        rintro e wG ⟨rfl, rfl⟩
        go_wp2
        go_roundw
        case rel => exact ⟨s + 1, by omega, by go_num, HS2, HBL.out⟩
        case measure => simp [intOf]; omega
      | true =>
        have HSF : Hid (∀ W, BoolIn W wA.heap.size (fun z => WK s z || ((P s).take (P s).length).contains z) → BoolIn W wA.heap.size (WK (s + 1))) := Lib.hid (fun W h => h.cong (fun z _ => by rw [HWS1.out, List.take_length]; simp))
        have HS0 : Hid (BoolIn wO wA.heap.size (fun z => WK s z || ((P s).take 0).contains z)) := Lib.hid (HS.out.cong (fun z _ => by simp))
        have hpa := HPA.out s hls wO HBL.out
        obtain ⟨hpl, hpl6⟩ := HPL.out s hls
        have HPL2 := Lib.hid hpl
        obtain ⟨d0, d1, d2, _⟩ := HV.out.keep HBL.out
        generalize P s = Q at *
        generalize WK s = G at *
        go_wp2_with fail
        refine hbit.mono ?_
        rintro e wG ⟨rfl, rfl⟩
        go_wp2_with fail
        refine hpa.mono ?_
        rintro e wB ⟨v2, rfl, ho2, hb2⟩
        obtain ⟨la, lc, rfl⟩ := ho2.shape
        have hll : (Tm.ln Q).length = Q.length := Tm.ln_len Q
        have hszO : wA.heap.size < wO.heap.size := HS.out.lt
        have HO2 := Lib.hid ho2
        have HLL := Lib.hid hll
        rw [hll] at HO2 ⊢
        have HSB := Lib.hid (HS0.out.below hb2)
        have HBB := Lib.hid (bstep HBL.out hb2)
        clear hpa ho2 hb2 hbit d0 d1 d2 HS0 hll hpl
        go_wp2_with fail
        go_loopw [15] (fun i wz => ∃ k : Nat, k ≤ Q.length ∧ i = .int .i64 k ∧ Hid (BoolIn wz wA.heap.size (fun z => G z || (Q.take k).contains z)) ∧ Below w9.heap.size w9 wz ∧ Hid (OwnR KI wz wO.heap.size (.slice la Q.length lc) (Tm.ln Q))) (fun i _ => Q.length - (intOf i).toNat)
        case atStart => exact ⟨0, by omega, rfl, HSB, HBB.out, HO2⟩
        case round =>
          clear HSB HBB HO2
          obtain ⟨k, hk, rfl, HSK, hbz, HO⟩ := hrel
          by_cases hlk : k < Q.length
          · obtain ⟨bL, oL, rfl, hblL, cl⟩ := (RowIn.of_own ki_ok HO.out).int k (by rw [HLL.out]; exact hlk)
            rw [Tm.ln_get] at cl
            have hy := HPL2.out Q[k] (List.getElem_mem hlk)
            have HCG : Hid (∀ z, (if z = Q[k] then true else (G z || (Q.take k).contains z)) = (G z || (Q.take (k + 1)).contains z)) := Lib.hid (fun z => by
              rw [List.take_succ_eq_append_getElem hlk, List.contains_append, ← Bool.or_assoc]
              by_cases e : z = Q[k]
              · rw [if_pos e]; simp [e]
              · rw [if_neg e]; simp [e])
            generalize Q[k] = y at *
            have hy6 : y < 6 := by omega
            have hfz := HSK.out.f y hy6
            have hcz := HSK.out.c y hy6
            have HS2 := Lib.hid ((HSK.out.set hy6 true).cong (fun z _ => HCG.out z))
            have HB2 := Lib.hid (hbz.setCell (p := ⟨wA.heap.size, y, none⟩) HSA.out (.bool true))
            have HO3 := Lib.hid (HO.out.put7 (o := y) (x := .bool true) (HO.out.lo hszO))
            have hki : (k : Int) < (Q.length : Int) := by omega
            clear HSK hbz HO
            go_wp2_with fail
            go_roundw
            case rel => exact ⟨k + 1, by omega, by go_num, HS2, HB2.out, HO3⟩
            case measure => simp [intOf]; omega
          · obtain rfl : k = Q.length := by omega
            have HS2 := Lib.hid (HSF.out wr HSK.out)
            have HBZ := Lib.hid hbz
            clear hbz HSK HO
            go_wp2
            go_roundw
            case rel => exact ⟨s + 1, by omega, by go_num, HS2, HBZ.out⟩
            case measure => simp [intOf]; omega
    · obtain rfl : s = c.pa.length := by omega
      have HS2 : Hid (BoolIn wr wA.heap.size CM) := Lib.hid (HS.out.cong (fun z _ => HWC.out z))
      obtain ⟨d0, d1, d2, _⟩ := HV.out.keep hbel
      have hre := HRE.out wr hbel
      obtain ⟨q, hq⟩ : ∃ q, q = Tm.sumB CM 6 := ⟨_, rfl⟩
      have hq64 : q < 64 := by rw [hq]; exact Tm.sumB_lt CM 6
      have HBT : Hid (∀ i, i < 6 → ((q / 2 ^ i % 2 = 1) ↔ CM i = true)) := Lib.hid (fun i hi => by rw [hq]; exact bits_half CM hi)
      rw [← hq] at hre
      clear hq HS hbel
      go_wp2_with fail
      refine hre.mono ?_
      rintro e wB ⟨rfl, hbB⟩
      have HS3 := Lib.hid (HS2.out.below hbB)
      have HB3 := Lib.hid (bstep HBL.out hbB)
      clear hre hbB d0 d1 d2
      go_wp2_with fail
      go_loop [16, 17] (fun mm i => ∃ (j r : Nat), j ≤ 6 ∧ i = .int .i64 j ∧ mm = .int .i64 (r : Int) ∧ r < 64 ∧ Hid (r = q / 2 ^ j)) (fun _ i => 6 - (intOf i).toNat)
      case atStart => exact ⟨0, q, by omega, rfl, rfl, hq64, Lib.hid (by simp)⟩
      case round =>
        obtain ⟨j, r, hj, rfl, rfl, hr, HRQ⟩ := hrel
        by_cases hlj : j < 6
        · have hc := HS3.out.c j hlj
          have hbt := HBT.out j hlj
          rw [← HRQ.out] at hbt
          have HR2 : Hid (r / 2 = q / 2 ^ (j + 1)) := Lib.hid (by rw [HRQ.out, Nat.div_div_eq_div_mul, ← Nat.pow_succ])
          generalize CM j = cb at hc hbt
          have hji : (j : Int) < 6 := by omega
          cases cb with
          | true =>
            have h1 : r % 2 = 1 := hbt.2 rfl
            have hbi : ((r : Int) % 2 == 1) = true := by simp; omega
            have hbn : (r % 2 == 1) = true := by simp; omega
            clear hbt h1
            go_wp2
            go_round
            case rel => exact ⟨j + 1, r / 2, by omega, by go_num, by go_num, by omega, HR2⟩
            case measure => simp [intOf]; omega
          | false =>
            have h1 : ¬ r % 2 = 1 := fun e => by have := hbt.1 e; cases this
            have hbi : ((r : Int) % 2 == 1) = false := by simp; omega
            have hbn : (r % 2 == 1) = false := by simp; omega
            clear hbt h1
            go_wp2
            go_round
            case rel => exact ⟨j + 1, r / 2, by omega, by go_num, by go_num, by omega, HR2⟩
            case measure => simp [intOf]; omega
        · obtain rfl : j = 6 := by omega
          have hr0 : r = 0 := by rw [HRQ.out]; omega
          subst hr0
          obtain ⟨d0, d1, d2, _⟩ := HV.out.keep HB3.out
          have hwy := HWY.out wB HB3.out
          have hwl2 : (WL.length : Int) < (c.pa.length : Int) := by omega
          go_wp2_with fail
          refine hwy.mono ?_
          rintro e wH ⟨vH, rfl, hrH, hbH⟩
          obtain ⟨va, vc, rfl, _⟩ := hrH
          go_wp2
          go_ret
          exact ⟨rfl, bstep HB.out (bstep HB3.out hbH)⟩
end Go.Proofs.Ythjjidfoclcghaa
