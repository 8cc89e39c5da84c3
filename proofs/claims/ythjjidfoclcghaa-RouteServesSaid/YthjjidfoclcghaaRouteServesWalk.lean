/- The walk of the law RouteServes. -/
import Derived.Test.YthjjidfoclcghaaGR28
import Derived.Deep.DeepCutAuto
import Derived.Deep.QuietTactic
import Derived.BigQuiet
import Derived.IntWalk
namespace Go.Proofs.Ythjjidfoclcghaa
open Go.RowKit
set_option linter.unusedVariables false
set_option linter.unusedSimpArgs false

theorem keepS9 {W w' : World} {b0 b o : Nat} {x0 x1 x2 x3 : Value} (hb : Below W.heap.size W w') (h : (W.cell? ⟨b0, 0, none⟩ = some x0 ∧ W.cell? ⟨b0, 1, none⟩ = some x1 ∧ W.cell? ⟨b0, 2, none⟩ = some x2) ∧ W.cell? ⟨b, o, none⟩ = some x3) :
    (w'.cell? ⟨b0, 0, none⟩ = some x0 ∧ w'.cell? ⟨b0, 1, none⟩ = some x1 ∧ w'.cell? ⟨b0, 2, none⟩ = some x2) ∧ w'.cell? ⟨b, o, none⟩ = some x3 :=
  ⟨⟨kc7 hb h.1.1, kc7 hb h.1.2.1, kc7 hb h.1.2.2⟩, kc7 hb h.2⟩

set_option maxRecDepth 100000 in
set_option maxHeartbeats 6400000 in
theorem walkRouteServes (w : World) (a0 b0 c0 : Value) (l0 m0 n0 : List Int) (w0 : RowAt KI w a0 l0 ∧ ∀ z ∈ l0, -9223372036854775808 ≤ z ∧ z ≤ 9223372036854775807) (x0 : RowAt KI w b0 m0 ∧ ∀ z ∈ m0, -9223372036854775808 ≤ z ∧ z ≤ 9223372036854775807) (y0 : RowAt KI w c0 n0 ∧ ∀ z ∈ n0, -9223372036854775808 ≤ z ∧ z ≤ 9223372036854775807) (key : ByteArray) (wk : key.size ≤ maxLen) (t : Int) (wt : (Lit.int .i64 t).wf = true) :
    Calls Try.prog 5 #[.agg #[a0, b0, c0], .string key, .int .i64 t] w fun e w' => e = .returned (.bool true) ∧ Below w.heap.size w w' := by
  obtain ⟨w0, w0b⟩ := w0
  obtain ⟨x0, x0b⟩ := x0
  obtain ⟨y0, y0b⟩ := y0
  have hrow := fun W hb' => row9_any a0 b0 c0 l0 m0 n0 W (w0.below hb') (x0.below hb') (y0.below hb') w0b x0b y0b
  obtain ⟨i0, j0, rfl, _⟩ := w0
  obtain ⟨i1, j1, rfl, _⟩ := x0
  obtain ⟨i2, j2, rfl, _⟩ := y0
  obtain ⟨ht1, ht2⟩ := bounds_i64 wt
  clear w0b x0b y0b wk wt
  have hb : Below w.heap.size w (w.alloc (.cells #[.slice i0 l0.length j0, .slice i1 m0.length j1, .slice i2 n0.length j2] 24)) := balloc (Below.refl _ _) _
  have hS0 := VrP.new w (.slice i0 l0.length j0) (.slice i1 m0.length j1) (.slice i2 n0.length j2) 24
  go_enter Try.func5, Try.ntmps5
  go_wp2_with fail
  generalize w.alloc (.cells #[.slice i0 l0.length j0, .slice i1 m0.length j1, .slice i2 n0.length j2] 24) = wb at *
  refine (awake9_any _).mono ?_
  rintro e wa ⟨rfl, hba⟩
  obtain ⟨p0, p1, p2, _⟩ := hS0.keep hba
  have HBA := Lib.hid (bstep hb hba)
  clear hb hba hS0
  go_wp2_with fail
  refine (hrow _ HBA.out).mono ?_
  rintro e wS ⟨c, u0, u1, u2, rfl, hRO, hok, hbr⟩
  have hR := hRO.at
  obtain ⟨a2, cp2, hu2, hq2, hm2, _, hri2⟩ := hR.pa
  unfold maxLen at hm2
  subst hu2
  obtain ⟨z0, t0, rfl, _⟩ := id hR.rs
  obtain ⟨z1, t1, rfl, _⟩ := id hR.ow
  have HOK := Lib.hid hok
  have hba := balloc (Below.refl _ wS) (.cells #[.slice z0 c.rs.length t0, .slice z1 c.ow.length t1, .slice a2 c.pa.length cp2] 29)
  have HR := Lib.hid (hR.below hba)
  have HRI := Lib.hid (hri2.below hba)
  have HV := Lib.hid (VrP.new wS (.slice z0 c.rs.length t0) (.slice z1 c.ow.length t1) (.slice a2 c.pa.length cp2) 29)
  have HB := Lib.hid (bstep (bstep HBA.out hbr) hba)
  have hT := (Tm.chkT_iff c.pa).1 (chk9_parts hok).2
  have hn1 := hT.n1
  have hn6 := hT.n6
  have HR8 : Hid (c.rs.length ≤ 8) := Lib.hid ((tOk_iff c).1 (chk9_parts hok).1).r8
  have HT := Lib.hid hT
  clear hrow p0 p1 p2 hbr hRO hok hR hri2 hT hba HBA
  go_upto_region 3 with fail
  generalize wS.alloc (.cells #[.slice z0 c.rs.length t0, .slice z1 c.ow.length t1, .slice a2 c.pa.length cp2] 29) = w9 at *
  obtain ⟨d0, d1, d2, _⟩ := HV.out
  obtain ⟨y1, y2⟩ := tmod_bdT t (c.pa.length : Int) (by omega)
  generalize hy : t.tmod (c.pa.length : Int) = y at y1 y2
  go_upto_region 5 with fail
  have ho1 := Int.emod_nonneg (y + (c.pa.length : Int)) (b := (c.pa.length : Int)) (by omega)
  have ho2 := Int.emod_lt_of_pos (y + (c.pa.length : Int)) (b := (c.pa.length : Int)) (by omega)
  generalize (y + (c.pa.length : Int)) % (c.pa.length : Int) = o at *
  obtain ⟨x, rfl⟩ : ∃ x : Nat, o = (x : Int) := ⟨o.toNat, by omega⟩
  have hx : x < c.pa.length := by omega
  clear hy y1 y2 ho1 ho2 ht1 ht2
  have hNE := refTNear_any c.pa a2 cp2 (x : Int) w9 (by omega) HRI.out
  have HNX := Lib.hid (fun (W : World) (hb : Below w9.heap.size w9 W) => rnext_any c (.slice z0 c.rs.length t0) (.slice z1 c.ow.length t1) (.slice a2 c.pa.length cp2) (x : Int) (-1) key W (HR.out.below hb))
  have HSV := Lib.hid (fun (n : Int) (W : World) (hb : Below w9.heap.size w9 W) => serves_any c (.slice z0 c.rs.length t0) (.slice z1 c.ow.length t1) (.slice a2 c.pa.length cp2) (x : Int) n W (HR.out.below hb))
  have HGO := Lib.hid (fun (b : Nat) hb => @goes_any c HOK.out key.data.toList (x : Int) b hb)
  have HSK := Lib.hid (fun (n : Int) => serves_key HOK.out key.data.toList (x : Int) n)
  have HSL : Hid (∀ n : Int, (serves9 c (x : Int) n).length ≤ 8) := Lib.hid (fun n => by
    rw [serves9_eq HOK.out]
    exact Nat.le_trans (srvK_len c (x : Int) n _) HR8.out)
  have hle : (nx9 c key.data.toList (x : Int) (-1)).length ≤ (Tm.nearI c.pa (x : Int)).length := by
    rw [nx9_near_nat HOK.out]
    exact List.length_filter_le _ _
  have hN6 := Tm.nearI_len c.pa (x : Int)
  generalize nx9 c key.data.toList (x : Int) (-1) = L at *
  generalize Tm.nearI c.pa (x : Int) = N at *
  go_wp2_with fail
  refine hNE.mono ?_
  rintro e wA ⟨v1, rfl, ho1, hb1⟩
  obtain ⟨va, vc, rfl⟩ := ho1.shape
  have HA := Lib.hid (RowIn.of_own ki_ok ho1)
  have HB1 := Lib.hid hb1
  have HVA := Lib.hid (HV.out.keep hb1)
  have hll : (Tm.ln N).length = N.length := Tm.ln_len N
  rw [hll]
  clear d0 d1 d2 ho1 hb1 hNE hll
  obtain ⟨d0, d1, d2, _⟩ := HVA.out
  have hNX := HNX.out wA HB1.out
  go_wp2_with fail
  refine hNX.mono ?_
  rintro e wB ⟨v2, rfl, ho2, hb2⟩
  obtain ⟨la, lc, rfl⟩ := ho2.shape
  have HL := Lib.hid (RowIn.of_own ki_ok ho2)
  have HA2 := Lib.hid (HA.out.below hb2)
  have HB2 := Lib.hid (bstep HB1.out hb2)
  have HVB := Lib.hid (HVA.out.keep hb2)
  have hll : (Tm.ln L).length = L.length := Tm.ln_len L
  rw [hll]
  clear d0 d1 d2 ho2 hb2 hNX hll HNX HA HB1 HVA
  go_wp2_with fail
  go_loopw [13] (fun i wr => ∃ k : Nat, k ≤ N.length ∧ i = .int .i64 k ∧ Below wB.heap.size wB wr) (fun i _ => N.length - (intOf i).toNat)
  case atStart => exact ⟨0, by omega, rfl, Below.refl _ _⟩
  case round =>
    obtain ⟨k, hk, rfl, hbel⟩ := hrel
    have HBL := Lib.hid hbel
    have HBR := Lib.hid (bstep HB2.out hbel)
    by_cases hlt : k < N.length
    · obtain ⟨d0, d1, d2, _⟩ := HVB.out.keep hbel
      obtain ⟨bN, oN, rfl, hblN, cc⟩ := (HA2.out.below hbel).int k (by rw [Tm.ln_len]; exact hlt)
      rw [Tm.ln_get] at cc
      have HN := Lib.hid (fun (W : World) (hb : Below wr.heap.size wr W) => (HA2.out.below (bstep HBL.out hb)).int k (by rw [Tm.ln_len]; exact hlt))
      rw [Tm.ln_get] at HN
      have HG := Lib.hid (HGO.out N[k] (List.getElem_mem hlt))
      have HSK1 := Lib.hid (HSK.out (N[k] : Int))
      have hsl := HSL.out (N[k] : Int)
      have HSVW := Lib.hid (fun (W : World) (hb : Below wr.heap.size wr W) => HSV.out (N[k] : Int) W (bstep HBR.out hb))
      generalize N[k] = y at *
      generalize Tm.meetN (Tm.sideI c.pa (x : Int) (y : Int)) (ownN c key.data.toList) = g at HG HSK1
      generalize serves9 c (x : Int) (y : Int) = S at *
      generalize hz : Km.fidx (tls S) key.data.toList = z at *
      have HFZ := Lib.hid hz
      have hki : (k : Int) < (N.length : Int) := by omega
      have k0 : (0 : Int) ≤ (k : Int) := by omega
      have g0 : (wr.cell? ⟨wS.heap.size, 0, none⟩ = some (.slice z0 c.rs.length t0) ∧ wr.cell? ⟨wS.heap.size, 1, none⟩ = some (.slice z1 c.ow.length t1) ∧ wr.cell? ⟨wS.heap.size, 2, none⟩ = some (.slice a2 c.pa.length cp2)) ∧ wr.cell? ⟨bN, oN + k, none⟩ = some (.int .i64 (y : Int)) := ⟨⟨d0, d1, d2⟩, cc⟩
      have hdr : Below wr.heap.size wr wr.drew := (Below.refl _ _).drew
      obtain ⟨wO, hwO⟩ : ∃ wO : World, wO = wr := ⟨wr, rfl⟩
      subst hwO
      clear d0 d1 d2 cc hz hbel
      go_upto_region 10 with fail
      go_cut [14] (fun q wx => q = .bool (decide (0 ≤ z)) ∧ Below wO.heap.size wO wx)
      case first =>
        go_region_held3 (fun w' => (w'.cell? ⟨wS.heap.size, 0, none⟩ = some (.slice z0 c.rs.length t0) ∧ w'.cell? ⟨wS.heap.size, 1, none⟩ = some (.slice z1 c.ow.length t1) ∧ w'.cell? ⟨wS.heap.size, 2, none⟩ = some (.slice a2 c.pa.length cp2)) ∧ w'.cell? ⟨bN, oN + k, none⟩ = some (.int .i64 (y : Int)))
          (first | exact g0 | exact g1 | exact g2)
          (first
            | (go_at_call 15; ((refine (HSVW.out _ hdr).mono ?_); rintro e w5 ⟨v5, rfl, h5o, h5⟩; obtain ⟨sa, sc, rfl⟩ := h5o.shape; have hri5 := (RowIn.of_own kr_ok h5o).rng; have hbS := bstep hdr h5; have g1 := keepS9 hbS g0))
            | (go_at_call 29; ((refine (refFind_any sa sc S key _ (by omega) hri5).mono ?_); rw [HFZ.out]; rintro e w6 ⟨rfl, h6⟩; have hbF := bstep hbS h6; have g2 := keepS9 hbF g0)))
        all_goals
          go_wp2
          go_meet
          exact ⟨rfl, hbF⟩
      case rest =>
        obtain ⟨rfl, hbx⟩ := hcut
        rw [HSK1.out]
        have HBX := Lib.hid (bstep HBL.out hbx)
        have HN2 := Lib.hid (fun (W : World) (hb : Below wc.heap.size wc W) => HN.out W (bstep hbx hb))
        have HL2 := Lib.hid (fun (W : World) (hb : Below wc.heap.size wc W) => HL.out.below (bstep HBX.out hb))
        clear hbx g0 hdr
        go_wp2_with fail
        go_loopw [15, 16] (fun q i wz => ∃ j : Nat, j ≤ L.length ∧ i = .int .i64 j ∧ q = .bool ((L.take j).any fun v => decide (v = y)) ∧ Below wc.heap.size wc wz) (fun _ i _ => L.length - (intOf i).toNat)
        case atStart => exact ⟨0, by omega, rfl, rfl, Below.refl _ _⟩
        case round =>
          obtain ⟨j, hj, rfl, rfl, hbz⟩ := hrel
          by_cases hlj : j < L.length
          · obtain ⟨bN', oN', e', _, cn⟩ := HN2.out wr hbz
            cases e'
            obtain ⟨bL, oL, rfl, hblL, cl⟩ := (HL2.out wr hbz).int j (by rw [Tm.ln_len]; exact hlj)
            rw [Tm.ln_get] at cl
            have HQ : Hid ((L.take (j + 1)).any (fun v => decide (v = y)) = ((L.take j).any (fun v => decide (v = y)) || decide (L[j] = y))) := Lib.hid (by rw [List.take_succ_eq_append_getElem hlj, List.any_append]; simp)
            generalize L[j] = v at *
            have hji : (j : Int) < (L.length : Int) := by omega
            have HBZ := Lib.hid hbz
            have hvy : ((v : Int) == (y : Int)) = decide (v = y) := by
              by_cases e : v = y
              · subst e; simp
              · rw [decide_eq_false e]; simp; omega
            have hvy2 : (v == y) = decide (v = y) := by
              by_cases e : v = y
              · subst e; simp
              · rw [decide_eq_false e]; simpa using e
            generalize hany : (L.take j).any (fun v => decide (v = y)) = q at *
            have HANY := Lib.hid hany
            clear hany hbz
            cases q with
            | true =>
              go_wp2_with fail
              go_quiet (fail)
              go_wp2
              go_roundw
              case rel => exact ⟨j + 1, by omega, by go_num, by rw [HQ.out]; rfl, below_drewN HBZ.out _⟩
              case measure => simp [intOf]; omega
            | false =>
              go_wp2_with fail
              go_quiet (fail)
              go_wp2
              go_roundw
              case rel => exact ⟨j + 1, by omega, by go_num, by rw [HQ.out]; simp [hvy2], below_drewN HBZ.out _⟩
              case measure => simp [intOf]; omega
          · obtain rfl : j = L.length := by omega
            rw [List.take_length, HG.out]
            have HBZ := Lib.hid (bstep HBX.out hbz)
            have hgg : (g != g) = false := by simp
            clear hbz
            go_wp2
            go_roundw
            case rel => exact ⟨k + 1, by omega, by go_num, HBZ.out⟩
            case measure => simp [intOf]; omega
    · have hd : decide ((L.length : Int) ≤ (N.length : Int)) = true := by simp; omega
      have hd2 : decide (L.length ≤ N.length) = true := by simp; omega
      go_wp2
      go_ret
      exact ⟨rfl, bstep HB.out HBR.out⟩
end Go.Proofs.Ythjjidfoclcghaa
