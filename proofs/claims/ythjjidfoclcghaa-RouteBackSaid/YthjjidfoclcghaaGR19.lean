/- What archipelagoref09's Check, Meet and Next answer. -/
import Derived.Test.YthjjidfoclcghaaGR18
import Derived.Deep.RegionHeld3
import Derived.Deep.QuietTactic
import Derived.BigQuiet
import Derived.IntWalk
namespace Go.Proofs.Ythjjidfoclcghaa
open Go.RowKit
set_option linter.unusedVariables false
set_option linter.unusedSimpArgs false

set_option maxRecDepth 100000 in
set_option maxHeartbeats 800000 in
theorem refChk9_any (c : Rw) (u0 u1 u2 : Value) (w : World) (h : RwAt w u0 u1 u2 c) (hl : c.rs.length ≤ 100) :
    Calls Try.prog 17 #[.agg #[u0, u1, u2]] w fun e w' => e = .returned (.bool (chk9 c)) ∧ Below w.heap.size w w' := by
  have HW := Lib.hid h
  have HV := Lib.hid (VrP.new w u0 u1 u2 29)
  have hb0 : Below w.heap.size w (w.alloc (.cells #[u0, u1, u2] 29)) := balloc (Below.refl _ w) _
  have HB0 := Lib.hid hb0
  have hck := refCheck7_any c u0 u1 u2 _ (HW.out.below hb0) hl
  have HX : Hid (chk9 c = (tOk c && Tm.chkT c.pa)) := Lib.hid rfl
  generalize chk9 c = X at HX ⊢
  generalize tOk c = b1 at HX hck
  obtain ⟨a2, cp2, hu2, hq2, hm2, _, hri2⟩ := HW.out.pa
  unfold maxLen at hm2
  subst hu2
  have HR2 := Lib.hid hri2
  have HCT := Lib.hid (fun W hW => refTCheck_any c.pa a2 cp2 W (by omega) hW)
  generalize Tm.chkT c.pa = b2 at HX HCT
  clear h hb0 hri2
  go_enter Try.func17, Try.ntmps17
  go_wp2_with fail
  refine hck.mono ?_
  rintro e w1 ⟨rfl, hb1⟩
  have HBW := Lib.hid (bstep HB0.out hb1)
  obtain ⟨c0, c1, c2, _⟩ := HV.out.keep hb1
  have hct := HCT.out w1 (HR2.out.below HBW.out)
  clear hb1 hck
  go_wp2_with fail
  refine hct.mono ?_
  rintro e w2 ⟨rfl, rfl⟩
  cases b1 with
  | false =>
    go_wp2
    go_ret
    exact ⟨ret_bool (by rw [HX.out]; rfl), HBW.out⟩
  | true =>
    go_wp2
    go_ret
    exact ⟨ret_bool (by rw [HX.out]; rfl), HBW.out⟩

set_option maxRecDepth 100000 in
set_option maxHeartbeats 800000 in
theorem meet9_any (x0 y0 : Nat) (w : World) (hx : x0 < 64) (hy : y0 < 64) :
    Calls Try.prog 25 #[.int .i64 (x0 : Int), .int .i64 (y0 : Int)] w fun e w' => e = .returned (.bool (Tm.meetN x0 y0)) ∧ w = w' := by
  generalize hX : Tm.meetN x0 y0 = X
  have HX := Lib.hid hX
  clear hX
  go_enter Try.func25, Try.ntmps25
  go_wp2
  go_loop [0, 1] (fun a b => ∃ x y : Nat, a = .int .i64 (x : Int) ∧ b = .int .i64 (y : Int) ∧ x < 64 ∧ y < 64 ∧ Hid (Tm.meetN x y = X)) (fun a _ => (intOf a).toNat)
  case atStart => exact ⟨x0, y0, rfl, rfl, hx, hy, HX⟩
  case round =>
    obtain ⟨x, y, rfl, rfl, hx2, hy2, HXY⟩ := hrel
    clear HX hx hy
    by_cases h0 : 0 < x
    · by_cases h1 : 0 < y
      · have h0i : (0 : Int) < (x : Int) := by omega
        have h1i : (0 : Int) < (y : Int) := by omega
        by_cases e1 : x % 2 = 1
        · by_cases e2 : y % 2 = 1
          · have HE : Hid (X = true) := Lib.hid (by rw [← HXY.out]; exact meetN_hit e1 e2)
            go_wp2
            go_ret
            exact ⟨ret_bool HE.out.symm, rfl⟩
          · have HE : Hid (Tm.meetN (x / 2) (y / 2) = X) := Lib.hid (by rw [← HXY.out]; exact meetN_half (fun h => e2 h.2))
            go_wp2
            go_round
            case rel => exact ⟨x / 2, y / 2, by go_num, by go_num, by omega, by omega, HE⟩
            case measure => simp [intOf]; omega
        · have HE : Hid (Tm.meetN (x / 2) (y / 2) = X) := Lib.hid (by rw [← HXY.out]; exact meetN_half (fun h => e1 h.1))
          go_wp2
          go_round
          case rel => exact ⟨x / 2, y / 2, by go_num, by go_num, by omega, by omega, HE⟩
          case measure => simp [intOf]; omega
      · have HE : Hid (X = false) := Lib.hid (by rw [← HXY.out]; exact meetN_none (.inr (by omega)))
        have h0i : (0 : Int) < (x : Int) := by omega
        have h1i : ¬ (0 : Int) < (y : Int) := by omega
        go_wp2
        go_ret
        exact ⟨ret_bool HE.out.symm, rfl⟩
    · have HE : Hid (X = false) := Lib.hid (by rw [← HXY.out]; exact meetN_none (.inl (by omega)))
      have h0i : ¬ (0 : Int) < (x : Int) := by omega
      go_wp2
      go_ret
      exact ⟨ret_bool HE.out.symm, rfl⟩

def NxPostR (w : World) (l : List Int) (e : Ending) (w' : World) : Prop := ∃ v, e = .returned v ∧ OwnR KI w' w.heap.size v l ∧ Below w.heap.size w w'
theorem keepR9 {W w' : World} {b0 b o : Nat} {x0 x1 x2 x3 : Value} (hb : Below W.heap.size W w') (h : (W.cell? ⟨b0, 0, none⟩ = some x0 ∧ W.cell? ⟨b0, 1, none⟩ = some x1 ∧ W.cell? ⟨b0, 2, none⟩ = some x2) ∧ W.cell? ⟨b, o, none⟩ = some x3) :
    (w'.cell? ⟨b0, 0, none⟩ = some x0 ∧ w'.cell? ⟨b0, 1, none⟩ = some x1 ∧ w'.cell? ⟨b0, 2, none⟩ = some x2) ∧ w'.cell? ⟨b, o, none⟩ = some x3 :=
  ⟨⟨kc7 hb h.1.1, kc7 hb h.1.2.1, kc7 hb h.1.2.2⟩, kc7 hb h.2⟩

set_option maxRecDepth 100000 in
set_option maxHeartbeats 3200000 in
theorem refNext9_any (c : Rw) (u0 u1 u2 : Value) (s fr : Int) (key : ByteArray) (w : World) (h : RwAt w u0 u1 u2 c) (hl : c.rs.length ≤ 100) :
    Calls Try.prog 13 #[.agg #[u0, u1, u2], .int .i64 s, .int .i64 fr, .string key] w (NxPostR w (Tm.ln (nx9 c key.data.toList s fr))) := by
  have HW := Lib.hid h
  have HV := Lib.hid (VrP.new w u0 u1 u2 29)
  have hb0 : Below w.heap.size w (w.alloc (.cells #[u0, u1, u2] 29)) := balloc (Below.refl _ w) _
  have HB0 := Lib.hid hb0
  have hck := refChk9_any c u0 u1 u2 _ (HW.out.below hb0) hl
  clear h hb0
  cases hok : chk9 c with
  | false =>
    rw [nx9_no hok]
    rw [hok] at hck
    clear hok
    go_enter Try.func13, Try.ntmps13
    go_wp2_with fail
    refine hck.mono ?_
    rintro e w1 ⟨rfl, hb1⟩
    go_wp2
    go_ret
    exact ⟨_, rfl, OwnR.nil KI _ _, bstep HB0.out hb1⟩
  | true =>
    rw [hok] at hck
    have HALL := Lib.hid (nxK_all hok key.data.toList s fr)
    have hN6 := Tm.nearI_len c.pa s
    have HSN := Lib.hid (fun k hk => @nxK_snoc c key.data.toList s fr k hk)
    have HKL := Lib.hid (fun k => nxK_len c key.data.toList s fr k)
    have HK0 : Hid (nxK c key.data.toList s fr 0 = []) := Lib.hid (nxK_zero c key.data.toList s fr)
    have HG : Hid (∀ b, nxG c key.data.toList s fr b = (decide ((b : Int) ≠ fr) && Tm.meetN (Tm.sideI c.pa s (b : Int)) (ownN c key.data.toList))) := Lib.hid (fun b => rfl)
    have hm := ownN_lt c key.data.toList
    have HOW := Lib.hid (fun W hW => refOwners7_any c u0 u1 u2 key W hW hl)
    generalize nx9 c key.data.toList s fr = L at HALL ⊢
    generalize nxK c key.data.toList s fr = F at HALL HSN HKL HK0
    generalize nxG c key.data.toList s fr = G at HSN HG
    generalize ownN c key.data.toList = m at HG hm HOW
    obtain ⟨a2, cp2, hu2, hq2, hm2, _, hri2⟩ := HW.out.pa
    unfold maxLen at hm2
    subst hu2
    have HR2 := Lib.hid hri2
    have HNR := Lib.hid (fun W hW => refTNear_any c.pa a2 cp2 s W (by omega) hW)
    have HSD := Lib.hid (fun t W hW => refSide_any c.pa a2 cp2 s t W (by omega) hW)
    generalize Tm.nearI c.pa s = N at HALL hN6 HSN HNR
    clear hok hri2
    go_enter Try.func13, Try.ntmps13
    go_wp2_with fail
    refine hck.mono ?_
    rintro e w1 ⟨rfl, hb1⟩
    have HB1 := Lib.hid (bstep HB0.out hb1)
    have HV1 := Lib.hid (HV.out.keep hb1)
    obtain ⟨c0, c1, c2, _⟩ := HV1.out
    have hnr := HNR.out w1 (HR2.out.below HB1.out)
    clear hb1 hck HB0 HV HNR
    go_wp2_with fail
    refine hnr.mono ?_
    rintro e w3 ⟨v3, rfl, ho3, hb3⟩
    have HB3 := Lib.hid (bstep HB1.out hb3)
    have HV3 := Lib.hid (HV1.out.keep hb3)
    obtain ⟨va, vc, rfl⟩ := ho3.shape
    have hvl : (Tm.ln N).length = N.length := Tm.ln_len N
    have HC := Lib.hid (RowIn.of_own ki_ok ho3)
    rw [hvl]
    clear c0 c1 c2 hb3 ho3 hnr HB1 HV1
    go_wp2_with fail
    go_loopw [10, 12] (fun o i wr => ∃ k : Nat, k ≤ N.length ∧ i = .int .i64 k ∧ OwnR KI wr w3.heap.size o (Tm.ln (F k)) ∧ Below w3.heap.size w3 wr) (fun _ i _ => N.length - (intOf i).toNat)
    case atStart => exact ⟨0, by omega, rfl, by rw [HK0.out]; exact OwnR.nil KI _ _, Below.refl _ _⟩
    case round =>
      obtain ⟨k, hk, rfl, ho, hbel⟩ := hrel
      have hbs : w3.heap.size ≤ wr.heap.size := hbel.size
      have hol : (Tm.ln (F k)).length ≤ 6 := by rw [Tm.ln_len]; exact HKL.out k
      obtain ⟨sa, sc, rfl⟩ := ho.shape
      have HO := Lib.hid ho
      have HBR := Lib.hid (bstep HB3.out hbel)
      have HBL := Lib.hid hbel
      obtain ⟨c0, c1, c2, _⟩ := HV3.out.keep hbel
      clear ho hbel
      by_cases hlt : k < N.length
      · have hlt2 : k < (Tm.ln N).length := by omega
        obtain ⟨b, off, rfl, hbl, cc⟩ := (HC.out.below HBL.out).int k hlt2
        rw [Tm.ln_get] at cc
        have hS := HSN.out k hlt
        generalize N[k] = y at cc hS
        have HG1 := Lib.hid (HG.out y)
        have HS := Lib.hid hS
        have hSl := sideI_lt c.pa s (y : Int)
        have hki : (k : Int) < (N.length : Int) := by omega
        have k0 : (0 : Int) ≤ (k : Int) := by omega
        have HSDW := Lib.hid (fun (W : World) (hb : Below wr.heap.size wr W) => HSD.out (y : Int) W (HR2.out.below (bstep HBR.out hb)))
        have HOWW := Lib.hid (fun (W : World) (hb : Below wr.heap.size wr W) => HOW.out W (HW.out.below (bstep HBR.out hb)))
        generalize Tm.sideI c.pa s (y : Int) = sd at HG1 hSl HSDW
        have hmeet := fun W => meet9_any sd m W hSl hm
        clear hS
        by_cases hfr : (y : Int) = fr
        · have hbq : ((y : Int) != fr) = false := by simpa using hfr
          have HGF : Hid (G y = false) := Lib.hid (by rw [HG1.out, decide_eq_false (by simpa using hfr)]; rfl)
          clear hfr hmeet
          go_wp2_with fail
          go_quiet (fail)
          go_wp2
          go_roundw
          case rel => exact ⟨k + 1, by omega, by go_num, by rw [HS.out, HGF.out]; simpa using HO.out.below (below_drewN (Below.refl _ _) _), bstep HBL.out (below_drewN (Below.refl _ _) _)⟩
          case measure => simp [intOf]; omega
        · have hbq : ((y : Int) != fr) = true := by simpa using hfr
          have HGE : Hid (G y = Tm.meetN sd m) := Lib.hid (by rw [HG1.out, decide_eq_true hfr]; rfl)
          clear hfr
          generalize Tm.meetN sd m = mt at hmeet HGE
          have g0 : (wr.cell? ⟨w.heap.size, 0, none⟩ = some u0 ∧ wr.cell? ⟨w.heap.size, 1, none⟩ = some u1 ∧ wr.cell? ⟨w.heap.size, 2, none⟩ = some (.slice a2 c.pa.length cp2)) ∧ wr.cell? ⟨b, off + k, none⟩ = some (.int .i64 (y : Int)) := ⟨⟨c0, c1, c2⟩, cc⟩
          have hdr : Below wr.heap.size wr wr.drew := (Below.refl _ _).drew
          clear c0 c1 c2
          obtain ⟨wO, hwO⟩ : ∃ wO : World, wO = wr := ⟨wr, rfl⟩
          subst hwO
          go_upto_region 9 with fail
          go_cut [46] (fun q wx => q = .bool mt ∧ Below wO.heap.size wO wx)
          case first =>
            clear cc
            go_region_held3 (fun w' => (w'.cell? ⟨w.heap.size, 0, none⟩ = some u0 ∧ w'.cell? ⟨w.heap.size, 1, none⟩ = some u1 ∧ w'.cell? ⟨w.heap.size, 2, none⟩ = some (.slice a2 c.pa.length cp2)) ∧ w'.cell? ⟨b, off + k, none⟩ = some (.int .i64 (y : Int)))
              (first | exact g0 | exact g1 | exact g2)
              (first
                | (go_at_call 26; ((refine (HSDW.out _ hdr).mono ?_); rintro e w5 ⟨rfl, h5⟩; have hbS := bstep hdr h5; have g1 := keepR9 hbS g0))
                | (go_at_call 26; ((refine (HSDW.out _ hbO).mono ?_); rintro e w5 ⟨rfl, h5⟩; have hbS2 := bstep hbO h5; have g2 := keepR9 hbS2 g0))
                | (go_at_call 24; ((refine (HOWW.out _ hdr).mono ?_); rintro e w6 ⟨rfl, h6⟩; have hbO := bstep hdr h6; have g1 := keepR9 hbO g0))
                | (go_at_call 24; ((refine (HOWW.out _ hbS).mono ?_); rintro e w6 ⟨rfl, h6⟩; have hbS2 := bstep hbS h6; have g2 := keepR9 hbS2 g0))
                | (go_at_call 25; ((refine (hmeet _).mono ?_); rintro e w7 ⟨rfl, rfl⟩)))
            all_goals
              go_wp2
              go_meet
              exact ⟨rfl, hbS2⟩
          case rest =>
            obtain ⟨rfl, hbx⟩ := hcut
            have HO2 := Lib.hid (HO.out.below hbx)
            have HBX := Lib.hid (bstep HBL.out hbx)
            have hbs2 : w3.heap.size ≤ wc.heap.size := HBX.out.size
            have hcc := kc7 hbx cc
            clear hbx cc hbs g0 hdr hmeet
            cases mt with
            | false =>
              go_wp2
              go_roundw
              case rel => exact ⟨k + 1, by omega, by go_num, by rw [HS.out, HGE.out]; simpa using HO2.out, HBX.out⟩
              case measure => simp [intOf]; omega
            | true =>
              go_wp2_with (at_builtin; refine wp_pushR ki_ok (wr := wc) rfl _ _ rfl w3.heap.size (.slice sa (Tm.ln (F k)).length sc) (Tm.ln (F k)) (y : Int) #[.int .i64 (y : Int)] rfl rfl HO2.out rfl (by omega) hbs2 ?_; intro g6 cap6 w6 ho6 hb6 hk6 hat6 hlt6)
              go_wp2
              go_roundw
              case rel => exact ⟨k + 1, by omega, by go_num, by rw [HS.out, HGE.out, if_pos rfl, Tm.ln_app]; exact ho6, HBX.out.trans hb6⟩
              case measure => simp [intOf]; omega
      · obtain rfl : k = N.length := by omega
        go_wp2
        go_ret
        exact ⟨_, rfl, by rw [← HALL.out]; exact HO.out.mono HB3.out.size, HBR.out⟩
end Go.Proofs.Ythjjidfoclcghaa
