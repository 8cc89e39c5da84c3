/- Texts of this proof, one behind the other: RouteNext, RouteWays, RouteReach. -/
import Derived.Test.YthjjidfoclcghaaGR15
import Derived.Deep.DeepCutAuto
import Derived.Deep.QuietTactic
import Derived.BigQuiet
import Derived.IntWalk
/- What route.Next answers. -/
namespace Go.Proofs.Ythjjidfoclcghaa
open Go.RowKit
set_option linter.unusedVariables false
set_option linter.unusedSimpArgs false

def NxPost (w : World) (l : List Int) (e : Ending) (w' : World) : Prop := ∃ v, e = .returned v ∧ OwnR KI w' w.heap.size v l ∧ Below w.heap.size w w'

set_option maxRecDepth 100000 in
set_option maxHeartbeats 1600000 in
theorem rnext_any (c : Rw) (u0 u1 u2 : Value) (s fr : Int) (key : ByteArray) (w : World) (h : RwAt w u0 u1 u2 c) :
    Calls Try.prog 12 #[.agg #[u0, u1, u2], .int .i64 s, .int .i64 fr, .string key] w (NxPost w (Tm.ln (nx9 c key.data.toList s fr))) := by
  have HW := Lib.hid h
  have HV := Lib.hid (VrP.new w u0 u1 u2 29)
  have hb0 : Below w.heap.size w (w.alloc (.cells #[u0, u1, u2] 29)) := balloc (Below.refl _ w) _
  have HB0 := Lib.hid hb0
  have hck := rcheck_any c u0 u1 u2 _ (HW.out.below hb0)
  clear h hb0
  cases hok : chk9 c with
  | false =>
    rw [nx9_no hok]
    rw [hok] at hck
    clear hok
    go_enter Try.func12, Try.ntmps12
    go_wp2_with fail
    go_step3
    go_wp2_with fail
    refine hck.mono ?_
    rintro e w1 ⟨rfl, hb1⟩
    go_wp2
    try rw [Exit.noGoto_ret]
    go_ret
    exact ⟨_, rfl, OwnR.nil KI _ _, bstep HB0.out hb1⟩
  | true =>
    rw [hok] at hck
    have HALL := Lib.hid (nxK_all hok key.data.toList s fr)
    have hN6 := Tm.nearI_len c.pa s
    have HSN := Lib.hid (fun k hk => @nxK_snoc c key.data.toList s fr k hk)
    have HKL := Lib.hid (fun k => nxK_len c key.data.toList s fr k)
    have HK0 : Hid (nxK c key.data.toList s fr 0 = []) := Lib.hid (nxK_zero c key.data.toList s fr)
    have HG : Hid (∀ b, nxG c key.data.toList s fr b = (decide ((b : Int) ≠ fr) && Tm.meetN (Tm.sideI c.pa s (b : Int)) (ownN c key.data.toList))) := Lib.hid (fun b => rfl)
    have hm := ownN_lt c key.data.toList
    have HOW := Lib.hid (fun W hW => owners7_any c u0 u1 u2 key W hW)
    generalize nx9 c key.data.toList s fr = L at HALL ⊢
    generalize nxK c key.data.toList s fr = F at HALL HSN HKL HK0
    generalize nxG c key.data.toList s fr = G at HSN HG
    generalize ownN c key.data.toList = m at HG hm HOW
    obtain ⟨a2, cp2, hu2, hq2, hm2, _, hri2⟩ := HW.out.pa
    unfold maxLen at hm2
    subst hu2
    have HR2 := Lib.hid hri2
    have HNR := Lib.hid (fun W hW => tnear_any c.pa a2 cp2 s W (by omega) hW)
    generalize Tm.nearI c.pa s = N at HALL hN6 HSN HNR
    clear hok hri2
    go_enter Try.func12, Try.ntmps12
    go_wp2_with fail
    go_step3
    go_wp2_with fail
    refine hck.mono ?_
    rintro e w1 ⟨rfl, hb1⟩
    have HB1 := Lib.hid (bstep HB0.out hb1)
    have HV1 := Lib.hid (HV.out.keep hb1)
    obtain ⟨c0, c1, c2, _⟩ := HV1.out
    have how := HOW.out w1 (HW.out.below HB1.out)
    clear hb1 hck HB0 HV
    go_wp2_with fail
    refine how.mono ?_
    rintro e w2 ⟨rfl, hb2⟩
    have HB2 := Lib.hid (bstep HB1.out hb2)
    have HV2 := Lib.hid (HV1.out.keep hb2)
    clear c0 c1 c2
    obtain ⟨c0, c1, c2, _⟩ := HV2.out
    have hnr := HNR.out w2 (HR2.out.below HB2.out)
    clear hb2 how HB1 HV1 HOW HNR
    go_wp2_with fail
    try (go_step3; go_wp2_with fail)
    refine hnr.mono ?_
    rintro e w3 ⟨v3, rfl, ho3, hb3⟩
    have HB3 := Lib.hid (bstep HB2.out hb3)
    have HV3 := Lib.hid (HV2.out.keep hb3)
    obtain ⟨va, vc, rfl⟩ := ho3.shape
    have hvl : (Tm.ln N).length = N.length := Tm.ln_len N
    have HC := Lib.hid (RowIn.of_own ki_ok ho3)
    rw [hvl]
    clear c0 c1 c2 hb3 ho3 hnr HB2 HV2
    go_wp2_with fail
    try (go_step3; go_wp2_with fail)
    go_loopw [10, 25] (fun o i wr => ∃ k : Nat, k ≤ N.length ∧ i = .int .i64 k ∧ OwnR KI wr w3.heap.size o (Tm.ln (F k)) ∧ Below w3.heap.size w3 wr) (fun _ i _ => N.length - (intOf i).toNat)
    case atStart => exact ⟨0, by omega, rfl, by rw [HK0.out]; exact OwnR.nil KI _ _, Below.refl _ _⟩
    case round =>
      obtain ⟨k, hk, rfl, ho, hbel⟩ := hrel
      have hbs : w3.heap.size ≤ wr.heap.size := hbel.size
      have hol : (Tm.ln (F k)).length ≤ 6 := by rw [Tm.ln_len]; exact HKL.out k
      obtain ⟨sa, sc, rfl⟩ := ho.shape
      have HO := Lib.hid ho
      have HBR := Lib.hid (bstep HB3.out hbel)
      have HBL := Lib.hid hbel
      obtain ⟨c0, c1, c2, _⟩ := HV3.out.keep hbel
      clear ho hbel
      by_cases hlt : k < N.length
      · have hlt2 : k < (Tm.ln N).length := by omega
        obtain ⟨b, off, rfl, hbl, cc⟩ := (HC.out.below HBL.out).int k hlt2
        rw [Tm.ln_get] at cc
        have hS := HSN.out k hlt
        generalize N[k] = y at cc hS
        have HG1 := Lib.hid (HG.out y)
        have HS := Lib.hid hS
        have hSl := sideI_lt c.pa s (y : Int)
        have hbe := beyond_any c _ _ _ s (y : Int) wr (HW.out.below HBR.out)
        have hki : (k : Int) < (N.length : Int) := by omega
        generalize Tm.sideI c.pa s (y : Int) = sd at HG1 hSl hbe
        clear hS
        go_wp2_with fail
        refine hbe.mono ?_
        rintro e w4 ⟨B, rfl, hB, cB, hb4⟩
        have HO4 := Lib.hid (HO.out.below hb4)
        have HBX := Lib.hid (bstep HBL.out hb4)
        have hbs4 : w3.heap.size ≤ w4.heap.size := HBX.out.size
        have hcl := beyondC_any m sd B w4 hm hSl cB
        clear hbe c0 c1 c2 cc hb4
        by_cases hfr : (y : Int) = fr
        · have hbq : ((y : Int) == fr) = true := by simpa using hfr
          have HGF : Hid (G y = false) := Lib.hid (by rw [HG1.out, decide_eq_false (by simpa using hfr)]; rfl)
          clear hfr hcl
          go_wp2_with fail
          go_wp2
          go_roundw
          case rel => exact ⟨k + 1, by omega, by go_num, by rw [HS.out, HGF.out]; simpa using HO4.out, HBX.out⟩
          case measure => simp [intOf]; omega
        · have hbq : ((y : Int) == fr) = false := by simpa using hfr
          have HGE : Hid (G y = Tm.meetN sd m) := Lib.hid (by rw [HG1.out, decide_eq_true hfr]; rfl)
          clear hfr
          cases hme : Tm.meetN sd m with
          | false =>
            rw [hme] at hcl
            have HM := Lib.hid hme
            clear hme
            go_wp2_with fail
            refine hcl.mono ?_
            rintro e w5 ⟨rfl, rfl⟩
            go_wp2
            go_roundw
            case rel => exact ⟨k + 1, by omega, by go_num, by rw [HS.out, HGE.out, HM.out]; simpa using HO4.out, HBX.out⟩
            case measure => simp [intOf]; omega
          | true =>
            rw [hme] at hcl
            have HM := Lib.hid hme
            clear hme
            go_wp2_with fail
            refine hcl.mono ?_
            rintro e w5 ⟨rfl, rfl⟩
            go_wp2_with (at_builtin; refine wp_pushR ki_ok (wr := w4) rfl _ _ rfl w3.heap.size (.slice sa (Tm.ln (F k)).length sc) (Tm.ln (F k)) (y : Int) #[.int .i64 (y : Int)] rfl rfl HO4.out rfl (by omega) hbs4 ?_; intro g6 cap6 w6 ho6 hb6 hk6 hat6 hlt6)
            go_wp2
            go_roundw
            case rel => exact ⟨k + 1, by omega, by go_num, by rw [HS.out, HGE.out, HM.out, if_pos rfl, Tm.ln_app]; exact ho6, HBX.out.trans hb6⟩
            case measure => simp [intOf]; omega
      · obtain rfl : k = N.length := by omega
        go_wp2
        try rw [Exit.noGoto_ret]
        go_ret
        exact ⟨_, rfl, by rw [← HALL.out]; exact HO.out.mono HB3.out.size, HBR.out⟩
end Go.Proofs.Ythjjidfoclcghaa
/- What route.Ways answers. -/
namespace Go.Proofs.Ythjjidfoclcghaa
open Go.RowKit
set_option linter.unusedVariables false
set_option linter.unusedSimpArgs false

/-- The same, in new memory. -/
def WyPostN (w : World) (l : List (Int × Int)) (e : Ending) (w' : World) : Prop := ∃ v, e = .returned v ∧ RowAt KP w' v l ∧ Below w.heap.size w w' ∧ ∀ a n k, v = .slice (some a) n k → w.heap.size ≤ a.block
def WyPost (w : World) (l : List (Int × Int)) (e : Ending) (w' : World) : Prop := ∃ v, e = .returned v ∧ RowAt KP w' v l ∧ Below w.heap.size w w'
theorem stW_next {c : Rw} {key : List UInt8} {fr : Int} {i : Nat} (hi : i < (st9 c key fr i).length) : (st9 c key fr (i + 1)).map swp = (st9 c key fr i).map swp ++ (nx9 c key (st9 c key fr i)[i].1 (st9 c key fr i)[i].2).map fun (s : Nat) => ((st9 c key fr i)[i].1, (s : Int)) := by
  rw [st9_some hi, List.map_append, List.map_map]
  rfl
theorem map_take {α β : Type} (f : α → β) (l : List α) (k : Nat) (h : k < l.length) : (l.take (k + 1)).map f = (l.take k).map f ++ [f l[k]] := by
  rw [List.take_succ_eq_append_getElem h, List.map_append]
  rfl

set_option maxRecDepth 100000 in
set_option maxHeartbeats 3200000 in
theorem rwaysN_any (c : Rw) (u0 u1 u2 : Value) (fr : Int) (key : ByteArray) (w : World) (h : RwAt w u0 u1 u2 c) :
    Calls Try.prog 19 #[.agg #[u0, u1, u2], .int .i64 fr, .string key] w (WyPostN w (ways9 c key.data.toList fr)) := by
  have HW := Lib.hid h
  have HV := Lib.hid (VrP.new w u0 u1 u2 29)
  have hb0 : Below w.heap.size w (w.alloc (.cells #[u0, u1, u2] 29)) := balloc (Below.refl _ w) _
  have HB0 := Lib.hid hb0
  have hO0 := own_lit9 kp_ok (w.alloc (.cells #[u0, u1, u2] 29)) (w.alloc (.cells #[u0, u1, u2] 29)).heap.size 1 [(-1, fr)] #[.int .i64 (-1), .int .i64 fr] rfl rfl (Nat.le_refl _) (by omega)
  have hb1 := balloc (Below.refl _ (w.alloc (.cells #[u0, u1, u2] 29))) (.cells #[.int .i64 (-1), .int .i64 fr] KP.T)
  have HSL := Lib.hid (fun i => st9_len c key.data.toList fr i)
  have HST := Lib.hid (fun i hi => @st9_stop c key.data.toList fr i hi)
  have HNX := Lib.hid (fun i hi => @stW_next c key.data.toList fr i hi)
  have HTL := Lib.hid (ways9_tl c key.data.toList fr)
  have HZ : Hid (st9 c key.data.toList fr 0 = [(fr, -1)]) := Lib.hid rfl
  have HNL := Lib.hid (fun a b => nx9_len c key.data.toList a b)
  have HCN := Lib.hid (fun a b W hW => rnext_any c u0 u1 u2 a b key W hW)
  generalize ways9 c key.data.toList fr = R at HTL ⊢
  generalize st9 c key.data.toList fr = S at *
  generalize nx9 c key.data.toList = X at *
  have hsz0 : (w.alloc (.cells #[u0, u1, u2] 29)).heap.size = w.heap.size + 1 := by simp
  clear h hb0
  go_enter Try.func19, Try.ntmps19
  go_wp2_with fail
  rw [show KP.T = 43 from rfl] at hO0 hb1
  generalize w.alloc (.cells #[u0, u1, u2] 29) = w0 at *
  have HO0 : Hid (OwnR KP (w0.alloc (.cells #[.int .i64 (-1), .int .i64 fr] 43)) w0.heap.size (.slice (some ⟨w0.heap.size, 0, none⟩) 1 1) ((S 0).map swp)) := Lib.hid (by rw [HZ.out]; exact hO0)
  have HB1 := Lib.hid hb1
  rw [hsz0] at HO0 HB1
  clear hO0 hb1
  generalize w0.alloc (.cells #[.int .i64 (-1), .int .i64 fr] 43) = w1 at *
  go_loopw [7, 8] (fun o i wr => ∃ k : Nat, k ≤ (S k).length ∧ i = .int .i64 k ∧ OwnR KP wr (w.heap.size + 1) o ((S k).map swp) ∧ Below (w.heap.size + 1) w0 wr) (fun _ i _ => 7 - (intOf i).toNat)
  case atStart => exact ⟨0, by omega, rfl, HO0.out, HB1.out⟩
  case round =>
    obtain ⟨k, hk, rfl, ho, hbel⟩ := hrel
    clear HO0 HB1
    have hsl := HSL.out k
    have hml : ((S k).map swp).length = (S k).length := List.length_map _
    obtain ⟨sa, sc, rfl⟩ := ho.shape
    have HO := Lib.hid ho
    have HBL := Lib.hid hbel
    have hbs : w.heap.size + 1 ≤ wr.heap.size := by rw [← hsz0]; have := hbel.size; omega
    have HBR : Hid (Below w.heap.size w wr) := Lib.hid (HB0.out.trans (hbel.mono (by omega)))
    obtain ⟨c0, c1, c2, _⟩ := HV.out.block (w' := wr) (by
      have h1 := hbel.block w.heap.size (by omega)
      exact h1)
    rw [hml]
    clear ho
    by_cases hlt : k < (S k).length
    · have hlt2 : k < ((S k).map swp).length := by omega
      obtain ⟨b, off, rfl, hbl, d0, d1⟩ := (RowIn.of_own kp_ok HO.out).pair k hlt2
      rw [List.getElem_map] at d0 d1
      have HN := Lib.hid (HNX.out k hlt)
      generalize (S k)[k] = ee at d0 d1 HN
      obtain ⟨x, y⟩ := ee
      dsimp only [swp] at d0 d1 HN
      have hki : (k : Int) < ((S k).length : Int) := by omega
      have k0 : (0 : Int) ≤ (k : Int) := by omega
      go_wp2_with fail
      go_quiet (fail)
      have hdr : Below wr.heap.size wr (wr.drewN nq) := below_drewN (Below.refl _ _) _
      generalize wr.drewN nq = wq at *
      have HOq := Lib.hid (HO.out.below hdr)
      have hbq : Below (w.heap.size + 1) w0 wq := hbel.trans (hdr.mono hbs)
      have HBQ := Lib.hid hbq
      have hsq : w.heap.size + 1 ≤ wq.heap.size := Nat.le_trans hbs hdr.size
      have HBW : Hid (Below w.heap.size w wq) := Lib.hid (HB0.out.trans (hbq.mono (by omega)))
      clear c0 c1 c2 d0 d1 hdr hbq HO HBR HBL hbel
      obtain ⟨c0, c1, c2, _⟩ := HV.out.block (w' := wq) (by
        have h1 := HBQ.out.block w.heap.size (by omega)
        exact h1)
      have hcn := HCN.out x y wq (HW.out.below HBW.out)
      have hxl := HNL.out x y
      generalize X x y = XL at hcn hxl HN
      go_wp2_with fail
      refine hcn.mono ?_
      rintro e w4 ⟨v4, rfl, ho4, hb4⟩
      obtain ⟨va, vc, rfl⟩ := ho4.shape
      have hvl : (Tm.ln XL).length = XL.length := Tm.ln_len XL
      have HO1 := Lib.hid (HOq.out.below hb4)
      have HB4 : Hid (Below (w.heap.size + 1) w0 w4) := Lib.hid (HBQ.out.trans (hb4.mono hsq))
      have hs4 : w.heap.size + 1 ≤ w4.heap.size := Nat.le_trans hsq hb4.size
      have HDJ : Hid (∀ g, (Value.slice va (Tm.ln XL).length vc).ownBlock = some g → (Value.slice (some ⟨b, off, none⟩) (S k).length sc).ownBlock ≠ some g) := Lib.hid (fun g e1 e2 => by
        have h1 := (ho4.lt g e1).1
        have h2 := (HOq.out.lt g e2).2
        omega)
      have HV4 := Lib.hid ho4
      rw [hvl] at HDJ HV4 ⊢
      rw [hml] at HO1
      clear ho4 hb4 hcn c0 c1 c2 HOq HBQ HBW
      go_wp2_with fail
      go_loopw [7, 38] (fun o i wr => ∃ j : Nat, j ≤ XL.length ∧ i = .int .i64 j ∧ OwnR KP wr (w.heap.size + 1) o ((S k).map swp ++ (XL.take j).map fun (s : Nat) => (x, (s : Int))) ∧ OwnR KI wr wq.heap.size (.slice va XL.length vc) (Tm.ln XL) ∧ (∀ g, (Value.slice va XL.length vc).ownBlock = some g → o.ownBlock ≠ some g) ∧ Below (w.heap.size + 1) w0 wr) (fun _ i _ => XL.length - (intOf i).toNat)
      case atStart => exact ⟨0, by omega, rfl, by simpa using HO1.out, HV4.out, HDJ.out, HB4.out⟩
      case round =>
        obtain ⟨j, hj, rfl, ho, hv, hdj, hbel⟩ := hrel
        have hol : ((S k).map swp ++ (XL.take j).map fun (s : Nat) => (x, (s : Int))).length ≤ 12 := by
          rw [List.length_append, List.length_map, List.length_map, List.length_take]
          omega
        obtain ⟨ta, tc, rfl⟩ := ho.shape
        have HO := Lib.hid ho
        have HVZ := Lib.hid hv
        have HDZ := Lib.hid hdj
        have HBL := Lib.hid hbel
        have hbs : w.heap.size + 1 ≤ wr.heap.size := by rw [← hsz0]; have := hbel.size; omega
        clear ho hv hdj hbel
        by_cases hlj : j < XL.length
        · have hlj2 : j < (Tm.ln XL).length := by omega
          obtain ⟨b3, off3, rfl, hbl3, cc⟩ := (RowIn.of_own ki_ok HVZ.out).int j hlj2
          rw [Tm.ln_get] at cc
          have HT := Lib.hid (map_take (fun (s : Nat) => (x, (s : Int))) XL j hlj)
          generalize XL[j] = z at cc HT
          have hji : (j : Int) < (XL.length : Int) := by omega
          generalize hacc : ((S k).map swp ++ (XL.take j).map fun (s : Nat) => (x, (s : Int))) = acc at hol HO HDZ
          have HACC := Lib.hid hacc
          clear hacc
          go_wp2_with (at_builtin; refine wp_pushR kp_ok (wr := wr) rfl _ _ rfl (w.heap.size + 1) (.slice ta acc.length tc) acc (x, (z : Int)) #[.int .i64 x, .int .i64 (z : Int)] rfl rfl HO.out rfl (by omega) hbs ?_; intro g6 cap6 w6 ho6 hb6 hk6 hat6 hlt6)
          go_wp2
          go_roundw
          case rel => exact ⟨j + 1, by omega, by go_num, by rw [HT.out, ← List.append_assoc, HACC.out]; exact ho6, HVZ.out.keptP hk6 HDZ.out, fun g e1 e2 => by
            cases e2
            rcases hat6 with e3 | e3
            · exact HDZ.out g6 e1 e3
            · have := (HVZ.out.lt g6 e1).2
              omega, HBL.out.trans hb6⟩
          case measure => simp [intOf]; omega
        · obtain rfl : j = XL.length := by omega
          have HF : Hid (OwnR KP wr (w.heap.size + 1) (.slice ta ((S k).map swp ++ (XL.take XL.length).map fun (s : Nat) => (x, (s : Int))).length tc) ((S (k + 1)).map swp)) := Lib.hid (by
            have := HO.out
            rw [List.take_length] at this ⊢
            rw [HN.out]
            exact this)
          have hgo : k + 1 ≤ (S (k + 1)).length := by
            have := congrArg List.length HN.out
            rw [List.length_append, List.length_map, List.length_map] at this
            omega
          go_wp2
          go_roundw
          case rel => exact ⟨k + 1, hgo, by go_num, HF.out, HBL.out⟩
          case measure => simp [intOf]; omega
    · have hS7 : (S k).map swp = (-1, fr) :: R := by rw [HST.out k (by omega)]; exact HTL.out
      rw [hS7] at HO
      have hlr : (S k).length = R.length + 1 := by rw [← hml, hS7]; rfl
      rw [hlr]
      obtain ⟨g, cap, e, hq1, hq2, hq3, hq4, _⟩ := HO.out.cell kp_ok 0 (by simp)
      cases e
      have hki : ¬ (k : Int) < ((R.length + 1 : Nat) : Int) := by omega
      unfold maxLen at hq2
      rw [List.length_cons] at hq1
      have hr5 : R.length + 1 ≤ 6 := by omega
      have HT := Lib.hid ((RowIn.of_own kp_ok HO.out).tail)
      have hq1i : (1 : Int) ≤ (R.length : Int) + 1 := by omega
      clear hS7 hsl hlt hml hlr hk c0 c1 c2
      by_cases hs1 : sc = 1
      · subst hs1
        have hr0 : R = [] := List.eq_nil_of_length_eq_zero (by omega)
        subst hr0
        go_wp2_with fail
        go_ret
        exact ⟨_, rfl, ⟨_, _, rfl, by simp, by unfold maxLen; omega, by simp, fun i hi => by simp at hi⟩, HBR.out, fun a n k e => by cases e; exact Nat.le_trans (by omega) hq3⟩
      · go_wp2_with fail
        go_ret
        exact ⟨_, rfl, ⟨_, _, rfl, by omega, by unfold maxLen; omega, by simp, HT.out⟩, HBR.out, fun a n k e => by cases e; exact Nat.le_trans (by omega) hq3⟩
theorem rways_any (c : Rw) (u0 u1 u2 : Value) (fr : Int) (key : ByteArray) (w : World) (h : RwAt w u0 u1 u2 c) :
    Calls Try.prog 19 #[.agg #[u0, u1, u2], .int .i64 fr, .string key] w (WyPost w (ways9 c key.data.toList fr)) :=
  (rwaysN_any c u0 u1 u2 fr key w h).mono fun e w' ⟨v, h1, h2, h3, _⟩ => ⟨v, h1, h2, h3⟩
end Go.Proofs.Ythjjidfoclcghaa
/- What route.Reach answers. -/
namespace Go.Proofs.Ythjjidfoclcghaa
open Go.RowKit
set_option linter.unusedVariables false
set_option linter.unusedSimpArgs false

theorem wrap_bit9 {k : Nat} (hk : k < 6) : wrap64 ((2 : Int) ^ k) = ((2 ^ k : Nat) : Int) := by
  rcases (show k = 0 ∨ k = 1 ∨ k = 2 ∨ k = 3 ∨ k = 4 ∨ k = 5 by omega) with rfl | rfl | rfl | rfl | rfl | rfl <;> (unfold wrap64; decide)
theorem pow_lt9 {k : Nat} (hk : k < 6) : 2 ^ k < 64 ∧ 0 < 2 ^ k := by
  rcases (show k = 0 ∨ k = 1 ∨ k = 2 ∨ k = 3 ∨ k = 4 ∨ k = 5 by omega) with rfl | rfl | rfl | rfl | rfl | rfl <;> decide

set_option maxRecDepth 100000 in
set_option maxHeartbeats 1600000 in
theorem rreach_any (c : Rw) (u0 u1 u2 : Value) (fr : Int) (key : ByteArray) (w : World) (h : RwAt w u0 u1 u2 c) :
    Calls Try.prog 22 #[.agg #[u0, u1, u2], .int .i64 fr, .string key] w fun e w' => e = .returned (.int .i64 (reach9 c key.data.toList fr : Int)) ∧ Below w.heap.size w w' := by
  have HW := Lib.hid h
  have HV := Lib.hid (VrP.new w u0 u1 u2 29)
  have hb0 : Below w.heap.size w (w.alloc (.cells #[u0, u1, u2] 29)) := balloc (Below.refl _ w) _
  have HB0 := Lib.hid hb0
  have hck := rcheck_any c u0 u1 u2 _ (HW.out.below hb0)
  clear h hb0
  cases hok : chk9 c with
  | false =>
    have hx : Hid (reach9 c key.data.toList fr = 0) := Lib.hid (reach9_no _ (.inl hok))
    generalize reach9 c key.data.toList fr = R at hx ⊢
    rw [hok] at hck
    clear hok
    go_enter Try.func22, Try.ntmps22
    go_wp2_with fail
    refine hck.mono ?_
    rintro e w1 ⟨rfl, hb1⟩
    go_wp2
    go_ret
    exact ⟨by rw [hx.out]; rfl, bstep HB0.out hb1⟩
  | true =>
    rw [hok] at hck
    have h6 := ((Tm.chkT_iff c.pa).1 (chk9_parts hok).2).n6
    have HNO : Hid (Tm.isS c.pa fr = false → reach9 c key.data.toList fr = 0) := Lib.hid (fun h => reach9_no _ (.inr h))
    have HYE : Hid (Tm.isS c.pa fr = true → reach9 c key.data.toList fr = Tm.sumB (came9 c key.data.toList fr (ways9 c key.data.toList fr).length) 6) := Lib.hid (fun h => reach9_eq hok _ h)
    generalize reach9 c key.data.toList fr = R at HNO HYE ⊢
    have HST := Lib.hid (fun W hW => sites_any c u0 u1 u2 W hW)
    have HWY := Lib.hid (fun W hW => rways_any c u0 u1 u2 fr key W hW)
    by_cases h0 : fr < 0
    · have HR : Hid (R = 0) := Lib.hid (HNO.out (Tm.isS_not.2 (by omega)))
      clear hok HNO HYE
      go_enter Try.func22, Try.ntmps22
      go_wp2_with fail
      refine hck.mono ?_
      rintro e w1 ⟨rfl, hb1⟩
      go_wp2
      go_ret
      exact ⟨by rw [HR.out]; rfl, bstep HB0.out hb1⟩
    · by_cases h1 : fr < (c.pa.length : Int)
      rotate_left
      · have HR : Hid (R = 0) := Lib.hid (HNO.out (Tm.isS_not.2 (by omega)))
        clear hok HNO HYE
        go_enter Try.func22, Try.ntmps22
        go_wp2_with fail
        refine hck.mono ?_
        rintro e w1 ⟨rfl, hb1⟩
        have HB1 := Lib.hid (bstep HB0.out hb1)
        obtain ⟨c0, c1, c2, _⟩ := HV.out.keep hb1
        have hst := HST.out w1 (HW.out.below HB1.out).pa
        go_wp2_with fail
        refine hst.mono ?_
        rintro e w2 ⟨rfl, hb2⟩
        go_wp2
        go_ret
        exact ⟨by rw [HR.out]; rfl, bstep HB1.out hb2⟩
      · obtain ⟨x, rfl⟩ : ∃ x : Nat, fr = (x : Int) := ⟨fr.toNat, by omega⟩
        have hx : x < c.pa.length := by omega
        have hx6 : x < 6 := by omega
        have HR : Hid (R = Tm.sumB (came9 c key.data.toList (x : Int) (ways9 c key.data.toList (x : Int)).length) 6) := Lib.hid (HYE.out (Tm.isS_iff.2 ⟨by omega, h1⟩))
        have HZ : Hid (Tm.sumB (came9 c key.data.toList (x : Int) 0) 6 = 2 ^ x) := Lib.hid (came_zero c _ hx6)
        have HSN := Lib.hid (fun k s hk hs h6 => @came_step c key.data.toList (x : Int) k s hk hs h6)
        have HSI := Lib.hid (fun e he => @ways9_site c key.data.toList (x : Int) e he)
        have hwl := ways9_len c key.data.toList (x : Int)
        have HLT : Hid (∀ k, Tm.sumB (came9 c key.data.toList (x : Int) k) 6 < 64) := Lib.hid (fun k => Tm.sumB_lt _ 6)
        generalize hQ : (fun k => Tm.sumB (came9 c key.data.toList (x : Int) k) 6) = Q
        have HQ : Hid (∀ k, Tm.sumB (came9 c key.data.toList (x : Int) k) 6 = Q k) := Lib.hid (fun k => congrFun hQ k)
        clear hQ
        generalize ways9 c key.data.toList (x : Int) = WL at *
        generalize came9 c key.data.toList (x : Int) = CM at *
        have hsh := shl_bit hx6
        have hwz := wrap_bit9 hx6
        have hp := pow_lt9 hx6
        generalize 2 ^ x = z at *
        clear hok HNO HYE
        go_enter Try.func22, Try.ntmps22
        go_wp2_with fail
        refine hck.mono ?_
        rintro e w1 ⟨rfl, hb1⟩
        have HB1 := Lib.hid (bstep HB0.out hb1)
        have HV1 := Lib.hid (HV.out.keep hb1)
        obtain ⟨c0, c1, c2, _⟩ := HV1.out
        have hst := HST.out w1 (HW.out.below HB1.out).pa
        go_wp2_with fail
        refine hst.mono ?_
        rintro e w2 ⟨rfl, hb2⟩
        have HB2 := Lib.hid (bstep HB1.out hb2)
        have HV2 := Lib.hid (HV1.out.keep hb2)
        clear c0 c1 c2
        obtain ⟨c0, c1, c2, _⟩ := HV2.out
        have hwy := HWY.out w2 (HW.out.below HB2.out)
        clear hst hck hb1 hb2 HB1 HV1 HB0 HV HWY HST
        go_wp2_with fail
        refine hwy.mono ?_
        rintro e w3 ⟨v3, rfl, hr3, hb3⟩
        obtain ⟨va, vc, rfl, _, _, _, hri⟩ := hr3
        have HRI := Lib.hid hri
        have HB3 := Lib.hid (bstep HB2.out hb3)
        clear hwy hri hb3 c0 c1 c2 HB2 HV2
        go_wp2_with fail
        go_loopw [7, 30] (fun o i wr => ∃ (k q : Nat), k ≤ WL.length ∧ i = .int .i64 k ∧ o = .int .i64 (q : Int) ∧ Hid (q = Q k) ∧ Below w3.heap.size w3 wr) (fun _ i _ => WL.length - (intOf i).toNat)
        case atStart => exact ⟨0, z, by omega, rfl, rfl, Lib.hid (by rw [← HQ.out, HZ.out]), Below.refl _ _⟩
        case round =>
          obtain ⟨k, q, hk, rfl, rfl, HQK, hbel⟩ := hrel
          by_cases hlt : k < WL.length
          · obtain ⟨b, off, rfl, hbl, d0, d1⟩ := (HRI.out.below hbel).pair k hlt
            obtain ⟨s, hs, hsl, hs6⟩ := HSI.out _ (List.getElem_mem hlt)
            have HS := Lib.hid (HSN.out k s hlt hs hs6)
            rw [hs] at d1
            generalize WL[k].1 = y at d0
            have hq : q < 64 := by rw [HQK.out, ← HQ.out]; exact HLT.out k
            have hsh := shl_bit hs6
            have hwz := wrap_bit9 hs6
            have hp := pow_lt9 hs6
            have HQ2 : Hid (Q (k + 1) = q ||| 2 ^ s) := Lib.hid (by rw [← HQ.out, HS.out, HQ.out, ← HQK.out])
            have hor := or64T q hq (2 ^ s) hp.1
            generalize 2 ^ s = z2 at *
            have hki : (k : Int) < (WL.length : Int) := by omega
            have hba : Below wr.heap.size wr (wr.alloc (.cells #[.int .i64 y, .int .i64 (s : Int)] 43)) := balloc (Below.refl _ _) _
            have HBA := Lib.hid (bstep hbel hba)
            clear hs hba
            go_wp2_with fail
            go_roundw
            case rel => exact ⟨k + 1, q ||| z2, by omega, by go_num, rfl, Lib.hid HQ2.out.symm, HBA.out⟩
            case measure => simp [intOf]; omega
          · obtain rfl : k = WL.length := by omega
            go_wp2
            go_ret
            exact ⟨by rw [HR.out, HQ.out, ← HQK.out]; rfl, bstep HB3.out hbel⟩
end Go.Proofs.Ythjjidfoclcghaa
