/- The walk of the law TreePaths. -/
import Derived.Test.YtfldaokegolhfaaTreeHelp
import Derived.Test.YtfldaokegolhfaaTreeMade
import Derived.Test.YtfldaokegolhfaaOpenT
import Derived.Deep.QuietTactic
import Derived.BigQuiet
import Derived.IntWalk
namespace Go.Proofs.Ytfldaokegolhfaa
open Go.RowKit
set_option linter.unusedVariables false
set_option linter.unusedSimpArgs false

namespace Tm
theorem adjs_get {p : List Int} : ∀ {l : List Nat}, adjs p l → ∀ (i : Nat) (h : i + 1 < l.length), adj p (l[i]'(by omega)) l[i + 1]
  | x :: y :: t, h, 0, _ => h.1
  | x :: y :: t, h, i + 1, hi => adjs_get (l := y :: t) h.2 i (by simpa using hi)
/-- All that is asked of two sites' ways. -/
structure Ways (p : List Int) (A B m : Nat) (X Y : List Nat) : Prop where
  hm : 1 ≤ m ∧ m ≤ 6
  lx : X.length = m
  ly : Y.length = m
  x0 : ∀ h : 0 < X.length, X[0] = A
  xl : ∀ h : m - 1 < X.length, X[m - 1] = B
  rg : ∀ i (h : i < X.length), X[i] < p.length
  tr : ∀ i (h : i < X.length) (h2 : m - 1 - i < Y.length), Y[m - 1 - i] = X[i]
  nd : ∀ i j (hi : i < X.length) (hj : j < X.length), i < j → X[i] ≠ X[j]
  ad : ∀ i (h : i + 1 < X.length), adj p (X[i]'(by omega)) X[i + 1]
  hf : ∀ i (h : i < X.length), (way p A X[i]).length + (way p X[i] B).length = m + 1
theorem Tr.ways {p : List Int} (h : Tr p) {A B : Nat} (ha : A < p.length) (hb : B < p.length) : Ways p A B (way p A B).length (way p A B) (way p B A) := by
  have w := h.way_wk ha hb
  have hr := h.way_rev ha hb
  obtain ⟨t, et⟩ := h.way_cons ha hb
  have h6 := h.way_len ha hb
  have hn6 := h.n6
  have h1 : 1 ≤ (way p A B).length := by rw [et]; simp
  refine ⟨⟨h1, by omega⟩, rfl, by rw [hr, List.length_reverse], fun h0 => ?_, fun hl => ?_, fun i hi => w.lt _ (List.getElem_mem hi), fun i hi h2 => ?_, fun i j hi hj hij => (List.pairwise_iff_getElem.1 w.nd) i j hi hj hij, fun i hi => adjs_get w.ad i hi, fun i hi => h.halves ha hb (List.getElem_mem hi)⟩
  · have := w.hd
    rw [List.head?_eq_getElem?, List.getElem?_eq_getElem h0] at this
    simpa using this
  · have := w.tl
    rw [List.getLast?_eq_getElem?, List.getElem?_eq_getElem hl] at this
    simpa using this
  · have e : (way p B A)[(way p A B).length - 1 - i] = ((way p A B).reverse)[(way p A B).length - 1 - i]'(by rw [List.length_reverse]; omega) := by
      congr 1
    rw [e, List.getElem_reverse]
    congr 1
    omega
end Tm

set_option maxRecDepth 100000 in
set_option maxHeartbeats 12800000 in
theorem walkTreePaths (w : World) (a : Option Addr) (len cap : Nat) (zs : List Int) (h0 : IsRow .i64 w a len cap zs) (turn : Int) (ws : (Lit.int .i64 turn).wf = true) (q0 q1 q2 : Int) (hq0 : -9223372036854775808 ≤ q0 ∧ q0 ≤ 9223372036854775807) (hq1 : -9223372036854775808 ≤ q1 ∧ q1 ≤ 9223372036854775807) (hq2 : -9223372036854775808 ≤ q2 ∧ q2 ≤ 9223372036854775807) :
    Calls Try.prog 5 #[.slice a len cap, .int .i64 turn, .agg #[.int .i64 q0, .int .i64 q1, .int .i64 q2]] w fun e w' => e = .returned (.bool true) ∧ Below w.heap.size w w' := by
  obtain ⟨l, rfl, hrow, _⟩ := isRow_rowT h0
  obtain ⟨_, _, e, hcap, hmx, _, hri⟩ := hrow
  cases e
  unfold maxLen at hmx
  have hl : l.length ≤ 9223372036854775807 := by omega
  have hmd := fun (W : World) hb => madeT_any l a cap turn W hl (hri.below hb)
  obtain ⟨a1, a2⟩ := hq0
  obtain ⟨b1, b2⟩ := hq1
  obtain ⟨d1, d2⟩ := hq2
  have HB0 := Lib.hid (balloc (Below.refl _ w) (.cells #[.int .i64 q0, .int .i64 q1, .int .i64 q2] 32))
  have c0 : (w.alloc (.cells #[.int .i64 q0, .int .i64 q1, .int .i64 q2] 32)).cell? ⟨w.heap.size, 0, none⟩ = some (.int .i64 q0) := by simp
  have c1 : (w.alloc (.cells #[.int .i64 q0, .int .i64 q1, .int .i64 q2] 32)).cell? ⟨w.heap.size, 1, none⟩ = some (.int .i64 q1) := by simp
  have c2 : (w.alloc (.cells #[.int .i64 q0, .int .i64 q1, .int .i64 q2] 32)).cell? ⟨w.heap.size, 2, none⟩ = some (.int .i64 q2) := by simp
  clear h0 ws hri hcap hmx
  go_enter Try.func5, Try.ntmps5
  go_wp2_with fail
  generalize w.alloc (.cells #[.int .i64 q0, .int .i64 q1, .int .i64 q2] 32) = w0 at *
  refine (awake8_any w0).mono ?_
  rintro e w1 ⟨rfl, hb1⟩
  have HC0 := Lib.hid (kc hb1 c0)
  have HC1 := Lib.hid (kc hb1 c1)
  have HC2 := Lib.hid (kc hb1 c2)
  clear c0 c1 c2
  go_wp2_with fail
  refine (hmd w1 (HB0.out.trans (hb1.mono HB0.out.size))).mono ?_
  rintro e w2 ⟨p, g, rfl, htr, hpe, hpr, ho2, hb2⟩
  clear hpe hpr
  have HB2 := Lib.hid (bstep (bstep HB0.out hb1) hb2)
  have hc0 := kc hb2 HC0.out
  have hc1 := kc hb2 HC1.out
  have HD2 := Lib.hid (kc hb2 HC2.out)
  have HRI := Lib.hid (RowIn.of_own ki_ok ho2)
  have HTR := Lib.hid htr
  have hn1 := htr.n1
  have hn6 := htr.n6
  clear hmd hb1 hb2 ho2 htr HC0 HC1 HC2
  obtain ⟨y1, y2⟩ := tmod_bdT q0 (p.length : Int) (by omega)
  generalize hy : q0.tmod (p.length : Int) = y at y1 y2
  obtain ⟨z1, z2⟩ := tmod_bdT q1 (p.length : Int) (by omega)
  generalize hz : q1.tmod (p.length : Int) = z at z1 z2
  go_upto_region 6 with fail
  have ho1 := Int.emod_nonneg (y + (p.length : Int)) (b := (p.length : Int)) (by omega)
  have ho2 := Int.emod_lt_of_pos (y + (p.length : Int)) (b := (p.length : Int)) (by omega)
  generalize (y + (p.length : Int)) % (p.length : Int) = o at *
  obtain ⟨A, rfl⟩ : ∃ A : Nat, o = (A : Int) := ⟨o.toNat, by omega⟩
  have ho3 := Int.emod_nonneg (z + (p.length : Int)) (b := (p.length : Int)) (by omega)
  have ho4 := Int.emod_lt_of_pos (z + (p.length : Int)) (b := (p.length : Int)) (by omega)
  generalize (z + (p.length : Int)) % (p.length : Int) = o2 at *
  obtain ⟨B, rfl⟩ : ∃ B : Nat, o2 = (B : Int) := ⟨o2.toNat, by omega⟩
  have hA : A < p.length := by omega
  have hB : B < p.length := by omega
  clear hy y1 y2 hz z1 z2 ho1 ho2 ho3 ho4 hc0 hc1
  have hck := (Tm.chkT_iff p).2 HTR.out
  have hx := tpath_any p (some ⟨g, 0, none⟩) p.length (A : Int) (B : Int) w2 (by omega) HRI.out
  rw [Tm.pathI_nat hck hA hB] at hx
  have HY := Lib.hid (fun (W : World) (hb : Below w2.heap.size w2 W) => tpath_any p (some ⟨g, 0, none⟩) p.length (B : Int) (A : Int) W (by omega) (HRI.out.below hb))
  rw [Tm.pathI_nat hck hB hA] at HY
  have HFAR := Lib.hid (fun (u v : Nat) (hu : u < p.length) (hv : v < p.length) (W : World) (hb : Below w2.heap.size w2 W) => (show Calls Try.prog 20 #[.slice (some ⟨g, 0, none⟩) p.length p.length, .int .i64 (u : Int), .int .i64 (v : Int)] W fun e w' => e = .returned (.int .i64 (((Tm.way p u v).length : Int) - 1)) ∧ Below W.heap.size W w' by
    have h := tfar_any p (some ⟨g, 0, none⟩) p.length (u : Int) (v : Int) W (by omega) (HRI.out.below hb)
    unfold Tm.farI at h
    rw [Tm.pathI_nat hck hu hv] at h
    exact h))
  have HW := Lib.hid (HTR.out.ways hA hB)
  obtain ⟨m, hm⟩ : ∃ m, m = (Tm.way p A B).length := ⟨_, rfl⟩
  have HM := Lib.hid hm
  have HFAB := Lib.hid (fun (W : World) (hb : Below w2.heap.size w2 W) => HFAR.out A B hA hB W hb)
  rw [← hm] at HW HFAB
  clear hm
  generalize Tm.way p A B = X at *
  generalize Tm.way p B A = Y at *
  obtain ⟨hm1, hm6⟩ := HW.out.hm
  go_wp2_with fail
  refine hx.mono ?_
  rintro e w3 ⟨v1, rfl, ho1, hbl1⟩
  obtain ⟨xa, xc, rfl⟩ := ho1.shape
  go_wp2_with fail
  refine (HY.out w3 hbl1).mono ?_
  rintro e w4 ⟨v2, rfl, ho2, hbl2⟩
  obtain ⟨ya, yc, rfl⟩ := ho2.shape
  have HRX := Lib.hid ((RowIn.of_own ki_ok ho1).below hbl2)
  have HRY := Lib.hid (RowIn.of_own ki_ok ho2)
  have HB4 := Lib.hid (bstep hbl1 hbl2)
  have elx : (Tm.ln X).length = m := by rw [Tm.ln_len]; exact HW.out.lx
  have ely : (Tm.ln Y).length = m := by rw [Tm.ln_len]; exact HW.out.ly
  rw [elx, ely]
  have HLX := Lib.hid elx
  have HLY := Lib.hid ely
  clear ho1 ho2 hbl1 hbl2 hx HY elx ely
  have hm0 : 0 < m := by omega
  have hXat : ∀ (W : World) (i : Nat) (hi : i < X.length), Below w4.heap.size w4 W → ∃ b off, xa = some ⟨b, off, none⟩ ∧ b < W.heap.size ∧ W.cell? ⟨b, off + i, none⟩ = some (.int .i64 (X[i] : Int)) := fun W i hi hb => by
    have h := (HRX.out.below hb).int i (by rw [Tm.ln_len]; exact hi)
    rw [Tm.ln_get] at h
    exact h
  have HXAT := Lib.hid hXat
  have hYat : ∀ (W : World) (i : Nat) (hi : i < Y.length), Below w4.heap.size w4 W → ∃ b off, ya = some ⟨b, off, none⟩ ∧ b < W.heap.size ∧ W.cell? ⟨b, off + i, none⟩ = some (.int .i64 (Y[i] : Int)) := fun W i hi hb => by
    have h := (HRY.out.below hb).int i (by rw [Tm.ln_len]; exact hi)
    rw [Tm.ln_get] at h
    exact h
  have HYAT := Lib.hid hYat
  clear hXat hYat
  -- the ends
  obtain ⟨bx, ox, rfl, hbx, cx0⟩ := HXAT.out w4 0 (by rw [HW.out.lx]; exact hm0) (Below.refl _ _)
  rw [HW.out.x0] at cx0
  obtain ⟨_, _, ee, _, cxl⟩ := HXAT.out w4 (m - 1) (by rw [HW.out.lx]; omega) (Below.refl _ _)
  cases ee
  rw [HW.out.xl] at cxl
  have e0 : ((A : Int) != (A : Int)) = false := by simp
  have hmi : ((m : Int) - 1).toNat = m - 1 := by omega
  have hml : (0 : Int) ≤ (m : Int) - 1 := by omega
  have hml2 : (m : Int) - 1 < (m : Int) := by omega
  have hme : ((m : Int) == 0) = false := by simp; omega
  have hme2 : (m == 0) = false := by simp; omega
  have hfab := HFAB.out w4 HB4.out
  rw [Nat.add_zero] at cx0
  go_wp2_with fail
  refine hfab.mono ?_
  rintro e w5 ⟨rfl, hbl5⟩
  have HB5 := Lib.hid hbl5
  clear cx0 cxl e0 hmi hml hml2 hme hme2 hfab hbl5
  go_wp2_with fail
  go_loopw [14] (fun i wr => ∃ k : Nat, k ≤ m ∧ i = .int .i64 k ∧ Below w4.heap.size w4 wr) (fun i _ => m - (intOf i).toNat)
  case atStart => exact ⟨0, by omega, rfl, HB5.out⟩
  case round =>
    obtain ⟨i, hi, rfl, hbel⟩ := hrel
    by_cases him : i < m
    · have hiX : i < X.length := by rw [HW.out.lx]; exact him
      have hjY : m - 1 - i < Y.length := by rw [HW.out.ly]; omega
      obtain ⟨_, _, ee, _, cxi⟩ := HXAT.out wr i hiX hbel
      cases ee
      obtain ⟨bY, oY, rfl, hbY, cyi⟩ := HYAT.out wr (m - 1 - i) hjY hbel
      rw [HW.out.tr i hiX hjY] at cyi
      have hxr := HW.out.rg i hiX
      obtain ⟨j, hj⟩ : ∃ j, j = m - 1 - i := ⟨_, rfl⟩
      rw [← hj] at cyi
      have hjm : j < m := by omega
      have hji : (j : Int) < (m : Int) := by omega
      have hj0 : (0 : Int) ≤ (j : Int) := by omega
      have hw1 : IntKind.i64.wrap ((m : Int) - 1) = (m : Int) - 1 := IntWalk.i64_in _ (by omega)
      have hw2 : IntKind.i64.wrap ((m : Int) - 1 - (i : Int)) = (j : Int) := by rw [IntWalk.i64_in _ (by omega)]; omega
      have HBL := Lib.hid hbel
      have HXR := Lib.hid hxr
      have HJ := Lib.hid hj
      generalize hxi : X[i] = xi at *
      have HXI := Lib.hid hxi
      clear hj hjY hxi
      have q1 : decide ((xi : Int) < 0) = false := by simp
      have q2 : decide ((p.length : Int) ≤ (xi : Int)) = false := by simp; omega
      have q2n : decide (p.length ≤ xi) = false := by simp; omega
      have q3 : ((xi : Int) != (xi : Int)) = false := by simp
      go_upto_region 13 with fail
      go_cut [117] (fun s wx => s = .bool false ∧ Hid (Below w4.heap.size w4 wx))
      case first =>
        go_quiet (fail)
        go_wp2
        go_meet
        exact ⟨rfl, Lib.hid (below_drewN HBL.out _)⟩
      case rest =>
        obtain ⟨rfl, HBC⟩ := hcut
        clear cxi cyi hw1 hw2 hbel HBL
        have hbc := HBC.out
        obtain ⟨_, _, ee, _, cxi⟩ := HXAT.out wc i hiX hbc
        cases ee
        rw [HXI.out] at cxi
        obtain ⟨_, _, ee, _, cpi⟩ := (HRI.out.below (HB4.out.trans (hbc.mono HB4.out.size))).int xi HXR.out
        cases ee
        rw [Nat.zero_add] at cpi
        have HP1 := Lib.hid (Tm.par_get p xi HXR.out)
        go_upto_region 15 with fail
        go_cut [149] (fun s wx => s = .bool false ∧ Hid (Below w4.heap.size w4 wx))
        case first =>
          cases i with
          | zero =>
            have hz0 : decide ((0 : Int) < ((0 : Nat) : Int)) = false := by simp
            go_quiet (fail)
            go_wp2
            go_meet
            exact ⟨rfl, Lib.hid (below_drewN HBC.out _)⟩
          | succ i =>
            have hiX2 : i < X.length := by omega
            have had := HW.out.ad i (by omega)
            rw [HXI.out] at had
            have hx0r := HW.out.rg i hiX2
            obtain ⟨_, _, ee, _, cx0⟩ := HXAT.out wc i hiX2 hbc
            cases ee
            obtain ⟨_, _, ee, _, cp0⟩ := (HRI.out.below (HB4.out.trans (hbc.mono HB4.out.size))).int X[i] hx0r
            cases ee
            rw [Nat.zero_add] at cp0
            have HP0 := Lib.hid (Tm.par_get p X[i] hx0r)
            unfold Tm.adj at had
            rw [HP0.out, HP1.out] at had
            generalize p[X[i]] = d0 at cp0 had
            generalize p[xi] = d1 at cpi had
            generalize X[i] = x0 at *
            have hx0i : (x0 : Int) < (p.length : Int) := by omega
            have hx00 : (0 : Int) ≤ (x0 : Int) := by omega
            have hxii : (xi : Int) < (p.length : Int) := by have := HXR.out; omega
            have hxi0 : (0 : Int) ≤ (xi : Int) := by omega
            have hz0 : decide ((0 : Int) < ((i + 1 : Nat) : Int)) = true := by simp
            have hw3 : IntKind.i64.wrap (((i + 1 : Nat) : Int) - 1) = (i : Int) := by rw [IntWalk.i64_in _ (by omega)]; omega
            have hi0 : (0 : Int) ≤ (i : Int) := by omega
            have hi1 : (i : Int) < (m : Int) := by omega
            by_cases he : d1 = (x0 : Int)
            · have q4 : (d1 != (x0 : Int)) = false := by simp [he]
              clear had he HP0 HP1
              go_quiet (fail)
              go_wp2
              go_meet
              exact ⟨rfl, Lib.hid (below_drewN HBC.out _)⟩
            · have q4 : (d1 != (x0 : Int)) = true := by simpa using he
              have q5 : (d0 != (xi : Int)) = false := by
                rcases had with h | h
                · simp [h]
                · exact absurd h he
              clear had he HP0 HP1
              go_quiet (fail)
              go_wp2
              go_meet
              exact ⟨rfl, Lib.hid (below_drewN HBC.out _)⟩
        case rest =>
          obtain ⟨rfl, HBD⟩ := hcut
          clear cxi cpi hbc HBC HP1 hji hj0 hjm
          go_wp2_with fail
          go_loopw [15] (fun kk wr => ∃ k : Nat, k ≤ i ∧ kk = .int .i64 k ∧ Hid (Below w4.heap.size w4 wr)) (fun kk _ => i - (intOf kk).toNat)
          case atStart => exact ⟨0, by omega, rfl, HBD⟩
          case round =>
            obtain ⟨k, hk, rfl, HBK⟩ := hrel
            by_cases hki : k < i
            · have hkX : k < X.length := by omega
              have hkm : k < m := by omega
              obtain ⟨_, _, ee, _, cxk⟩ := HXAT.out wr k hkX HBK.out
              cases ee
              obtain ⟨_, _, ee, _, cxi⟩ := HXAT.out wr i hiX HBK.out
              cases ee
              have hnd := HW.out.nd k i hkX hiX hki
              rw [HXI.out] at hnd cxi
              generalize X[k] = xk at cxk hnd
              have q6 : ((xk : Int) == (xi : Int)) = false := by simpa using (show ¬ (xk : Int) = xi by omega)
              have q7 : (xk == xi) = false := by simpa using hnd
              clear hnd
              go_wp2_with fail
              go_quiet (fail)
              go_wp2
              go_roundw
              case rel => exact ⟨k + 1, by omega, by go_num, Lib.hid (below_drewN HBK.out _)⟩
              case measure => simp [intOf]; omega
            · obtain rfl : k = i := by omega
              go_wp2_with fail
              go_roundw
              case rel => exact ⟨k + 1, by omega, by go_num, HBK.out⟩
              case measure => simp [intOf]; omega
    · obtain rfl : i = m := by omega
      have HBL := Lib.hid hbel
      have HBW := Lib.hid (HB4.out.trans (hbel.mono HB4.out.size))
      have hd2 := kc HBW.out HD2.out
      obtain ⟨r1, r2⟩ := tmod_bdT q2 (i : Int) (by omega)
      generalize hr : q2.tmod (i : Int) = r at r1 r2
      have hlt0 : ¬ i < i := by omega
      clear him hbel
      have ho1 := Int.emod_nonneg (r + (i : Int)) (b := (i : Int)) (by omega)
      have ho2 := Int.emod_lt_of_pos (r + (i : Int)) (b := (i : Int)) (by omega)
      obtain ⟨M, hM⟩ : ∃ M : Nat, (r + (i : Int)) % (i : Int) = (M : Int) := ⟨((r + (i : Int)) % (i : Int)).toNat, by omega⟩
      have hMi : M < i := by omega
      have hMX : M < X.length := by rw [HW.out.lx]; exact hMi
      obtain ⟨_, _, ee, _, cxm⟩ := HXAT.out wr M hMX HBL.out
      cases ee
      have hvr := HW.out.rg M hMX
      have hhf := HW.out.hf M hMX
      have hf1 := HFAR.out A X[M] hA hvr wr HBW.out
      have HF2 := Lib.hid (fun W hb => HFAR.out X[M] B hvr hB W hb)
      generalize X[M] = v at cxm hvr hhf hf1 HF2
      have hl1 : (Tm.way p A v).length ≤ 6 := Nat.le_trans (HTR.out.way_len hA hvr) hn6
      have hl2 : (Tm.way p v B).length ≤ 6 := Nat.le_trans (HTR.out.way_len hvr hB) hn6
      generalize (Tm.way p A v).length = s1 at *
      generalize (Tm.way p v B).length = s2 at *
      have hM0 : (0 : Int) ≤ (M : Int) := by omega
      have hMii : (M : Int) < (i : Int) := by omega
      have HHF := Lib.hid hhf
      have hsum : ((s1 : Int) - 1 + ((s2 : Int) - 1) == (i : Int) - 1) = true := by simp; omega
      clear ho1 ho2 hhf
      go_wp2_with fail
      refine hf1.mono ?_
      rintro e w6 ⟨rfl, hb6⟩
      go_wp2_with fail
      refine (HF2.out w6 (HBW.out.trans (hb6.mono HBW.out.size))).mono ?_
      rintro e w7 ⟨rfl, hb7⟩
      go_wp2
      go_ret
      exact ⟨rfl, bstep HB2.out (HBW.out.trans ((bstep hb6 hb7).mono HBW.out.size))⟩
end Go.Proofs.Ytfldaokegolhfaa
