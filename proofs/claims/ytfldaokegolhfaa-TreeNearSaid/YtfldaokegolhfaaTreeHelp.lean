/- The document's Side; what the laws' own helpers awake, few and made answer. -/
import Derived.Test.YtfldaokegolhfaaTreeSide
import Derived.Test.YtfldaokegolhfaaTreeRefPath
namespace Go.Proofs.Ytfldaokegolhfaa
open Go.RowKit
set_option linter.unusedVariables false
set_option linter.unusedSimpArgs false

set_option maxRecDepth 100000 in
set_option maxHeartbeats 3200000 in
theorem refSide_any (p : List Int) (a : Option Addr) (cap : Nat) (s t : Int) (w : World) (hl : p.length ≤ 9223372036854775807) (hr : RowIn KI w a p) :
    Calls Try.prog 19 #[.slice a p.length cap, .int .i64 s, .int .i64 t] w fun e w' => e = .returned (.int .i64 (Tm.sideI p s t : Int)) ∧ Below w.heap.size w w' := by
  have hc1 := refTCheck_any p a cap w hl hr
  cases h1 : Tm.chkT p with
  | false =>
    have e : Tm.sideI p s t = 0 := by unfold Tm.sideI; rw [h1]; rfl
    rw [e]
    rw [h1] at hc1
    clear h1 e hr
    go_enter Try.func19, Try.ntmps19
    go_wp2_with fail
    refine hc1.mono ?_
    rintro e w' ⟨rfl, rfl⟩
    go_wp2
    go_ret
    exact ⟨rfl, Below.refl _ _⟩
  | true =>
    rw [h1] at hc1
    have h6 := ((Tm.chkT_iff p).1 h1).n6
    have HS : Hid (Tm.sumB (fun k => Tm.viaI p s t (k : Int)) p.length = Tm.sideI p s t) := Lib.hid (by unfold Tm.sideI; rw [h1]; rfl)
    have hpath := fun (k : Nat) (W : World) (hR : RowIn KI W a p) => refPath_any p a cap s (k : Int) W hl hR
    have HV1 : Hid (∀ k : Nat, (Tm.pathI p s (k : Int)).length < 2 → Tm.viaI p s t (k : Int) = false) := Lib.hid (fun k h => Tm.viaI_short h)
    have HV2 : Hid (∀ (k : Nat) (h : 1 < (Tm.pathI p s (k : Int)).length), Tm.viaI p s t (k : Int) = decide (((Tm.pathI p s (k : Int))[1] : Int) = t)) := Lib.hid (fun k h => Tm.viaI_at h)
    have HPL : Hid (∀ k : Nat, (Tm.pathI p s (k : Int)).length ≤ 6) := Lib.hid (fun k => Tm.pathI_len p s (k : Int))
    generalize Tm.sideI p s t = R at HS ⊢
    have HB : Hid (∀ k : Nat, k < p.length → Tm.sumB (fun k => Tm.viaI p s t (k : Int)) k < 2 ^ k) := Lib.hid (fun k _ => Tm.sumB_lt _ k)
    have HUP : Hid (∀ k : Nat, Tm.sumB (fun k => Tm.viaI p s t (k : Int)) (k + 1) = Tm.sumB (fun k => Tm.viaI p s t (k : Int)) k + if Tm.viaI p s t (k : Int) = true then 2 ^ k else 0) := Lib.hid (fun k => rfl)
    have HZ : Hid (Tm.sumB (fun k => Tm.viaI p s t (k : Int)) 0 = 0) := Lib.hid rfl
    generalize Tm.sumB (fun k => Tm.viaI p s t (k : Int)) = S at *
    have HR := Lib.hid hr
    clear hr h1
    go_enter Try.func19, Try.ntmps19
    go_wp2_with fail
    refine hc1.mono ?_
    rintro e w' ⟨rfl, rfl⟩
    go_wp2
    go_loopw [8, 9, 10] (fun o bt i wr => ∃ (k q z : Nat), k ≤ p.length ∧ i = .int .i64 k ∧ o = .int .i64 (q : Int) ∧ bt = .int .i64 (z : Int) ∧ Hid (z = 2 ^ k) ∧ z ≤ 64 ∧ q < z ∧ Hid (q = S k) ∧ Below w.heap.size w wr) (fun _ _ i _ => p.length - (intOf i).toNat)
    case atStart => exact ⟨0, 0, 1, by omega, rfl, rfl, rfl, Lib.hid rfl, by omega, by omega, Lib.hid HZ.out.symm, Below.refl _ _⟩
    case round =>
      obtain ⟨k, q, z, hk, rfl, rfl, rfl, HZK, hz, hqz, HQ, hbel⟩ := hrel
      by_cases hlt : k < p.length
      · have hcon := hpath k wr (HR.out.below hbel)
        have hv1 := HV1.out k
        have hv2 := HV2.out k
        have hpl := HPL.out k
        have hup := HUP.out k
        have hz2 : z ≤ 32 := by
          rw [HZK.out]
          exact Nat.pow_le_pow_right (n := 2) (by omega) (show k ≤ 5 by omega)
        generalize Tm.viaI p s t (k : Int) = vb at hv1 hv2 hup
        generalize Tm.pathI p s (k : Int) = P at hv1 hv2 hpl hcon
        rw [← HZK.out] at hup
        have HZ2 : Hid (z * 2 = 2 ^ (k + 1)) := Lib.hid (by rw [HZK.out, Nat.pow_succ])
        have HV1' := Lib.hid hv1
        have HV2' := Lib.hid hv2
        have HUP' := Lib.hid hup
        clear hv1 hv2 hup
        go_wp2_with fail
        refine hcon.mono ?_
        rintro e w1 ⟨v1, rfl, ho1, hbl1⟩
        obtain ⟨va, vc, rfl⟩ := ho1.shape
        have hpl1 : (Tm.ln P).length = P.length := Tm.ln_len P
        have HC := Lib.hid (RowIn.of_own ki_ok ho1)
        have HLN := Lib.hid hpl1
        rw [hpl1]
        have HBB := Lib.hid (bstep hbel hbl1)
        clear ho1 hpl1 hcon hbl1
        by_cases hs : P.length < 2
        · have hsi : ¬ (1 : Int) < (P.length : Int) := by omega
          have HF := Lib.hid (HV1'.out hs)
          clear hs
          go_wp2
          go_roundw
          case rel => exact ⟨k + 1, q, z * 2, by omega, by go_num, rfl, by go_num, HZ2, by omega, by omega, Lib.hid (by rw [HUP'.out, HF.out, HQ.out]; rfl), HBB.out⟩
          case measure => simp [intOf]; omega
        · have hsi : (1 : Int) < (P.length : Int) := by omega
          have hP1 : 1 < P.length := by omega
          have HF := Lib.hid (HV2'.out hP1)
          have hc := HC.out.int 1 (by rw [HLN.out]; exact hP1)
          rw [Tm.ln_get] at hc
          obtain ⟨b0, off0, rfl, hbl0, c0⟩ := hc
          generalize P[1] = x at HF c0
          by_cases hx : (x : Int) = t
          · have hb : ((x : Int) == t) = true := by simp [hx]
            have HT : Hid (vb = true) := Lib.hid (by rw [HF.out]; simpa using hx)
            clear hx
            go_wp2
            go_roundw
            case rel => exact ⟨k + 1, q + z, z * 2, by omega, by go_num, by go_num, by go_num, HZ2, by omega, by omega, Lib.hid (by rw [HUP'.out, HT.out, HQ.out]; rfl), HBB.out⟩
            case measure => simp [intOf]; omega
          · have hb : ((x : Int) == t) = false := by simpa using hx
            have HT : Hid (vb = false) := Lib.hid (by rw [HF.out]; simpa using hx)
            clear hx
            go_wp2
            go_roundw
            case rel => exact ⟨k + 1, q, z * 2, by omega, by go_num, rfl, by go_num, HZ2, by omega, by omega, Lib.hid (by rw [HUP'.out, HT.out, HQ.out]; rfl), HBB.out⟩
            case measure => simp [intOf]; omega
      · obtain rfl : k = p.length := by omega
        go_wp2
        go_ret
        exact ⟨ret_int (by rw [HQ.out, HS.out]), hbel⟩

theorem few8_any (a : Option Addr) (p : List Int) (cap : Nat) (w : World) (hc : p.length ≤ cap) (hm : cap ≤ maxLen) :
    Calls Try.prog 10 #[.slice a p.length cap] w fun e w' => e = .returned (.slice a (p.take 8).length cap) ∧ w = w' := by
  unfold maxLen at hm
  by_cases h : 8 < p.length
  · have e : (p.take 8).length = 8 := by simp; omega
    rw [e]
    have hi : (8 : Int) < (p.length : Int) := by omega
    clear e
    go_enter Try.func10, Try.ntmps10
    go_wp2
    go_ret
    exact ⟨rfl, rfl⟩
  · have e : (p.take 8).length = p.length := by simp; omega
    rw [e]
    have hi : ¬ (8 : Int) < (p.length : Int) := by omega
    clear e
    go_enter Try.func10, Try.ntmps10
    go_wp2
    go_ret
    exact ⟨rfl, rfl⟩

/-- A row of four that is built. -/
theorem ki_four (w : World) (x0 x1 x2 x3 : Int) : OwnR KI (w.alloc (.cells #[.int .i64 x0, .int .i64 x1, .int .i64 x2, .int .i64 x3] 3)) w.heap.size (.slice (some ⟨w.heap.size, 0, none⟩) 4 4) [x0, x1, x2, x3] :=
  ⟨by simp [rV, KI], .inr ⟨_, _, _, rfl, Nat.le_refl _, heap_alloc_new _ _, by simp, by simp [maxLen], by simp [KI], by simp [rV, KI]⟩⟩
theorem Tm.ex_path : Tm.pathI [-1, 0, 0, 1] 3 2 = [3, 1, 0, 2] := by decide +kernel
theorem Tm.ex_side : Tm.sideI [-1, 0, 0, 1] 0 1 = 10 := by decide +kernel
theorem Tm.ex_chk : Tm.chkT [-1, 0, 0, 1] = true := by decide +kernel
theorem Tm.ex_far : Tm.farI [-1, 0, 0, 1] 3 2 = 3 := by decide +kernel

set_option maxRecDepth 100000 in
set_option maxHeartbeats 1600000 in
theorem awake8_any (w : World) : Calls Try.prog 9 #[] w fun e w' => e = .returned (.bool true) ∧ Below w.heap.size w w' := by
  have HO := Lib.hid (ki_four w (-1) 0 0 1)
  have HP := Lib.hid (fun (W : World) (a : Option Addr) (hR : RowIn KI W a [-1, 0, 0, 1]) => tpath_any [-1, 0, 0, 1] a 4 3 2 W (by simp) hR)
  have HSD := Lib.hid (fun (W : World) (a : Option Addr) (hR : RowIn KI W a [-1, 0, 0, 1]) => tside_any [-1, 0, 0, 1] a 4 0 1 W (by simp) hR)
  have HCK := Lib.hid (fun (W : World) (a : Option Addr) (hR : RowIn KI W a [-1, 0, 0, 1]) => tcheck_any [-1, 0, 0, 1] a 4 W (by simp) hR)
  have HFR := Lib.hid (fun (W : World) (a : Option Addr) (hR : RowIn KI W a [-1, 0, 0, 1]) => tfar_any [-1, 0, 0, 1] a 4 3 2 W (by simp) hR)
  rw [Tm.ex_path] at HP
  rw [Tm.ex_side] at HSD
  rw [Tm.ex_chk] at HCK
  rw [Tm.ex_far] at HFR
  have HB0 := Lib.hid (balloc (Below.refl _ w) (.cells #[.int .i64 (-1), .int .i64 0, .int .i64 0, .int .i64 1] 3))
  go_enter Try.func9, Try.ntmps9
  go_wp2_with fail
  refine (HP.out _ _ (RowIn.of_own ki_ok HO.out)).mono ?_
  rintro e w1 ⟨v1, rfl, ho1, hb1⟩
  have HRI := Lib.hid ((RowIn.of_own ki_ok HO.out).below hb1)
  have HB1 := Lib.hid (bstep HB0.out hb1)
  have hR1 := RowAt.of_own ki_ok ho1
  have hS := refTSame_any v1 (.slice (some ⟨w1.heap.size, 0, none⟩) 4 4) (Tm.ln [3, 1, 0, 2]) [3, 1, 0, 2] (w1.alloc (.cells #[.int .i64 3, .int .i64 1, .int .i64 0, .int .i64 2] 3)) (by simp [Tm.ln_len]) (hR1.below (balloc (Below.refl _ _) _)) (RowAt.of_own ki_ok (ki_four w1 3 1 0 2))
  have e1 : decide (Tm.ln [3, 1, 0, 2] = [3, 1, 0, 2]) = true := by decide
  rw [e1] at hS
  have HB2 := Lib.hid (balloc (Below.refl _ w1) (.cells #[.int .i64 3, .int .i64 1, .int .i64 0, .int .i64 2] 3))
  clear ho1 hb1 hR1 e1
  go_wp2_with fail
  refine hS.mono ?_
  rintro e w2 ⟨rfl, hb2⟩
  have hb12 := bstep HB2.out hb2
  have HRI2 := Lib.hid (HRI.out.below hb12)
  have HB3 := Lib.hid (bstep HB1.out hb12)
  clear hb2 hb12 hS
  go_wp2_with fail
  refine (HSD.out _ _ HRI2.out).mono ?_
  rintro e w3 ⟨rfl, hb3⟩
  have HRI3 := Lib.hid (HRI2.out.below hb3)
  have HB4 := Lib.hid (bstep HB3.out hb3)
  clear hb3
  go_wp2_with fail
  refine (HCK.out _ _ HRI3.out).mono ?_
  rintro e w4 ⟨rfl, rfl⟩
  go_wp2_with fail
  refine (HFR.out _ _ HRI3.out).mono ?_
  rintro e w5 ⟨rfl, hb5⟩
  go_wp2
  go_ret
  exact ⟨rfl, bstep HB4.out hb5⟩
end Go.Proofs.Ytfldaokegolhfaa
