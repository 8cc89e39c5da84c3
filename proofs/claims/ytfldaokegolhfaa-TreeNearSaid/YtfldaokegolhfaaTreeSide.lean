/- What tree.Side answers. -/
import Derived.Test.YtfldaokegolhfaaTreePath
namespace Go.Proofs.Ytfldaokegolhfaa
open Go.RowKit
set_option linter.unusedVariables false
set_option linter.unusedSimpArgs false

theorem or64T : ∀ m : Nat, m < 64 → ∀ q : Nat, q < 64 → bits .or .i64 (m : Int) (q : Int) = ((m ||| q : Nat) : Int) := by decide +kernel
theorem or_bit {q k : Nat} (hk : k < 6) (hq : q < 2 ^ k) : bits .or .i64 (q : Int) ((2 ^ k : Nat) : Int) = ((q + 2 ^ k : Nat) : Int) := by
  have h1 : 2 ^ k ≤ 32 := Nat.pow_le_pow_right (n := 2) (by omega) (show k ≤ 5 by omega)
  rw [or64T q (by omega) (2 ^ k) (by omega), Nat.or_comm, Nat.add_comm]
  have h := (Nat.two_pow_add_eq_or_of_lt hq 1).symm
  rw [Nat.mul_one] at h
  rw [h]
theorem shl_bit {k : Nat} (hk : k < 6) : Op.shift .shl .i64 1 .i64 (k : Int) = pure (.int .i64 ((2 ^ k : Nat) : Int)) := by
  rcases (show k = 0 ∨ k = 1 ∨ k = 2 ∨ k = 3 ∨ k = 4 ∨ k = 5 by omega) with rfl | rfl | rfl | rfl | rfl | rfl <;> rfl
theorem Tm.viaI_short {p : List Int} {a b k : Int} (h : (Tm.pathI p a k).length < 2) : Tm.viaI p a b k = false := by
  unfold Tm.viaI
  rw [List.getElem?_eq_none (by omega)]
theorem Tm.viaI_at {p : List Int} {a b k : Int} (h : 1 < (Tm.pathI p a k).length) : Tm.viaI p a b k = decide (((Tm.pathI p a k)[1] : Int) = b) := by
  unfold Tm.viaI
  rw [List.getElem?_eq_getElem h]

set_option maxRecDepth 100000 in
set_option maxHeartbeats 3200000 in
theorem tside_any (p : List Int) (a : Option Addr) (cap : Nat) (s t : Int) (w : World) (hl : p.length ≤ 9223372036854775807) (hr : RowIn KI w a p) :
    Calls Try.prog 18 #[.slice a p.length cap, .int .i64 s, .int .i64 t] w fun e w' => e = .returned (.int .i64 (Tm.sideI p s t : Int)) ∧ Below w.heap.size w w' := by
  have hc1 := tcheck_any p a cap w hl hr
  cases h1 : Tm.chkT p with
  | false =>
    have e : Tm.sideI p s t = 0 := by unfold Tm.sideI; rw [h1]; rfl
    rw [e]
    rw [h1] at hc1
    clear h1 e hr
    go_enter Try.func18, Try.ntmps18
    go_wp2_with fail
    try go_step3
    try go_wp2_with fail
    refine hc1.mono ?_
    rintro e w' ⟨rfl, rfl⟩
    go_wp2
    try rw [Exit.noGoto_ret]
    go_ret
    exact ⟨rfl, Below.refl _ _⟩
  | true =>
    rw [h1] at hc1
    have h6 := ((Tm.chkT_iff p).1 h1).n6
    have HS : Hid (Tm.sumB (fun k => Tm.viaI p s t (k : Int)) p.length = Tm.sideI p s t) := Lib.hid (by unfold Tm.sideI; rw [h1]; rfl)
    have hpath := fun (k : Nat) (W : World) (hR : RowIn KI W a p) => tpath_any p a cap s (k : Int) W hl hR
    have HV1 : Hid (∀ k : Nat, (Tm.pathI p s (k : Int)).length < 2 → Tm.viaI p s t (k : Int) = false) := Lib.hid (fun k h => Tm.viaI_short h)
    have HV2 : Hid (∀ (k : Nat) (h : 1 < (Tm.pathI p s (k : Int)).length), Tm.viaI p s t (k : Int) = decide (((Tm.pathI p s (k : Int))[1] : Int) = t)) := Lib.hid (fun k h => Tm.viaI_at h)
    have HPL : Hid (∀ k : Nat, (Tm.pathI p s (k : Int)).length ≤ 6) := Lib.hid (fun k => Tm.pathI_len p s (k : Int))
    generalize Tm.sideI p s t = R at HS ⊢
    have HG : Hid (∀ k : Nat, (fun (k : Nat) => Tm.viaI p s t (k : Int)) k = Tm.viaI p s t (k : Int)) := Lib.hid (fun _ => rfl)
    have HB : Hid (∀ k : Nat, k < p.length → Tm.sumB (fun k => Tm.viaI p s t (k : Int)) k < 2 ^ k) := Lib.hid (fun k _ => Tm.sumB_lt _ k)
    have HUP : Hid (∀ k : Nat, Tm.sumB (fun k => Tm.viaI p s t (k : Int)) (k + 1) = Tm.sumB (fun k => Tm.viaI p s t (k : Int)) k + if Tm.viaI p s t (k : Int) = true then 2 ^ k else 0) := Lib.hid (fun k => rfl)
    have HZ : Hid (Tm.sumB (fun k => Tm.viaI p s t (k : Int)) 0 = 0) := Lib.hid rfl
    generalize Tm.sumB (fun k => Tm.viaI p s t (k : Int)) = S at *
    have HR := Lib.hid hr
    clear hr h1 HG
    go_enter Try.func18, Try.ntmps18
    go_wp2_with fail
    go_step3
    go_wp2_with fail
    refine hc1.mono ?_
    rintro e w' ⟨rfl, rfl⟩
    go_wp2
    go_step3
    go_wp2
    go_loopw [7, 15] (fun o i wr => ∃ (k q : Nat), k ≤ p.length ∧ i = .int .i64 k ∧ o = .int .i64 (q : Int) ∧ Hid (q = S k) ∧ Below w.heap.size w wr) (fun _ i _ => p.length - (intOf i).toNat)
    case atStart => exact ⟨0, 0, by omega, rfl, rfl, Lib.hid HZ.out.symm, Below.refl _ _⟩
    case round =>
      obtain ⟨k, q, hk, rfl, rfl, HQ, hbel⟩ := hrel
      by_cases hlt : k < p.length
      · have hcon := hpath k wr (HR.out.below hbel)
        have hv1 := HV1.out k
        have hv2 := HV2.out k
        have hpl := HPL.out k
        have hq := HB.out k hlt
        rw [← HQ.out] at hq
        have hup := HUP.out k
        have hor := or_bit (show k < 6 by omega) hq
        have hsh := shl_bit (show k < 6 by omega)
        have hpw : 2 ^ k ≤ 32 := Nat.pow_le_pow_right (n := 2) (by omega) (show k ≤ 5 by omega)
        have hpw0 : 0 < 2 ^ k := Nat.two_pow_pos k
        have hwz : wrap64 ((2 : Int) ^ k) = ((2 ^ k : Nat) : Int) := by
          have e : ((2 : Int) ^ k) = ((2 ^ k : Nat) : Int) := by simp
          rw [e]
          unfold wrap64
          omega
        have HWZ := Lib.hid hwz
        clear hwz
        generalize Tm.viaI p s t (k : Int) = vb at hv1 hv2 hup
        generalize Tm.pathI p s (k : Int) = P at hv1 hv2 hpl hcon
        generalize 2 ^ k = z at *
        have HV1' := Lib.hid hv1
        have HV2' := Lib.hid hv2
        have HUP' := Lib.hid hup
        have HOR := Lib.hid hor
        clear hv1 hv2 hup hor
        go_wp2_with fail
        refine hcon.mono ?_
        rintro e w1 ⟨v1, rfl, ho1, hbl1⟩
        obtain ⟨va, vc, rfl⟩ := ho1.shape
        have hpl1 : (Tm.ln P).length = P.length := Tm.ln_len P
        have HC := Lib.hid (RowIn.of_own ki_ok ho1)
        have HLN := Lib.hid hpl1
        rw [hpl1]
        have HBB := Lib.hid (bstep hbel hbl1)
        clear ho1 hpl1 hcon hbl1
        by_cases hs : P.length < 2
        · have hsi : (P.length : Int) < 2 := by omega
          have HF := Lib.hid (HV1'.out hs)
          clear hs
          go_wp2
          go_roundw
          case rel => exact ⟨k + 1, q, by omega, by go_num, rfl, Lib.hid (by rw [HUP'.out, HF.out, HQ.out]; rfl), HBB.out⟩
          case measure => simp [intOf]; omega
        · have hsi : ¬ (P.length : Int) < 2 := by omega
          have hP1 : 1 < P.length := by omega
          have HF := Lib.hid (HV2'.out hP1)
          have hc := HC.out.int 1 (by rw [HLN.out]; exact hP1)
          rw [Tm.ln_get] at hc
          obtain ⟨b0, off0, rfl, hbl0, c0⟩ := hc
          generalize P[1] = x at HF c0
          by_cases hx : (x : Int) = t
          · have hb : ((x : Int) != t) = false := by simp [hx]
            have HT : Hid (vb = true) := Lib.hid (by rw [HF.out]; simpa using hx)
            clear hx
            go_wp2
            go_roundw
            case rel => exact ⟨k + 1, q + z, by omega, by go_num, by rw [HWZ.out, HOR.out], Lib.hid (by rw [HUP'.out, HT.out, HQ.out]; rfl), HBB.out⟩
            case measure => simp [intOf]; omega
          · have hb : ((x : Int) != t) = true := by simpa using hx
            have HT : Hid (vb = false) := Lib.hid (by rw [HF.out]; simpa using hx)
            clear hx
            go_wp2
            go_roundw
            case rel => exact ⟨k + 1, q, by omega, by go_num, rfl, Lib.hid (by rw [HUP'.out, HT.out, HQ.out]; rfl), HBB.out⟩
            case measure => simp [intOf]; omega
      · obtain rfl : k = p.length := by omega
        go_wp2
        try rw [Exit.noGoto_ret]
        go_ret
        exact ⟨ret_int (by rw [HQ.out, HS.out]), hbel⟩
end Go.Proofs.Ytfldaokegolhfaa
