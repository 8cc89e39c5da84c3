/- What tree.isSite, rises, Check and Near answer. -/
import Derived.Test.YtfldaokegolhfaaAppI
import Derived.Test.YtfldaokegolhfaaTreeMath2
import Derived.Deep.DeepCutAuto
namespace Go.Proofs.Ytfldaokegolhfaa
open Go.RowKit
set_option linter.unusedVariables false
set_option linter.unusedSimpArgs false

set_option maxRecDepth 100000 in
theorem isS_any (p : List Int) (a : Option Addr) (cap : Nat) (s : Int) (w : World) :
    Calls Try.prog 23 #[.slice a p.length cap, .int .i64 s] w fun e w' => e = .returned (.bool (Tm.isS p s)) ∧ w = w' := by
  by_cases h0 : 0 ≤ s
  · by_cases h1 : s < (p.length : Int)
    · have hs : Tm.isS p s = true := Tm.isS_iff.2 ⟨h0, h1⟩
      rw [hs]
      go_enter Try.func23, Try.ntmps23
      go_wp2
      go_ret
      exact ⟨rfl, rfl⟩
    · have hs : Tm.isS p s = false := Tm.isS_not.2 (by omega)
      rw [hs]
      go_enter Try.func23, Try.ntmps23
      go_wp2
      go_ret
      exact ⟨rfl, rfl⟩
  · have hs : Tm.isS p s = false := Tm.isS_not.2 (by omega)
    rw [hs]
    go_enter Try.func23, Try.ntmps23
    go_wp2
    go_ret
    exact ⟨rfl, rfl⟩

set_option maxRecDepth 100000 in
set_option maxHeartbeats 800000 in
theorem rises_any (p : List Int) (a : Option Addr) (cap : Nat) (s0 : Int) (w : World) (hl : p.length ≤ 1000000) (hr : RowIn KI w a p) :
    Calls Try.prog 28 #[.slice a p.length cap, .int .i64 s0] w fun e w' => e = .returned (.bool (Tm.riseB p s0)) ∧ w = w' := by
  have HR := Lib.hid hr
  have HX : Hid (Tm.riseF p (p.length - 0) s0 = Tm.riseB p s0) := Lib.hid rfl
  generalize Tm.riseB p s0 = X at HX ⊢
  clear hr
  go_enter Try.func28, Try.ntmps28
  go_wp2
  go_loop [1, 7] (fun q i => ∃ (k : Nat) (s : Int), k ≤ p.length ∧ i = .int .i64 k ∧ q = .int .i64 s ∧ Hid (Tm.riseF p (p.length - k) s = X)) (fun _ i => p.length - (intOf i).toNat)
  case atStart => exact ⟨0, s0, by omega, rfl, rfl, HX⟩
  case round =>
    obtain ⟨k, s, hk, rfl, rfl, HS⟩ := hrel
    by_cases hlt : k < p.length
    · have HK : Hid (p.length - k = (p.length - (k + 1)) + 1) := Lib.hid (by omega)
      have hcon := isS_any p a cap s w
      cases hs : Tm.isS p s with
      | false =>
        have HQ := Lib.hid hs
        rw [hs] at hcon
        clear hs
        go_wp2_with (go_at_call 23; refine hcon.mono ?_; rintro e w' ⟨rfl, rfl⟩)
        go_ret
        exact ⟨ret_bool (by rw [← HS.out]; exact (Tm.riseF_no HQ.out).symm), rfl⟩
      | true =>
        have HQ := Lib.hid hs
        rw [hs] at hcon
        obtain ⟨x, rfl, hx⟩ := Tm.isS_nat hs
        clear hs
        obtain ⟨b, off, rfl, hbl, c0⟩ := HR.out.int x hx
        have HP : Hid (Tm.par p ((x : Int).toNat) = p[x]) := Lib.hid (by rw [Int.toNat_natCast]; exact Tm.par_get p x hx)
        generalize p[x] = d at c0 HP
        by_cases hd : d = -1
        · have HD := Lib.hid hd
          have hb : (d == -1) = true := by simpa using hd
          clear hd
          go_wp2_with (go_at_call 23; refine hcon.mono ?_; rintro e w' ⟨rfl, rfl⟩)
          go_ret
          exact ⟨ret_bool (by rw [← HS.out, HK.out]; exact (Tm.riseF_root HQ.out (HP.out.trans HD.out)).symm), rfl⟩
        · have HD := Lib.hid hd
          have hb : (d == -1) = false := by simpa using hd
          clear hd
          go_wp2_with (go_at_call 23; refine hcon.mono ?_; rintro e w' ⟨rfl, rfl⟩)
          go_round
          case rel => exact ⟨k + 1, d, by omega, by go_num, rfl, Lib.hid (by rw [← HS.out, HK.out, Tm.riseF_up HQ.out (by rw [HP.out]; exact HD.out), HP.out])⟩
          case measure => simp [intOf]; omega
    · obtain rfl : k = p.length := by omega
      go_wp2
      go_ret
      exact ⟨ret_bool (by rw [← HS.out, Nat.sub_self]; rfl), rfl⟩

set_option maxRecDepth 100000 in
set_option maxHeartbeats 800000 in
theorem tcheck_any (p : List Int) (a : Option Addr) (cap : Nat) (w : World) (hl : p.length ≤ 9223372036854775807) (hr : RowIn KI w a p) :
    Calls Try.prog 16 #[.slice a p.length cap] w fun e w' => e = .returned (.bool (Tm.chkT p)) ∧ w = w' := by
  by_cases h6 : 6 < p.length
  · rw [Tm.chk_long h6]
    have h6i : (6 : Int) < (p.length : Int) := by omega
    go_enter Try.func16, Try.ntmps16
    go_wp2
    go_ret
    exact ⟨rfl, rfl⟩
  · have h6i : ¬ (6 : Int) < (p.length : Int) := by omega
    have HC : Hid (∀ i, i < p.length → Tm.riseB p (i : Int) = false → Tm.chkT p = false) := Lib.hid fun i hi hr => Tm.chk_fall hi hr
    have HE : Hid ((∀ i, i < p.length → Tm.riseB p (i : Int) = true) → Tm.chkT p = decide (p.count (-1) = 1)) := Lib.hid (Tm.chk_code (by omega))
    generalize Tm.chkT p = X at HC HE ⊢
    have HR := Lib.hid hr
    clear hr
    go_enter Try.func16, Try.ntmps16
    go_wp2
    go_loop [3, 11] (fun r i => ∃ (k c : Nat), k ≤ p.length ∧ i = .int .i64 k ∧ r = .int .i64 (c : Int) ∧ c ≤ k ∧ Hid ((p.take k).count (-1) = c) ∧ Hid (∀ i, i < k → Tm.riseB p (i : Int) = true)) (fun _ i => p.length - (intOf i).toNat)
    case atStart => exact ⟨0, 0, by omega, rfl, rfl, by omega, Lib.hid rfl, Lib.hid (fun i hi => by omega)⟩
    case round =>
      obtain ⟨k, c, hk, rfl, rfl, hck, HT, HA⟩ := hrel
      by_cases hlt : k < p.length
      · have hcon := rises_any p a cap (k : Int) w (by omega) HR.out
        obtain ⟨b, off, rfl, hbl, c0⟩ := HR.out.int k hlt
        have HP := Lib.hid (Tm.count_take hlt (-1))
        generalize p[k] = d at c0 HP
        cases hs : Tm.riseB p (k : Int) with
        | false =>
          have HQ := Lib.hid hs
          rw [hs] at hcon
          clear hs
          go_wp2_with (go_at_call 28; refine hcon.mono ?_; rintro e w' ⟨rfl, rfl⟩)
          go_ret
          exact ⟨ret_bool (HC.out k hlt HQ.out).symm, rfl⟩
        | true =>
          have HQ : Hid (∀ i, i < k + 1 → Tm.riseB p (i : Int) = true) := Lib.hid (fun i hi => by
            by_cases e : i = k
            · rw [e]; exact hs
            · exact HA.out i (by omega))
          rw [hs] at hcon
          clear hs
          by_cases hd : d = -1
          · have HD := Lib.hid hd
            have hb : (d == -1) = true := by simpa using hd
            clear hd
            go_wp2_with (go_at_call 28; refine hcon.mono ?_; rintro e w' ⟨rfl, rfl⟩)
            go_round
            case rel => exact ⟨k + 1, c + 1, by omega, by go_num, by go_num, by omega, Lib.hid (by rw [HP.out, HT.out, HD.out]; rfl), HQ⟩
            case measure => simp [intOf]; omega
          · have HD := Lib.hid hd
            have hb : (d == -1) = false := by simpa using hd
            clear hd
            go_wp2_with (go_at_call 28; refine hcon.mono ?_; rintro e w' ⟨rfl, rfl⟩)
            go_round
            case rel => exact ⟨k + 1, c, by omega, by go_num, rfl, by omega, Lib.hid (by rw [HP.out, HT.out, if_neg HD.out]; rfl), HQ⟩
            case measure => simp [intOf]; omega
      · obtain rfl : k = p.length := by omega
        go_wp2
        go_ret
        refine ⟨ret_bool ?_, rfl⟩
        rw [HE.out HA.out]
        have := HT.out
        rw [List.take_length] at this
        rw [this, Bool.eq_iff_iff]
        simp
        try omega

set_option maxRecDepth 100000 in
set_option maxHeartbeats 1600000 in
theorem tnear_any (p : List Int) (a : Option Addr) (cap : Nat) (s : Int) (w : World) (hl : p.length ≤ 9223372036854775807) (hr : RowIn KI w a p) :
    Calls Try.prog 12 #[.slice a p.length cap, .int .i64 s] w fun e w' => ∃ v, e = .returned v ∧ OwnR KI w' w.heap.size v (Tm.ln (Tm.nearI p s)) ∧ Below w.heap.size w w' := by
  have hc1 := tcheck_any p a cap w hl hr
  have hc2 := isS_any p a cap s w
  have HI : Hid (Tm.okS p s = (Tm.chkT p && Tm.isS p s)) := Lib.hid rfl
  have HR := Lib.hid hr
  clear hr
  cases hs : Tm.okS p s with
  | false =>
    have e : Tm.nearI p s = [] := by unfold Tm.nearI; rw [hs]; rfl
    rw [e]
    rw [HI.out] at hs
    clear HI
    cases h1 : Tm.chkT p with
    | false =>
      rw [h1] at hc1
      clear hs h1 e
      go_enter Try.func12, Try.ntmps12
      go_wp2_with fail
      go_step3
      go_wp2_with (go_at_call 16; refine hc1.mono ?_; rintro e w' ⟨rfl, rfl⟩)
      try rw [Exit.noGoto_ret]
      go_ret
      exact ⟨_, rfl, OwnR.nil _ _ _, Below.refl _ _⟩
    | true =>
      rw [h1] at hs hc1
      rw [Bool.true_and] at hs
      rw [hs] at hc2
      clear hs h1 e
      go_enter Try.func12, Try.ntmps12
      go_wp2_with fail
      go_step3
      go_wp2_with (first | (go_at_call 16; refine hc1.mono ?_; rintro e w' ⟨rfl, rfl⟩) | (go_at_call 23; refine hc2.mono ?_; rintro e w' ⟨rfl, rfl⟩))
      try rw [Exit.noGoto_ret]
      go_ret
      exact ⟨_, rfl, OwnR.nil _ _ _, Below.refl _ _⟩
  | true =>
    obtain ⟨ht, x, rfl, hx⟩ := Tm.okS_some hs
    have h6 := ht.n6
    have e : Tm.nearI p (x : Int) = Tm.nearL p x := by unfold Tm.nearI; rw [hs, Int.toNat_natCast]; rfl
    rw [e]
    rw [HI.out, Bool.and_eq_true] at hs
    rw [hs.1] at hc1
    rw [hs.2] at hc2
    have HN : Hid (Tm.nearK p x p.length = Tm.nearL p x) := Lib.hid rfl
    generalize Tm.nearL p x = R at HN ⊢
    clear hs HI e ht
    go_enter Try.func12, Try.ntmps12
    go_wp2_with fail
    go_step3
    go_wp2_with (first | (go_at_call 16; refine hc1.mono ?_; rintro e w' ⟨rfl, rfl⟩) | (go_at_call 23; refine hc2.mono ?_; rintro e w' ⟨rfl, rfl⟩))
    go_step3
    go_wp2
    go_loopw [5, 19] (fun o i wr => ∃ k : Nat, k ≤ p.length ∧ i = .int .i64 k ∧ OwnR KI wr w.heap.size o (Tm.ln (Tm.nearK p x k)) ∧ Below w.heap.size w wr) (fun _ i _ => p.length - (intOf i).toNat)
    case atStart => exact ⟨0, by omega, rfl, OwnR.nil _ _ _, Below.refl _ _⟩
    case round =>
      obtain ⟨k, hk, rfl, ho, hbel⟩ := hrel
      obtain ⟨sa, sc, rfl⟩ := ho.shape
      by_cases hlt : k < p.length
      · obtain ⟨b, off, rfl, hbl, c0⟩ := (HR.out.below hbel).int k hlt
        obtain ⟨b1, off1, e1, hbl1, c1⟩ := (HR.out.below hbel).int x hx
        cases e1
        have hP0 := Tm.par_get p k hlt
        have hP1 := Tm.par_get p x hx
        have hyes := @Tm.nearK_yes p x k
        have hno := @Tm.nearK_no p x k
        rw [hP0, hP1] at hyes hno
        have hlen := Tm.nearK_len p x k
        have hbs : w.heap.size ≤ wr.heap.size := hbel.size
        have hll : (Tm.ln (Tm.nearK p x k)).length ≤ 6 := by rw [Tm.ln_len]; omega
        have hoa := ho.below (balloc (Below.refl _ wr) (.cells #[.int .i64 (k : Int)] 3))
        have HY := Lib.hid hyes
        have HNO := Lib.hid hno
        have HO := Lib.hid ho
        generalize p[k] = d at c0 HY HNO
        generalize p[x] = u at c1 HY HNO
        clear hP0 hP1 hyes hno ho hoa hlen
        by_cases hd : d = (x : Int)
        · have HD := Lib.hid hd
          have hb : (d != (x : Int)) = false := by simpa using hd
          clear hd
          go_wp2_with (at_builtin; refine wp_pushR ki_ok (wr := wr) rfl _ _ rfl w.heap.size (.slice sa (Tm.ln (Tm.nearK p x k)).length sc) (Tm.ln (Tm.nearK p x k)) (k : Int) #[.int .i64 (k : Int)] rfl rfl HO.out rfl (by omega) hbs ?_; intro g4 cap4 w4 ho4 hb4 hk4 hat4 hlt4)
          go_roundw
          case rel => exact ⟨k + 1, by omega, by go_num, by rw [HY.out (.inr HD.out), Tm.ln_app]; exact ho4, hbel.trans hb4⟩
          case measure => simp [intOf]; omega
        · by_cases hu : u = (k : Int)
          · have HD := Lib.hid hu
            have hb : (d != (x : Int)) = true := by simpa using hd
            have hb2 : (u != (k : Int)) = false := by simpa using hu
            clear hd hu
            go_wp2_with (at_builtin; refine wp_pushR ki_ok (wr := wr) rfl _ _ rfl w.heap.size (.slice sa (Tm.ln (Tm.nearK p x k)).length sc) (Tm.ln (Tm.nearK p x k)) (k : Int) #[.int .i64 (k : Int)] rfl rfl HO.out rfl (by omega) hbs ?_; intro g4 cap4 w4 ho4 hb4 hk4 hat4 hlt4)
            go_roundw
            case rel => exact ⟨k + 1, by omega, by go_num, by rw [HY.out (.inl HD.out), Tm.ln_app]; exact ho4, hbel.trans hb4⟩
            case measure => simp [intOf]; omega
          · have hb : (d != (x : Int)) = true := by simpa using hd
            have hb2 : (u != (k : Int)) = true := by simpa using hu
            have HD := Lib.hid hd
            have HU := Lib.hid hu
            clear hd hu
            go_wp2
            go_roundw
            case rel => exact ⟨k + 1, by omega, by go_num, by rw [HNO.out HU.out HD.out]; exact HO.out, hbel⟩
            case measure => simp [intOf]; omega
      · obtain rfl : k = p.length := by omega
        have HO := Lib.hid ho
        clear ho
        go_wp2
        try rw [Exit.noGoto_ret]
        go_ret
        exact ⟨_, rfl, by rw [← HN.out]; exact HO.out, hbel⟩
end Go.Proofs.Ytfldaokegolhfaa
