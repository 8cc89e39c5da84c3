/- What archipelagoref08's Check, there, Near, up and Same answer. -/
import Derived.Test.YthjjidfoclcghaaGR16
import Derived.Deep.DeepCutAuto
import Derived.RegionTactic
namespace Go.Proofs.Ythjjidfoclcghaa
open Go.RowKit
set_option linter.unusedVariables false
set_option linter.unusedSimpArgs false

set_option maxRecDepth 100000 in
set_option maxHeartbeats 1600000 in
theorem refTCheck_any (p : List Int) (a : Option Addr) (cap : Nat) (w : World) (hl : p.length ≤ 9223372036854775807) (hr : RowIn KI w a p) :
    Calls Try.prog 35 #[.slice a p.length cap] w fun e w' => e = .returned (.bool (Tm.chkT p)) ∧ w = w' := by
  by_cases h1 : p.length < 1
  · rw [Tm.chk_nil h1]
    have h1i : (p.length : Int) < 1 := by omega
    go_enter Try.func35, Try.ntmps35
    go_wp2
    go_ret
    exact ⟨rfl, rfl⟩
  · by_cases h6 : 6 < p.length
    · rw [Tm.chk_long h6]
      have h1i : ¬ (p.length : Int) < 1 := by omega
      have h6i : (6 : Int) < (p.length : Int) := by omega
      go_enter Try.func35, Try.ntmps35
      go_wp2
      go_ret
      exact ⟨rfl, rfl⟩
    · have h1i : ¬ (p.length : Int) < 1 := by omega
      have h6i : ¬ (6 : Int) < (p.length : Int) := by omega
      have HG : Hid (∀ i, i < p.length → ¬ (-1 ≤ Tm.par p i ∧ Tm.par p i < (p.length : Int)) → Tm.chkT p = false) := Lib.hid fun i hi hr => Tm.chk_range hi hr
      have HC : Hid (∀ i, i < p.length → Tm.stp p 7 (i : Int) ≠ -1 → Tm.chkT p = false) := Lib.hid fun i hi hr => Tm.chk_stp hi hr
      have HE : Hid ((∀ i, i < p.length → (-1 ≤ Tm.par p i ∧ Tm.par p i < (p.length : Int)) ∧ Tm.stp p 7 (i : Int) = -1) → Tm.chkT p = decide (p.count (-1) = 1)) := Lib.hid (Tm.chk_ref (by omega) (by omega))
      generalize Tm.chkT p = X at HG HC HE ⊢
      have HR := Lib.hid hr
      clear hr
      go_enter Try.func35, Try.ntmps35
      go_wp2
      go_loop [3, 4] (fun r i => ∃ (k c : Nat), k ≤ p.length ∧ i = .int .i64 k ∧ r = .int .i64 (c : Int) ∧ c ≤ k ∧ Hid ((p.take k).count (-1) = c) ∧ Hid (∀ i, i < k → (-1 ≤ Tm.par p i ∧ Tm.par p i < (p.length : Int)) ∧ Tm.stp p 7 (i : Int) = -1)) (fun _ i => p.length - (intOf i).toNat)
      case atStart => exact ⟨0, 0, by omega, rfl, rfl, by omega, Lib.hid rfl, Lib.hid (fun i hi => by omega)⟩
      case round =>
        obtain ⟨k, c, hk, rfl, rfl, hck, HT, HA⟩ := hrel
        by_cases hlt : k < p.length
        · obtain ⟨b, off, rfl, hbl, c0⟩ := HR.out.int k hlt
          have HP := Lib.hid (Tm.count_take hlt (-1))
          have HV := Lib.hid (Tm.par_get p k hlt)
          generalize p[k] = d at c0 HP HV
          by_cases hd1 : d < -1
          · have HD := Lib.hid hd1
            go_wp2
            go_ret
            exact ⟨ret_bool (HG.out k hlt (by rw [HV.out]; have := HD.out; omega)).symm, rfl⟩
          · by_cases hd2 : (p.length : Int) ≤ d
            · have HD := Lib.hid hd2
              go_wp2
              go_ret
              exact ⟨ret_bool (HG.out k hlt (by rw [HV.out]; have := HD.out; omega)).symm, rfl⟩
            · have HB : Hid (-1 ≤ Tm.par p k ∧ Tm.par p k < (p.length : Int)) := Lib.hid (by rw [HV.out]; omega)
              have HN : ∃ c2 : Nat, c2 ≤ k + 1 ∧ Hid ((p.take (k + 1)).count (-1) = c2) ∧ Hid (c2 = if d = -1 then c + 1 else c) := by
                by_cases e : d = -1
                · exact ⟨c + 1, by omega, Lib.hid (by rw [HP.out, HT.out, if_pos e]), Lib.hid (by rw [if_pos e])⟩
                · exact ⟨c, by omega, Lib.hid (by rw [HP.out, HT.out, if_neg e]; rfl), Lib.hid (by rw [if_neg e])⟩
              obtain ⟨c2, hc2, HT2, HC2⟩ := HN
              go_upto_if 39 with (fail)
              go_cut [3] (fun r wx => r = .int .i64 (c2 : Int) ∧ w = wx)
              case first =>
                by_cases e : d = -1
                · have hb : (d == -1) = true := by simpa using e
                  have HE2 := Lib.hid e
                  clear e
                  go_wp2
                  go_meet
                  exact ⟨by rw [HC2.out, if_pos HE2.out]; go_num, rfl⟩
                · have hb : (d == -1) = false := by simpa using e
                  have HE2 := Lib.hid e
                  clear e
                  go_wp2
                  go_meet
                  exact ⟨by rw [HC2.out, if_neg HE2.out], rfl⟩
              case rest =>
                obtain ⟨rfl, rfl⟩ := hcut
                go_wp2
                go_loop [5, 6] (fun q i => ∃ (m : Nat), m ≤ 7 ∧ i = .int .i64 m ∧ q = .int .i64 (Tm.stp p m (k : Int)) ∧ -1 ≤ Tm.stp p m (k : Int) ∧ Tm.stp p m (k : Int) < (p.length : Int)) (fun _ i => 7 - (intOf i).toNat)
                case atStart => exact ⟨0, by omega, rfl, rfl, by rw [Tm.stp]; omega, by rw [Tm.stp]; omega⟩
                case round =>
                  obtain ⟨m, hm, rfl, rfl, hs1, hs2⟩ := hrel
                  have HS := Lib.hid (Tm.stp_succ p m (k : Int))
                  have HL : Hid (Tm.stp p m (k : Int) < 0 → Tm.stp p 7 (k : Int) = Tm.stp p m (k : Int)) := Lib.hid (Tm.stp_low p m 7 (k : Int) hm)
                  have HZ : Hid (m = 7 → Tm.stp p 7 (k : Int) = Tm.stp p m (k : Int)) := Lib.hid (fun e => by rw [e])
                  generalize Tm.stp p m (k : Int) = s at *
                  by_cases hgo : m < 7 ∧ 0 ≤ s
                  · obtain ⟨hm7, hs0⟩ := hgo
                    obtain ⟨x, rfl⟩ : ∃ x : Nat, s = (x : Int) := ⟨s.toNat, by omega⟩
                    have hxl : x < p.length := by omega
                    obtain ⟨b2, off2, e2, hbl2, c2⟩ := HR.out.int x hxl
                    cases e2
                    have HX := Lib.hid (Tm.par_get p x hxl)
                    have HS2 : Hid (Tm.stp p (m + 1) (k : Int) = p[x]) := Lib.hid (by rw [HS.out, if_pos (by omega), Int.toNat_natCast, HX.out])
                    generalize p[x] = y at c2 HX HS2
                    have hm7i : (m : Int) < 7 := by omega
                    by_cases hy1 : y < -1
                    · have HD := Lib.hid hy1
                      go_wp2
                      go_ret
                      exact ⟨ret_bool (HG.out x hxl (by rw [HX.out]; have := HD.out; omega)).symm, rfl⟩
                    · by_cases hy2 : (p.length : Int) ≤ y
                      · have HD := Lib.hid hy2
                        go_wp2
                        go_ret
                        exact ⟨ret_bool (HG.out x hxl (by rw [HX.out]; have := HD.out; omega)).symm, rfl⟩
                      · go_wp2
                        go_round
                        case rel => exact ⟨m + 1, by omega, by go_num, by rw [HS2.out], by rw [HS2.out]; omega, by rw [HS2.out]; omega⟩
                        case measure => simp [intOf]; omega
                  · have HF : Hid (Tm.stp p 7 (k : Int) = s) := Lib.hid (by
                      by_cases e : m = 7
                      · exact HZ.out e
                      · exact HL.out (by omega))
                    rcases (show (decide (m < 7) = false ∧ decide ((m : Int) < 7) = false) ∨ (decide (m < 7) = true ∧ decide ((m : Int) < 7) = true ∧ decide (0 ≤ s) = false) by simp; omega) with ⟨q1, q2⟩ | ⟨q1, q2, q3⟩
                    all_goals
                      clear hgo
                      by_cases hs : s = -1
                      · have hb : (s != -1) = false := by simpa using hs
                        have HS1 := Lib.hid hs
                        clear hs
                        go_wp2
                        go_round
                        case rel => exact ⟨k + 1, c2, by omega, by go_num, rfl, hc2, HT2, Lib.hid (fun i hi => by
                          by_cases e : i = k
                          · rw [e]; exact ⟨HB.out, by rw [HF.out]; exact HS1.out⟩
                          · exact HA.out i (by omega))⟩
                        case measure => simp [intOf]; omega
                      · have hb : (s != -1) = true := by simpa using hs
                        have HS1 := Lib.hid hs
                        clear hs
                        go_wp2
                        go_ret
                        exact ⟨ret_bool (HC.out k hlt (by rw [HF.out]; exact HS1.out)).symm, rfl⟩
        · obtain rfl : k = p.length := by omega
          go_wp2
          go_ret
          refine ⟨ret_bool ?_, rfl⟩
          rw [HE.out HA.out]
          have := HT.out
          rw [List.take_length] at this
          rw [this, Bool.eq_iff_iff]
          simp
          try omega

set_option maxRecDepth 100000 in
set_option maxHeartbeats 800000 in
theorem there_any (p : List Int) (a : Option Addr) (cap : Nat) (s : Int) (w : World) (hl : p.length ≤ 9223372036854775807) (hr : RowIn KI w a p) :
    Calls Try.prog 40 #[.slice a p.length cap, .int .i64 s] w fun e w' => e = .returned (.bool (Tm.okS p s)) ∧ w = w' := by
  have hcon := refTCheck_any p a cap w hl hr
  rw [Tm.okS_eq]
  clear hr
  cases hc : Tm.chkT p with
  | false =>
    rw [hc] at hcon
    rw [Bool.false_and]
    clear hc
    go_enter Try.func40, Try.ntmps40
    go_wp2_with fail
    refine hcon.mono ?_
    rintro e w' ⟨rfl, rfl⟩
    go_wp2
    go_ret
    exact ⟨rfl, rfl⟩
  | true =>
    rw [hc] at hcon
    rw [Bool.true_and]
    clear hc
    by_cases h0 : 0 ≤ s
    · by_cases h1 : s < (p.length : Int)
      · rw [Tm.isS_iff.2 ⟨h0, h1⟩]
        go_enter Try.func40, Try.ntmps40
        go_wp2_with fail
        refine hcon.mono ?_
        rintro e w' ⟨rfl, rfl⟩
        go_wp2
        go_ret
        exact ⟨rfl, rfl⟩
      · rw [Tm.isS_not.2 (by omega)]
        have hb : decide (s < (p.length : Int)) = false := by simpa using h1
        go_enter Try.func40, Try.ntmps40
        go_wp2_with fail
        refine hcon.mono ?_
        rintro e w' ⟨rfl, rfl⟩
        go_wp2
        go_ret
        exact ⟨rfl, rfl⟩
    · rw [Tm.isS_not.2 (by omega)]
      have hb : decide (0 ≤ s) = false := by simpa using h0
      go_enter Try.func40, Try.ntmps40
      go_wp2_with fail
      refine hcon.mono ?_
      rintro e w' ⟨rfl, rfl⟩
      go_wp2
      go_ret
      exact ⟨rfl, rfl⟩

set_option maxRecDepth 100000 in
set_option maxHeartbeats 1600000 in
theorem refTNear_any (p : List Int) (a : Option Addr) (cap : Nat) (s : Int) (w : World) (hl : p.length ≤ 9223372036854775807) (hr : RowIn KI w a p) :
    Calls Try.prog 28 #[.slice a p.length cap, .int .i64 s] w fun e w' => ∃ v, e = .returned v ∧ OwnR KI w' w.heap.size v (Tm.ln (Tm.nearI p s)) ∧ Below w.heap.size w w' := by
  have hc1 := there_any p a cap s w hl hr
  have HR := Lib.hid hr
  clear hr
  cases hs : Tm.okS p s with
  | false =>
    have e : Tm.nearI p s = [] := by unfold Tm.nearI; rw [hs]; rfl
    rw [e]
    rw [hs] at hc1
    clear hs e
    go_enter Try.func28, Try.ntmps28
    go_wp2_with fail
    refine hc1.mono ?_
    rintro e w' ⟨rfl, rfl⟩
    go_wp2
    go_loopw [5, 7] (fun o i wr => o = .slice none 0 0 ∧ i = .int .i64 (0 : Nat) ∧ w = wr) (fun _ i _ => 0)
    case atStart => exact ⟨rfl, rfl, rfl⟩
    case round =>
      obtain ⟨rfl, rfl, rfl⟩ := hrel
      by_cases h0 : 0 < p.length
      · go_wp2
        go_ret
        exact ⟨_, rfl, OwnR.nil _ _ _, Below.refl _ _⟩
      · go_wp2
        go_ret
        exact ⟨_, rfl, OwnR.nil _ _ _, Below.refl _ _⟩
  | true =>
    obtain ⟨ht, x, rfl, hx⟩ := Tm.okS_some hs
    have h6 := ht.n6
    have e : Tm.nearI p (x : Int) = Tm.nearL p x := by unfold Tm.nearI; rw [hs, Int.toNat_natCast]; rfl
    rw [e]
    rw [hs] at hc1
    have HN : Hid (Tm.nearK p x p.length = Tm.nearL p x) := Lib.hid rfl
    generalize Tm.nearL p x = R at HN ⊢
    clear hs e ht
    go_enter Try.func28, Try.ntmps28
    go_wp2_with fail
    refine hc1.mono ?_
    rintro e w' ⟨rfl, rfl⟩
    go_wp2
    go_loopw [5, 7] (fun o i wr => ∃ k : Nat, k ≤ p.length ∧ i = .int .i64 k ∧ OwnR KI wr w.heap.size o (Tm.ln (Tm.nearK p x k)) ∧ Below w.heap.size w wr) (fun _ i _ => p.length - (intOf i).toNat)
    case atStart => exact ⟨0, by omega, rfl, OwnR.nil _ _ _, Below.refl _ _⟩
    case round =>
      obtain ⟨k, hk, rfl, ho, hbel⟩ := hrel
      obtain ⟨sa, sc, rfl⟩ := ho.shape
      by_cases hlt : k < p.length
      · obtain ⟨b, off, rfl, hbl, c0⟩ := (HR.out.below hbel).int k hlt
        obtain ⟨b1, off1, e1, hbl1, c1⟩ := (HR.out.below hbel).int x hx
        cases e1
        have hP0 := Tm.par_get p k hlt
        have hP1 := Tm.par_get p x hx
        have hyes := @Tm.nearK_yes p x k
        have hno := @Tm.nearK_no p x k
        rw [hP0, hP1] at hyes hno
        have hlen := Tm.nearK_len p x k
        have hbs : w.heap.size ≤ wr.heap.size := hbel.size
        have hll : (Tm.ln (Tm.nearK p x k)).length ≤ 6 := by rw [Tm.ln_len]; omega
        have HY := Lib.hid hyes
        have HNO := Lib.hid hno
        have HO := Lib.hid ho
        generalize p[k] = d at c0 HY HNO
        generalize p[x] = u at c1 HY HNO
        clear hP0 hP1 hyes hno ho hlen
        by_cases hu : u = (k : Int)
        · have HD := Lib.hid hu
          have hb : (u == (k : Int)) = true := by simpa using hu
          clear hu
          go_wp2_with (at_builtin; refine wp_pushR ki_ok (wr := wr) rfl _ _ rfl w.heap.size (.slice sa (Tm.ln (Tm.nearK p x k)).length sc) (Tm.ln (Tm.nearK p x k)) (k : Int) #[.int .i64 (k : Int)] rfl rfl HO.out rfl (by omega) hbs ?_; intro g4 cap4 w4 ho4 hb4 hk4 hat4 hlt4)
          go_roundw
          case rel => exact ⟨k + 1, by omega, by go_num, by rw [HY.out (.inl HD.out), Tm.ln_app]; exact ho4, hbel.trans hb4⟩
          case measure => simp [intOf]; omega
        · by_cases hd : d = (x : Int)
          · have HD := Lib.hid hd
            have hb : (u == (k : Int)) = false := by simpa using hu
            have hb2 : (d == (x : Int)) = true := by simpa using hd
            clear hd hu
            go_wp2_with (at_builtin; refine wp_pushR ki_ok (wr := wr) rfl _ _ rfl w.heap.size (.slice sa (Tm.ln (Tm.nearK p x k)).length sc) (Tm.ln (Tm.nearK p x k)) (k : Int) #[.int .i64 (k : Int)] rfl rfl HO.out rfl (by omega) hbs ?_; intro g4 cap4 w4 ho4 hb4 hk4 hat4 hlt4)
            go_roundw
            case rel => exact ⟨k + 1, by omega, by go_num, by rw [HY.out (.inr HD.out), Tm.ln_app]; exact ho4, hbel.trans hb4⟩
            case measure => simp [intOf]; omega
          · have hb : (u == (k : Int)) = false := by simpa using hu
            have hb2 : (d == (x : Int)) = false := by simpa using hd
            have HD := Lib.hid hd
            have HU := Lib.hid hu
            clear hd hu
            go_wp2
            go_roundw
            case rel => exact ⟨k + 1, by omega, by go_num, by rw [HNO.out HU.out HD.out]; exact HO.out, hbel⟩
            case measure => simp [intOf]; omega
      · obtain rfl : k = p.length := by omega
        have HO := Lib.hid ho
        clear ho
        go_wp2
        go_ret
        exact ⟨_, rfl, by rw [← HN.out]; exact HO.out, hbel⟩

set_option maxRecDepth 100000 in
set_option maxHeartbeats 1600000 in
theorem refUp_any (p : List Int) (ht : Tm.Tr p) (a : Option Addr) (cap x : Nat) (w : World) (hx : x < p.length) (hr : RowIn KI w a p) :
    Calls Try.prog 42 #[.slice a p.length cap, .int .i64 (x : Int)] w fun e w' => ∃ v, e = .returned v ∧ OwnR KI w' w.heap.size v (Tm.ln (Tm.U p x)) ∧ Below w.heap.size w w' := by
  have HR := Lib.hid hr
  have HT := Lib.hid ht
  have h6 := ht.n6
  have hul := ht.U_len hx
  generalize hR : Tm.U p x = R at hul ⊢
  have HU : Hid ([] ++ Tm.U p x = R) := Lib.hid hR
  clear hR
  have hR6 : R.length ≤ 6 := by omega
  clear hr ht hul
  go_enter Try.func42, Try.ntmps42
  go_wp2
  go_loopw [1, 5] (fun i o wr => ∃ (acc : List Nat) (y : Int), i = .int .i64 y ∧ (y = -1 ∨ (0 ≤ y ∧ y < (p.length : Int))) ∧ Hid (acc ++ Tm.U p y = R) ∧ OwnR KI wr w.heap.size o (Tm.ln acc) ∧ Below w.heap.size w wr) (fun i _ _ => (Tm.U p (intOf i)).length)
  case atStart => exact ⟨[], (x : Int), rfl, .inr ⟨by omega, by omega⟩, HU, OwnR.nil _ _ _, Below.refl _ _⟩
  case round =>
    obtain ⟨acc, y, rfl, hy, HA, ho, hbel⟩ := hrel
    obtain ⟨sa, sc, rfl⟩ := ho.shape
    have HO := Lib.hid ho
    clear ho
    rcases hy with hy | ⟨hy0, hy1⟩
    · have hy0 : y < 0 := by omega
      have HE : Hid (acc = R) := Lib.hid (by have := HA.out; rw [Tm.U_neg p hy0, List.append_nil] at this; exact this)
      clear hy
      go_wp2
      go_ret
      exact ⟨_, rfl, by rw [← HE.out]; exact HO.out, hbel⟩
    · obtain ⟨z, rfl⟩ : ∃ z : Nat, y = (z : Int) := ⟨y.toNat, by omega⟩
      have hz : z < p.length := by omega
      obtain ⟨b, off, rfl, hbl, c0⟩ := (HR.out.below hbel).int z hz
      have HS := Lib.hid (HT.out.step z hz)
      have hrg := HT.out.rg z hz
      have HP := Lib.hid (Tm.par_get p z hz)
      rw [HP.out] at hrg
      have hla : (Tm.ln acc).length ≤ 6 := by
        have h1 := congrArg List.length HA.out
        rw [List.length_append] at h1
        rw [Tm.ln_len]
        omega
      have hbs : w.heap.size ≤ wr.heap.size := hbel.size
      have HC : Hid (∀ w4, Below w.heap.size wr w4 → w4.cell? ⟨b, off + z, none⟩ = some (.int .i64 p[z])) := Lib.hid (fun w4 hb4 => by
        obtain ⟨b', off', e', _, c'⟩ := (HR.out.below (hbel.trans hb4)).int z hz
        cases e'
        exact c')
      generalize p[z] = d at c0 HP hrg HC
      go_wp2_with (at_builtin; refine wp_pushR ki_ok (wr := wr) rfl _ _ rfl w.heap.size (.slice sa (Tm.ln acc).length sc) (Tm.ln acc) (z : Int) #[.int .i64 (z : Int)] rfl rfl HO.out rfl (by omega) hbs ?_; intro g4 cap4 w4 ho4 hb4 hk4 hat4 hlt4; have hc4 := HC.out w4 hb4)
      go_roundw
      case rel => exact ⟨acc ++ [z], d, rfl, by omega, Lib.hid (by rw [← HA.out, HS.out, HP.out, List.append_assoc]; rfl), by rw [Tm.ln_app]; exact ho4, hbel.trans hb4⟩
      case measure =>
        simp only [intOf]
        rw [HS.out, HP.out]
        simp

set_option maxRecDepth 100000 in
set_option maxHeartbeats 1600000 in
theorem refTSame_any (v u : Value) (l m : List Int) (w : World) (hl : l.length ≤ 1000000) (hv : RowAt KI w v l) (hu : RowAt KI w u m) :
    Calls Try.prog 11 #[v, u] w fun e w' => e = .returned (.bool (decide (l = m))) ∧ Below w.heap.size w w' := by
  obtain ⟨a, cap, rfl, _, hmx, _, hr⟩ := hv
  obtain ⟨a2, cap2, rfl, hcp2, hmx2, _, hr2⟩ := hu
  unfold maxLen at hmx2
  have HR := Lib.hid hr
  have HR2 := Lib.hid hr2
  clear hr hr2
  by_cases hlen : l.length = m.length
  · have hb : ((l.length : Int) != (m.length : Int)) = false := by simp [hlen]
    have hb1 : (l.length != m.length) = false := by simp [hlen]
    have HL := Lib.hid hlen
    have hlm : m.length ≤ 1000000 := by omega
    generalize hn : m.length = n at *
    have HN := Lib.hid hn
    generalize hn2 : l.length = n2 at *
    have HN2 := Lib.hid hn2
    clear hn hn2
    subst hlen
    have HX : Hid ((∀ i (h : i < l.length) (h' : i < m.length), l[i] = m[i]) → decide (l = m) = true) := Lib.hid (fun h => by
      rw [decide_eq_true_eq]
      exact List.ext_getElem (by rw [HN.out, HN2.out]) h)
    have HY : Hid (∀ i (h : i < l.length) (h' : i < m.length), l[i] ≠ m[i] → decide (l = m) = false) := Lib.hid (fun i h h' hne => by
      rw [decide_eq_false_iff_not]
      intro e
      subst e
      exact hne rfl)
    generalize decide (l = m) = X at HX HY ⊢
    go_enter Try.func11, Try.ntmps11
    go_wp2
    go_loopw [5] (fun i wr => ∃ k : Nat, k ≤ n2 ∧ i = .int .i64 k ∧ Hid (∀ i (h : i < l.length) (h' : i < m.length), i < k → l[i] = m[i]) ∧ Below w.heap.size w wr) (fun i _ => n2 - (intOf i).toNat)
    case atStart => exact ⟨0, by omega, rfl, Lib.hid (fun i _ _ h => by omega), Below.refl _ _⟩
    case round =>
      obtain ⟨k, hk, rfl, HA, hbel⟩ := hrel
      by_cases hlt : k < n2
      · have h1 : k < l.length := by have := HN2.out; omega
        have h2 : k < m.length := by have := HN.out; omega
        obtain ⟨b, off, rfl, hbl, c0⟩ := (HR.out.below hbel).int k h1
        obtain ⟨b2, off2, rfl, hbl2, c2⟩ := (HR2.out.below hbel).int k h2
        have HK : Hid (l[k] = m[k] → ∀ i (h : i < l.length) (h' : i < m.length), i < k + 1 → l[i] = m[i]) := Lib.hid (fun e i h h' hi => by
          by_cases e2 : i = k
          · subst e2; exact e
          · exact HA.out i h h' (by omega))
        have HZ := Lib.hid (HY.out k h1 h2)
        generalize l[k] = x at c0 HK HZ
        generalize m[k] = y at c2 HK HZ
        clear h1 h2
        by_cases he : x = y
        · have HE := Lib.hid he
          have hb3 : (x != y) = false := by simpa using he
          clear he
          go_wp2
          go_region
          all_goals
            go_wp2
            go_roundw
            case rel => exact ⟨k + 1, by omega, by go_num, Lib.hid (HK.out HE.out), hbel.drew⟩
            case measure => simp [intOf]; omega
        · have HE := Lib.hid he
          have hb3 : (x != y) = true := by simpa using he
          clear he
          go_wp2
          go_region
          all_goals
            go_wp2
            go_ret
            exact ⟨ret_bool (HZ.out HE.out).symm, hbel.drew⟩
      · obtain rfl : k = n2 := by omega
        go_wp2
        go_ret
        exact ⟨ret_bool (HX.out (fun i h h' => HA.out i h h' (by have := HN2.out; omega))).symm, hbel⟩
  · have hb : ((l.length : Int) != (m.length : Int)) = true := by simpa using (show ¬ (l.length : Int) = m.length by omega)
    have hb1 : (l.length != m.length) = true := by simpa using hlen
    have e : decide (l = m) = false := by
      rw [decide_eq_false_iff_not]
      intro e
      rw [e] at hlen
      exact hlen rfl
    rw [e]
    clear hlen e
    go_enter Try.func11, Try.ntmps11
    go_wp2
    go_ret
    exact ⟨rfl, Below.refl _ _⟩
end Go.Proofs.Ythjjidfoclcghaa
