/- The walk of the law LinkOnce. -/
import Derived.Test.YtlpfnclbkndcgaaLinkOnceMath
import Derived.Deep.DeepCutAuto
import Derived.Deep.CutRange
namespace Go.Proofs.Ytlpfnclbkndcgaa
open Go.RowKit
set_option linter.unusedVariables false
set_option linter.unusedSimpArgs false

set_option maxRecDepth 100000 in
set_option maxHeartbeats 6400000 in
theorem walkLinkOnce (w : World) (ta : Option Addr) (tc : Nat) (T : List UInt8) (hT : T.length ≤ 9223372036854775807) (hTr : RowIn KB w ta T) (a0 : Value) (l0 : List Int) (w0 : RowAt KI w a0 l0 ∧ ∀ z ∈ l0, -9223372036854775808 ≤ z ∧ z ≤ 9223372036854775807) :
    Calls Try.prog 4 #[.slice ta T.length tc, a0] w fun e w' => e = .returned (.bool true) ∧ Below w.heap.size w w' := by
  obtain ⟨⟨va, vc, rfl, _, _, _, hri⟩, hbd⟩ := w0
  have HRI := Lib.hid hri
  have HBD := Lib.hid hbd
  have HTR := Lib.hid hTr
  clear hri hbd hTr
  go_enter Try.func4, Try.ntmps4
  go_wp2_with fail
  refine (awake10_any w).mono ?_
  rintro e w2 ⟨rfl, hb2⟩
  go_wp2_with fail
  refine (newSender_any w2).mono ?_
  rintro e w3 ⟨rfl, hs3, hb3⟩
  go_wp2_with fail
  refine (newReceiver_any w3).mono ?_
  rintro e w4 ⟨rfl, hr4, hb4⟩
  have HE := Lib.hid (Ed.new hb2 hs3 hb3 hr4 hb4)
  clear hb2 hs3 hb3 hr4 hb4
  generalize w2.heap.size = B at *
  generalize w3.heap.size = R at *
  have HO : Hid (On w w4 B R T (.slice none 0 0) 0 0) := Lib.hid ⟨HE.out, OwnR.nil _ _ _, by simp [Value.ownBlock], by simp [Value.ownBlock], by omega, by omega⟩
  have HZ : Hid ((⟨#[]⟩ : ByteArray) = bsT T 0) := Lib.hid (bsT_zero T).symm
  clear HE
  go_wp2_with fail
  go_loopw [8, 9, 10, 11, 12] (fun sv tv wv kv i wr => ∃ (j k m : Nat), j ≤ l0.length ∧ j ≤ 60 ∧ i = .int .i64 j ∧ kv = .int .i64 k ∧ tv = .string (bsT T m) ∧ wv = .string (bsT T k) ∧ k ≤ 20 ∧ Hid (On w wr B R T sv k m)) (fun _ _ _ _ i _ => l0.length - (intOf i).toNat)
  case atStart => exact ⟨0, 0, 0, by omega, by omega, rfl, rfl, by rw [← HZ.out], by rw [← HZ.out], by omega, HO⟩
  case round =>
    clear HO HZ
    obtain ⟨j, k, m, hj, hj60, rfl, rfl, rfl, rfl, hk20, HO⟩ := hrel
    by_cases hgo : j < l0.length ∧ j < 60
    · obtain ⟨h1, h2⟩ := hgo
      have h1i : (j : Int) < (l0.length : Int) := by omega
      have h2i : (j : Int) < 60 := by omega
      obtain ⟨b, off, rfl, hbl, x0⟩ := (HRI.out.below HO.out.ed.bl).int j h1
      have hz := HBD.out l0[j] (List.getElem_mem h1)
      have HX : Hid (w.cell? ⟨b, off + j, none⟩ = some (.int .i64 l0[j])) := Lib.hid (by
        obtain ⟨b', off', e, _, hc⟩ := HRI.out.int j h1
        cases e
        exact hc)
      generalize l0[j] = z at *
      have hand := and1 z
      go_upto_region 13 with fail
      go_cut [52] (fun s wx => ∃ c : Bool, s = .bool c ∧ Hid (c = true → k < T.length ∧ k < 20) ∧ wx = wr)
      case first =>
        by_cases hkT : k < T.length
        · have hkTi : (k : Int) < (T.length : Int) := by omega
          by_cases hk : k < 20
          · have hki : (k : Int) < 20 := by omega
            have HC : Hid (k < T.length ∧ k < 20) := Lib.hid ⟨hkT, hk⟩
            by_cases hz2 : z % 2 = 0
            · go_wp2
              go_meet
              exact ⟨_, rfl, Lib.hid (fun _ => HC.out), rfl⟩
            · go_wp2
              go_meet
              exact ⟨_, rfl, Lib.hid (fun _ => HC.out), rfl⟩
          · have q1 : decide ((k : Int) < 20) = false := by simp; omega
            go_wp2
            go_meet
            exact ⟨false, rfl, Lib.hid (fun h => by cases h), rfl⟩
        · have q1 : decide ((k : Int) < (T.length : Int)) = false := by simp; omega
          have q2 : decide (k < T.length) = false := by simp; omega
          go_wp2
          go_meet
          exact ⟨false, rfl, Lib.hid (fun h => by cases h), rfl⟩
      case rest =>
        obtain ⟨c, rfl, HC, rfl⟩ := hcut
        go_upto_if 52 with (fail)
        go_cut [8, 10, 11] (fun s8 s10 s11 wx => ∃ k' : Nat, s10 = .string (bsT T k') ∧ s11 = .int .i64 k' ∧ k' ≤ 20 ∧ Hid (On w wx B R T s8 k' m))
        case first =>
          clear x0 hbl
          cases c with
          | false =>
            go_wp2
            go_meet
            exact ⟨k, rfl, rfl, hk20, HO⟩
          | true =>
            obtain ⟨hkT, hk⟩ := HC.out rfl
            have hkTi : (k : Int) < (T.length : Int) := by omega
            obtain ⟨sa, sc, rfl⟩ := HO.out.shape
            obtain ⟨tb, tf, rfl, htl, t0⟩ := (HTR.out.below HO.out.ed.bl).byte k hkT
            have HTL := Lib.hid htl
            clear htl
            obtain ⟨L, hL⟩ : ∃ L, T[k] = L := ⟨_, rfl⟩
            rw [hL] at t0
            have HLL := Lib.hid hL
            have hcv := conv_one wc L
            have hkb := balloc (Below.refl _ wc) (.cells #[.int .u8 (L.toNat : Int)] 5)
            have HO2 := Lib.hid (HO.out.keep hkb)
            obtain ⟨hs1, hs2⟩ := HO.out.send hkb hk20 L
            clear hkb hL
            by_cases h8 : k - m < 8
            · have hcall := hs1 h8
              clear hs1 hs2 h8
              go_wp2_with fail
              refine hcall.mono ?_
              rintro e w5 ⟨rfl, hs5, hm5⟩
              have HS5 := Lib.hid hs5
              have HM5 := Lib.hid hm5
              have hba := balloc (Below.refl _ w5) (.cells #[.int .i64 (k : Int), .string ⟨#[L]⟩] 39)
              have HROW : Hid (OwnR KPk (w5.alloc (.cells #[.int .i64 (k : Int), .string ⟨#[L]⟩] 39)) w.heap.size (.slice sa k sc) (Lk.pk 0 ((lts T).take k))) := Lib.hid ((ownMv HO2.out.row hm5 (fun g e e2 => HO2.out.nb (by rw [e, e2]))).below hba)
              have HBA := Lib.hid hba
              have HV := Lib.hid (PkV.new w5 (k : Int) ⟨#[L]⟩ 39)
              have HRL := Lib.hid HO.out.rlen
              have HB6 := Lib.hid (bstep (mv_below10 HO2.out.ed.bl hm5 HO2.out.ed.lb) hba)
              clear hcall hs5 hm5 hcv t0 hba
              go_upto_region 15 with fail
              generalize w5.alloc (.cells #[.int .i64 (k : Int), .string ⟨#[L]⟩] 39) = w6 at *
              obtain ⟨v0, v1, _, _⟩ := HV.out
              have hbs := HB6.out.size
              go_upto_region 17 with (at_builtin; refine wp_pushRk kpk_ok (wr := w6) rfl _ _ rfl w.heap.size (.slice sa k sc) (Lk.pk 0 ((lts T).take k)) k HRL.out ((k : Int), ⟨#[L]⟩) #[.int .i64 (k : Int), .string ⟨#[L]⟩] rfl rfl HROW.out rfl (by omega) hbs ?_; intro g cap2 w7 ho7 hb7 hk7 hat7 hlt7)
              have HO7 : Hid (On w w7 B R T (.slice (some ⟨g, 0, none⟩) (k + 1) cap2) (k + 1) m) := Lib.hid (HO2.out.sent hkT (by rw [HLL.out]; exact HS5.out) HM5.out HBA.out (by rw [HLL.out]; exact ho7) hb7 hk7 hat7)
              clear ho7 hb7 hk7 hat7 hlt7 HROW HV HB6 HRL hbs v0 v1 HS5 HM5 HBA HO2 HO
              obtain ⟨tb', tf', et, htl, t0⟩ := (HTR.out.below HO7.out.ed.bl).byte k hkT
              cases et
              rw [HLL.out] at t0
              have hcv := conv_one w7 L
              have HO8 := Lib.hid (HO7.out.keep (balloc (Below.refl _ w7) (.cells #[.int .u8 (L.toNat : Int)] 5)))
              have hadd : bsT T k ++ ⟨#[L]⟩ = bsT T (k + 1) := by rw [← HLL.out]; exact bsT_succ T hkT
              have hsz : (bsT T k).size + 1 ≤ 9223372036854775807 := by rw [bsT_size T (by omega)]; omega
              have hszd : ¬ 9223372036854775807 < (bsT T k).size + 1 := by omega
              clear htl HO7
              go_wp2_with fail
              go_meet
              exact ⟨k + 1, by first | rfl | (rw [hadd]), by go_num, by omega, HO8⟩
            · have hcall := hs2 h8
              clear hs1 hs2 h8
              go_wp2_with fail
              refine hcall.mono ?_
              rintro e w5 ⟨rfl, hs5, hm5⟩
              have HO5 := Lib.hid ((HO2.out.full hs5 hm5).keep (balloc (Below.refl _ w5) (.cells #[.int .i64 0, .string ⟨#[]⟩] 39)))
              clear hcall hs5 hm5 hcv t0
              go_wp2
              go_meet
              exact ⟨k, rfl, rfl, hk20, HO5⟩
        case rest =>
          obtain ⟨k2, rfl, rfl, hk2, HO2⟩ := hcut
          clear HO x0 hbl HC hk20 hand
          obtain ⟨sa, sc, rfl⟩ := HO2.out.shape
          have hmk := HO2.out.hm
          go_upto_if 82 with (fail)
          go_cut [9] (fun s9 wx => ∃ m' : Nat, s9 = .string (bsT T m') ∧ Hid (On w wx B R T (.slice sa k2 sc) k2 m'))
          case first =>
            by_cases hk0 : k2 = 0
            · subst hk0
              go_wp2
              go_meet
              exact ⟨m, rfl, HO2⟩
            · have hk0i : (0 : Int) < (k2 : Int) := by omega
              have hk0n : 0 < k2 := by omega
              have x0 := kc HO2.out.ed.bl HX.out
              obtain ⟨y1, y2⟩ := tmod_bdT (z / 2) (k2 : Int) (by omega)
              generalize hy : (z / 2).tmod (k2 : Int) = y at y1 y2
              have ho1 := Int.emod_nonneg (y + (k2 : Int)) (b := (k2 : Int)) (by omega)
              have ho2 := Int.emod_lt_of_pos (y + (k2 : Int)) (b := (k2 : Int)) (by omega)
              have hot : (y + (k2 : Int)).tmod (k2 : Int) = (y + (k2 : Int)) % (k2 : Int) := Int.tmod_eq_emod_of_nonneg (by omega)
              generalize hoe : (y + (k2 : Int)) % (k2 : Int) = o at *
              obtain ⟨q, rfl⟩ : ∃ q : Nat, o = (q : Int) := ⟨o.toNat, by omega⟩
              have hq : q < k2 := by omega
              have HMK := Lib.hid hmk
              clear ho1 ho2 hmk hz
              go_upto_region 21 with fail
              clear hy hot hoe y1 y2 x0
              obtain ⟨rb, ro, rfl, p0, p1⟩ := HO2.out.at hq
              have hqT : q < T.length := Nat.lt_of_lt_of_le hq HO2.out.hk
              obtain ⟨L, hL⟩ : ∃ L, T[q] = L := ⟨_, rfl⟩
              rw [hL] at p1
              have HLL := Lib.hid hL
              clear hL
              by_cases hqm : q = m
              · subst hqm
                have hcall := take_hit R q ⟨#[L]⟩ wc HO2.out.ed.rc (by omega)
                go_wp2_with fail
                refine hcall.mono ?_
                rintro e w5 ⟨rfl, hr5, hm5⟩
                have hs5 := HO2.out.ed.sn.mv hm5 HO2.out.ed.ne
                have HR5 := Lib.hid hr5
                have HM5 := Lib.hid hm5
                have HOPL := Lib.hid HO2.out.oplen
                obtain ⟨M, hM⟩ : ∃ M, q + 1 = M := ⟨_, rfl⟩
                have HMM := Lib.hid hM
                have hans := answer_next B q M hM _ w5 hs5 (by rw [HOPL.out]; omega)
                have hwait : Calls Try.prog 23 #[.pointer (some ⟨R, 0, none⟩)] w5 fun e w' => e = .returned (.int .i64 (M : Int)) ∧ w' = w5 := waits_at R M w5 (by rw [← hM]; exact hr5)
                have hadd : bsT T q ++ ⟨#[L]⟩ = bsT T M := by rw [← HLL.out, ← hM]; exact bsT_succ T hqT
                have hsz : (bsT T q).size + 1 ≤ 9223372036854775807 := by rw [bsT_size T (by omega)]; omega
                have hszd : ¬ 9223372036854775807 < (bsT T q).size + 1 := by omega
                clear hcall hr5 hm5 hs5 p0 p1 hM
                go_wp2_with fail
                refine hwait.mono ?_
                rintro e w6 ⟨rfl, rfl⟩
                go_wp2_with fail
                refine hans.mono ?_
                rintro e w7 ⟨rfl, hs7, hm7⟩
                have HO7 : Hid (On w w7 B R T (.slice (some ⟨rb, ro, none⟩) k2 sc) k2 M) := Lib.hid (by
                  rw [← HMM.out] at hs7 ⊢
                  exact HO2.out.hit hq HR5.out HM5.out hs7 hm7)
                clear hans hwait hs7 hm7
                go_wp2
                go_meet
                exact ⟨M, by first | rfl | (rw [hadd]), HO7⟩
              · have hcall := take_miss R m (q : Int) ⟨#[L]⟩ wc HO2.out.ed.rc (by have := HMK.out; omega) (by omega)
                go_wp2_with fail
                refine hcall.mono ?_
                rintro e w5 ⟨rfl, hr5, hm5⟩
                have HO5 := Lib.hid (HO2.out.miss hr5 hm5)
                clear hcall hr5 hm5 p0 p1
                go_wp2
                go_meet
                exact ⟨m, rfl, HO5⟩
          case rest =>
            obtain ⟨m2, rfl, HO3⟩ := hcut
            have hm2 := HO3.out.hm
            have hx := bsT_cut T hm2 HO3.out.hk
            have hs1 := bsT_size T (Nat.le_trans hm2 HO3.out.hk)
            have hs2 := bsT_size T HO3.out.hk
            generalize hS1 : bsT T m2 = S1 at *
            generalize hS2 : bsT T k2 = S2 at *
            have HS1 := Lib.hid hS1
            have HS2 := Lib.hid hS2
            have hw := waits_at R m2 _ HO3.out.ed.rc
            have hop := HO3.out.opened
            have hkm : ((k2 - m2 : Nat) : Int) = (k2 : Int) - (m2 : Int) := by omega
            have hm2i : (m2 : Int) ≤ (k2 : Int) := by omega
            clear hS1 hS2 HO2 hmk hz
            go_wp2_with fail
            refine hw.mono ?_
            rintro e w6 ⟨rfl, rfl⟩
            go_wp2_with fail
            refine hop.mono ?_
            rintro e w7 ⟨g, rfl, hb7⟩
            have HO7 := Lib.hid (HO3.out.keep hb7)
            clear hw hop hb7 HO3
            generalize hq : k2 - m2 = q at *
            clear hq
            go_wp2
            go_roundw
            case rel => exact ⟨j + 1, k2, m2, by omega, by omega, by go_num, rfl, by rw [HS1.out], by rw [HS2.out], hk2, HO7⟩
            case measure => simp [intOf]; omega
    · rcases (show (decide (j < l0.length) = false ∧ decide ((j : Int) < (l0.length : Int)) = false) ∨ (decide (j < l0.length) = true ∧ decide ((j : Int) < (l0.length : Int)) = true ∧ decide ((j : Int) < 60) = false) by simp; omega) with ⟨q1, q2⟩ | ⟨q1, q2, q3⟩
      all_goals
        clear hgo
        go_wp2
        go_ret
        exact ⟨rfl, HO.out.ed.bl⟩
end Go.Proofs.Ytlpfnclbkndcgaa
