/- NetRoom: the walk. -/
import Derived.Test.YtgaghlofcokijaaNetTw
namespace Go.Proofs.Ytgaghlofcokijaa
open Go.RowKit
set_option linter.unusedVariables false
set_option linter.unusedSimpArgs false

theorem and15N (n : Int) : bits .and .i64 n 15 = n % 16 := by
  have e : bits .and .i64 n 15 = IntKind.i64.wrap ((BitVec.ofInt 64 n &&& BitVec.ofInt 64 15).toNat : Nat) := rfl
  have h : (BitVec.ofInt 64 n).toNat = _ := BitVec.toNat_ofInt n
  have l : (BitVec.ofInt 64 n &&& BitVec.ofInt 64 15).toNat = (BitVec.ofInt 64 n).toNat % 16 := by
    rw [BitVec.toNat_and, show (BitVec.ofInt 64 15).toNat = 2 ^ 4 - 1 by decide, Nat.and_two_pow_sub_one_eq_mod]
  rw [e, l, IntKind.wrap_i64]
  omega
theorem sent_len (s : Ses) (d : ByteArray) (h : s.opn < 8) : s.sentE = 0 ∧ (s.sent d).all.length = s.all.length + 1 ∧ (s.sent d).m = s.m ∧ (s.sent d).way.length = s.way.length + 1 := by
  unfold Ses.sentE Ses.sent
  rw [if_pos h, if_pos h]
  simp
theorem dup_len (s : Ses) (h : 0 < s.way.length) : (s.pick 0 2).opn = s.opn ∧ (s.pick 0 2).way.length = if 32 ≤ s.way.length then s.way.length else s.way.length + 1 := by
  unfold Ses.pick
  rw [dif_pos ⟨by omega, by simpa using h⟩, if_neg (by decide), if_pos (by decide)]
  unfold Ses.rep
  split
  · exact ⟨rfl, rfl⟩
  · exact ⟨rfl, by simp⟩

set_option maxRecDepth 100000 in
set_option maxHeartbeats 3200000 in
theorem walkNetRoom (a : Int) (ha : (Lit.int .i64 a).wf = true) (b : Int) (hb : (Lit.int .i64 b).wf = true) (w : World) :
    Calls Try.prog 8 #[.int .i64 a, .int .i64 b] w fun e w' => e = .returned (.bool true) ∧ Below w.heap.size w w' := by
  have hq := and7T a
  have hc := and15N b
  obtain ⟨q, eq⟩ : ∃ q : Nat, a % 8 = (q : Int) := ⟨(a % 8).toNat, by omega⟩
  obtain ⟨c, ec⟩ : ∃ c : Nat, b % 16 = (c : Int) := ⟨(b % 16).toNat, by omega⟩
  have HQ7 : Hid (q ≤ 7) := Lib.hid (by omega)
  have HC15 : Hid (c ≤ 15) := Lib.hid (by omega)
  have hq7 : (q : Int) ≤ 7 := by have := HQ7.out; omega
  rw [eq] at hq
  rw [ec] at hc
  clear ha hb eq ec
  go_enter Try.func8, Try.ntmps8
  go_wp2_with fail
  refine (awake11_any w).mono ?_
  rintro e w1 ⟨rfl, hb1⟩
  have HB1 := Lib.hid hb1
  clear hb1
  go_wp2_with fail
  refine (tw_new w1 1 0).mono ?_
  rintro e w2 ⟨n, rfl, h2⟩
  have H2 := Lib.hid h2
  clear h2
  go_wp2_with fail
  go_loopw [8] (fun i wr => ∃ (k : Nat) (s : Ses), k ≤ q + 1 ∧ i = .int .i64 k ∧ T10 w1 n s wr ∧ s.all.length = k ∧ s.m = 0 ∧ s.way.length = k) (fun i _ => q + 1 - (intOf i).toNat)
  case atStart => exact ⟨0, Ses.zero, by omega, rfl, H2.out, rfl, rfl, rfl⟩
  case round =>
    obtain ⟨k, s, hk, rfl, h3, h4, h5, h6⟩ := hrel
    by_cases hlt : k < q + 1
    · have hki : (k : Int) < 1 + (q : Int) := by omega
      have ho : s.opn < 8 := by have := HQ7.out; unfold Ses.opn; omega
      obtain ⟨s1, s2, s3, s4⟩ := sent_len s ⟨#[100]⟩ ho
      have hcall := t10_send h3 ⟨#[100]⟩ (by have := HQ7.out; omega)
      rw [s1] at hcall
      have HA := Lib.hid (s2.trans (by rw [h4]))
      have HM := Lib.hid (s3.trans h5)
      have HW := Lib.hid (s4.trans (by rw [h6]))
      have HLT := Lib.hid hlt
      clear h3 h4 h5 h6 s1 s2 s3 s4 ho hlt hk H2
      go_wp2_with fail
      refine hcall.mono ?_
      rintro e w3 ⟨rfl, h3⟩
      have H3 := Lib.hid h3
      clear h3
      go_wp2
      go_roundw
      case rel => exact ⟨k + 1, _, by have := HLT.out; omega, by go_num, H3.out, HA.out, HM.out, HW.out⟩
      case measure => have := HLT.out; simp [intOf]; omega
    · obtain rfl : k = q + 1 := by omega
      have hki : ¬ ((q + 1 : Nat) : Int) < 1 + (q : Int) := by omega
      have H3 := Lib.hid h3
      have HO : Hid (s.opn = q + 1) := Lib.hid (by unfold Ses.opn; omega)
      have HA : Hid (s.all.length ≤ 8) := Lib.hid (by have := HQ7.out; omega)
      have HW := Lib.hid h6
      clear h3 h4 h5 h6 hlt hk H2
      go_wp2_with fail
      go_loopw [9, 10] (fun wn j wr => ∃ (x : Nat) (s : Ses), x ≤ c ∧ j = .int .i64 x ∧ wn = .int .i64 (s.way.length : Int) ∧ T10 w1 n s wr ∧ s.opn = q + 1 ∧ s.all.length ≤ 8 ∧ s.way.length ≤ 32 ∧ 1 ≤ s.way.length) (fun _ j _ => c - (intOf j).toNat)
      case atStart => exact ⟨0, s, by omega, rfl, by rw [HW.out]; go_num, H3.out, HO.out, HA.out, by have := HQ7.out; rw [HW.out]; omega, by rw [HW.out]; omega⟩
      case round =>
        obtain ⟨x, s, hx, rfl, rfl, h3, h4, h5, h6, h7⟩ := hrel
        have hq7' := HQ7.out
        have hc15 : (c : Int) ≤ 15 := by have := HC15.out; omega
        by_cases hlx : x < c
        · have hxi : (x : Int) < (c : Int) := by omega
          have hcall := t10_again h3
          have HAL := Lib.hid (s.again_len)
          have HAO : Hid (s.again.opn = q + 1) := Lib.hid h4
          have HAA : Hid (s.again.all.length ≤ 8) := Lib.hid h5
          have HLX := Lib.hid hlx
          have HW1 := Lib.hid h6
          have HW2 := Lib.hid h7
          by_cases hr : 32 - (s.way.length : Int) > 1 + (q : Int)
          · have HN : Hid (s.againN = q + 1) := Lib.hid (by unfold Ses.againN; rw [h4]; omega)
            have e : ((s.againN : Nat) : Int) = 1 + (q : Int) := by rw [HN.out]; omega
            rw [e] at hcall
            have hWi : (s.way.length : Int) ≤ 32 := by omega
            clear h3 h4 h5 h7 hlx hx e hq7' HO HW HA
            generalize hWW : s.way.length = W at *
            have HWW := Lib.hid hWW
            clear hWW h6
            go_wp2_with fail
            refine hcall.mono ?_
            rintro e w3 ⟨rfl, h3⟩
            have H3' := Lib.hid h3
            clear h3 hcall
            go_wp2
            go_roundw
            case rel => exact ⟨x + 1, s.again, HLX.out, by go_num, by rw [HAL.out, HN.out]; push_cast; congr 1; omega, H3'.out, HAO.out, HAA.out, by have := HAL.out; have := HN.out; omega, by have := HAL.out; have := HW2.out; omega⟩
            case measure => have := HLX.out; simp [intOf]; omega
          · have HN : Hid (s.againN = 32 - s.way.length) := Lib.hid (by unfold Ses.againN; rw [h4]; omega)
            have e : ((s.againN : Nat) : Int) = 32 - (s.way.length : Int) := by rw [HN.out]; omega
            rw [e] at hcall
            have hWi : (s.way.length : Int) ≤ 32 := by omega
            clear h3 h4 h5 h7 hlx hx e hq7' HO HW HA
            generalize hWW : s.way.length = W at *
            have HWW := Lib.hid hWW
            clear hWW h6
            go_wp2_with fail
            refine hcall.mono ?_
            rintro e w3 ⟨rfl, h3⟩
            have H3' := Lib.hid h3
            clear h3 hcall
            go_wp2
            go_roundw
            case rel => exact ⟨x + 1, s.again, HLX.out, by go_num, by rw [HAL.out, HN.out]; push_cast; congr 1; omega, H3'.out, HAO.out, HAA.out, by have := HAL.out; have := HN.out; have := HW1.out; omega, by have := HAL.out; have := HW2.out; omega⟩
            case measure => have := HLX.out; simp [intOf]; omega
        · obtain rfl : x = c := by omega
          obtain ⟨d1, d2⟩ := dup_len s (by omega)
          have hcall := t10_pick h3 0 2 (by omega)
          have e : ((s.opn : Nat) : Int) = 1 + (q : Int) := by rw [h4]; omega
          have hop : ∀ w', T10 w1 n (s.pick 0 2) w' → Calls Try.prog 14 #[.pointer (some ⟨n, 0, none⟩), .int .i64 1, .int .i64 0] w' fun e w2 => e = .returned (.int .i64 (1 + (q : Int))) ∧ Below w'.heap.size w' w2 := fun w' h => by
            have := t10_open h
            rw [d1, e] at this
            exact this
          have HFL : ∀ L, (s.pick 0 2).way.length = L → ∀ w', T10 w1 n (s.pick 0 2) w' → Calls Try.prog 15 #[.pointer (some ⟨n, 0, none⟩), .int .i64 1, .int .i64 0] w' fun e w2 => ∃ a c, e = .returned (.slice a L c) ∧ Below w'.heap.size w' w2 := fun L hL w' h => by
            refine (t10_flying h).mono ?_
            rintro e w2 ⟨a, c, rfl, _, _, _, _, hb⟩
            exact ⟨a, c, by rw [hL], hb⟩
          generalize hP : s.pick 0 2 = s' at *
          generalize s.pickT 0 2 = tt at *
          have hcx : ¬ (x : Int) < (x : Int) := by omega
          by_cases hw : s.way.length < 32
          · have hL : s'.way.length = s.way.length + 1 := by rw [d2, if_neg (by omega)]
            have hfl := HFL _ hL
            have hwi : (s.way.length : Int) < 32 := by omega
            clear h3 h4 h5 h6 h7 hlx hx e hq7' HO HW HA HFL d1 d2 hL hP hw
            generalize s.way.length = W at *
            go_wp2_with fail
            refine hcall.mono ?_
            rintro e w3 ⟨rfl, h3⟩
            have H3' := Lib.hid h3
            have hf := hfl _ h3
            clear h3 hcall
            go_wp2_with fail
            refine hf.mono ?_
            rintro e w4 ⟨sa, sc, rfl, hb4⟩
            have H4 := Lib.hid (H3'.out.below hb4)
            have ho := hop _ H4.out
            clear hb4 hf
            go_wp2_with fail
            refine ho.mono ?_
            rintro e w5 ⟨rfl, hb5⟩
            have HB5 := Lib.hid (HB1.out.trans (((H4.out.below hb5).2).mono HB1.out.size))
            clear hb5 ho
            go_wp2
            go_ret
            exact ⟨rfl, HB5.out⟩
          · have hL : s'.way.length = s.way.length := by rw [d2, if_pos (by omega)]
            have hfl := HFL _ hL
            have hwi : ¬ (s.way.length : Int) < 32 := by omega
            clear h3 h4 h5 h6 h7 hlx hx e hq7' HO HW HA HFL d1 d2 hL hP hw
            generalize s.way.length = W at *
            go_wp2_with fail
            refine hcall.mono ?_
            rintro e w3 ⟨rfl, h3⟩
            have H3' := Lib.hid h3
            have hf := hfl _ h3
            clear h3 hcall
            go_wp2_with fail
            refine hf.mono ?_
            rintro e w4 ⟨sa, sc, rfl, hb4⟩
            have H4 := Lib.hid (H3'.out.below hb4)
            have ho := hop _ H4.out
            clear hb4 hf
            go_wp2_with fail
            refine ho.mono ?_
            rintro e w5 ⟨rfl, hb5⟩
            have HB5 := Lib.hid (HB1.out.trans (((H4.out.below hb5).2).mono HB1.out.size))
            clear hb5 ho
            go_wp2
            go_ret
            exact ⟨rfl, HB5.out⟩
end Go.Proofs.Ytgaghlofcokijaa
