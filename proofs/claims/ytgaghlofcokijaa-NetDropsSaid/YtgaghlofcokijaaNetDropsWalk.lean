/- NetDrops: the walk. -/
import Derived.Test.YtgaghlofcokijaaNetRoomWalk
namespace Go.Proofs.Ytgaghlofcokijaa
open Go.RowKit
set_option linter.unusedVariables false
set_option linter.unusedSimpArgs false

theorem drops_len (s : Ses) (v : Int) (h0 : 0 ≤ v) : (s.pickT v 1) = (⟨#[]⟩, false) ∧ (s.pick v 1).all = s.all ∧ (s.pick v 1).m = s.m ∧ ((s.pick v 1).way.length : Int) = if v < (s.way.length : Int) then (s.way.length : Int) - 1 else s.way.length := by
  unfold Ses.pick Ses.pickT
  by_cases h : v.toNat < s.way.length
  · rw [dif_pos ⟨h0, h⟩, dif_pos ⟨h0, h⟩, if_pos (by decide), if_pos (by decide), if_pos (by omega)]
    refine ⟨rfl, rfl, rfl, ?_⟩
    show ((s.way.eraseIdx v.toNat).length : Int) = _
    rw [List.length_eraseIdx_of_lt h]
    omega
  · rw [dif_neg (by omega), dif_neg (by omega), if_neg (by omega)]
    exact ⟨rfl, rfl, rfl, rfl⟩

set_option maxRecDepth 100000 in
set_option maxHeartbeats 3200000 in
theorem walkNetDrops (a : Int) (ha : (Lit.int .i64 a).wf = true) (a0 : Value) (l0 : List Int) (w : World) (w0 : RowAt KI w a0 l0 ∧ ∀ z ∈ l0, -9223372036854775808 ≤ z ∧ z ≤ 9223372036854775807) :
    Calls Try.prog 6 #[.int .i64 a, a0] w fun e w' => e = .returned (.bool true) ∧ Below w.heap.size w w' := by
  have hq := and7T a
  obtain ⟨q, eq⟩ : ∃ q : Nat, a % 8 = (q : Int) := ⟨(a % 8).toNat, by omega⟩
  have HQ7 : Hid (q ≤ 7) := Lib.hid (by omega)
  have hq7 : (q : Int) ≤ 7 := by have := HQ7.out; omega
  rw [eq] at hq
  obtain ⟨⟨ra, rc, rfl, _, _, _, hrow⟩, _⟩ := w0
  have HROW := Lib.hid hrow
  clear ha eq hrow
  go_enter Try.func6, Try.ntmps6
  go_wp2_with fail
  refine (awake11_any w).mono ?_
  rintro e w1 ⟨rfl, hb1⟩
  have HB1 := Lib.hid hb1
  clear hb1
  go_wp2_with fail
  refine (tw_new w1 0 1).mono ?_
  rintro e w2 ⟨n, rfl, h2⟩
  have H2 := Lib.hid h2
  clear h2
  go_wp2_with fail
  go_loopw [8] (fun i wr => ∃ (k : Nat) (s : Ses), k ≤ q + 1 ∧ i = .int .i64 k ∧ T01 w1 n s wr ∧ s.all.length = k ∧ s.m = 0 ∧ s.way.length = k) (fun i _ => q + 1 - (intOf i).toNat)
  case atStart => exact ⟨0, Ses.zero, by omega, rfl, H2.out, rfl, rfl, rfl⟩
  case round =>
    obtain ⟨k, s, hk, rfl, h3, h4, h5, h6⟩ := hrel
    by_cases hlt : k < q + 1
    · have hki : (k : Int) < 1 + (q : Int) := by omega
      have ho : s.opn < 8 := by have := HQ7.out; unfold Ses.opn; omega
      obtain ⟨s1, s2, s3, s4⟩ := sent_len s ⟨#[100]⟩ ho
      have hcall := t01_send h3 ⟨#[100]⟩ (by have := HQ7.out; omega)
      rw [s1] at hcall
      have HA := Lib.hid (s2.trans (by rw [h4]))
      have HM := Lib.hid (s3.trans h5)
      have HW := Lib.hid (s4.trans (by rw [h6]))
      have HLT := Lib.hid hlt
      clear h3 h4 h5 h6 s1 s2 s3 s4 ho hlt hk H2
      go_wp2_with fail
      refine hcall.mono ?_
      rintro e w3 ⟨rfl, h3⟩
      have H3 := Lib.hid h3
      clear h3
      go_wp2
      go_roundw
      case rel => exact ⟨k + 1, _, by have := HLT.out; omega, by go_num, H3.out, HA.out, HM.out, HW.out⟩
      case measure => have := HLT.out; simp [intOf]; omega
    · obtain rfl : k = q + 1 := by omega
      have hki : ¬ ((q + 1 : Nat) : Int) < 1 + (q : Int) := by omega
      have H3 := Lib.hid h3
      have HO : Hid (s.opn = q + 1) := Lib.hid (by unfold Ses.opn; omega)
      have HA : Hid (s.all.length ≤ 8) := Lib.hid (by have := HQ7.out; omega)
      have HW := Lib.hid h6
      have HM := Lib.hid h5
      clear h3 h4 h5 h6 hlt hk H2
      go_wp2_with fail
      go_loopw [9, 10] (fun wn j wr => ∃ (x : Nat) (s : Ses), x ≤ 10 ∧ j = .int .i64 x ∧ wn = .int .i64 (s.way.length : Int) ∧ T01 w1 n s wr ∧ s.opn = q + 1 ∧ s.all.length ≤ 8 ∧ s.way.length ≤ 8) (fun _ j _ => 10 - (intOf j).toNat)
      case atStart => exact ⟨0, s, by omega, rfl, by rw [HW.out]; go_num, H3.out, HO.out, HA.out, by have := HQ7.out; rw [HW.out]; omega⟩
      case round =>
        obtain ⟨x, s, hx, rfl, rfl, h3, h4, h5, h6⟩ := hrel
        have HX := Lib.hid hx
        have H3 := Lib.hid h3
        have H4 := Lib.hid h4
        have H5 := Lib.hid h5
        have H6 := Lib.hid h6
        clear h3 h4 h5 h6 hx HO HA HW HM
        go_upto_region 13 with (fail)
        go_cut [36] (fun t wx => ∃ c : Bool, t = .bool c ∧ Hid (c = true → x < l0.length ∧ x < 10) ∧ wx = wr)
        case first =>
          by_cases hxl : x < l0.length
          · have hxli : (x : Int) < (l0.length : Int) := by omega
            by_cases hx10 : x < 10
            · have hxi : (x : Int) < 10 := by omega
              have HC : Hid (x < l0.length ∧ x < 10) := Lib.hid ⟨hxl, hx10⟩
              go_wp2
              go_meet
              exact ⟨_, rfl, Lib.hid (fun _ => HC.out), rfl⟩
            · have q1 : decide ((x : Int) < 10) = false := by simp; omega
              go_wp2
              go_meet
              exact ⟨false, rfl, Lib.hid (fun h => by cases h), rfl⟩
          · have q1 : decide ((x : Int) < (l0.length : Int)) = false := by simp; omega
            have q2 : decide (x < l0.length) = false := by simp; omega
            go_wp2
            go_meet
            exact ⟨false, rfl, Lib.hid (fun h => by cases h), rfl⟩
        case rest =>
          obtain ⟨c, rfl, HC, rfl⟩ := hcut
          cases c with
          | true =>
            obtain ⟨hxl, hx10⟩ := HC.out rfl
            have hw00 := HROW.out
            obtain ⟨rb, ro, rfl, hrl, r00⟩ := hw00.int x hxl
            have HR := Lib.hid r00
            have r0 := kc (HB1.out.trans (H3.out.2.mono HB1.out.size)) r00
            have hxli : (x : Int) < (l0.length : Int) := by omega
            have HXX := Lib.hid hx10
            have hx10i : (x : Int) < 10 := by omega
            have hz := and7T l0[x]
            have hz0 : 0 ≤ l0[x] % 8 := by omega
            have hz1 : l0[x] % 8 < 8 := by omega
            generalize l0[x] = z at *
            generalize z % 8 = v at *
            obtain ⟨d1, d2, d3, d4⟩ := drops_len s v hz0
            have hcall := t01_pick H3.out v 1 (by have := H5.out; omega)
            rw [d1] at hcall
            have HO : Hid ((s.pick v 1).opn = q + 1) := Lib.hid (by unfold Ses.opn; rw [d2, d3]; exact H4.out)
            have HAA : Hid ((s.pick v 1).all.length ≤ 8) := Lib.hid (by rw [d2]; exact H5.out)
            have HW8 := Lib.hid H6.out
            have hW8 : (s.way.length : Int) ≤ 8 := by have := H6.out; omega
            clear r00 hxl hx10 HX HC d1 d2 d3 H6 hrl hw00
            by_cases hv : v < (s.way.length : Int)
            · have e := d4
              rw [if_pos hv] at e
              have HE := Lib.hid e
              clear e d4
              generalize hWW : s.way.length = W at *
              have HWW := Lib.hid hWW
              clear hWW
              go_wp2_with fail
              refine hcall.mono ?_
              rintro e w3 ⟨rfl, h3⟩
              have H3' := Lib.hid h3
              have r1 := kc (HB1.out.trans (h3.2.mono HB1.out.size)) HR.out
              clear h3 hcall r0
              go_wp2
              go_roundw
              case rel => exact ⟨x + 1, s.pick v 1, by have := HXX.out; omega, by go_num, by rw [HE.out], H3'.out, HO.out, HAA.out, by have := HE.out; have := HW8.out; omega⟩
              case measure => have := HXX.out; simp [intOf]; omega
            · have e := d4
              rw [if_neg hv] at e
              have HE := Lib.hid e
              clear e d4
              generalize hWW : s.way.length = W at *
              have HWW := Lib.hid hWW
              clear hWW
              go_wp2_with fail
              refine hcall.mono ?_
              rintro e w3 ⟨rfl, h3⟩
              have H3' := Lib.hid h3
              have r1 := kc (HB1.out.trans (h3.2.mono HB1.out.size)) HR.out
              clear h3 hcall r0
              go_wp2
              go_roundw
              case rel => exact ⟨x + 1, s.pick v 1, by have := HXX.out; omega, by go_num, by rw [HE.out], H3'.out, HO.out, HAA.out, by have := HE.out; have := HW8.out; omega⟩
              case measure => have := HXX.out; simp [intOf]; omega
          | false =>
            have hop : ∀ w' s', s'.opn = q + 1 → T01 w1 n s' w' → Calls Try.prog 14 #[.pointer (some ⟨n, 0, none⟩), .int .i64 0, .int .i64 1] w' fun e w2 => e = .returned (.int .i64 (1 + (q : Int))) ∧ Below w'.heap.size w' w2 := fun w' s' e h => by
              have := t01_open h
              rw [show ((s'.opn : Nat) : Int) = 1 + (q : Int) by rw [e]; omega] at this
              exact this
            have hfl : ∀ s' L, s'.way.length = L → ∀ w', T01 w1 n s' w' → Calls Try.prog 15 #[.pointer (some ⟨n, 0, none⟩), .int .i64 0, .int .i64 1] w' fun e w2 => ∃ a c, e = .returned (.slice a L c) ∧ Below w'.heap.size w' w2 := fun s' L hL w' h => by
              refine (t01_flying h).mono ?_
              rintro e w2 ⟨a, c, rfl, _, _, _, _, hb⟩
              exact ⟨a, c, by rw [hL], hb⟩
            have HN : Hid (s.againN = q + 1) := Lib.hid (by have := H4.out; have := H6.out; have := HQ7.out; unfold Ses.againN; omega)
            have HAL : Hid (s.again.way.length = s.way.length + (q + 1)) := Lib.hid (by rw [s.again_len, HN.out])
            have hag : ∀ w', T01 w1 n s w' → Calls Try.prog 12 #[.pointer (some ⟨n, 0, none⟩), .int .i64 0, .int .i64 1] w' fun e w2 => e = .returned (.int .i64 (1 + (q : Int))) ∧ T01 w1 n s.again w2 := fun w' h => by
              have := t01_again h
              rw [show ((s.againN : Nat) : Int) = 1 + (q : Int) by rw [HN.out]; omega] at this
              exact this
            have hid : ∀ w', T01 w1 n s.again w' → Calls Try.prog 16 #[.pointer (some ⟨n, 0, none⟩)] w' fun e w2 => e = .returned (.bool false) ∧ Below w'.heap.size w' w2 := fun w' h => by
              have := t01_idle h
              rw [show (s.again.opn == 0) = false by have : s.again.opn = q + 1 := H4.out; rw [this]; simp] at this
              exact this
            have hf1 := hfl s _ rfl _ H3.out
            have hf2 := hfl s.again _ HAL.out
            have ho1 := fun w' h => hop w' s H4.out h
            have hW8 : (s.way.length : Int) ≤ 8 := by have := H6.out; omega
            clear hop hfl HN HAL HX HC
            generalize s.way.length = W at *
            go_wp2_with fail
            refine hf1.mono ?_
            rintro e w3 ⟨sa, sc, rfl, hb3⟩
            have H3' := Lib.hid (H3.out.below hb3)
            have hcall := ho1 _ H3'.out
            clear hf1 hb3
            go_wp2_with fail
            refine hcall.mono ?_
            rintro e w4 ⟨rfl, hb4⟩
            have H4' := Lib.hid (H3'.out.below hb4)
            have hcall := hag _ H4'.out
            clear hb4
            go_wp2_with fail
            refine hcall.mono ?_
            rintro e w5 ⟨rfl, h5⟩
            have H5' := Lib.hid h5
            have hcall := hf2 _ h5
            clear h5
            go_wp2_with fail
            refine hcall.mono ?_
            rintro e w6 ⟨sa6, sc6, rfl, hb6⟩
            have H6' := Lib.hid (H5'.out.below hb6)
            have hcall := hid _ H6'.out
            clear hb6
            go_wp2_with fail
            refine hcall.mono ?_
            rintro e w7 ⟨rfl, hb7⟩
            have H7' := Lib.hid (H6'.out.below hb7)
            have hcall := t01_openZ H7'.out
            clear hb7
            go_wp2_with fail
            refine hcall.mono ?_
            rintro e w8 ⟨rfl, hb8⟩
            have HB8 := Lib.hid (HB1.out.trans (((H7'.out.below hb8).2).mono HB1.out.size))
            clear hb8 hcall
            go_wp2
            go_ret
            exact ⟨rfl, HB8.out⟩
end Go.Proofs.Ytgaghlofcokijaa
