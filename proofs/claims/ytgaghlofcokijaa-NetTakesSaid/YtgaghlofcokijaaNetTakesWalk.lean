/- NetTakes: the walk. -/
import Derived.Test.YtgaghlofcokijaaNetStep
import Derived.Test.YtgaghlofcokijaaLinkSame
namespace Go.Proofs.Ytgaghlofcokijaa
open Go.RowKit
set_option linter.unusedVariables false
set_option linter.unusedSimpArgs false

set_option maxRecDepth 100000 in
set_option maxHeartbeats 3200000 in
theorem walkNetTakes (w : World) (a0 : Option Addr) (cap0 : Nat) (l0 : List O11) (w0 : l0.length ≤ 9223372036854775807) (x0 : ∀ o ∈ l0, o.In) (y0 : RowIn KOp11 w a0 l0) (a : Int) (ha : (Lit.int .i64 a).wf = true) :
    Calls Try.prog 7 #[.slice a0 l0.length cap0, .int .i64 a] w fun e w' => e = .returned (.bool true) ∧ Below w.heap.size w w' := by
  have hc := and15N a
  obtain ⟨c, ec⟩ : ∃ c : Int, a % 16 = c := ⟨_, rfl⟩
  rw [ec] at hc
  have HROW := Lib.hid y0
  clear ha ec y0 x0
  go_enter Try.func7, Try.ntmps7
  go_wp2_with fail
  refine (awake11_any w).mono ?_
  rintro e w1 ⟨rfl, hb1⟩
  have HB1 := Lib.hid hb1
  clear hb1
  go_wp2_with fail
  refine (tw_new w1 0 1).mono ?_
  rintro e w2 ⟨n, rfl, h2⟩
  have H2 := Lib.hid h2
  clear h2
  go_wp2_with fail
  go_loopw [7] (fun j wr => ∃ (x : Nat) (s : Ses), x ≤ 40 ∧ j = .int .i64 x ∧ T01 w1 n s wr ∧ s.all.length ≤ x) (fun j _ => 40 - (intOf j).toNat)
  case atStart => exact ⟨0, Ses.zero, by omega, rfl, H2.out, by simp [Ses.zero]⟩
  case round =>
    obtain ⟨x, s, hx, rfl, h3, h5⟩ := hrel
    have HX := Lib.hid hx
    have H3 := Lib.hid h3
    have H5 := Lib.hid h5
    clear h3 h5 hx H2
    go_upto_region 6 with (fail)
    go_cut [27] (fun t wx => ∃ c : Bool, t = .bool c ∧ Hid (c = true → x < l0.length ∧ x < 40) ∧ wx = wr)
    case first =>
      by_cases hxl : x < l0.length
      · have hxli : (x : Int) < (l0.length : Int) := by omega
        by_cases hx10 : x < 40
        · have hxi : (x : Int) < 40 := by omega
          have HC : Hid (x < l0.length ∧ x < 40) := Lib.hid ⟨hxl, hx10⟩
          go_wp2
          go_meet
          exact ⟨_, rfl, Lib.hid (fun _ => HC.out), rfl⟩
        · have q1 : decide ((x : Int) < 40) = false := by simp; omega
          go_wp2
          go_meet
          exact ⟨false, rfl, Lib.hid (fun h => by cases h), rfl⟩
      · have q1 : decide ((x : Int) < (l0.length : Int)) = false := by simp; omega
        have q2 : decide (x < l0.length) = false := by simp; omega
        go_wp2
        go_meet
        exact ⟨false, rfl, Lib.hid (fun h => by cases h), rfl⟩
    case rest =>
      obtain ⟨cc, rfl, HC, rfl⟩ := hcut
      cases cc with
      | true =>
        obtain ⟨hxl, hx40⟩ := HC.out rfl
        have hw00 := HROW.out
        obtain ⟨rb, ro, rfl, hrl, r0, r1, r2, r3, r4, r5⟩ := hw00.op11 x hxl
        have HXX := Lib.hid hx40
        have hx40i : (x : Int) < 40 := by omega
        have hxli : (x : Int) < (l0.length : Int) := by omega
        have hbw := HB1.out.trans (H3.out.2.mono HB1.out.size)
        have r0 := kc hbw r0
        have r1 := kc hbw r1
        have r2 := kc hbw r2
        have r3 := kc hbw r3
        have r4 := kc hbw r4
        have r5 := kc hbw r5
        have hk := and3N l0[x].k
        have hat := and7T l0[x].at'
        generalize l0[x] = o at *
        generalize o.k % 4 = kk at *
        generalize o.at' % 8 = at8 at *
        have hbo := balloc (Below.refl _ wc) (.cells #[.int .i64 o.k, .int .i64 o.a, .int .i64 o.b, .int .i64 o.at', .int .i64 o.how, .string o.tx] 29)
        have H4 := Lib.hid (H3.out.below hbo)
        have HAL : Hid (s.all.length ≤ 900000) := Lib.hid (by have := H5.out; have := HX.out; omega)
        clear hxl hx40 hbw hbo HX HC hrl hw00
        by_cases k0 : kk = 0
        · subst k0
          go_upto_region 12 with fail
          generalize wc.alloc (.cells #[.int .i64 o.k, .int .i64 o.a, .int .i64 o.b, .int .i64 o.at', .int .i64 o.how, .string o.tx] 29) = wd at *
          have hcv := conv_ltr wd x
          have hbb := balloc (Below.refl _ wd) (.cells #[.int .u8 (97 + (x : Int) % 26)] 5)
          have hcall := t01_send (H4.out.below hbb) ⟨#[ltr x]⟩ HAL.out
          clear hbb
          go_wp2_with fail
          refine hcall.mono ?_
          rintro e w3 ⟨rfl, h3⟩
          have H6 := Lib.hid h3
          clear h3 hcall
          go_wp2
          go_roundw
          case rel => exact ⟨x + 1, s.sent ⟨#[ltr x]⟩, by have := HXX.out; omega, by go_num, H6.out, by have := H5.out; have := sent_le s ⟨#[ltr x]⟩; omega⟩
          case measure => have := HXX.out; simp [intOf]; omega
        · have g0 : (kk == 0) = false := by simpa using k0
          by_cases k3 : kk = 3
          · subst k3
            have hcall := t01_again H4.out
            clear k0
            go_wp2_with fail
            refine hcall.mono ?_
            rintro e w3 ⟨rfl, h3⟩
            have H6 := Lib.hid h3
            clear h3 hcall
            go_wp2
            go_roundw
            case rel => exact ⟨x + 1, s.again, by have := HXX.out; omega, by go_num, H6.out, by have := H5.out; rw [again_all]; omega⟩
            case measure => have := HXX.out; simp [intOf]; omega
          · have g3 : (kk == 3) = false := by simpa using k3
            have hcall := t01_pick H4.out at8 o.how HAL.out
            clear k0 k3
            go_wp2_with fail
            refine hcall.mono ?_
            rintro e w3 ⟨rfl, h3⟩
            have H6 := Lib.hid h3
            clear h3 hcall
            go_wp2
            go_roundw
            case rel => exact ⟨x + 1, s.pick at8 o.how, by have := HXX.out; omega, by go_num, H6.out, by have := H5.out; rw [Ses.pick_all]; omega⟩
            case measure => have := HXX.out; simp [intOf]; omega
      | false =>
        have hok := H3.out.ok (by decide) (by decide) (by decide)
        have HAL : Hid (s.all.length ≤ 900000) := Lib.hid (by have := H5.out; have := HX.out; omega)
        have hln := hok.ln40
        have htp := s.takes_pick c
        have HOP : Hid ((s.takes c).2 = true → 1 ≤ s.opn ∧ (((s.pick c 0).opn : Nat) : Int) = (s.opn : Int) - 1) := Lib.hid (fun h => by
          rw [← htp] at h
          rcases hok.pick_told c 0 with ⟨e, _⟩ | ⟨hm, _, e⟩
          · rw [e] at h; cases h
          · unfold Ses.opn
            rw [Ses.pick_all, e]
            omega)
        have HO8 := Lib.hid hok.opn8
        have hc1 := t01_flying H3.out
        have hc2 := fun w' (h : T01 w1 n s w') => t01_open h
        have hc3 := fun w' (h : T01 w1 n s w') => t01_takes h c HAL.out
        have hc4 := fun w' (h : T01 w1 n s w') => t01_flying h
        have hc5 := fun w' (h : T01 w1 n s w') => t01_pick h c 0 HAL.out
        rw [htp] at hc5
        have HLN : Hid (s.way.length ≤ 1000000) := Lib.hid (by omega)
        clear hok hln htp HX HC
        unfold ClonedAt at hc1 hc4
        generalize hTT : s.takes c = TT at *
        obtain ⟨tx, tb⟩ := TT
        dsimp only at hc3 hc5 HOP
        clear hTT
        go_wp2_with fail
        refine hc1.mono ?_
        rintro e w3 ⟨sa, sc, rfl, hr3, _, _, _, hb3⟩
        have H4 := Lib.hid (H3.out.below hb3)
        have HR3 := Lib.hid hr3
        have hcall := hc2 _ H4.out
        clear hc1 hb3 hr3
        go_wp2_with fail
        refine hcall.mono ?_
        rintro e w4 ⟨rfl, hb4⟩
        have H5' := Lib.hid (H4.out.below hb4)
        have HR4 := Lib.hid (HR3.out.below hb4)
        have hcall := hc3 _ H5'.out
        clear hb4
        go_wp2_with fail
        refine hcall.mono ?_
        rintro e w5 ⟨rfl, hb5⟩
        have H6 := Lib.hid (H5'.out.below hb5)
        have HR5 := Lib.hid (HR4.out.below hb5)
        have hcall := hc4 _ H6.out
        clear hb5
        go_wp2_with fail
        refine hcall.mono ?_
        rintro e w6 ⟨sb, sd, rfl, hr6, _, _, _, hb6⟩
        have H7 := Lib.hid (H6.out.below hb6)
        have HR6 := Lib.hid (HR5.out.below hb6)
        have hsm := same10_any sa sb sc sd s.way s.way w6 HLN.out HR6.out hr6
        rw [decide_eq_true rfl] at hsm
        clear hb6 hr6 hcall hc4
        go_wp2_with fail
        refine hsm.mono ?_
        rintro e w7 ⟨rfl, hb7⟩
        have H8 := Lib.hid (H7.out.below hb7)
        have hcall := hc2 _ H8.out
        clear hb7 hsm
        go_wp2_with fail
        refine hcall.mono ?_
        rintro e w8 ⟨rfl, hb8⟩
        have H9 := Lib.hid (H8.out.below hb8)
        have hcall := hc5 _ H9.out
        clear hb8
        go_wp2_with fail
        refine hcall.mono ?_
        rintro e w9 ⟨rfl, h9⟩
        have H10 := Lib.hid h9
        have hopn := t01_open h9
        clear h9 hc5 hc2 hc3 hcall
        cases tb with
        | false =>
          have HB := Lib.hid (HB1.out.trans ((H10.out.2).mono HB1.out.size))
          clear hopn
          go_wp2
          go_ret
          exact ⟨rfl, HB.out⟩
        | true =>
          obtain ⟨hO1, hOe⟩ := HOP.out rfl
          rw [hOe] at hopn
          have hO8 := HO8.out
          clear hOe
          generalize s.opn = O at *
          have hO1i : 1 ≤ (O : Int) := by omega
          have hO8i : (O : Int) ≤ 8 := by omega
          clear hO1 hO8
          go_wp2_with fail
          refine hopn.mono ?_
          rintro e w10 ⟨rfl, hb10⟩
          have HB := Lib.hid (HB1.out.trans (((H10.out.below hb10).2).mono HB1.out.size))
          clear hb10 hopn
          go_wp2
          go_ret
          exact ⟨rfl, HB.out⟩
end Go.Proofs.Ytgaghlofcokijaa
