/- NetAll: the walk. -/
import Derived.Test.YtgaghlofcokijaaNetStep
import Derived.Test.YtgaghlofcokijaaNetAllMath
namespace Go.Proofs.Ytgaghlofcokijaa
open Go.RowKit
set_option linter.unusedVariables false
set_option linter.unusedSimpArgs false

set_option maxRecDepth 100000 in
set_option maxHeartbeats 3200000 in
theorem walkNetAll (w : World) (a0 : Option Addr) (cap0 : Nat) (l0 : List O11) (w0 : l0.length ≤ 9223372036854775807) (x0 : ∀ o ∈ l0, o.In) (y0 : RowIn KOp11 w a0 l0) :
    Calls Try.prog 4 #[.slice a0 l0.length cap0] w fun e w' => e = .returned (.bool true) ∧ Below w.heap.size w w' := by
  have HROW := Lib.hid y0
  clear y0 x0
  go_enter Try.func4, Try.ntmps4
  go_wp2_with fail
  refine (awake11_any w).mono ?_
  rintro e w1 ⟨rfl, hb1⟩
  have HB1 := Lib.hid hb1
  clear hb1
  go_wp2_with fail
  refine (tw_new w1 0 1).mono ?_
  rintro e w2 ⟨n, rfl, h2⟩
  have H2 := Lib.hid h2
  clear h2
  go_wp2_with fail
  go_loopw [5] (fun j wr => ∃ (x : Nat) (s : Ses), x ≤ 30 ∧ j = .int .i64 x ∧ T01 w1 n s wr ∧ s.all.length ≤ x) (fun j _ => 30 - (intOf j).toNat)
  case atStart => exact ⟨0, Ses.zero, by omega, rfl, H2.out, by simp [Ses.zero]⟩
  case round =>
    obtain ⟨x, s, hx, rfl, h3, h5⟩ := hrel
    have HX := Lib.hid hx
    have H3 := Lib.hid h3
    have H5 := Lib.hid h5
    clear h3 h5 hx H2
    go_upto_region 6 with (fail)
    go_cut [24] (fun t wx => ∃ c : Bool, t = .bool c ∧ Hid (c = true → x < l0.length ∧ x < 30) ∧ wx = wr)
    case first =>
      by_cases hxl : x < l0.length
      · have hxli : (x : Int) < (l0.length : Int) := by omega
        by_cases hx10 : x < 30
        · have hxi : (x : Int) < 30 := by omega
          have HC : Hid (x < l0.length ∧ x < 30) := Lib.hid ⟨hxl, hx10⟩
          go_wp2
          go_meet
          exact ⟨_, rfl, Lib.hid (fun _ => HC.out), rfl⟩
        · have q1 : decide ((x : Int) < 30) = false := by simp; omega
          go_wp2
          go_meet
          exact ⟨false, rfl, Lib.hid (fun h => by cases h), rfl⟩
      · have q1 : decide ((x : Int) < (l0.length : Int)) = false := by simp; omega
        have q2 : decide (x < l0.length) = false := by simp; omega
        go_wp2
        go_meet
        exact ⟨false, rfl, Lib.hid (fun h => by cases h), rfl⟩
    case rest =>
      obtain ⟨cc, rfl, HC, rfl⟩ := hcut
      cases cc with
      | true =>
        obtain ⟨hxl, hx30⟩ := HC.out rfl
        have hw00 := HROW.out
        obtain ⟨rb, ro, rfl, hrl, r0, r1, r2, r3, r4, r5⟩ := hw00.op11 x hxl
        have HXX := Lib.hid hx30
        have hx30i : (x : Int) < 30 := by omega
        have hxli : (x : Int) < (l0.length : Int) := by omega
        have hbw := HB1.out.trans (H3.out.2.mono HB1.out.size)
        have r0 := kc hbw r0
        have r1 := kc hbw r1
        have r2 := kc hbw r2
        have r3 := kc hbw r3
        have r4 := kc hbw r4
        have r5 := kc hbw r5
        have hk := and3N l0[x].k
        have hat := and7T l0[x].at'
        generalize l0[x] = o at *
        generalize o.k % 4 = kk at *
        generalize o.at' % 8 = at8 at *
        have hbo := balloc (Below.refl _ wc) (.cells #[.int .i64 o.k, .int .i64 o.a, .int .i64 o.b, .int .i64 o.at', .int .i64 o.how, .string o.tx] 29)
        have H4 := Lib.hid (H3.out.below hbo)
        have HAL : Hid (s.all.length ≤ 900000) := Lib.hid (by have := H5.out; have := HX.out; omega)
        clear hxl hx30 hbw hbo HX HC hrl hw00
        by_cases k0 : kk = 0
        · subst k0
          have hcall := t01_send H4.out ⟨#[120]⟩ HAL.out
          go_wp2_with fail
          refine hcall.mono ?_
          rintro e w3 ⟨rfl, h3⟩
          have H6 := Lib.hid h3
          clear h3 hcall
          go_wp2
          go_roundw
          case rel => exact ⟨x + 1, s.sent ⟨#[120]⟩, by have := HXX.out; omega, by go_num, H6.out, by have := H5.out; have := sent_le s ⟨#[120]⟩; omega⟩
          case measure => have := HXX.out; simp [intOf]; omega
        · have g0 : (kk == 0) = false := by simpa using k0
          by_cases k3 : kk = 3
          · subst k3
            have hcall := t01_again H4.out
            clear k0
            go_wp2_with fail
            refine hcall.mono ?_
            rintro e w3 ⟨rfl, h3⟩
            have H6 := Lib.hid h3
            clear h3 hcall
            go_wp2
            go_roundw
            case rel => exact ⟨x + 1, s.again, by have := HXX.out; omega, by go_num, H6.out, by have := H5.out; rw [again_all]; omega⟩
            case measure => have := HXX.out; simp [intOf]; omega
          · have g3 : (kk == 3) = false := by simpa using k3
            have hcall := t01_pick H4.out at8 o.how HAL.out
            clear k0 k3
            go_wp2_with fail
            refine hcall.mono ?_
            rintro e w3 ⟨rfl, h3⟩
            have H6 := Lib.hid h3
            clear h3 hcall
            go_wp2
            go_roundw
            case rel => exact ⟨x + 1, s.pick at8 o.how, by have := HXX.out; omega, by go_num, H6.out, by have := H5.out; rw [Ses.pick_all]; omega⟩
            case measure => have := HXX.out; simp [intOf]; omega
      | false =>
        have hok := H3.out.ok (by decide) (by decide) (by decide)
        have HAL : Hid (s.all.length ≤ 900000) := Lib.hid (by have := H5.out; have := HX.out; omega)
        have HO8 := Lib.hid hok.opn8
        have hcall := t01_open H3.out
        generalize hO : s.opn = O at *
        have HR0 : Hid (Ses.Rnd O 0 0 s) := Lib.hid ⟨by rw [hO]; omega, fun h => by omega, fun h => by omega⟩
        clear hok HX HC hO
        go_wp2_with fail
        refine hcall.mono ?_
        rintro e w3 ⟨rfl, hb3⟩
        have H4 := Lib.hid (H3.out.below hb3)
        have hO8 := HO8.out
        clear hb3 hcall
        go_wp2_with fail
        go_loopw [8, 9] (fun cm rr wr => ∃ (r came : Nat) (s : Ses), r ≤ 10 ∧ rr = .int .i64 r ∧ cm = .int .i64 came ∧ T01 w1 n s wr ∧ s.all.length ≤ 900000 ∧ Ses.Rnd O r came s) (fun _ rr _ => 10 - (intOf rr).toNat)
        case atStart => exact ⟨0, 0, s, by omega, rfl, rfl, H4.out, HAL.out, HR0.out⟩
        case round =>
          obtain ⟨r, came, s, hr, rfl, rfl, h3, h4, h5⟩ := hrel
          have hcO : came ≤ O := by have := h5.sum; omega
          by_cases hlr : r < 10
          · have hri : (r : Int) < 10 := by omega
            have HRR := Lib.hid hlr
            have HS := Lib.hid h3
            have HSA := Lib.hid h4
            have HSR := Lib.hid h5
            clear h3 h4 h5 H3 H4 HAL HR0 H5 hr hcO
            go_wp2_with fail
            go_loopw [8, 10] (fun cm kk wr => ∃ (k came : Nat) (s : Ses), k ≤ 40 ∧ kk = .int .i64 k ∧ cm = .int .i64 came ∧ T01 w1 n s wr ∧ s.all.length ≤ 900000 ∧ Ses.Rnd O r came s ∧ s.way.length + k ≤ 40) (fun _ kk _ => 40 - (intOf kk).toNat)
            case atStart => exact ⟨0, came, s, by omega, rfl, rfl, HS.out, HSA.out, HSR.out, (HS.out.ok (by decide) (by decide) (by decide)).ln40⟩
            case round =>
              obtain ⟨k, came, s, hk, rfl, rfl, h3, h4, h5, h6⟩ := hrel
              have hcO : came ≤ O := by have := h5.sum; omega
              have hcO8 : (came : Int) ≤ 8 := by have := HO8.out; omega
              have H3 := Lib.hid h3
              have H4 := Lib.hid h4
              have H5 := Lib.hid h5
              have H6 := Lib.hid h6
              have HK := Lib.hid hk
              have hfl := t01_flying h3
              unfold ClonedAt at hfl
              clear h3 h4 h5 h6 hk HS HSA HSR hcO
              go_upto_region 21 with (fail)
              go_cut [62] (fun t wx => ∃ c : Bool, t = .bool c ∧ Hid (c = true → k < 40 ∧ 0 < s.way.length) ∧ Hid (c = false → s.way.length = 0) ∧ Hid (T01 w1 n s wx))
              case first =>
                by_cases hk40 : k < 40
                · have hki : (k : Int) < 40 := by omega
                  by_cases hw : 0 < s.way.length
                  · have hwi : 0 < (s.way.length : Int) := by omega
                    have HC : Hid (k < 40 ∧ 0 < s.way.length) := Lib.hid ⟨hk40, hw⟩
                    go_wp2_with fail
                    refine hfl.mono ?_
                    rintro e w5 ⟨sa, sc, rfl, _, _, _, _, hb5⟩
                    have HT := Lib.hid (H3.out.below hb5)
                    clear hfl hb5
                    go_wp2
                    go_meet
                    exact ⟨true, rfl, Lib.hid (fun _ => HC.out), Lib.hid (fun h => by cases h), HT⟩
                  · have h00 : s.way.length = 0 := by omega
                    have HC : Hid (s.way.length = 0) := Lib.hid h00
                    rw [h00] at hfl
                    clear h00 hw
                    go_wp2_with fail
                    refine hfl.mono ?_
                    rintro e w5 ⟨sa, sc, rfl, _, _, _, _, hb5⟩
                    have HT := Lib.hid (H3.out.below hb5)
                    clear hfl hb5
                    go_wp2
                    go_meet
                    exact ⟨false, rfl, Lib.hid (fun h => by cases h), Lib.hid (fun _ => HC.out), HT⟩
                · have q1 : decide ((k : Int) < 40) = false := by simp; omega
                  have HC : Hid (s.way.length = 0) := Lib.hid (by have := H6.out; omega)
                  go_wp2
                  go_meet
                  exact ⟨false, rfl, Lib.hid (fun h => by cases h), Lib.hid (fun _ => HC.out), H3⟩
              case rest =>
                obtain ⟨c, rfl, HC1, HC2, HT⟩ := hcut
                cases c with
                | true =>
                  obtain ⟨hk40, hw⟩ := HC1.out rfl
                  have hok := HT.out.ok (by decide) (by decide) (by decide)
                  have hnx := H5.out.next hok hw
                  have HWL : Hid ((s.pick 0 0).way.length + (k + 1) ≤ 40) := Lib.hid (by rw [Ses.pick_len s hw]; have := H6.out; omega)
                  have HA2 : Hid ((s.pick 0 0).all.length ≤ 900000) := Lib.hid (by rw [Ses.pick_all]; exact H4.out)
                  have hcall := t01_pick HT.out 0 0 H4.out
                  have HK1 := Lib.hid hk40
                  have hk40i : (k : Int) < 40 := by omega
                  clear hfl hok hw hk40 HC1 HC2 HK
                  generalize s.pickT 0 0 = TT at *
                  obtain ⟨tx, tb⟩ := TT
                  dsimp only at hcall hnx
                  cases tb with
                  | true =>
                    rw [if_pos rfl] at hnx
                    have HN := Lib.hid hnx
                    clear hnx
                    go_wp2_with fail
                    refine hcall.mono ?_
                    rintro e w5 ⟨rfl, h5⟩
                    have H7 := Lib.hid h5
                    clear h5 hcall
                    go_wp2
                    go_roundw
                    case rel => exact ⟨k + 1, came + 1, s.pick 0 0, by have := HK1.out; omega, by go_num, by go_num, H7.out, HA2.out, HN.out, HWL.out⟩
                    case measure => have := HK1.out; simp [intOf]; omega
                  | false =>
                    rw [if_neg (by decide)] at hnx
                    have HN := Lib.hid hnx
                    clear hnx
                    go_wp2_with fail
                    refine hcall.mono ?_
                    rintro e w5 ⟨rfl, h5⟩
                    have H7 := Lib.hid h5
                    clear h5 hcall
                    go_wp2
                    go_roundw
                    case rel => exact ⟨k + 1, came, s.pick 0 0, by have := HK1.out; omega, by go_num, rfl, H7.out, HA2.out, HN.out, HWL.out⟩
                    case measure => have := HK1.out; simp [intOf]; omega
                | false =>
                  have hw := HC2.out rfl
                  have hok := HT.out.ok (by decide) (by decide) (by decide)
                  have HN := Lib.hid (H5.out.again hok hw)
                  have hcall := t01_again HT.out
                  clear hfl hok hw HC1 HC2 HK
                  go_wp2_with fail
                  refine hcall.mono ?_
                  rintro e w5 ⟨rfl, h5⟩
                  have H7 := Lib.hid h5
                  clear h5 hcall
                  go_wp2
                  go_roundw
                  case rel => exact ⟨r + 1, came, s.again, by have := HRR.out; omega, by go_num, rfl, H7.out, by rw [again_all]; exact H4.out, HN.out⟩
                  case measure => have := HRR.out; simp [intOf]; omega
          · obtain rfl : r = 10 := by omega
            have h0 := h5.two (by omega)
            have hce : came = O := by have := h5.sum; omega
            subst hce
            have hid := fun w' (h : T01 w1 n s w') => t01_idle h
            have hop := fun w' (h : T01 w1 n s w') => t01_open h
            rw [h0] at hid hop
            have hcall := hid _ h3
            have HS := Lib.hid h3
            clear h3 h4 h5 h0 hlr hr H3 H4 HAL HR0 H5 hcO hid
            go_wp2_with fail
            refine hcall.mono ?_
            rintro e w5 ⟨rfl, hb5⟩
            have HS5 := Lib.hid (HS.out.below hb5)
            have hcall2 := hop _ HS5.out
            clear hb5 hcall hop
            go_wp2_with fail
            refine hcall2.mono ?_
            rintro e w6 ⟨rfl, hb6⟩
            have HB := Lib.hid (HB1.out.trans (((HS5.out.below hb6).2).mono HB1.out.size))
            clear hb6 hcall2
            go_wp2
            go_ret
            exact ⟨rfl, HB.out⟩
end Go.Proofs.Ytgaghlofcokijaa
