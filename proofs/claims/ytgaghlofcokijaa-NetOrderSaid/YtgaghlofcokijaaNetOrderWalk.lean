/- NetOrder: the walk. -/
import Derived.Test.YtgaghlofcokijaaNetOrderMath
import Derived.Deep.CutBlock
import Derived.Outline
namespace Go.Proofs.Ytgaghlofcokijaa
open Go.RowKit
set_option linter.unusedVariables false
set_option linter.unusedSimpArgs false

set_option maxRecDepth 100000 in
set_option maxHeartbeats 3200000 in
theorem walkNetOrder (w : World) (a0 : Option Addr) (cap0 : Nat) (l0 : List O11) (w0 : l0.length ≤ 9223372036854775807) (x0 : ∀ o ∈ l0, o.In) (y0 : RowIn KOp11 w a0 l0) :
    Calls Try.prog 3 #[.slice a0 l0.length cap0] w fun e w' => e = .returned (.bool true) ∧ Below w.heap.size w w' := by
  have HROW := Lib.hid y0
  have HIN := Lib.hid x0
  clear y0 x0
  go_enter Try.func3, Try.ntmps3
  go_wp2_with fail
  refine (awake11_any w).mono ?_
  rintro e w1 ⟨rfl, hb1⟩
  have HB1 := Lib.hid hb1
  clear hb1
  go_wp2_with fail
  refine (nnew_any 3 w1 (by omega) (by omega)).mono ?_
  rintro e w2 ⟨n, rfl, _, h2, hb2⟩
  have hba := balloc (Below.refl _ w2) (.cells #[.string ⟨#[]⟩, .string ⟨#[]⟩, .string ⟨#[]⟩, .string ⟨#[]⟩, .string ⟨#[]⟩, .string ⟨#[]⟩, .string ⟨#[]⟩, .string ⟨#[]⟩, .string ⟨#[]⟩] 27)
  have hbc := balloc (Below.refl _ (w2.alloc (.cells #[.string ⟨#[]⟩, .string ⟨#[]⟩, .string ⟨#[]⟩, .string ⟨#[]⟩, .string ⟨#[]⟩, .string ⟨#[]⟩, .string ⟨#[]⟩, .string ⟨#[]⟩, .string ⟨#[]⟩] 27))) (.cells #[.string ⟨#[]⟩, .string ⟨#[]⟩, .string ⟨#[]⟩, .string ⟨#[]⟩, .string ⟨#[]⟩, .string ⟨#[]⟩, .string ⟨#[]⟩, .string ⟨#[]⟩, .string ⟨#[]⟩] 27)
  have HZ : Hid ((w2.alloc (.cells #[.string ⟨#[]⟩, .string ⟨#[]⟩, .string ⟨#[]⟩, .string ⟨#[]⟩, .string ⟨#[]⟩, .string ⟨#[]⟩, .string ⟨#[]⟩, .string ⟨#[]⟩, .string ⟨#[]⟩] 27)).heap.size = w2.heap.size + 1) := Lib.hid (by simp)
  have HO : Hid (Od w1 ((w2.alloc (.cells #[.string ⟨#[]⟩, .string ⟨#[]⟩, .string ⟨#[]⟩, .string ⟨#[]⟩, .string ⟨#[]⟩, .string ⟨#[]⟩, .string ⟨#[]⟩, .string ⟨#[]⟩, .string ⟨#[]⟩] 27)).alloc (.cells #[.string ⟨#[]⟩, .string ⟨#[]⟩, .string ⟨#[]⟩, .string ⟨#[]⟩, .string ⟨#[]⟩, .string ⟨#[]⟩, .string ⟨#[]⟩, .string ⟨#[]⟩, .string ⟨#[]⟩] 27)) w2.heap.size (w2.heap.size + 1) n 0 (fun _ _ => Ses.zero) (fun _ _ => [])) := Lib.hid
    ⟨(h2.add (bstep hba hbc)).mono (fun k hk => by
        rcases hk with hk | hk | hk
        · exact .inl hk
        · exact .inr ⟨by omega, by have := hbc.size; have := HZ.out; omega⟩
        · refine .inr ⟨by omega, ?_⟩
          rw [hk, ← HZ.out]
          simp), Lt.start, (hb2.trans ((bstep hba hbc).mono hb2.size)), (Nine.new w2 _).below hbc, by rw [← HZ.out]; exact Nine.new _ _, by omega, hb2.size, by have := hb2.size; omega⟩
  clear h2 hb2 hba hbc HZ
  go_wp2_with fail
  generalize w2.heap.size + 1 = TB at *
  generalize w2.heap.size = SB at *
  go_loopw [7] (fun j wr => ∃ (x : Nat) (st : Nat → Nat → Ses) (T : Nat → Nat → List UInt8), x ≤ 60 ∧ j = .int .i64 x ∧ Od w1 wr SB TB n x st T) (fun j _ => 60 - (intOf j).toNat)
  case atStart => exact ⟨0, _, _, by omega, rfl, HO.out⟩
  case round =>
    obtain ⟨x, st, T, hx, rfl, h3⟩ := hrel
    have HX := Lib.hid hx
    have H3 := Lib.hid h3
    clear h3 hx HO
    go_upto_region 8 with (fail)
    go_cut [28] (fun t wx => ∃ c : Bool, t = .bool c ∧ Hid (c = true → x < l0.length ∧ x < 60) ∧ wx = wr)
    case first =>
      by_cases hxl : x < l0.length
      · have hxli : (x : Int) < (l0.length : Int) := by omega
        by_cases hx10 : x < 60
        · have hxi : (x : Int) < 60 := by omega
          have HC : Hid (x < l0.length ∧ x < 60) := Lib.hid ⟨hxl, hx10⟩
          go_wp2
          go_meet
          exact ⟨_, rfl, Lib.hid (fun _ => HC.out), rfl⟩
        · have q1 : decide ((x : Int) < 60) = false := by simp; omega
          go_wp2
          go_meet
          exact ⟨false, rfl, Lib.hid (fun h => by cases h), rfl⟩
      · have q1 : decide ((x : Int) < (l0.length : Int)) = false := by simp; omega
        have q2 : decide (x < l0.length) = false := by simp; omega
        go_wp2
        go_meet
        exact ⟨false, rfl, Lib.hid (fun h => by cases h), rfl⟩
    case rest =>
      obtain ⟨cc, rfl, HC, rfl⟩ := hcut
      cases cc with
      | false =>
        have HB := Lib.hid (HB1.out.trans (H3.out.bl.mono HB1.out.size))
        go_wp2
        go_ret
        exact ⟨rfl, HB.out⟩
      | true =>
        obtain ⟨hxl, hx60⟩ := HC.out rfl
        have hw00 := HROW.out
        obtain ⟨rb, ro, rfl, hrl, r0, r1, r2, r3, r4, r5⟩ := hw00.op11 x hxl
        have HXX := Lib.hid hx60
        have hx60i : (x : Int) < 60 := by omega
        have hxli : (x : Int) < (l0.length : Int) := by omega
        have hbw := HB1.out.trans (H3.out.bl.mono HB1.out.size)
        have r0 := kc hbw r0
        have r1 := kc hbw r1
        have r2 := kc hbw r2
        have r3 := kc hbw r3
        have r4 := kc hbw r4
        have r5 := kc hbw r5
        have hk := and3N l0[x].k
        have hat := and7T l0[x].at'
        have hin := HIN.out l0[x] (List.getElem_mem hxl)
        generalize l0[x] = o at *
        have hA := hin.2.1
        have hB := hin.2.2.1
        unfold I64 at hA hB
        generalize o.k % 4 = kk at *
        generalize o.at' % 8 = at8 at *
        have hbo := balloc (Below.refl _ wc) (.cells #[.int .i64 o.k, .int .i64 o.a, .int .i64 o.b, .int .i64 o.at', .int .i64 o.how, .string o.tx] 29)
        have H4 := Lib.hid (H3.out.below hbo)
        clear hxl hx60 hbw hbo HX HC hrl hw00 hin
        obtain ⟨a, ha3, eA⟩ := mod3 o.a hA
        obtain ⟨b, hb3, eB⟩ := mod3 o.b hB
        go_upto_region 13 with fail
        have ha3i : (a : Int) < 3 := by omega
        have hb3i : (b : Int) < 3 := by omega
        have HA3 := Lib.hid ha3
        have HB3 := Lib.hid hb3
        have y0 : (wc.alloc (.cells #[.int .i64 o.k, .int .i64 o.a, .int .i64 o.b, .int .i64 o.at', .int .i64 o.how, .string o.tx] 29)).cell? ⟨wc.heap.size, 0, none⟩ = some (.int .i64 o.k) := by simp
        have y3 : (wc.alloc (.cells #[.int .i64 o.k, .int .i64 o.a, .int .i64 o.b, .int .i64 o.at', .int .i64 o.how, .string o.tx] 29)).cell? ⟨wc.heap.size, 3, none⟩ = some (.int .i64 o.at') := by simp
        have y4 : (wc.alloc (.cells #[.int .i64 o.k, .int .i64 o.a, .int .i64 o.b, .int .i64 o.at', .int .i64 o.how, .string o.tx] 29)).cell? ⟨wc.heap.size, 4, none⟩ = some (.int .i64 o.how) := by simp
        clear eA eB hA hB ha3 hb3 r0 r1 r2 r3 r4 r5
        generalize wc.alloc (.cells #[.int .i64 o.k, .int .i64 o.a, .int .i64 o.b, .int .i64 o.at', .int .i64 o.how, .string o.tx] 29) = wd at *
        generalize o.k = ok at *
        generalize o.at' = oat at *
        generalize o.how = oh at *
        generalize wc.heap.size = OB at *
        go_upto_block 2 with fail
        go_cut [12] (fun s12 wx => ∃ (st' : Nat → Nat → Ses) (T' : Nat → Nat → List UInt8), Od w1 wx SB TB n (x + 1) st' T')
        case first =>
          by_cases hab : a = b
          · have HNS : Hid (∀ w', Below wd.heap.size wd w' → NoSes w' (.pointer (some ⟨n, 0, none⟩)) (a : Int) (b : Int)) := Lib.hid (fun w' hb => (H4.out.net.below hb).noSes (a : Int) (b : Int) (by have := HA3.out; have := HB3.out; unfold In64; dsimp only; omega) (by unfold Vld; dsimp only; omega))
            have HFIN : Hid (∀ w', Below wd.heap.size wd w' → ∃ (st' : Nat → Nat → Ses) (T' : Nat → Nat → List UInt8), Od w1 w' SB TB n (x + 1) st' T') := Lib.hid (fun w' hb => ⟨_, _, (H4.out.below hb).mono⟩)
            subst hab
            by_cases k0 : kk = 0
            · subst k0
              have hcv := conv_ltr wd x
              have hbb := balloc (Below.refl _ wd) (.cells #[.int .u8 (97 + (x : Int) % 26)] 5)
              have hcall := nsend_bad (.pointer (some ⟨n, 0, none⟩)) (a : Int) (a : Int) ⟨#[ltr x]⟩ _ (HNS.out _ hbb)
              have HE := Lib.hid (HFIN.out _ hbb)
              clear hbb
              go_wp2_with fail
              refine hcall.mono ?_
              rintro e w3 ⟨rfl, rfl⟩
              clear hcall
              go_wp2
              go_meet
              exact HE.out
            · have g0 : (kk == 0) = false := by simpa using k0
              by_cases k3 : kk = 3
              · subst k3
                have hcall := nagain_bad (.pointer (some ⟨n, 0, none⟩)) (a : Int) (a : Int) _ (HNS.out _ (Below.refl _ _))
                have HE := Lib.hid (HFIN.out _ (Below.refl _ _))
                clear k0
                go_wp2_with fail
                refine hcall.mono ?_
                rintro e w3 ⟨rfl, rfl⟩
                clear hcall
                go_wp2
                go_meet
                exact HE.out
              · have g3 : (kk == 3) = false := by simpa using k3
                have hcall := npick_bad (.pointer (some ⟨n, 0, none⟩)) (a : Int) (a : Int) at8 oh _ (HNS.out _ (Below.refl _ _))
                have HE := Lib.hid (HFIN.out _ (Below.refl _ _))
                clear k0 k3
                go_wp2_with fail
                refine hcall.mono ?_
                rintro e w3 ⟨rfl, rfl⟩
                clear hcall
                go_wp2
                go_meet
                exact HE.out
          · have gab : ((a : Int) == (b : Int)) = false := by simp; omega
            have HAB := Lib.hid hab
            have HAL : Hid ((st a b).all.length ≤ 900000) := Lib.hid (by have := H4.out.lt.len HA3.out HB3.out; have := H4.out.lt.ln a b HA3.out HB3.out; have := HXX.out; omega)
            clear hab
            by_cases k0 : kk = 0
            · subst k0
              have hcv := conv_ltr wd x
              have hbb := balloc (Below.refl _ wd) (.cells #[.int .u8 (97 + (x : Int) % 26)] 5)
              have H6 := Lib.hid (H4.out.below hbb)
              have hcall := nsend_net H6.out.net a b HA3.out HB3.out HAB.out ⟨#[ltr x]⟩ HAL.out
              clear hbb
              by_cases ho : (st a b).opn < 8
              · have e0 : (st a b).sentE = 0 := by unfold Ses.sentE; rw [if_pos ho]
                rw [e0] at hcall
                have HOP := Lib.hid ho
                clear e0 ho
                go_wp2_with fail
                refine hcall.mono ?_
                rintro e w3 ⟨rfl, h6, m6⟩
                obtain ⟨q1, q2⟩ := H6.out.sent HA3.out HB3.out HAB.out (ltr x) HOP.out h6 m6
                have HQ2 := Lib.hid q2
                have c1 := q1.c a b HA3.out HB3.out
                have f1 := q1.f (a * 3 + b)
                have hsz : (bsN (T a b) (T a b).length).size + 1 ≤ 9223372036854775807 := by
                  rw [bsN_size _ (Nat.le_refl _)]
                  have := H4.out.lt.ln a b HA3.out HB3.out
                  omega
                have hszd : ¬ 9223372036854775807 < (bsN (T a b) (T a b).length).size + 1 := by omega
                clear q1 q2 h6 m6 hcall
                generalize bsN (T a b) (T a b).length = S at *
                go_upto_region 23 with fail
                go_region_law (fail)
                go_wp2
                go_meet
                exact ⟨_, _, by first | exact HQ2.out.drew | exact HQ2.out⟩
              · have e0 : (st a b).sentE = 15 := by unfold Ses.sentE; rw [if_neg ho]
                rw [e0] at hcall
                have HTU : Hid (((st a b).sent ⟨#[ltr x]⟩).all = (st a b).all ∧ ((st a b).sent ⟨#[ltr x]⟩).m = (st a b).m) := Lib.hid (by unfold Ses.sent; rw [if_neg ho]; exact ⟨rfl, rfl⟩)
                clear e0 ho
                go_wp2_with fail
                refine hcall.mono ?_
                rintro e w3 ⟨rfl, h6, m6⟩
                have HE := Lib.hid (H6.out.turn HA3.out HB3.out HAB.out h6 m6 HTU.out.1 HTU.out.2)
                clear h6 m6 hcall
                go_wp2
                go_meet
                exact ⟨_, _, HE.out⟩
            · have g0 : (kk == 0) = false := by simpa using k0
              by_cases k3 : kk = 3
              · subst k3
                have hcall := nagain_net H4.out.net a b HA3.out HB3.out HAB.out
                clear k0
                go_wp2_with fail
                refine hcall.mono ?_
                rintro e w3 ⟨rfl, h6, m6⟩
                have HE := Lib.hid (H4.out.turn HA3.out HB3.out HAB.out h6 m6 rfl rfl)
                clear hcall h6 m6
                go_wp2
                go_meet
                exact ⟨_, _, HE.out⟩
              · have g3 : (kk == 3) = false := by simpa using k3
                have hcall := npick_net H4.out.net a b HA3.out HB3.out HAB.out at8 oh HAL.out
                obtain ⟨_, _, _, _, _, _, hin⟩ := H4.out.net
                have htold := (hin.ok a b HA3.out HB3.out HAB.out).pick_told at8 oh
                clear k0 k3 hin
                have hal := H4.out.lt.al a b HA3.out HB3.out
                rcases htold with ⟨e1, e2⟩ | ⟨hm, e1, e2⟩
                · obtain ⟨td, tb⟩ : ∃ td, (st a b).pickT at8 oh = (td, false) := ⟨((st a b).pickT at8 oh).1, by rw [← e1]⟩
                  rw [tb] at hcall
                  have HE2 := Lib.hid e2
                  clear e1 e2 tb hal
                  go_wp2_with fail
                  refine hcall.mono ?_
                  rintro e w3 ⟨rfl, h6, m6⟩
                  have HE := Lib.hid (H4.out.turn HA3.out HB3.out HAB.out h6 m6 (Ses.pick_all _ _ _) HE2.out)
                  clear hcall h6 m6
                  go_wp2
                  go_meet
                  exact ⟨_, _, HE.out⟩
                · obtain ⟨L, hL⟩ : ∃ L : UInt8, (st a b).all[(st a b).m] = ⟨#[L]⟩ := ⟨(T a b)[(st a b).m]'(by rw [hal, ltsN_len] at hm; exact hm), by simp only [hal, ltsN, List.getElem_map]⟩
                  rw [e1, hL] at hcall
                  have HE2 : Hid (∃ hm : (st a b).m < (st a b).all.length, (⟨#[L]⟩ : ByteArray) = (st a b).all[(st a b).m] ∧ ((st a b).pick at8 oh).m = (st a b).m + 1) := Lib.hid ⟨hm, hL.symm, e2⟩
                  clear e1 e2 hal hL hm
                  go_wp2_with fail
                  refine hcall.mono ?_
                  rintro e w3 ⟨rfl, h6, m6⟩
                  obtain ⟨q1, q2⟩ := H4.out.told HA3.out HB3.out HAB.out (Ses.pick_all _ _ _) HE2.out h6 m6
                  have HQ2 := Lib.hid q2
                  have c1 := q1.c a b HA3.out HB3.out
                  have f1 := q1.f (a * 3 + b)
                  have hsz : (bsN (T a b) (st a b).m).size + 1 ≤ 9223372036854775807 := by
                    have h0 := H4.out.lt.ml a b HA3.out HB3.out
                    rw [bsN_size _ h0]
                    have := H4.out.lt.ln a b HA3.out HB3.out
                    omega
                  have hszd : ¬ 9223372036854775807 < (bsN (T a b) (st a b).m).size + 1 := by omega
                  clear q1 q2 h6 m6 hcall
                  generalize bsN (T a b) (st a b).m = S at *
                  go_upto_region 16 with fail
                  go_region_law (fail)
                  go_wp2
                  go_meet
                  exact ⟨_, _, by first | exact HQ2.out.drew | exact HQ2.out⟩
        case rest =>
          obtain ⟨st', T', h5⟩ := hcut
          have H5 := Lib.hid h5
          clear h5 H4 H3 y0 y3 y4
          obtain ⟨X, Y, m, k, e1, e2, hmk, hkx, hx, c1, c2, hO, hD⟩ := H5.out.look HA3.out HB3.out
          have hop : Calls Try.prog 14 #[.pointer (some ⟨n, 0, none⟩), .int .i64 (a : Int), .int .i64 (b : Int)] wc fun e w' => e = .returned (.int .i64 ((k - m : Nat) : Int)) ∧ Below wc.heap.size wc w' := by
            by_cases hab : a = b
            · have hns := H5.out.net.noSes (a : Int) (b : Int) (by have := HA3.out; have := HB3.out; unfold In64; dsimp only; omega) (by unfold Vld; dsimp only; omega)
              refine (nopen_bad _ _ _ _ hns).mono ?_
              rintro e w' ⟨rfl, rfl⟩
              rw [hD hab]
              simp
              exact Below.refl _ _
            · have := nopen_net H5.out.net a b HA3.out HB3.out hab
              rw [hO hab] at this
              exact this
          have hkm : ((k - m : Nat) : Int) = (k : Int) - (m : Int) := by omega
          have hmi : (m : Int) ≤ (k : Int) := by omega
          have hki : (k : Int) ≤ 1000 := by have := HXX.out; omega
          clear hO hD hkx
          go_wp2_with fail
          refine hop.mono ?_
          rintro e w7 ⟨rfl, hb7⟩
          have H7 := Lib.hid (H5.out.below hb7)
          clear hb7 hop
          generalize hq : k - m = q at *
          clear hq
          go_wp2
          go_roundw
          case rel => exact ⟨x + 1, st', T', by have := HXX.out; omega, by go_num, H7.out⟩
          case measure => have := HXX.out; simp [intOf]; omega
end Go.Proofs.Ytgaghlofcokijaa
