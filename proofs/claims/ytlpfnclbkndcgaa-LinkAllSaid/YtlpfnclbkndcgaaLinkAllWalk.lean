/- The walk of the law LinkAll. -/
import Derived.Test.YtlpfnclbkndcgaaLinkAwake
namespace Go.Proofs.Ytlpfnclbkndcgaa
open Go.RowKit
set_option linter.unusedVariables false
set_option linter.unusedSimpArgs false

theorem open_repL (b a x : Nat) (w : World) (h : SnAt w b a (List.replicate (x - a) (⟨#[120]⟩ : ByteArray))) :
    Calls Try.prog 20 #[.pointer (some ⟨b, 0, none⟩)] w fun e w' => ∃ g, e = .returned (.slice (some ⟨g, 0, none⟩) (x - a) (x - a)) ∧ w.heap.size ≤ g ∧ LRow w' g a (List.replicate (x - a) (⟨#[120]⟩ : ByteArray)) ∧ Below w.heap.size w w' := by
  refine (open_at b a _ w h).mono ?_
  rintro e w' ⟨g, rfl, hg, hri, hb⟩
  exact ⟨g, by rw [List.length_replicate], hg, LRow.of hri, hb⟩

set_option maxRecDepth 100000 in
set_option maxHeartbeats 6400000 in
theorem walkLinkAll (w : World) (n : Int) (wn : (Lit.int .i64 n).wf = true) (a0 : Value) (l0 : List Int) (w0 : RowAt KI w a0 l0 ∧ ∀ z ∈ l0, -9223372036854775808 ≤ z ∧ z ≤ 9223372036854775807) :
    Calls Try.prog 5 #[.int .i64 n, a0] w fun e w' => e = .returned (.bool true) ∧ Below w.heap.size w w' := by
  obtain ⟨⟨va, vc, rfl, _, _, _, hri⟩, hbd⟩ := w0
  have HRI := Lib.hid hri
  have HBD := Lib.hid hbd
  have hand := and7T n
  obtain ⟨x, hx⟩ : ∃ x : Nat, n % 8 = (x : Int) := ⟨(n % 8).toNat, by omega⟩
  have hx8 : x < 8 := by omega
  rw [hx] at hand
  clear hri hbd wn hx
  go_enter Try.func5, Try.ntmps5
  go_wp2_with fail
  refine (awake10_any w).mono ?_
  rintro e w2 ⟨rfl, hb2⟩
  go_wp2_with fail
  refine (newSender_any w2).mono ?_
  rintro e w3 ⟨rfl, hs3, hb3⟩
  go_wp2_with fail
  refine (newReceiver_any w3).mono ?_
  rintro e w4 ⟨rfl, hr4, hb4⟩
  have HE := Lib.hid (Ed.new hb2 hs3 hb3 hr4 hb4)
  clear hb2 hs3 hb3 hr4 hb4
  generalize w2.heap.size = B at *
  generalize w3.heap.size = R at *
  go_wp2_with fail
  go_loopw [9] (fun i wr => ∃ k : Nat, k ≤ x ∧ i = .int .i64 k ∧ Hid (Ed w wr B R 0 (List.replicate k (⟨#[120]⟩ : ByteArray)) 0)) (fun i _ => x - (intOf i).toNat)
  case atStart => exact ⟨0, by omega, rfl, HE⟩
  case round =>
    clear HE
    obtain ⟨k, hk, rfl, HE⟩ := hrel
    by_cases hlt : k < x
    · have hki : (k : Int) < (x : Int) := by omega
      have hcall := send_rep B k wr HE.out.sn (by omega)
      go_wp2_with fail
      refine hcall.mono ?_
      rintro e w5 ⟨rfl, hs5, hm5⟩
      have HE5 := Lib.hid ((HE.out.s hs5 hm5).keep (balloc (Below.refl _ w5) (.cells #[.int .i64 (k : Int), .string ⟨#[120]⟩] 39)))
      clear hcall hs5 hm5 HE
      go_wp2
      go_roundw
      case rel => exact ⟨k + 1, by omega, by go_num, HE5⟩
      case measure => simp [intOf]; omega
    · obtain rfl : k = x := by omega
      go_wp2_with fail
      go_loopw [12, 13] (fun cm rd wr => ∃ (t m : Nat), t ≤ 9 ∧ rd = .int .i64 t ∧ cm = .int .i64 m ∧ Hid ((t = 0 ∧ m = 0) ∨ m = k) ∧ Hid (Ed w wr B R m (List.replicate (k - m) (⟨#[120]⟩ : ByteArray)) m)) (fun _ rd _ => 9 - (intOf rd).toNat)
      case atStart => exact ⟨0, 0, by omega, rfl, rfl, Lib.hid (.inl ⟨rfl, rfl⟩), HE⟩
      case round =>
        clear HE
        obtain ⟨t, m, ht, rfl, rfl, HT, HE⟩ := hrel
        by_cases ht9 : t < 9
        · have ht9i : (t : Int) < 9 := by omega
          have hopen := open_repL B m k wr HE.out.sn
          go_wp2_with fail
          refine hopen.mono ?_
          rintro e w5 ⟨g, rfl, hg, hrow, hb5⟩
          have HE5 := Lib.hid (HE.out.keep hb5)
          clear hopen hg hrow hb5 HE
          by_cases hmk : m = k
          · subst hmk
            have hopen := open_repL B m m w5 HE5.out.sn
            rw [Nat.sub_self] at hopen ⊢
            go_wp2_with fail
            refine hopen.mono ?_
            rintro e w6 ⟨g2, rfl, hg, hrow, hb6⟩
            have HE6 := Lib.hid (HE5.out.keep hb6)
            have hw := waits_at R m w6 HE6.out.rc
            have hn := next_rep B m m (Nat.le_refl _) w6 HE6.out.sn
            clear hopen hg hrow hb6 HE5
            go_wp2_with fail
            refine hw.mono ?_
            rintro e w7 ⟨rfl, rfl⟩
            go_wp2_with fail
            refine hn.mono ?_
            rintro e w8 ⟨rfl, rfl⟩
            go_wp2
            go_ret
            exact ⟨rfl, HE6.out.bl⟩
          · obtain ⟨rfl, rfl⟩ : t = 0 ∧ m = 0 := by
              rcases HT.out with h | h
              · exact h
              · exact absurd h hmk
            have hk0 : 0 < k := by omega
            have hk0i : (0 : Int) < (k : Int) := by omega
            have hopen := open_repL B 0 k w5 HE5.out.sn
            rw [Nat.sub_zero] at hopen HE5 ⊢
            clear HT hmk
            go_wp2_with fail
            refine hopen.mono ?_
            rintro e w6 ⟨g2, rfl, hg, hrow, hb6⟩
            have HE6 := Lib.hid (HE5.out.keep hb6)
            have HROW := Lib.hid hrow
            have HGR : Hid (g2 ≠ R) := Lib.hid (by have := HE5.out.rc.lt; omega)
            clear hopen hg hrow hb6 HE5
            go_wp2_with fail
            go_loopw [12, 15] (fun cm i wr => ∃ (j c : Nat), j ≤ l0.length ∧ j ≤ 10 ∧ i = .int .i64 j ∧ cm = .int .i64 c ∧ c ≤ k ∧ Hid (Ed w wr B R 0 (List.replicate k (⟨#[120]⟩ : ByteArray)) c) ∧ Hid (LRow wr g2 0 (List.replicate k (⟨#[120]⟩ : ByteArray)))) (fun _ i _ => l0.length - (intOf i).toNat)
            case atStart => exact ⟨0, 0, by omega, by omega, rfl, rfl, by omega, HE6, HROW⟩
            case round =>
              clear HE6 HROW
              obtain ⟨j, c, hj, hj10, rfl, rfl, hc, HE, HL⟩ := hrel
              by_cases hgo : j < l0.length ∧ j < 10
              · obtain ⟨h1, h2⟩ := hgo
                have h1i : (j : Int) < (l0.length : Int) := by omega
                have h2i : (j : Int) < 10 := by omega
                obtain ⟨b, off, rfl, hbl, x0⟩ := (HRI.out.below HE.out.bl).int j h1
                have hz := HBD.out l0[j] (List.getElem_mem h1)
                obtain ⟨y1, y2⟩ := tmod_bdT l0[j] (k : Int) (by omega)
                generalize l0[j] = z at *
                generalize hy : z.tmod (k : Int) = y at y1 y2
                have ho1 := Int.emod_nonneg (y + (k : Int)) (b := (k : Int)) (by omega)
                have ho2 := Int.emod_lt_of_pos (y + (k : Int)) (b := (k : Int)) (by omega)
                have hot : (y + (k : Int)).tmod (k : Int) = (y + (k : Int)) % (k : Int) := Int.tmod_eq_emod_of_nonneg (by omega)
                generalize hoe : (y + (k : Int)) % (k : Int) = o at *
                obtain ⟨i, rfl⟩ : ∃ i : Nat, o = (i : Int) := ⟨o.toNat, by omega⟩
                have hik : i < k := by omega
                obtain ⟨p0, p1⟩ := HL.out i (by rw [List.length_replicate]; exact hik)
                rw [List.getElem_replicate, Nat.zero_add] at *
                clear ho1 ho2 hz hbl
                by_cases hci : i = c
                · subst hci
                  have hcall := take_hit R i ⟨#[120]⟩ wr HE.out.rc (by omega)
                  go_wp2_with fail
                  refine hcall.mono ?_
                  rintro e w7 ⟨rfl, hr7, hm7⟩
                  have HE7 := Lib.hid (HE.out.r hr7 hm7)
                  have HL7 := Lib.hid (HL.out.mv hm7 HGR.out)
                  clear hcall hr7 hm7 HE HL p0 p1 x0 hy hot hoe y1 y2
                  go_wp2
                  go_roundw
                  case rel => exact ⟨j + 1, i + 1, by omega, by omega, by go_num, by go_num, by omega, HE7, HL7⟩
                  case measure => simp [intOf]; omega
                · have hcall := take_miss R c (i : Int) ⟨#[120]⟩ wr HE.out.rc (by omega) (by omega)
                  go_wp2_with fail
                  refine hcall.mono ?_
                  rintro e w7 ⟨rfl, hr7, hm7⟩
                  have HE7 := Lib.hid (HE.out.r hr7 hm7)
                  have HL7 := Lib.hid (HL.out.mv hm7 HGR.out)
                  clear hcall hr7 hm7 HE HL p0 p1 x0 hy hot hoe y1 y2
                  go_wp2
                  go_roundw
                  case rel => exact ⟨j + 1, c, by omega, by omega, by go_num, rfl, hc, HE7, HL7⟩
                  case measure => simp [intOf]; omega
              · rcases (show (decide (j < l0.length) = false ∧ decide ((j : Int) < (l0.length : Int)) = false) ∨ (decide (j < l0.length) = true ∧ decide ((j : Int) < (l0.length : Int)) = true ∧ decide ((j : Int) < 10) = false) by simp; omega) with ⟨q1, q2⟩ | ⟨q1, q2, q3⟩
                all_goals
                  clear hgo
                  go_wp2_with fail
                  go_loopw [12, 18] (fun cm i wr => ∃ (j c : Nat), j ≤ k ∧ i = .int .i64 j ∧ cm = .int .i64 c ∧ j ≤ c ∧ c ≤ k ∧ Hid (Ed w wr B R 0 (List.replicate k (⟨#[120]⟩ : ByteArray)) c) ∧ Hid (LRow wr g2 0 (List.replicate k (⟨#[120]⟩ : ByteArray)))) (fun _ i _ => k - (intOf i).toNat)
                  case atStart => exact ⟨0, c, by omega, rfl, rfl, by omega, hc, HE, HL⟩
                  case round =>
                    clear HE HL
                    obtain ⟨i, c, hi, rfl, rfl, hic, hck, HE, HL⟩ := hrel
                    by_cases hik : i < k
                    · have hiki : (i : Int) < (k : Int) := by omega
                      obtain ⟨p0, p1⟩ := HL.out i (by rw [List.length_replicate]; exact hik)
                      rw [List.getElem_replicate] at p1
                      rw [Nat.zero_add] at p0
                      by_cases hci : i = c
                      · subst hci
                        have hcall := take_hit R i ⟨#[120]⟩ wr HE.out.rc (by omega)
                        go_wp2_with fail
                        refine hcall.mono ?_
                        rintro e w7 ⟨rfl, hr7, hm7⟩
                        have HE7 := Lib.hid (HE.out.r hr7 hm7)
                        have HL7 := Lib.hid (HL.out.mv hm7 HGR.out)
                        clear hcall hr7 hm7 HE HL p0 p1
                        go_wp2
                        go_roundw
                        case rel => exact ⟨i + 1, i + 1, by omega, by go_num, by go_num, by omega, by omega, HE7, HL7⟩
                        case measure => simp [intOf]; omega
                      · have hcall := take_miss R c (i : Int) ⟨#[120]⟩ wr HE.out.rc (by omega) (by omega)
                        go_wp2_with fail
                        refine hcall.mono ?_
                        rintro e w7 ⟨rfl, hr7, hm7⟩
                        have HE7 := Lib.hid (HE.out.r hr7 hm7)
                        have HL7 := Lib.hid (HL.out.mv hm7 HGR.out)
                        clear hcall hr7 hm7 HE HL p0 p1
                        go_wp2
                        go_roundw
                        case rel => exact ⟨i + 1, c, by omega, by go_num, rfl, by omega, hck, HE7, HL7⟩
                        case measure => simp [intOf]; omega
                    · obtain rfl : i = k := by omega
                      obtain rfl : c = i := by omega
                      have hw := waits_at R c wr HE.out.rc
                      have ha := answer_rep B 0 c (c : Int) wr (by rw [Nat.sub_zero]; exact HE.out.sn)
                      have hK : Lk.ak 0 (c - 0) (c : Int) = c := by
                        have := Lk.ak_yes (ans := 0) (n := c - 0) (seq := (c : Int)) (by omega) (by omega)
                        omega
                      rw [hK, Nat.zero_add] at ha
                      clear hK
                      go_wp2_with fail
                      refine hw.mono ?_
                      rintro e w7 ⟨rfl, rfl⟩
                      go_wp2_with fail
                      refine ha.mono ?_
                      rintro e w8 ⟨rfl, hs8, hm8⟩
                      have HE8 := Lib.hid (HE.out.s hs8 hm8)
                      clear hw hs8 hm8 HE HL
                      go_wp2
                      go_roundw
                      case rel => exact ⟨1, c, by omega, by go_num, rfl, Lib.hid (.inr rfl), HE8⟩
                      case measure => simp [intOf]
        · obtain rfl : t = 9 := by omega
          obtain rfl : m = k := by
            rcases HT.out with h | h
            · omega
            · exact h
          have hopen := open_repL B m m wr HE.out.sn
          rw [Nat.sub_self] at hopen
          go_wp2_with fail
          refine hopen.mono ?_
          rintro e w6 ⟨g2, rfl, hg, hrow, hb6⟩
          have HE6 := Lib.hid (HE.out.keep hb6)
          have hw := waits_at R m w6 HE6.out.rc
          have hn := next_rep B m m (Nat.le_refl _) w6 HE6.out.sn
          clear hopen hg hrow hb6
          go_wp2_with fail
          refine hw.mono ?_
          rintro e w7 ⟨rfl, rfl⟩
          go_wp2_with fail
          refine hn.mono ?_
          rintro e w8 ⟨rfl, rfl⟩
          go_wp2
          go_ret
          exact ⟨rfl, HE6.out.bl⟩
end Go.Proofs.Ytlpfnclbkndcgaa
