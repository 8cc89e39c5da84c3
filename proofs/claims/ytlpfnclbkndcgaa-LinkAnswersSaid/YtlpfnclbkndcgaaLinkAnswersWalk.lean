/- The walk of the law LinkAnswers. -/
import Derived.Test.YtlpfnclbkndcgaaLinkAwake
namespace Go.Proofs.Ytlpfnclbkndcgaa
open Go.RowKit
set_option linter.unusedVariables false
set_option linter.unusedSimpArgs false

set_option maxRecDepth 100000 in
set_option maxHeartbeats 6400000 in
theorem walkLinkAnswers (w : World) (n : Int) (wn : (Lit.int .i64 n).wf = true) (a0 : Value) (l0 : List Int) (w0 : RowAt KI w a0 l0 ∧ ∀ z ∈ l0, -9223372036854775808 ≤ z ∧ z ≤ 9223372036854775807) :
    Calls Try.prog 9 #[.int .i64 n, a0] w fun e w' => e = .returned (.bool true) ∧ Below w.heap.size w w' := by
  obtain ⟨⟨va, vc, rfl, _, _, _, hri⟩, hbd⟩ := w0
  have HRI := Lib.hid hri
  have HBD := Lib.hid hbd
  have hand := and7T n
  obtain ⟨x, hx⟩ : ∃ x : Nat, n % 8 = (x : Int) := ⟨(n % 8).toNat, by omega⟩
  have hx8 : x < 8 := by omega
  rw [hx] at hand
  clear hri hbd wn hx
  go_enter Try.func9, Try.ntmps9
  go_wp2_with fail
  refine (awake10_any w).mono ?_
  rintro e w2 ⟨rfl, hb2⟩
  have HB2 := Lib.hid hb2
  clear hb2
  go_wp2_with fail
  refine (newSender_any w2).mono ?_
  rintro e w3 ⟨rfl, hs3, hb3⟩
  have HB3 := Lib.hid (bstep HB2.out hb3)
  have HS3 := Lib.hid hs3
  have HZ : Hid (w.heap.size ≤ w2.heap.size) := Lib.hid HB2.out.size
  clear hs3 hb3 HB2
  generalize w2.heap.size = B at *
  go_wp2_with fail
  go_loopw [8] (fun i wr => ∃ k : Nat, k ≤ x ∧ i = .int .i64 k ∧ Hid (SnAt wr B 0 (List.replicate k (⟨#[120]⟩ : ByteArray))) ∧ Below w.heap.size w wr) (fun i _ => x - (intOf i).toNat)
  case atStart => exact ⟨0, by omega, rfl, HS3, HB3.out⟩
  case round =>
    clear HS3 HB3
    obtain ⟨k, hk, rfl, HS, hbel⟩ := hrel
    have HB := Lib.hid hbel
    clear hbel
    by_cases hlt : k < x
    · have hki : (k : Int) < (x : Int) := by omega
      have hcall := send_rep B k wr HS.out (by omega)
      go_wp2_with fail
      refine hcall.mono ?_
      rintro e w4 ⟨rfl, hs4, hm4⟩
      have HS4 := Lib.hid hs4
      have HB4 := Lib.hid (HB.out.trans (hm4.below (n := w.heap.size) (fun k hk e => by have := HZ.out; omega) HB.out.size))
      clear hcall hs4 hm4 HS HB
      go_wp2
      go_roundw
      case rel => exact ⟨k + 1, by omega, by go_num, HS4, HB4.out⟩
      case measure => simp [intOf]; omega
    · obtain rfl : k = x := by omega
      go_wp2_with fail
      go_loopw [9, 10] (fun at' i wr => ∃ (j a : Nat), j ≤ l0.length ∧ j ≤ 10 ∧ i = .int .i64 j ∧ at' = .int .i64 a ∧ a ≤ k ∧ Hid (SnAt wr B a (List.replicate (k - a) (⟨#[120]⟩ : ByteArray))) ∧ Below w.heap.size w wr) (fun _ i _ => l0.length - (intOf i).toNat)
      case atStart => exact ⟨0, 0, by omega, by omega, rfl, rfl, by omega, HS, HB.out⟩
      case round =>
        clear HS HB
        obtain ⟨j, a, hj, hj10, rfl, rfl, ha, HS, hbel⟩ := hrel
        have HB := Lib.hid hbel
        clear hbel
        by_cases hgo : j < l0.length ∧ j < 10
        · obtain ⟨h1, h2⟩ := hgo
          have h1i : (j : Int) < (l0.length : Int) := by omega
          have h2i : (j : Int) < 10 := by omega
          obtain ⟨b, off, rfl, hbl, x0⟩ := (HRI.out.below HB.out).int j h1
          have hz := HBD.out l0[j] (List.getElem_mem h1)
          obtain ⟨y1, y2⟩ := tmod_bdT l0[j] 12 (by decide)
          generalize l0[j] = z at *
          generalize hy : z.tmod 12 = y at y1 y2
          have HA := Lib.hid ha
          clear hz
          go_upto_region 15 with fail
          obtain ⟨s, hs⟩ : ∃ s, y - 2 = s := ⟨_, rfl⟩
          have hs1 : -15 < s := by omega
          have hs2 : s < 11 := by omega
          rw [hs]
          clear hy y1 y2 hs x0 ha
          have hcall := answer_rep B a k s wr HS.out
          by_cases hin : (a : Int) < s ∧ s ≤ (k : Int)
          · obtain ⟨c, rfl⟩ : ∃ c : Nat, s = (c : Int) := ⟨s.toNat, by omega⟩
            obtain ⟨hi1, hi2⟩ := hin
            have hK : Lk.ak a (k - a) (c : Int) = c - a := by
              have := Lk.ak_yes (ans := a) (n := k - a) (seq := (c : Int)) (by omega) (by omega)
              omega
            rw [hK, show a + (c - a) = c by omega] at hcall
            have hki : ((c - a : Nat) : Int) = (c : Int) - (a : Int) := by omega
            rw [hki] at hcall
            have hck : c ≤ k := by omega
            clear hK hki
            go_wp2_with fail
            refine hcall.mono ?_
            rintro e w4 ⟨rfl, hs4, hm4⟩
            have HB4 := Lib.hid (HB.out.trans (hm4.below (n := w.heap.size) (fun k hk e => by have := HZ.out; omega) HB.out.size))
            have hopen := open_rep B c k w4 hs4
            have HS4 := Lib.hid hs4
            clear hcall hs4 hm4 HS HB
            go_wp2_with fail
            refine hopen.mono ?_
            rintro e w5 ⟨g, rfl, hg, hb5⟩
            have HS5 := Lib.hid (HS4.out.keep hb5)
            have HB5 := Lib.hid (bstep HB4.out hb5)
            have hki : ((k - c : Nat) : Int) = (k : Int) - (c : Int) := by omega
            clear hopen hb5 HS4 HB4
            rcases (show k - c = 0 ∨ 0 < k - c by omega) with h0 | h0
            · have hk0 : (k : Int) - (c : Int) = 0 := by omega
              rw [h0]
              clear hg hki
              go_wp2
              go_roundw
              case rel => exact ⟨j + 1, c, by omega, by omega, by go_num, rfl, hck, HS5, HB5.out⟩
              case measure => simp [intOf]; omega
            · have hc0 := hg h0
              generalize k - c = q at hki h0 ⊢
              have h0i : (0 : Int) < (q : Int) := by omega
              clear hg
              go_wp2
              go_roundw
              case rel => exact ⟨j + 1, c, by omega, by omega, by go_num, rfl, hck, HS5, HB5.out⟩
              case measure => simp [intOf]; omega
          · have hK : Lk.ak a (k - a) s = 0 := by
              by_cases h3 : s ≤ (a : Int)
              · exact Lk.ak_old h3
              · exact Lk.ak_no (by have := HA.out; omega)
            rw [hK] at hcall
            clear hK
            have hin2 : (decide ((a : Int) < s) = false) ∨ (decide ((a : Int) < s) = true ∧ decide (s ≤ (k : Int)) = false) := by
              by_cases h3 : (a : Int) < s
              · exact .inr ⟨by simpa using h3, by simp; omega⟩
              · exact .inl (by simpa using h3)
            rcases hin2 with q1 | ⟨q1, q2⟩
            all_goals
              clear hin
              go_wp2_with fail
              refine hcall.mono ?_
              rintro e w4 ⟨rfl, hs4, hm4⟩
              have HB4 := Lib.hid (HB.out.trans (hm4.below (n := w.heap.size) (fun k hk e => by have := HZ.out; omega) HB.out.size))
              have hopen := open_rep B a k w4 hs4
              have HS4 := Lib.hid hs4
              clear hcall hs4 hm4 HS HB
              go_wp2_with fail
              refine hopen.mono ?_
              rintro e w5 ⟨g, rfl, hg, hb5⟩
              have HS5 := Lib.hid (HS4.out.keep hb5)
              have HB5 := Lib.hid (bstep HB4.out hb5)
              have hki : ((k - a : Nat) : Int) = (k : Int) - (a : Int) := by have := HA.out; omega
              clear hopen hb5 HS4 HB4
              rcases (show k - a = 0 ∨ 0 < k - a by omega) with h0 | h0
              · have hk0 : (k : Int) - (a : Int) = 0 := by have := HA.out; omega
                rw [h0]
                clear hg hki
                go_wp2
                go_roundw
                case rel => exact ⟨j + 1, a, by omega, by omega, by go_num, rfl, HA.out, HS5, HB5.out⟩
                case measure => simp [intOf]; omega
              · have hc0 := hg h0
                generalize k - a = q at hki h0 ⊢
                have h0i : (0 : Int) < (q : Int) := by omega
                clear hg
                go_wp2
                go_roundw
                case rel => exact ⟨j + 1, a, by omega, by omega, by go_num, rfl, HA.out, HS5, HB5.out⟩
                case measure => simp [intOf]; omega
        · have hnext := next_rep B a k ha wr HS.out
          rcases (show (decide (j < l0.length) = false ∧ decide ((j : Int) < (l0.length : Int)) = false) ∨ (decide (j < l0.length) = true ∧ decide ((j : Int) < (l0.length : Int)) = true ∧ decide ((j : Int) < 10) = false) by simp; omega) with ⟨q1, q2⟩ | ⟨q1, q2, q3⟩
          all_goals
            clear hgo
            go_wp2_with fail
            refine hnext.mono ?_
            rintro e w6 ⟨rfl, rfl⟩
            go_wp2
            go_ret
            exact ⟨rfl, HB.out⟩
end Go.Proofs.Ytlpfnclbkndcgaa
