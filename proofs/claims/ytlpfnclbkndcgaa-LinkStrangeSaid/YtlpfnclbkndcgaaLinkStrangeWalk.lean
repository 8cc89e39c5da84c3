/- The walk of the law LinkStrange. -/
import Derived.Test.YtlpfnclbkndcgaaLinkAwake
namespace Go.Proofs.Ytlpfnclbkndcgaa
open Go.RowKit
set_option linter.unusedVariables false
set_option linter.unusedSimpArgs false

set_option maxRecDepth 100000 in
set_option maxHeartbeats 6400000 in
theorem walkLinkStrange (w : World) (n : Int) (wn : (Lit.int .i64 n).wf = true) (m : Int) (d : ByteArray) (wm : (Lit.int .i64 m).wf = true) (wd : d.size ≤ maxLen) :
    Calls Try.prog 8 #[.int .i64 n, .agg #[.int .i64 m, .string d]] w fun e w' => e = .returned (.bool true) ∧ Below w.heap.size w w' := by
  obtain ⟨hn1, hn2⟩ := bounds_i64 wn
  clear wn wm wd
  have HB := Lib.hid (balloc (Below.refl _ w) (.cells #[.int .i64 m, .string d] 39))
  have HV := Lib.hid (PkV.new w m d 39)
  go_enter Try.func8, Try.ntmps8
  go_upto_region 1 with fail
  generalize w.alloc (.cells #[.int .i64 m, .string d] 39) = w1 at *
  go_wp2_with fail
  refine (awake10_any w1).mono ?_
  rintro e w2 ⟨rfl, hb2⟩
  have HB2 := Lib.hid (bstep HB.out hb2)
  have HV2 := Lib.hid (HV.out.keep hb2)
  clear hb2 HB HV
  go_wp2_with fail
  refine (newReceiver_any w2).mono ?_
  rintro e w3 ⟨rfl, hr3, hb3⟩
  have HB3 := Lib.hid (bstep HB2.out hb3)
  have HV3 := Lib.hid (HV2.out.keep hb3)
  have HR3 := Lib.hid hr3
  have HZ : Hid (w.heap.size < w2.heap.size) := Lib.hid HV2.out.lt
  clear hr3 hb3 HB2 HV2
  generalize w2.heap.size = R at *
  obtain ⟨y1, y2⟩ := tmod_bdT n 21 (by decide)
  generalize hy : n.tmod 21 = y at y1 y2
  go_upto_region 6 with fail
  have ho1 := Int.emod_nonneg (y + 21) (b := 21) (by decide)
  have ho2 := Int.emod_lt_of_pos (y + 21) (b := 21) (by decide)
  generalize (y + 21) % 21 = o at *
  obtain ⟨x, rfl⟩ : ∃ x : Nat, o = (x : Int) := ⟨o.toNat, by omega⟩
  have hx : x < 21 := by omega
  clear hy y1 y2 ho1 ho2 hn1 hn2
  go_wp2_with fail
  go_loopw [8] (fun i wr => ∃ k : Nat, k ≤ x ∧ i = .int .i64 k ∧ Hid (RcAt wr R k) ∧ Hid (PkV wr w.heap.size m d) ∧ Below w.heap.size w wr) (fun i _ => x - (intOf i).toNat)
  case atStart => exact ⟨0, by omega, rfl, HR3, HV3, HB3.out⟩
  case round =>
    clear HR3 HV3 HB3
    obtain ⟨k, hk, rfl, HR, HV, hbel⟩ := hrel
    have HB := Lib.hid hbel
    clear hbel
    by_cases hlt : k < x
    · have hki : (k : Int) < (x : Int) := by omega
      have hcall := take_hit R k ⟨#[121]⟩ wr HR.out (by omega)
      go_wp2_with fail
      refine hcall.mono ?_
      rintro e w4 ⟨rfl, hr4, hm4⟩
      have HR4 := Lib.hid hr4
      have HV4 := Lib.hid (HV.out.mv hm4 (by have := HZ.out; omega))
      have HB4 := Lib.hid (HB.out.trans (hm4.below (n := w.heap.size) (fun k hk e => by have := HZ.out; omega) HB.out.size))
      clear hcall hr4 hm4 HR HV HB
      go_wp2
      go_roundw
      case rel => exact ⟨k + 1, by omega, by go_num, HR4, HV4, HB4.out⟩
      case measure => simp [intOf]; omega
    · obtain rfl : k = x := by omega
      obtain ⟨v0, v1, _, _⟩ := HV.out
      by_cases hm : m = (k : Int)
      · subst hm
        have hcall := take_hit R k d wr HR.out (by omega)
        go_wp2_with fail
        refine hcall.mono ?_
        rintro e w4 ⟨rfl, hr4, hm4⟩
        have HR4 := Lib.hid hr4
        have HV4 := Lib.hid (HV.out.mv hm4 (by have := HZ.out; omega))
        have HB4 := Lib.hid (HB.out.trans (hm4.below (n := w.heap.size) (fun k hk e => by have := HZ.out; omega) HB.out.size))
        clear hcall hr4 hm4 HR HV HB v0 v1
        obtain ⟨v0, v1, _, _⟩ := HV4.out
        have hcall := waits_at R (k + 1) w4 HR4.out
        go_wp2_with fail
        refine hcall.mono ?_
        rintro e w5 ⟨rfl, rfl⟩
        go_wp2
        go_ret
        exact ⟨rfl, HB4.out⟩
      · have hcall := take_miss R k m d wr HR.out (by omega) hm
        have q1 : decide (m = (k : Int)) = false := by simpa using hm
        go_wp2_with fail
        refine hcall.mono ?_
        rintro e w4 ⟨rfl, hr4, hm4⟩
        have HR4 := Lib.hid hr4
        have HV4 := Lib.hid (HV.out.mv hm4 (by have := HZ.out; omega))
        have HB4 := Lib.hid (HB.out.trans (hm4.below (n := w.heap.size) (fun k hk e => by have := HZ.out; omega) HB.out.size))
        clear hcall hr4 hm4 HR HV HB v0 v1
        obtain ⟨v0, v1, _, _⟩ := HV4.out
        have hcall := waits_at R k w4 HR4.out
        go_wp2_with fail
        refine hcall.mono ?_
        rintro e w5 ⟨rfl, rfl⟩
        go_wp2
        go_ret
        exact ⟨rfl, HB4.out⟩
end Go.Proofs.Ytlpfnclbkndcgaa
