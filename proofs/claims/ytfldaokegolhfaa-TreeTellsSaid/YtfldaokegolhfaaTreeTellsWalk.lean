/- The walk of the law TreeTells. -/
import Derived.Test.YtfldaokegolhfaaTreeHelp
import Derived.Test.YtfldaokegolhfaaOpenT
namespace Go.Proofs.Ytfldaokegolhfaa
open Go.RowKit
set_option linter.unusedVariables false
set_option linter.unusedSimpArgs false

set_option maxRecDepth 100000 in
set_option maxHeartbeats 3200000 in
theorem walkTreeTells (w : World) (a : Option Addr) (len cap : Nat) (zs : List Int) (h0 : IsRow .i64 w a len cap zs) (s : Int) (ws : (Lit.int .i64 s).wf = true) (t : Int) (wt : (Lit.int .i64 t).wf = true) :
    Calls Try.prog 3 #[.slice a len cap, .int .i64 s, .int .i64 t] w fun e w' => e = .returned (.bool true) ∧ Below w.heap.size w w' := by
  obtain ⟨l, rfl, hrow, _⟩ := isRow_rowT h0
  obtain ⟨_, _, e, hcap, hmx, _, hri⟩ := hrow
  cases e
  have HR := Lib.hid (hri.take8 8)
  have hf := fun W => few8_any a l cap W hcap hmx
  have hp8 : (l.take 8).length ≤ 8 := by simp; omega
  clear h0 ws wt hri hcap hmx
  generalize l.take 8 = p at *
  generalize l.length = n0 at *
  have hpl : p.length ≤ 9223372036854775807 := by omega
  go_enter Try.func3, Try.ntmps3
  go_wp2_with fail
  refine (awake8_any w).mono ?_
  rintro e w1 ⟨rfl, hb1⟩
  have HR1 := Lib.hid (HR.out.below hb1)
  go_wp2_with fail
  refine (hf _).mono ?_
  rintro e w' ⟨rfl, rfl⟩
  go_wp2_with fail
  refine (tnear_any p a cap s w1 hpl HR1.out).mono ?_
  rintro e w2 ⟨v2, rfl, ho2, hb2⟩
  have HR2 := Lib.hid (HR1.out.below hb2)
  have HB2 := Lib.hid (bstep hb1 hb2)
  have hR2 := RowAt.of_own ki_ok ho2
  clear hb1 hb2 ho2
  go_wp2_with fail
  refine (refTNear_any p a cap s w2 hpl HR2.out).mono ?_
  rintro e w3 ⟨v3, rfl, ho3, hb3⟩
  have HR3 := Lib.hid (HR2.out.below hb3)
  have HB3 := Lib.hid (bstep HB2.out hb3)
  have hsame := refTSame_any v2 v3 _ _ w3 (by rw [Tm.ln_len]; have := Tm.nearI_len p s; omega) (hR2.below hb3) (RowAt.of_own ki_ok ho3)
  rw [decide_eq_true rfl] at hsame
  clear hb3 ho3 hR2
  go_wp2_with fail
  refine hsame.mono ?_
  rintro e w4 ⟨rfl, hb4⟩
  have HR4 := Lib.hid (HR3.out.below hb4)
  have HB4 := Lib.hid (bstep HB3.out hb4)
  clear hb4 hsame
  go_wp2_with fail
  refine (tpath_any p a cap s t w4 hpl HR4.out).mono ?_
  rintro e w5 ⟨v5, rfl, ho5, hb5⟩
  have HR5 := Lib.hid (HR4.out.below hb5)
  have HB5 := Lib.hid (bstep HB4.out hb5)
  have hR5 := RowAt.of_own ki_ok ho5
  clear hb5 ho5
  go_wp2_with fail
  refine (refPath_any p a cap s t w5 hpl HR5.out).mono ?_
  rintro e w6 ⟨v6, rfl, ho6, hb6⟩
  have HR6 := Lib.hid (HR5.out.below hb6)
  have HB6 := Lib.hid (bstep HB5.out hb6)
  have hsame := refTSame_any v5 v6 _ _ w6 (by rw [Tm.ln_len]; have := Tm.pathI_len p s t; omega) (hR5.below hb6) (RowAt.of_own ki_ok ho6)
  rw [decide_eq_true rfl] at hsame
  clear hb6 ho6 hR5
  go_wp2_with fail
  refine hsame.mono ?_
  rintro e w7 ⟨rfl, hb7⟩
  have HR7 := Lib.hid (HR6.out.below hb7)
  have HB7 := Lib.hid (bstep HB6.out hb7)
  clear hb7 hsame
  have hck := tcheck_any p a cap w7 hpl HR7.out
  have hck2 := refTCheck_any p a cap w7 hpl HR7.out
  have hsd := tside_any p a cap s t w7 hpl HR7.out
  have hsd2 := fun W hR => refSide_any p a cap s t W hpl hR
  have hfr := fun W hR => tfar_any p a cap s t W hpl hR
  have hfr2 := fun W hR => refFar_any p a cap s t W hpl hR
  generalize Tm.chkT p = b at hck hck2
  generalize Tm.sideI p s t = sd at hsd hsd2
  generalize Tm.farI p s t = fr at hfr hfr2
  go_wp2_with fail
  refine hck.mono ?_
  rintro e w' ⟨rfl, rfl⟩
  go_wp2_with fail
  refine hck2.mono ?_
  rintro e w' ⟨rfl, rfl⟩
  go_wp2_with fail
  refine hsd.mono ?_
  rintro e w8 ⟨rfl, hb8⟩
  have HR8 := Lib.hid (HR7.out.below hb8)
  have HB8 := Lib.hid (bstep HB7.out hb8)
  clear hb8
  go_wp2_with fail
  refine (hsd2 w8 HR8.out).mono ?_
  rintro e w9 ⟨rfl, hb9⟩
  have HR9 := Lib.hid (HR8.out.below hb9)
  have HB9 := Lib.hid (bstep HB8.out hb9)
  clear hb9
  go_wp2_with fail
  refine (hfr w9 HR9.out).mono ?_
  rintro e w10 ⟨rfl, hb10⟩
  have HR10 := Lib.hid (HR9.out.below hb10)
  have HB10 := Lib.hid (bstep HB9.out hb10)
  clear hb10
  go_wp2_with fail
  refine (hfr2 w10 HR10.out).mono ?_
  rintro e w11 ⟨rfl, hb11⟩
  go_wp2
  go_ret
  exact ⟨rfl, bstep HB10.out hb11⟩
end Go.Proofs.Ytfldaokegolhfaa
