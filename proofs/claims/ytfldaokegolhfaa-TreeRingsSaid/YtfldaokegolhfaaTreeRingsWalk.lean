/- The walk of the law TreeRings. -/
import Derived.Test.YtfldaokegolhfaaTreeHelp
import Derived.Test.YtfldaokegolhfaaTreeMade
import Derived.Test.YtfldaokegolhfaaOpenT
namespace Go.Proofs.Ytfldaokegolhfaa
open Go.RowKit
set_option linter.unusedVariables false
set_option linter.unusedSimpArgs false

/-- An empty row of one's own. -/
theorem own_zeroT (w : World) : OwnR KI (w.alloc (.cells #[] 3)) w.heap.size (.slice (some ⟨w.heap.size, 0, none⟩) 0 0) [] := own_litT w w.heap.size 0 [] #[] rfl rfl (Nat.le_refl _) (by omega)

set_option maxRecDepth 100000 in
set_option maxHeartbeats 3200000 in
theorem walkTreeRings (w : World) (a : Option Addr) (len cap : Nat) (zs : List Int) (h0 : IsRow .i64 w a len cap zs) (q0 q1 : Int) (hq0 : -9223372036854775808 ≤ q0 ∧ q0 ≤ 9223372036854775807) (hq1 : -9223372036854775808 ≤ q1 ∧ q1 ≤ 9223372036854775807) :
    Calls Try.prog 6 #[.slice a len cap, .agg #[.int .i64 q0, .int .i64 q1]] w fun e w' => e = .returned (.bool true) ∧ Below w.heap.size w w' := by
  obtain ⟨l, rfl, hrow, _⟩ := isRow_rowT h0
  obtain ⟨_, _, e, hcap, hmx, _, hri⟩ := hrow
  cases e
  unfold maxLen at hmx
  have hl : l.length ≤ 9223372036854775807 := by omega
  have hmd := fun (W : World) hb => madeT_any l a cap 0 W hl (hri.below hb)
  obtain ⟨ha1, ha2⟩ := hq0
  obtain ⟨hb1', hb2'⟩ := hq1
  have HB0 := Lib.hid (balloc (Below.refl _ w) (.cells #[.int .i64 q0, .int .i64 q1] 34))
  have c0 : (w.alloc (.cells #[.int .i64 q0, .int .i64 q1] 34)).cell? ⟨w.heap.size, 0, none⟩ = some (.int .i64 q0) := by simp
  have c1 : (w.alloc (.cells #[.int .i64 q0, .int .i64 q1] 34)).cell? ⟨w.heap.size, 1, none⟩ = some (.int .i64 q1) := by simp
  clear h0 hri hcap hmx
  go_enter Try.func6, Try.ntmps6
  go_wp2_with fail
  generalize w.alloc (.cells #[.int .i64 q0, .int .i64 q1] 34) = w0 at *
  refine (awake8_any w0).mono ?_
  rintro e w1 ⟨rfl, hb1⟩
  have HC0 := Lib.hid (kc hb1 c0)
  have HC1 := Lib.hid (kc hb1 c1)
  clear c0 c1
  go_wp2_with fail
  refine (hmd w1 (HB0.out.trans (hb1.mono HB0.out.size))).mono ?_
  rintro e w2 ⟨p, g, rfl, htr, hpe, hpr, ho2, hb2⟩
  have HB2 := Lib.hid (bstep (bstep HB0.out hb1) hb2)
  have hc0 := kc hb2 HC0.out
  have hc1 := kc hb2 HC1.out
  have HRI := Lib.hid (RowIn.of_own ki_ok ho2)
  have HTR := Lib.hid htr
  have HRT := Lib.hid (hpr rfl)
  have hn1 := htr.n1
  have hn6 := htr.n6
  clear hmd hb1 hb2 ho2 htr hpe hpr HC0 HC1
  have hck := fun (W : World) (hb : Below w2.heap.size w2 W) => tcheck_any p (some ⟨g, 0, none⟩) p.length W (by omega) (HRI.out.below hb)
  rw [(Tm.chkT_iff p).2 HTR.out] at hck
  by_cases hn2 : p.length < 2
  · have hn2i : (p.length : Int) < 2 := by omega
    go_wp2_with fail
    refine (hck w2 (Below.refl _ _)).mono ?_
    rintro e w' ⟨rfl, rfl⟩
    go_wp2
    go_ret
    exact ⟨rfl, HB2.out⟩
  · have hn2i : ¬ (p.length : Int) < 2 := by omega
    obtain ⟨hy1, hy2⟩ := tmod_bdT q0 ((p.length : Int) - 1) (by omega)
    generalize hy : q0.tmod ((p.length : Int) - 1) = y at hy1 hy2
    obtain ⟨hz1, hz2⟩ := tmod_bdT q1 (p.length : Int) (by omega)
    generalize hz : q1.tmod (p.length : Int) = z at hz1 hz2
    go_upto_region 7 with fail
    have ho1 := Int.emod_nonneg (y + (p.length : Int) - 1) (b := (p.length : Int) - 1) (by omega)
    have ho2 := Int.emod_lt_of_pos (y + (p.length : Int) - 1) (b := (p.length : Int) - 1) (by omega)
    generalize (y + (p.length : Int) - 1) % ((p.length : Int) - 1) = o at *
    obtain ⟨x, hx1, hx2, hw⟩ : ∃ x : Nat, 1 ≤ x ∧ x < p.length ∧ wrap64 (1 + o) = (x : Int) := ⟨(1 + o).toNat, by omega, by omega, by unfold wrap64; omega⟩
    rw [hw]
    have HW1 : Hid (Below w2.heap.size w2 w2) := Lib.hid (Below.refl _ _)
    clear hw ho1 ho2 hy hy1 hy2
    have HC1 := Lib.hid hc1
    have hvz := Int.emod_nonneg z (b := (p.length : Int)) (by omega)
    have HVZ := Lib.hid hvz
    clear hvz hc0 hc1
    -- copy 1
    have HZ1 := Lib.hid (own_zeroT w2)
    have HA1 : Hid (RowAt KI (w2.alloc (.cells #[] 3)) (.slice (some ⟨g, 0, none⟩) p.length p.length) p) := Lib.hid ⟨_, _, rfl, Nat.le_refl _, by unfold maxLen; omega, by simp, (HRI.out.below HW1.out).below (balloc (Below.refl _ _) _)⟩
    have hxl1 : x < p.length := by omega
    go_upto_region 8 with (at_builtin; refine wp_appI rfl _ _ rfl w2.heap.size (.slice (some ⟨w2.heap.size, 0, none⟩) 0 0) (.slice (some ⟨g, 0, none⟩) p.length p.length) [] p rfl HZ1.out rfl HA1.out (by simp; omega) (by simp) ?_; intro v' w3 ho3 hb3 hk3; rw [List.nil_append] at ho3; obtain ⟨gA, cA, rfl⟩ := ho3.someT (by omega))
    have hce := ho3.cellT x hxl1
    have hfr := ho3.frozenT x
    have HO1 := Lib.hid (RowIn.of_own ki_ok (ho3.setT x (-1)))
    have hstep1 := (balloc (Below.refl _ w2) (.cells #[] 3)).trans (hb3.setCell (p := ⟨gA, x, none⟩) (ho3.blockT.1) (.int .i64 (-1)))
    have HS1 := Lib.hid hstep1
    have HW2 := Lib.hid (bstep HW1.out hstep1)
    clear ho3 hk3 hstep1
    generalize p[x] = old at hce
    clear hb3
    go_upto_region 9 with fail
    generalize w3.setCell ⟨gA, x, none⟩ (.int .i64 (-1)) = wa at *
    clear hce hfr
    -- copy 2
    have HZ2 := Lib.hid (own_zeroT wa)
    have HA2 : Hid (RowAt KI (wa.alloc (.cells #[] 3)) (.slice (some ⟨g, 0, none⟩) p.length p.length) p) := Lib.hid ⟨_, _, rfl, Nat.le_refl _, by unfold maxLen; omega, by simp, (HRI.out.below HW2.out).below (balloc (Below.refl _ _) _)⟩
    have hxl2 : x < p.length := by omega
    go_upto_region 10 with (at_builtin; refine wp_appI rfl _ _ rfl wa.heap.size (.slice (some ⟨wa.heap.size, 0, none⟩) 0 0) (.slice (some ⟨g, 0, none⟩) p.length p.length) [] p rfl HZ2.out rfl HA2.out (by simp; omega) (by simp) ?_; intro v' w3 ho3 hb3 hk3; rw [List.nil_append] at ho3; obtain ⟨gB, cB, rfl⟩ := ho3.someT (by omega))
    have hce := ho3.cellT x hxl2
    have hfr := ho3.frozenT x
    have HO2 := Lib.hid (RowIn.of_own ki_ok (ho3.setT x (x : Int)))
    have hstep2 := (balloc (Below.refl _ wa) (.cells #[] 3)).trans (hb3.setCell (p := ⟨gB, x, none⟩) (ho3.blockT.1) (.int .i64 (x : Int)))
    have HS2 := Lib.hid hstep2
    have HW3 := Lib.hid (bstep HW2.out hstep2)
    clear ho3 hk3 hstep2
    generalize p[x] = old at hce
    clear hb3
    go_upto_region 11 with fail
    generalize w3.setCell ⟨gB, x, none⟩ (.int .i64 (x : Int)) = wb at *
    clear hce hfr
    -- copy 3
    have HZ3 := Lib.hid (own_zeroT wb)
    have HA3 : Hid (RowAt KI (wb.alloc (.cells #[] 3)) (.slice (some ⟨g, 0, none⟩) p.length p.length) p) := Lib.hid ⟨_, _, rfl, Nat.le_refl _, by unfold maxLen; omega, by simp, (HRI.out.below HW3.out).below (balloc (Below.refl _ _) _)⟩
    have hxl3 : 0 < p.length := by omega
    have hc1 := kc HW3.out HC1.out
    have hlw := lt_of_cellN hc1
    have hc1 := kc (balloc (Below.refl _ wb) (.cells #[] 3)) hc1
    have HC3 := Lib.hid hc1
    clear hc1
    go_upto_region 12 with (at_builtin; refine wp_appI rfl _ _ rfl wb.heap.size (.slice (some ⟨wb.heap.size, 0, none⟩) 0 0) (.slice (some ⟨g, 0, none⟩) p.length p.length) [] p rfl HZ3.out rfl HA3.out (by simp; omega) (by simp) ?_; intro v' w3 ho3 hb3 hk3; rw [List.nil_append] at ho3; obtain ⟨gC, cC, rfl⟩ := ho3.someT (by omega))
    have hce := ho3.cellT 0 hxl3
    have hfr := ho3.frozenT 0
    have HO3 := Lib.hid (RowIn.of_own ki_ok (ho3.setT 0 (z % (p.length : Int))))
    have hstep3 := (balloc (Below.refl _ wb) (.cells #[] 3)).trans (hb3.setCell (p := ⟨gC, 0, none⟩) (ho3.blockT.1) (.int .i64 (z % (p.length : Int))))
    have HS3 := Lib.hid hstep3
    have HW4 := Lib.hid (bstep HW3.out hstep3)
    have hc1 := (hb3.cell (p := ⟨w.heap.size, 1, none⟩) hlw).trans HC3.out
    clear ho3 hk3 hstep3
    generalize p[0] = old at hce
    clear hb3
    go_upto_region 13 with fail
    generalize w3.setCell ⟨gC, 0, none⟩ (.int .i64 (z % (p.length : Int))) = wc at *
    clear hce hfr
    have h0p : 0 < p.length := by omega
    have k1 := tcheck_any (p.set x (-1)) (some ⟨gA, 0, none⟩) cA wc (by rw [List.length_set]; omega) ((HO1.out.below HS2.out).below HS3.out)
    rw [List.length_set, Tm.set_two hx2 h0p HRT.out (by omega)] at k1
    have k2 := tcheck_any (p.set x (x : Int)) (some ⟨gB, 0, none⟩) cB wc (by rw [List.length_set]; omega) (HO2.out.below HS3.out)
    rw [List.length_set, Tm.set_own hx2] at k2
    have k3 := tcheck_any (p.set 0 (z % (p.length : Int))) (some ⟨gC, 0, none⟩) cC wc (by rw [List.length_set]; omega) HO3.out
    rw [List.length_set, Tm.set_none HTR.out h0p HRT.out HVZ.out] at k3
    have k4 := tcheck_any [] none 0 wc (by simp) (fun i hi => absurd hi (by simp))
    rw [Tm.chkT_nil] at k4
    have k0 := hck wc HW4.out
    go_wp2_with fail
    refine k0.mono ?_
    rintro e w' ⟨rfl, rfl⟩
    go_wp2_with fail
    refine k1.mono ?_
    rintro e w' ⟨rfl, rfl⟩
    go_wp2_with fail
    refine k2.mono ?_
    rintro e w' ⟨rfl, rfl⟩
    go_wp2_with fail
    refine k3.mono ?_
    rintro e w' ⟨rfl, rfl⟩
    go_wp2_with fail
    refine k4.mono ?_
    rintro e w' ⟨rfl, rfl⟩
    go_wp2
    go_ret
    exact ⟨rfl, bstep HB2.out HW4.out⟩
end Go.Proofs.Ytfldaokegolhfaa
