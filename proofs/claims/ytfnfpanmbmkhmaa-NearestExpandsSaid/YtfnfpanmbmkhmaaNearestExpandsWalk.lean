/- The walk of the law NearestExpands. -/
import Derived.Test.YtfnfpanmbmkhmaaGN517
namespace Go.Proofs.Ytfnfpanmbmkhmaa
open Go.RowKit Go.Maps
set_option linter.unusedVariables false
set_option linter.unusedSimpArgs false

set_option maxRecDepth 100000 in
set_option maxHeartbeats 3200000 in
theorem walkNearestExpands (w : World) (a : Option Addr) (ws : List Wr) (cap : Nat) (hl : ws.length ≤ 9223372036854775807) (hr : WrIn w a ws) (v2 : Value) (l2 : List De) (hr2 : DepAt w v2 l2) (hz2 : Szd l2) :
    Calls Try.prog 7 #[.slice a ws.length cap, v2] w fun e w' => e = .returned (.bool true) ∧ Below w.heap.size w w' := by
  have HR := Lib.hid hr
  have HR2 := Lib.hid hr2
  have HZ2 := Lib.hid hz2
  have hl2 : l2.length ≤ 9223372036854775807 := by obtain ⟨_, _, _, h1, h2, _⟩ := id hr2; unfold maxLen at h2; omega
  obtain ⟨va, vc, rfl, _, _, _, _⟩ := hr2
  clear hr hz2
  go_enter Try.func7, Try.ntmps7
  go_wp2_with fail
  refine (awake5_any _).mono ?_
  rintro e w1 ⟨rfl, hb1⟩
  go_wp2_with fail
  refine (made5_any a cap ws w1 hl (HR.out.below hb1)).mono ?_
  rintro e w2 ⟨u2, xs, rfl, hmap, hvm, hb2⟩
  have HM2 : Hid (Made w2 u2 xs ws) := Lib.hid ⟨hvm.row, hmap⟩
  have hbel2 := bstep hb1 hb2
  obtain ⟨sa, sc, rfl⟩ := hvm.own.shape
  have hxl := HM2.out.len
  clear hvm hmap hb1 hb2
  go_wp2_with fail
  refine (few_any5 _ l2 w2 hl2 HZ2.out (HR2.out.below hbel2)).mono ?_
  rintro e w3 ⟨u3, rfl, hd3, hb3⟩
  have HP3 := Lib.hid hd3
  obtain ⟨pa, pc, rfl, _, _, _, _⟩ := hd3
  have hpl := fewD_len l2
  have HPS := Lib.hid (fewD_srt l2)
  have HM3 := Lib.hid (HM2.out.below hb3)
  have hbel3 := bstep hbel2 hb3
  generalize fewD l2 = p at HP3 hpl HPS
  clear HM2 hbel2 hb3
  go_wp2_with fail
  refine (expand_any _ _ p xs w3 (by omega) HPS.out (by omega) HM3.out.ok HP3.out HM3.out.row).mono ?_
  rintro e w4 ⟨u4, rfl, ho4, hb4⟩
  have HE4 := Lib.hid (DepAt.of_own ho4)
  obtain ⟨ea, ec, rfl⟩ := ho4.shape
  have hel := expL_len p xs (by omega) HM3.out.ok
  have HM4 := Lib.hid (HM3.out.below hb4)
  have HP4 := Lib.hid (HP3.out.below hb4)
  have hbel4 := bstep hbel3 hb4
  have HCV : Hid (cvD (expL p (xs.map Prod.fst)) p = true) := Lib.hid (exp_cov HPS.out)
  generalize expL p (xs.map Prod.fst) = ex at HE4 hel HCV
  clear ho4 hb4 HM3 HP3 hbel3
  have hC := refCovers_any _ _ ex p w4 (by omega) (by omega) HE4.out HP4.out
  rw [HCV.out] at hC
  go_wp2_with fail
  refine hC.mono ?_
  rintro e w5 ⟨rfl, hb5⟩
  have HM5 := Lib.hid (HM4.out.below hb5)
  have hbel5 := bstep hbel4 hb5
  clear hC hb5 HM4 HP4 HE4 hbel4
  go_wp2_with fail
  refine (all5_any _ xs w5 (by omega) HM5.out.ok HM5.out.row).mono ?_
  rintro e w6 ⟨u6, rfl, hd6, hb6⟩
  have HA6 := Lib.hid hd6
  obtain ⟨aa, ac, rfl, _, _, _, _⟩ := hd6
  have HM6 := Lib.hid (HM5.out.below hb6)
  have hbel6 := bstep hbel5 hb6
  have hal := allV_len HM6.out.inv
  have HAS := Lib.hid (allV_srt (xs.map Prod.fst))
  have HAC := Lib.hid (allV_closed HM6.out.inv)
  have HAE := Lib.hid (exp_closed HAS.out HAC.out)
  generalize allV (xs.map Prod.fst) = al at HA6 hal HAS HAC HAE
  clear hb6 HM5 hbel5
  have hCl := closed5_any _ _ al xs w6 (by omega) HAS.out (by omega) HM6.out.ok HA6.out HM6.out.row
  rw [HAC.out] at hCl
  go_wp2_with fail
  refine hCl.mono ?_
  rintro e w7 ⟨rfl, hb7⟩
  have HM7 := Lib.hid (HM6.out.below hb7)
  have HA7 := Lib.hid (HA6.out.below hb7)
  have hbel7 := bstep hbel6 hb7
  clear hCl hb7 HM6 HA6 hbel6
  have hE := expand_any _ _ al xs w7 (by omega) HAS.out (by omega) HM7.out.ok HA7.out HM7.out.row
  rw [HAE.out] at hE
  go_wp2_with fail
  refine hE.mono ?_
  rintro e w8 ⟨u8, rfl, ho8, hb8⟩
  have HE8 := Lib.hid (DepAt.of_own ho8)
  obtain ⟨fa, fc, rfl⟩ := ho8.shape
  have HM8 := Lib.hid (HM7.out.below hb8)
  have HA8 := Lib.hid (HA7.out.below hb8)
  have hbel8 := bstep hbel7 hb8
  clear hE ho8 hb8 HM7 HA7 hbel7
  go_wp2_with fail
  refine (refPSame_t5 _ _ al w8 (by omega) HE8.out HA8.out).mono ?_
  rintro e w9 ⟨rfl, hb9⟩
  have HM9 := Lib.hid (HM8.out.below hb9)
  have hbel9 := bstep hbel8 hb9
  clear hb9 HM8 HA8 HE8 hbel8
  have hRd := reduce_any (.slice none 0 0) _ [] xs w9 (by simp) Srt.nil (by omega) HM9.out.ok (DepAt.nil _) HM9.out.row
  rw [red_nil] at hRd
  go_wp2_with fail
  refine hRd.mono ?_
  rintro e w10 ⟨u10, rfl, ho10, hb10⟩
  obtain ⟨ga, gc, rfl⟩ := ho10.shape
  go_wp2
  go_ret
  exact ⟨rfl, bstep hbel9 hb10⟩
end Go.Proofs.Ytfnfpanmbmkhmaa
