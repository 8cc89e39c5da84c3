/- ShardNil, walked. -/
import Derived.Test.YtjfmgplhcinkfaaGS28
import Derived.Deep.RegionHeld3
import Derived.Deep.DeepCutAuto
namespace Go.Proofs.Ytjfmgplhcinkfaa
open Go.RowKit Go.Shelf
set_option linter.unusedVariables false
set_option linter.unusedSimpArgs false

set_option maxRecDepth 100000 in
set_option maxHeartbeats 800000 in
theorem sput_nil (x : Vw) (w : World) : Calls Try.prog 15 #[.pointer none, wV x] w fun e w' => e = .returned (.bool false) ∧ Below w.heap.size w w' := by
  obtain ⟨⟨key, val, gone, ⟨m, t⟩, past⟩, pa, pc⟩ := x
  dsimp only [wV, wcs, wvs, pw]
  go_enter Try.func15, Try.ntmps15
  go_wp2
  go_ret
  exact ⟨rfl, balloc (Below.refl _ w) _⟩
set_option maxRecDepth 100000 in
set_option maxHeartbeats 800000 in
theorem sclean_nil (s : Int × Int) (w : World) : Calls Try.prog 13 #[.pointer none, sv s, .slice none 0 0] w fun e w' => e = .returned (.tuple #[]) ∧ Below w.heap.size w w' := by
  obtain ⟨s0, s1⟩ := s
  obtain ⟨w1, hw1⟩ : ∃ w1, w.alloc (.cells #[.int .i64 s0, .int .i64 s1] 29) = w1 := ⟨_, rfl⟩
  have hb1 : Below w.heap.size w w1 := by rw [← hw1]; exact balloc (Below.refl _ _) _
  have hse := selector_any (.slice none 0 0) [] w1 (by simp) (fun d hd => by cases hd) (DepAt.nil w1)
  have hky := fun W => skeys_nil W
  have HB1 := Lib.hid hb1
  clear hb1
  go_enter Try.func13, Try.ntmps13
  go_upto_region 1 with fail
  try rw [hw1]
  clear hw1
  go_wp2_with fail
  refine hse.mono ?_
  rintro e w2 ⟨B, rfl, _, hb2⟩
  have HB2 := Lib.hid (bstep HB1.out hb2)
  clear hb2 hse
  go_wp2_with fail
  refine (hky _).mono ?_
  rintro e w3 ⟨rfl, rfl⟩
  go_wp2
  refine wp_loop_rounds 1 ?_
  rw [rounds_succ]
  go_wp2
  go_end0
  exact ⟨rfl, HB2.out⟩
theorem zero_ShA (w : World) : ShA (w.alloc (.cells #[.slice none 0 0, .map none] 57)) (fun j => j < w.heap.size) 0 w.heap.size [] (fun _ => []) := by
  refine ⟨fun j => j = w.heap.size, [], ⟨none, 0, .slice none 0 0, fun _ => .slice none 0 0, ?_⟩, by simp, fun j hj => ⟨by simp; omega, fun hn => by omega⟩⟩
  exact ⟨fun j hj => by simp; omega, rfl, (by simp), (by simp), (by simp), (by simp), OwnR.nil _ _ _, (by intro g hg; cases hg), KeyL.nil, (by simp), (by simp), (fun _ => rfl), (fun k hk => absurd rfl hk), (fun k x hx => by simp at hx)⟩
theorem clean_none (s : Int × Int) (pins : List De) : cleanF (fun _ => []) s pins = fun _ => [] := rfl
theorem owns_none (k : ByteArray) : ownsK [] k = false := rfl

set_option maxRecDepth 100000 in
set_option maxHeartbeats 6400000 in
theorem walkShardNil (w : World) (key : ByteArray) (hkey : key.size ≤ maxLen) :
    Calls Try.prog 5 #[.string key] w fun e w' => e = .returned (.bool true) ∧ Below w.heap.size w w' := by
  have HKY := Lib.hid hkey
  clear hkey
  obtain ⟨w1, hw1⟩ : ∃ w1, w.alloc (.cells #[.slice none 0 0, .map none] 57) = w1 := ⟨_, rfl⟩
  have hz := zero_ShA w
  rw [hw1] at hz
  have hb1 : Below w.heap.size w w1 := by rw [← hw1]; exact balloc (Below.refl _ _) _
  obtain ⟨b, hb⟩ : ∃ b, b = w.heap.size := ⟨_, rfl⟩
  have HB1 := Lib.hid hb1
  have HZ1 : Hid (ShA w1 (fun j => j < w.heap.size) 0 b [] (fun _ => [])) := Lib.hid (by rw [hb]; exact hz)
  have hcn := fun W => sclean_nil (0, 0) W
  have hva := fun W => ver13_any ⟨#[97]⟩ 1 0 W
  have hpn := fun W => sput_nil exA W
  have hhn := fun W => sheadC_any (.pointer none) key [] W (by simp) ⟨_, rfl⟩ (fun W _ => schain_nil key W)
  have han := fun W => satC_any (.pointer none) key (0, 0) [] W (by simp) ⟨_, rfl⟩ (fun W _ => schain_nil key W)
  dsimp only [wV, wcs, wvs, pw, verK, exA, List.length_nil, List.getLast?_nil, Option.getD_none, Option.isSome_none, vw0, wz, lastP, List.filter_nil] at hva hpn hhn han
  clear hb1 hz
  go_enter Try.func5, Try.ntmps5
  go_upto_region 3 with fail
  try rw [← hb]
  try rw [hw1]
  clear hw1 hb
  go_wp2_with fail
  refine (hcn _).mono ?_
  rintro e w2 ⟨rfl, hb2⟩
  have HB2 := Lib.hid (bstep HB1.out hb2)
  have HZ2 := Lib.hid (HZ1.out.below hb2)
  clear hb2 HZ1
  go_wp2_with fail
  refine (smove_nil (.slice none 0 0) _ ⟨_, _, _, rfl⟩).mono ?_
  rintro e w3 ⟨rfl, rfl⟩
  have hcz := lclean_any HZ2.out (by omega) (by simp) (0, 0) (.slice none 0 0) [] (by simp) (fun d hd => by cases hd) (DepAt.nil _)
  rw [clean_none] at hcz
  go_wp2_with fail
  refine hcz.mono ?_
  rintro e w3 ⟨rfl, hs3, hw3⟩
  have HB3 : Hid (Below w.heap.size w w3) := Lib.hid (HB2.out.trans (hw3.below (fun j h => h) HB2.out.size))
  have HZ3 := Lib.hid hs3
  clear hs3 hw3 hcz HZ2
  go_wp2_with fail
  refine (hhn _).mono ?_
  rintro e w4 ⟨rfl, hb4⟩
  go_upto_region 7 with fail
  obtain ⟨w5, hw5⟩ : ∃ w5, w4.alloc (.cells #[.string ⟨#[]⟩, .string ⟨#[]⟩, .bool false, .int .i64 0, .int .i64 0, .slice none 0 0] 32) = w5 := ⟨_, rfl⟩
  have hb5 : Below w4.heap.size w4 w5 := by rw [← hw5]; exact balloc (Below.refl _ _) _
  have HC5 := Lib.hid (bstep hb4 hb5)
  clear hb4 hb5
  try rw [hw5]
  clear hw5
  have hhz := lhead_any (HZ3.out.below HC5.out) key HKY.out (by simp)
  dsimp only [wV, wcs, wvs, pw, headOf, List.length_nil, List.getLast?_nil, Option.getD_none, Option.isSome_none, vw0, wz] at hhz
  go_wp2_with fail
  refine hhz.mono ?_
  rintro e w6 ⟨rfl, hb6'⟩
  have hb6 := bstep HC5.out hb6'
  clear hb6' hhz HC5
  go_upto_region 8 with fail
  obtain ⟨w7, hw7⟩ : ∃ w7, w6.alloc (.cells #[.string ⟨#[]⟩, .string ⟨#[]⟩, .bool false, .int .i64 0, .int .i64 0, .slice none 0 0] 32) = w7 := ⟨_, rfl⟩
  have hb7 : Below w6.heap.size w6 w7 := by rw [← hw7]; exact balloc (Below.refl _ _) _
  have HC7 := Lib.hid (bstep hb6 hb7)
  clear hb6 hb7
  try rw [hw7]
  clear hw7
  go_wp2_with fail
  refine (han _).mono ?_
  rintro e w8 ⟨rfl, hb8'⟩
  have hb8 := bstep HC7.out hb8'
  clear hb8' HC7
  go_upto_region 9 with fail
  obtain ⟨w9, hw9⟩ : ∃ w9, w8.alloc (.cells #[.string ⟨#[]⟩, .string ⟨#[]⟩, .bool false, .int .i64 0, .int .i64 0, .slice none 0 0] 32) = w9 := ⟨_, rfl⟩
  have hb9 : Below w8.heap.size w8 w9 := by rw [← hw9]; exact balloc (Below.refl _ _) _
  have HC9 := Lib.hid (bstep hb8 hb9)
  clear hb8 hb9
  try rw [hw9]
  clear hw9
  go_wp2_with fail
  refine (awake13_any _).mono ?_
  rintro e w10 ⟨rfl, hb10⟩
  go_wp2_with fail
  refine (hva _).mono ?_
  rintro e w11 ⟨rfl, hb11⟩
  go_wp2_with fail
  refine (hpn _).mono ?_
  rintro e w12 ⟨rfl, hb12⟩
  go_wp2_with fail
  refine (hva _).mono ?_
  rintro e w13 ⟨rfl, hb13⟩
  have HC13 := Lib.hid (bstep HC9.out (bstep hb10 (bstep hb11 (bstep hb12 hb13))))
  have hput := lput_any (HZ3.out.below HC13.out) (by decide) (by omega) exA (by simp) (verK_bd (by decide +kernel) (by decide +kernel) (by unfold In64; omega)) rfl
  rw [putF_no (by rw [owns_none]; rfl), owns_none, Bool.false_and] at hput
  dsimp only [wV, wcs, wvs, pw, verK, exA, List.length_nil] at hput
  clear hb10 hb11 hb12 hb13 HC9 hva hpn hhn han
  go_wp2_with fail
  refine hput.mono ?_
  rintro e w14 ⟨rfl, hs14, hw14⟩
  have HB14 : Hid (Below w.heap.size w w14) := Lib.hid ((bstep HB3.out HC13.out).trans (hw14.below (fun j h => h) (by have := HB3.out.size; have := HC13.out.size; omega)))
  have HZ14 := Lib.hid hs14
  clear hs14 hw14 hput HZ3 HC13 HB3
  have hky := lkeys_any HZ14.out (by omega)
  go_wp2_with fail
  refine (skeys_nil _).mono ?_
  rintro e w15 ⟨rfl, rfl⟩
  go_wp2_with fail
  refine hky.mono ?_
  rintro e w15 ⟨v15, L, hkl, _, _, rfl, ho15, hb15⟩
  obtain rfl := hkl.uniq KeyL.nil
  obtain ⟨a15, c15, rfl⟩ := ho15.shape
  clear hkl ho15 hky
  go_wp2_with fail
  refine (shave_nil _).mono ?_
  rintro e w16 ⟨v16, rfl, ho16, hb16⟩
  obtain ⟨a16, c16, hsh⟩ : ∃ a c, v16 = .slice a 0 c := by
    obtain ⟨a, c, h, _⟩ := DepAt.of_own ho16
    exact ⟨a, c, h⟩
  subst hsh
  clear ho16
  have hch := schainC_any (.pointer none) key [] w16 (by simp) ⟨_, rfl⟩ (schain_nil key w16)
  go_wp2_with fail
  refine hch.mono ?_
  rintro e w17 ⟨v17, rfl, ho17, hb17⟩
  obtain ⟨a17, c17, rfl⟩ := ho17.shape
  have HZ17 := Lib.hid (((HZ14.out.below hb15).below hb16).below hb17)
  have HB17 := Lib.hid (bstep HB14.out (bstep hb15 (bstep hb16 hb17)))
  clear hb15 hb16 hb17 ho17 hch
  go_wp2_with fail
  refine (sranges_nil _).mono ?_
  rintro e w18 ⟨rfl, rfl⟩
  have hrn := lranges_any HZ17.out (by simp)
  go_wp2_with fail
  refine hrn.mono ?_
  rintro e w18 ⟨v18, rfl, ho18, hb18⟩
  obtain ⟨a18, c18, rfl⟩ := ho18.shape
  have HB18 := Lib.hid (bstep HB17.out hb18)
  clear ho18 hb18 hrn
  go_wp2
  go_ret
  exact ⟨rfl, HB18.out⟩
end Go.Proofs.Ytjfmgplhcinkfaa
