/- The walk of the law KeysChecks. -/
import Derived.Test.YtmmgicdnbedmdaaKeysRef2
import Derived.Test.YtmmgicdnbedmdaaKeysAwake
namespace Go.Proofs.Ytmmgicdnbedmdaa
open Go.RowKit
set_option linter.unusedVariables false

set_option maxRecDepth 100000 in
set_option maxHeartbeats 800000 in
theorem walkKeysChecks (w : World) (s : ByteArray) (hs : s.size ≤ maxLen) :
    Calls Try.prog 3 #[.string s] w fun e w' => e = .returned (.bool true) ∧ Below w.heap.size w w' := by
  unfold maxLen at hs
  go_enter Try.func3, Try.ntmps3
  go_wp2_with fail
  refine (kawake_any _).mono ?_
  rintro e w1 ⟨rfl, hb1⟩
  go_wp2_with fail
  refine (kcut_any s 40 _ hs (by omega)).mono ?_
  rintro e w2 ⟨rfl, rfl⟩
  have hsz := kcut_size 40 s
  generalize kcut 40 s = t at hsz
  go_wp2_with fail
  refine (check_any t _ (by omega)).mono ?_
  rintro e w2 ⟨rfl, hb⟩
  have hb2 := bstep hb1 hb
  clear hb hb1
  generalize hx : Km.chk t.data.toList = x
  have HX := Lib.hid hx
  clear hx
  go_wp2_with fail
  refine (refCheck_any t _ (by omega)).mono ?_
  rintro e w3 ⟨rfl, rfl⟩
  rw [HX.out]
  have hxx : (x == x) = true := by simp
  go_wp2_with fail
  refine (runes_any t _ (by omega)).mono ?_
  rintro e w4 ⟨rfl, hb⟩
  have hb3 := bstep hb2 hb
  clear hb hb2
  generalize hy : Km.runesV t.data.toList = y
  have HY := Lib.hid hy
  clear hy
  go_wp2_with fail
  refine (refRunes_any t _ (by omega)).mono ?_
  rintro e w5 ⟨rfl, rfl⟩
  rw [HY.out]
  go_wp2
  go_ret
  exact ⟨by simp, hb3⟩
end Go.Proofs.Ytmmgicdnbedmdaa
