/- The document's Good and Meet. -/
import Derived.Test.YtllagelopdedfaaKeysRef2
import Derived.Test.YtllagelopdedfaaKeysGood
namespace Go.Proofs.Ytllagelopdedfaa
open Go.RowKit
set_option linter.unusedVariables false

set_option maxRecDepth 100000 in
set_option maxHeartbeats 800000 in
theorem refGood_any (f t : ByteArray) (w : World) (hf : f.size ≤ 9223372036854775807) (ht : t.size ≤ 9223372036854775807) :
    Calls Try.prog 70 #[.agg #[.string f, .string t]] w fun e w' => e = .returned (.bool (Km.good f.data.toList t.data.toList)) ∧ Below w.heap.size w w' := by
  go_enter Try.func70, Try.ntmps70
  go_wp2_with fail
  refine (refCheck_any f _ hf).mono ?_
  rintro e w1 ⟨rfl, rfl⟩
  generalize hx : Km.chk f.data.toList = x
  have HX := Lib.hid hx
  clear hx
  go_wp2_with fail
  refine (refCheck_any t _ ht).mono ?_
  rintro e w1 ⟨rfl, rfl⟩
  generalize hy : Km.chk t.data.toList = y
  have HY := Lib.hid hy
  clear hy
  cases x <;> cases y
  all_goals
    go_wp2
    all_goals
      go_ret
      refine ⟨ret_bool ?_, (Below.refl _ _).alloc (Nat.le_refl _) _⟩
      unfold Km.good Km.bound
      rw [HX.out, HY.out, ← Lib.toList_data, ← Lib.toList_data]
      simp_all

end Go.Proofs.Ytllagelopdedfaa
