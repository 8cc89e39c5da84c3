/- What the document's own Check, Less, Next and Max of stamps answer. -/
import Derived.Test.YtfkeeehfpbnibaaGC4
namespace Go.Proofs.Ytfkeeehfpbnibaa
open Go.RowKit
set_option linter.unusedVariables false

set_option maxRecDepth 100000 in
set_option maxHeartbeats 400000 in
theorem refSCheck_any (n s : Int) (w : World) :
    Calls Try.prog 12 #[.agg #[.int .i64 n, .int .i64 s]] w fun e w' => e = .returned (.bool (Sm.ok n s)) ∧ Below w.heap.size w w' := by
  go_enter Try.func12, Try.ntmps12
  go_wp2
  all_goals
    go_ret
    refine ⟨ret_bool ?_, (Below.refl _ _).alloc (Nat.le_refl _) _⟩
    simp_all [Sm.ok] <;> omega

set_option maxRecDepth 100000 in
set_option maxHeartbeats 400000 in
theorem refLess_any (n s m t : Int) (w : World) :
    Calls Try.prog 13 #[.agg #[.int .i64 n, .int .i64 s], .agg #[.int .i64 m, .int .i64 t]] w fun e w' => e = .returned (.bool (Sm.less (n, s) (m, t))) ∧ Below w.heap.size w w' := by
  go_enter Try.func13, Try.ntmps13
  go_wp2
  all_goals
    go_ret
    refine ⟨ret_bool ?_, balloc (balloc (Below.refl _ w) _) _⟩
    simp_all [Sm.less]

end Go.Proofs.Ytfkeeehfpbnibaa
