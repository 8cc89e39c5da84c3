/- What the laws' own 'dep' answers. -/
import Derived.Test.YtplpeokmhomojaaPastPush
namespace Go.Proofs.Ytplpeokmhomojaa
open Go.RowKit
set_option linter.unusedVariables false
set_option linter.unusedSimpArgs false

set_option maxRecDepth 100000 in
set_option maxHeartbeats 800000 in
theorem dep_any (k : ByteArray) (n : Int) (w : World) :
    Calls Try.prog 29 #[.string k, .int .i64 n] w fun e w' => e = .returned (.agg #[.string k, .int .i64 n, .int .i64 0]) ∧ Below w.heap.size w w' := by
  go_enter Try.func29, Try.ntmps29
  go_wp2
  refine bodyPost_ret (v := .agg #[.string k, .int .i64 n, .int .i64 0]) (by simp [results, Try.results29, go_sem]) rfl ⟨rfl, ?_⟩
  exact balloc (Below.refl _ w) _
end Go.Proofs.Ytplpeokmhomojaa
