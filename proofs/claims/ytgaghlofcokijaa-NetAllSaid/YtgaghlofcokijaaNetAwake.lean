/- The chapter's example. -/
import Derived.Test.YtgaghlofcokijaaNetSnd
import Derived.Test.YtgaghlofcokijaaNetBad
import Derived.Test.YtgaghlofcokijaaNetPck
import Derived.Test.YtgaghlofcokijaaNetAgn
import Derived.Test.YtgaghlofcokijaaNetFly
import Derived.Test.YtgaghlofcokijaaNetIdl
import Derived.Test.YtgaghlofcokijaaNetNew
namespace Go.Proofs.Ytgaghlofcokijaa
open Go.RowKit
set_option linter.unusedVariables false
set_option linter.unusedSimpArgs false

theorem Mv.base {w w' : World} {B : Nat} (h : Mv (fun k => ¬ k < B) w w') (hs : B ≤ w.heap.size) : Below B w w' :=
  h.below (fun k hk hn => hn hk) hs
end Go.Proofs.Ytgaghlofcokijaa
