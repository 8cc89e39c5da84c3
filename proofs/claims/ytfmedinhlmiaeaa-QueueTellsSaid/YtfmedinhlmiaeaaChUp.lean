/- What chain.upTo answers, for whatever predicate. -/
import Derived.Test.YtfmedinhlmiaeaaGQ27
import Derived.Test.YtfmedinhlmiaeaaChBack
import Derived.WalkMore
import Derived.Shelf.AbstractIn
namespace Go.Proofs.Ytfmedinhlmiaeaa
open Go.RowKit Go.Shelf
set_option linter.unusedVariables false
set_option linter.unusedSimpArgs false
attribute [local go_sem] Oper.semAt_some

end Go.Proofs.Ytfmedinhlmiaeaa
