/- What keys.Runes answers. -/
import Derived.Test.YtllagelopdedfaaKeysCount
namespace Go.Proofs.Ytllagelopdedfaa
open Go.RowKit
set_option linter.unusedVariables false

end Go.Proofs.Ytllagelopdedfaa
