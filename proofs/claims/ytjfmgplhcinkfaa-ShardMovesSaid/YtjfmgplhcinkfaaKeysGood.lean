/- What keys.Good and keys.Meet answer. -/
import Derived.Test.YtjfmgplhcinkfaaGS28
namespace Go.Proofs.Ytjfmgplhcinkfaa
open Go.RowKit
set_option linter.unusedVariables false

end Go.Proofs.Ytjfmgplhcinkfaa
