/- The document's Good and Meet. -/
import Derived.Test.YtjfmgplhcinkfaaGS28
import Derived.Test.YtjfmgplhcinkfaaKeysGood
namespace Go.Proofs.Ytjfmgplhcinkfaa
open Go.RowKit
set_option linter.unusedVariables false

end Go.Proofs.Ytjfmgplhcinkfaa
