/- What the document's Bytes answers of a version. -/
import Derived.Test.YtllagelopdedfaaGW27
namespace Go.Proofs.Ytllagelopdedfaa
open Go.RowKit
set_option linter.unusedVariables false
set_option linter.unusedSimpArgs false

end Go.Proofs.Ytllagelopdedfaa
