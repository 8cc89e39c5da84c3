/- Texts compared, as operations. -/
import Derived.Test.YtfmedinhlmiaeaaGQ27
import Derived.Test.YtfmedinhlmiaeaaQuDrop
namespace Go.Proofs.Ytfmedinhlmiaeaa
open Go.RowKit
set_option linter.unusedVariables false
set_option linter.unusedSimpArgs false

theorem run_text_geq (w : World) (x y : ByteArray) : (binOp .geq 9 (.string x) (.string y)).run Try.prog w = .ok (.bool (!Op.bytesLess x.toList y.toList)) w := by
  simp [go_sem, Try.underlying9]
theorem run_text_lss (w : World) (x y : ByteArray) : (binOp .lss 9 (.string x) (.string y)).run Try.prog w = .ok (.bool (Op.bytesLess x.toList y.toList)) w := by
  simp [go_sem, Try.underlying9]
theorem run_text_eql (w : World) (x y : ByteArray) : (binOp .eql 9 (.string x) (.string y)).run Try.prog w = .ok (.bool (x.toList == y.toList)) w := by
  simp [go_sem, Try.underlying9]
end Go.Proofs.Ytfmedinhlmiaeaa
