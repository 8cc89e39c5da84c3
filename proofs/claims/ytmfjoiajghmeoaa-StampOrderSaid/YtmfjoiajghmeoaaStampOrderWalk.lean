/- The walk of the law StampOrder. -/
import Derived.Test.YtmfjoiajghmeoaaStampOrderA
import Derived.Test.YtmfjoiajghmeoaaStampOrderB
import Derived.Test.YtmfjoiajghmeoaaStampOrderC
import Derived.Test.YtmfjoiajghmeoaaStampOrderD
import Derived.Test.YtmfjoiajghmeoaaOpen3
namespace Go.Proofs.Ytmfjoiajghmeoaa
open Go.RowKit
set_option linter.unusedVariables false

theorem walkStampOrder (w : World) (a0 a1 : Int) (ha : In64 (a0, a1)) (b0 b1 : Int) (hb : In64 (b0, b1)) (c0 c1 : Int) (hc : In64 (c0, c1)) :
    Calls Try.prog 5 #[.agg #[.int .i64 a0, .int .i64 a1], .agg #[.int .i64 b0, .int .i64 b1], .agg #[.int .i64 c0, .int .i64 c1]] w fun e w' => e = .returned (.bool true) ∧ Below w.heap.size w w' := by
  cases h1 : Sm.less (a0, a1) (b0, b1) with
  | true =>
    have k1 := (Sm.less_iff _ _).1 h1
    have h2 : Sm.less (b0, b1) (a0, a1) = false := by rw [Sm.less_false]; simp at k1 ⊢; omega
    have h3 : decide ((a0, a1) = (b0, b1)) = false := by simp at k1 ⊢; omega
    cases h4 : Sm.less (b0, b1) (c0, c1) with
    | true => exact orderA w a0 a1 b0 b1 c0 c1 h1 h2 h3 h4 (Sm.less_trans h1 h4)
    | false => exact orderB w a0 a1 b0 b1 c0 c1 h1 h2 h3 h4
  | false =>
    cases h2 : Sm.less (b0, b1) (a0, a1) with
    | true =>
      have k2 := (Sm.less_iff _ _).1 h2
      exact orderC w a0 a1 b0 b1 c0 c1 h1 h2 (by simp at k2 ⊢; omega)
    | false => exact orderD w a0 a1 b0 b1 c0 c1 h1 h2 (by rw [Sm.le_antisymm h2 h1]; simp)
end Go.Proofs.Ytmfjoiajghmeoaa
