/- What chain.Head answers; the closures over a stamp. -/
import Derived.Test.YtfmedinhlmiaeaaGQ27
import Derived.Test.YtfmedinhlmiaeaaChMath
import Derived.Shelf.GgClosure.Gives
namespace Go.Proofs.Ytfmedinhlmiaeaa
open Go.RowKit
set_option linter.unusedVariables false
set_option linter.unusedSimpArgs false

/-- What is asked of a predicate over versions that may make memory. -/
def PredW (g : Nat) (lb : Array Value) (p : Vw → Bool) (l : List Vw) (base : Nat) (w : World) : Prop :=
  ∀ (W : World) (x : Vw), x ∈ l → Below base w W → Calls Try.prog g (#[wV x] ++ lb) W fun e w' => e = .returned (.bool (p x)) ∧ Below W.heap.size W w'

end Go.Proofs.Ytfmedinhlmiaeaa
