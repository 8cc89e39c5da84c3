/- What the document's Read of a past answers: the loop. -/
import Derived.Test.YtllagelopdedfaaGW27
import Derived.Test.YtllagelopdedfaaPastRefRead
namespace Go.Proofs.Ytllagelopdedfaa
open Go.RowKit
set_option linter.unusedVariables false
set_option linter.unusedSimpArgs false

theorem goL_no1 {s : List UInt8} {n : Nat} {acc : List De} {a : Nat} (h : rdt s (a : Int) 32 = none) : finL (goL s (n + 1) acc a) = none := by
  rw [goL_none (by simp [rdD, h])]; rfl
theorem goL_no2 {s : List UInt8} {n : Nat} {acc : List De} {a : Nat} {k : List UInt8} {m : Nat} (h : rdt s (a : Int) 32 = some (k, m)) (h2 : Sm.rdS (rd s) (m : Int) = none) : finL (goL s (n + 1) acc a) = none := by
  rw [goL_none (by simp [rdD, h, h2])]; rfl
theorem goL_yes {s : List UInt8} {n : Nat} {acc : List De} {a : Nat} {k : List UInt8} {m e : Nat} {x y : Int} (h : rdt s (a : Int) 32 = some (k, m)) (h2 : Sm.rdS (rd s) (m : Int) = some ((x, y), e)) : goL s (n + 1) acc a = goL s n (acc ++ [(⟨k.toArray⟩, x, y)]) e :=
  goL_step (by simp [rdD, h, h2])

end Go.Proofs.Ytllagelopdedfaa
