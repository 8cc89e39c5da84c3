/- What the document's Read answers of bytes. -/
import Derived.Test.YtllagelopdedfaaGW27
import Derived.Test.YtllagelopdedfaaWireRefBytes
import Derived.Test.YtllagelopdedfaaRefText
import Derived.Test.YtllagelopdedfaaStampRefRead
import Derived.Test.YtllagelopdedfaaPastRefRead2
namespace Go.Proofs.Ytllagelopdedfaa
open Go.RowKit
set_option linter.unusedVariables false
set_option linter.unusedSimpArgs false

theorem rdWR_eq (s : List UInt8) : rdW s 32 18446744073709551615 =
    match rdt s 0 32 with
    | none => none
    | some (k, e1) =>
      match rd s (e1 : Int) with
      | none => none
      | some (g, e2) =>
        match rdt s (e2 : Int) 32 with
        | none => none
        | some (x, e3) =>
          match Sm.rdS (rd s) (e3 : Int) with
          | none => none
          | some (t, e4) =>
            match prD s (e4 : Int) with
            | none => none
            | some (p, e5) => some (⟨⟨k.toArray⟩, ⟨x.toArray⟩, decide (g = 1), t, p⟩, e5) := by
  unfold rdW
  cases rdt s 0 32 with
  | none => rfl
  | some y =>
    obtain ⟨k, e1⟩ := y
    simp only
    cases hr : rd s (e1 : Int) with
    | none => rfl
    | some z =>
      obtain ⟨g, e2⟩ := z
      have := (rd_some hr).1
      simp only
      rw [if_neg (by omega)]
      rfl
theorem rd_pos {s : List UInt8} {a : Int} {n e : Nat} (h : rd s a = some (n, e)) : 0 < e := by
  have := (rd_some h).2.2
  omega
theorem bstepB {w w1 : World} (h : Below w.heap.size w w1) (o : Obj) : Below w.heap.size w (w1.alloc o) := balloc h o
/-- The result's block, and what is below it. -/
structure RB (w W : World) : Prop where
  v : VwP W w.heap.size wz (.slice none 0 0)
  m : Below w.heap.size w W
theorem RB.keep {w W W' : World} (h : RB w W) (hb : Below W.heap.size W W') : RB w W' := ⟨h.v.keep hb, bstep h.m hb⟩

end Go.Proofs.Ytllagelopdedfaa
