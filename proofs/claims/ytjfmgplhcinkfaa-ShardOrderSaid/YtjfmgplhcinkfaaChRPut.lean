/- What the document's Put answers of a row of versions. -/
import Derived.Test.YtjfmgplhcinkfaaGS28
namespace Go.Proofs.Ytjfmgplhcinkfaa
open Go.RowKit Go.Shelf
set_option linter.unusedVariables false
set_option linter.unusedSimpArgs false

theorem insB_mem {x y : Vw} {l : List Vw} (h : y ∈ insB x l) : y = x ∨ y ∈ l := by
  unfold insB at h
  rw [List.mem_append, List.mem_cons] at h
  rcases h with h | h | h
  · exact .inr ((List.takeWhile_sublist _).subset h)
  · exact .inl h
  · exact .inr ((List.dropWhile_sublist _).subset h)
theorem insB_len (x : Vw) (l : List Vw) : (insB x l).length = l.length + 1 := by
  unfold insB
  have := congrArg List.length (List.takeWhile_append_dropWhile (p := fun y => !gtW x y) (l := l))
  rw [List.length_append] at this
  rw [List.length_append, List.length_cons]
  omega
theorem outR_len (x : Vw) (l : List Vw) : (outR x l).length ≤ l.length + 1 := by
  unfold outR
  split
  · rw [insB_len]; omega
  · omega
end Go.Proofs.Ytjfmgplhcinkfaa
