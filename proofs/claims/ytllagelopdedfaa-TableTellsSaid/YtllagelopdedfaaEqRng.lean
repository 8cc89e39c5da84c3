/- Two ranges compared as structs. -/
import Derived.Test.YtllagelopdedfaaKinds
import Derived.WalkSmall
namespace Go.Proofs.Ytllagelopdedfaa
open Go.RowKit
set_option linter.unusedVariables false
set_option linter.unusedSimpArgs false

theorem eq_rng (w : World) (k l k' l' : ByteArray) : (binOp .eql 44 (.agg #[.string k, .string l]) (.agg #[.string k', .string l'])).run Try.prog w = .ok (.bool (decide ((k, l) = (k', l')))) w := by
  rw [run_eql_struct, run_equalIn_agg w 9999 44 _ _ (by kernel_rfl) (by kernel_rfl)]
  unfold Program.fieldsOf
  rw [Try.underlying44]
  simp [go_sem, Try.underlying9]
  have hk : ∀ a b : ByteArray, a.toList = b.toList ↔ a = b := fun a b => by
    rw [Lib.toList_data, Lib.toList_data]
    exact ⟨fun h => ByteArray.ext (Array.toList_inj.1 h), fun h => by rw [h]⟩
  by_cases h1 : k = k' <;> by_cases h2 : l = l' <;> simp [hk, h1, h2]
theorem ne_rng (w : World) (k l k' l' : ByteArray) : (binOp .neq 44 (.agg #[.string k, .string l]) (.agg #[.string k', .string l'])).run Try.prog w = .ok (.bool (!decide ((k, l) = (k', l')))) w := by
  have h := eq_rng w k l k' l'
  rw [run_eql_struct] at h
  rw [run_neq_struct]
  generalize (Op.equalIn 10000 _ _ _).run _ _ = r at h
  cases r with
  | ok b w1 => simp at h ⊢; simp [h]
  | halt x w1 => simp at h

end Go.Proofs.Ytllagelopdedfaa
