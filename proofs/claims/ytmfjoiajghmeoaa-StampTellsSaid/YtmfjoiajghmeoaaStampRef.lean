/- What the document's own Check, Less, Next and Max of stamps answer. -/
import Derived.Test.YtmfjoiajghmeoaaStampNext
namespace Go.Proofs.Ytmfjoiajghmeoaa
open Go.RowKit
set_option linter.unusedVariables false

set_option maxRecDepth 100000 in
set_option maxHeartbeats 400000 in
theorem refCheck_any (n s : Int) (w : World) :
    Calls Try.prog 14 #[.agg #[.int .i64 n, .int .i64 s]] w fun e w' => e = .returned (.bool (Sm.ok n s)) ∧ Below w.heap.size w w' := by
  go_enter Try.func14, Try.ntmps14
  go_wp2
  all_goals
    go_ret
    refine ⟨ret_bool ?_, (Below.refl _ _).alloc (Nat.le_refl _) _⟩
    simp_all [Sm.ok] <;> omega

set_option maxRecDepth 100000 in
set_option maxHeartbeats 400000 in
theorem refLess_any (n s m t : Int) (w : World) :
    Calls Try.prog 16 #[.agg #[.int .i64 n, .int .i64 s], .agg #[.int .i64 m, .int .i64 t]] w fun e w' => e = .returned (.bool (Sm.less (n, s) (m, t))) ∧ Below w.heap.size w w' := by
  go_enter Try.func16, Try.ntmps16
  go_wp2
  all_goals
    go_ret
    refine ⟨ret_bool ?_, balloc (balloc (Below.refl _ w) _) _⟩
    simp_all [Sm.less]

set_option maxRecDepth 100000 in
set_option maxHeartbeats 1000000 in
theorem refNext_any (n s k : Int) (w : World) (hn : -9223372036854775808 ≤ n) :
    Calls Try.prog 12 #[.agg #[.int .i64 n, .int .i64 s], .int .i64 k] w fun e w' => e = .returned (nv (Sm.nxt n k)) ∧ Below w.heap.size w w' := by
  have hbel : ∀ x y z u : Value, Below w.heap.size w ((w.alloc (.cells #[x, y] 25)).alloc (.cells #[z, u] 25)) := fun _ _ _ _ => balloc (balloc (Below.refl _ w) _) _
  obtain ⟨q, hq⟩ : ∃ q, Sm.nxt n k = q := ⟨_, rfl⟩
  have HQ := Lib.hid hq
  rw [hq]
  clear hq
  obtain ⟨⟨q0, q1⟩, q2⟩ := q
  go_enter Try.func12, Try.ntmps12
  go_wp2
  all_goals
    refine bodyPost_ret (v := nv ((q0, q1), q2)) ?_ rfl ⟨rfl, hbel _ _ _ _⟩
    have hq := HQ.out
    simp [results, Try.results12, go_sem]
    simp only [Sm.nxt, Sm.isSite, decide_eq_false_iff_not] at hq
    (repeat' split at hq) <;> simp at hq <;> omega
end Go.Proofs.Ytmfjoiajghmeoaa
