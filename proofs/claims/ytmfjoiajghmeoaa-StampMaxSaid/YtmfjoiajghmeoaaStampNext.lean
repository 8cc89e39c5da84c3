/- What stamp.Next answers; what the laws' own helper awake answers. -/
import Derived.Test.YtmfjoiajghmeoaaStampMax
namespace Go.Proofs.Ytmfjoiajghmeoaa
open Go.RowKit
set_option linter.unusedVariables false

/-- The answer of Next, as a value. -/
abbrev nv (r : (Int × Int) × Int) : Value := .tuple #[.agg #[.int .i64 r.1.1, .int .i64 r.1.2], .int .i64 r.2]

set_option maxRecDepth 100000 in
set_option maxHeartbeats 1000000 in
theorem next_any (n s k : Int) (w : World) (hn : -9223372036854775808 ≤ n) :
    Calls Try.prog 11 #[.agg #[.int .i64 n, .int .i64 s], .int .i64 k] w fun e w' => e = .returned (nv (Sm.nxt n k)) ∧ Below w.heap.size w w' := by
  have hbel : ∀ x y z u : Value, Below w.heap.size w ((w.alloc (.cells #[x, y] 25)).alloc (.cells #[z, u] 25)) := fun _ _ _ _ => balloc (balloc (Below.refl _ w) _) _
  cases hs : Sm.isSite k with
  | false =>
    have he : Sm.nxt n k = ((0, 0), 1) := by simp [Sm.nxt, hs]
    rw [he]
    have HS := Lib.hid hs
    clear hs he
    go_enter Try.func11, Try.ntmps11
    go_wp2_with (go_at_call 23; refine (isSite_any k _).mono ?_; rintro e w2 ⟨rfl, rfl⟩; rw [HS.out])
    refine bodyPost_ret (v := nv ((0, 0), 1)) (by simp [results, Try.results11, go_sem]) rfl ⟨rfl, hbel _ _ _ _⟩
  | true =>
    have HS := Lib.hid hs
    by_cases h : 1099511627776 ≤ n
    · have he : Sm.nxt n k = ((0, 0), 18) := by simp [Sm.nxt, hs, h]
      rw [he]
      clear hs he
      go_enter Try.func11, Try.ntmps11
      go_wp2_with (go_at_call 23; refine (isSite_any k _).mono ?_; rintro e w2 ⟨rfl, rfl⟩; rw [HS.out])
      refine bodyPost_ret (v := nv ((0, 0), 18)) (by simp [results, Try.results11, go_sem]) rfl ⟨rfl, hbel _ _ _ _⟩
    · obtain ⟨q, hq⟩ : ∃ q, (if n + 1 < 1 then 1 else n + 1) = q := ⟨_, rfl⟩
      have he : Sm.nxt n k = ((q, k), 0) := by rw [Sm.nxt, hs, if_neg (by simp), if_neg h, hq]
      rw [he]
      have HQ := Lib.hid hq
      clear hs he hq
      go_enter Try.func11, Try.ntmps11
      go_wp2_with (go_at_call 23; refine (isSite_any k _).mono ?_; rintro e w2 ⟨rfl, rfl⟩; rw [HS.out])
      all_goals
        refine bodyPost_ret (v := nv ((q, k), 0)) ?_ rfl ⟨rfl, hbel _ _ _ _⟩
        have hq := HQ.out
        simp [results, Try.results11, go_sem]
        split at hq <;> omega

theorem aw_next (w : World) : Calls Try.prog 11 #[.agg #[.int .i64 3, .int .i64 2], .int .i64 1] w fun e w' => e = .returned (.tuple #[.agg #[.int .i64 4, .int .i64 1], .int .i64 0]) ∧ Below w.heap.size w w' := next_any 3 2 1 w (by decide)
theorem aw_check (w : World) : Calls Try.prog 13 #[.agg #[.int .i64 4, .int .i64 1]] w fun e w' => e = .returned (.bool true) ∧ Below w.heap.size w w' := check_any 4 1 w
theorem aw_less (w : World) : Calls Try.prog 15 #[.agg #[.int .i64 0, .int .i64 0], .agg #[.int .i64 4, .int .i64 1]] w fun e w' => e = .returned (.bool true) ∧ Below w.heap.size w w' := less_any 0 0 4 1 w

set_option maxRecDepth 100000 in
set_option maxHeartbeats 1000000 in
theorem sawake_any (w : World) : Calls Try.prog 10 #[] w fun e w' => e = .returned (.bool true) ∧ Below w.heap.size w w' := by
  have heq : ∀ w', (binOp .eql 25 (.agg #[.int .i64 4, .int .i64 1]) (.agg #[.int .i64 4, .int .i64 1])).run Try.prog w' = .ok (.bool true) w' := fun w' => by rw [eq_stamp]; rfl
  go_enter Try.func10, Try.ntmps10
  go_wp2_with fail
  refine (aw_next _).mono ?_
  rintro e w1 ⟨rfl, hb1⟩
  go_wp2_with fail
  refine (aw_check _).mono ?_
  rintro e w2 ⟨rfl, hb2⟩
  have c0 : w2.cell? ⟨w1.heap.size, 0, none⟩ = some (.int .i64 4) := kc hb2 (by simp)
  have c1 : w2.cell? ⟨w1.heap.size, 1, none⟩ = some (.int .i64 1) := kc hb2 (by simp)
  have hb3 := bstep (balloc (balloc hb1 _) _) hb2
  clear hb1 hb2
  go_wp2_with fail
  refine (aw_less _).mono ?_
  rintro e w3 ⟨rfl, hb4⟩
  have hb5 := bstep hb3 hb4
  clear hb3 hb4 heq
  go_wp2
  go_ret
  exact ⟨rfl, hb5⟩
end Go.Proofs.Ytmfjoiajghmeoaa
