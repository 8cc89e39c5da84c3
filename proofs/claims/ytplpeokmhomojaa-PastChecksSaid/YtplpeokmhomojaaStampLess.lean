/- What stamp.isSite, stamp.Check, stamp.later and stamp.Less answer. -/
import Derived.Test.YtplpeokmhomojaaProg
import Derived.Test.YtplpeokmhomojaaStampMath
import Derived.WalkKit
import Derived.WalkLawsBesides
import Derived.Lib.Hide
import Derived.BigQuiet
import Derived.Laws.StructEq
import Derived.Deep.RegionHeld3
namespace Go.Proofs.Ytplpeokmhomojaa
open Go.RowKit
set_option linter.unusedVariables false

theorem kcellS {W w1 : World} {b o : Nat} {v : Value} (hb : Below W.heap.size W w1) (hlt : b < W.heap.size) (h : W.cell? ⟨b, o, none⟩ = some v) : w1.cell? ⟨b, o, none⟩ = some v := (hb.cell (p := ⟨b, o, none⟩) hlt).trans h

theorem lt_of_cellN {w : World} {b o : Nat} {v : Value} (h : w.cell? ⟨b, o, none⟩ = some v) : b < w.heap.size := by
  unfold World.cell? at h
  split at h
  · rename_i hb
    exact (Array.getElem?_eq_some_iff.1 hb).1
  · cases h
/-- A cell behind a call that only makes memory. -/
theorem kc {W w1 : World} {b o : Nat} {v : Value} (hb : Below W.heap.size W w1) (h : W.cell? ⟨b, o, none⟩ = some v) : w1.cell? ⟨b, o, none⟩ = some v := kcellS hb (lt_of_cellN h) h
/-- A stamp that lies at a place in memory. -/
abbrev At2 (w : World) (b o : Nat) (p : Int × Int) : Prop := w.cell? ⟨b, o, none⟩ = some (.int .i64 p.1) ∧ w.cell? ⟨b, o + 1, none⟩ = some (.int .i64 p.2)
theorem At2.keep {W w1 : World} {b o : Nat} {p : Int × Int} (hb : Below W.heap.size W w1) (h : At2 W b o p) : At2 w1 b o p := ⟨kc hb h.1, kc hb h.2⟩
theorem keep22 {W w1 : World} {b o b2 o2 b3 o3 b4 o4 : Nat} {x y z u : Value} (hb : Below W.heap.size W w1) (h : W.cell? ⟨b, o, none⟩ = some x ∧ W.cell? ⟨b2, o2, none⟩ = some y ∧ W.cell? ⟨b3, o3, none⟩ = some z ∧ W.cell? ⟨b4, o4, none⟩ = some u) :
    w1.cell? ⟨b, o, none⟩ = some x ∧ w1.cell? ⟨b2, o2, none⟩ = some y ∧ w1.cell? ⟨b3, o3, none⟩ = some z ∧ w1.cell? ⟨b4, o4, none⟩ = some u := ⟨kc hb h.1, kc hb h.2.1, kc hb h.2.2.1, kc hb h.2.2.2⟩

/-- A stamp as a value. -/
abbrev sv (p : Int × Int) : Value := .agg #[.int .i64 p.1, .int .i64 p.2]

/-- Two stamps compared as structs. -/
theorem eq_stamp (w : World) (n s m t : Int) : (binOp .eql 24 (.agg #[.int .i64 n, .int .i64 s]) (.agg #[.int .i64 m, .int .i64 t])).run Try.prog w = .ok (.bool (decide ((n, s) = (m, t)))) w := by
  rw [run_eql_struct, run_equalIn_agg w 9999 24 _ _ (by kernel_rfl) (by kernel_rfl)]
  unfold Program.fieldsOf
  rw [Try.underlying24]
  simp [go_sem, Try.underlying3]
  by_cases h1 : n = m <;> by_cases h2 : s = t <;> simp [h1, h2]
theorem ne_stamp (w : World) (n s m t : Int) : (binOp .neq 24 (.agg #[.int .i64 n, .int .i64 s]) (.agg #[.int .i64 m, .int .i64 t])).run Try.prog w = .ok (.bool (!decide ((n, s) = (m, t)))) w := by
  have h := eq_stamp w n s m t
  rw [run_eql_struct] at h
  rw [run_neq_struct]
  generalize (Op.equalIn 10000 _ _ _).run _ _ = r at h
  cases r with
  | ok b w1 => simp at h ⊢; simp [h]
  | halt x w1 => simp at h

set_option maxRecDepth 100000 in
theorem isSite_any (n : Int) (w : World) :
    Calls Try.prog 87 #[.int .i64 n] w fun e w' => e = .returned (.bool (Sm.isSite n)) ∧ w = w' := by
  go_enter Try.func87, Try.ntmps87
  go_wp2
  all_goals
    go_ret
    refine ⟨ret_bool ?_, rfl⟩
    simp_all [Sm.isSite] <;> omega

set_option maxRecDepth 100000 in
set_option maxHeartbeats 400000 in
theorem scheck_any (n s : Int) (w : World) :
    Calls Try.prog 69 #[.agg #[.int .i64 n, .int .i64 s]] w fun e w' => e = .returned (.bool (Sm.ok n s)) ∧ Below w.heap.size w w' := by
  go_enter Try.func69, Try.ntmps69
  go_wp2_with (go_at_call 87; refine (isSite_any s _).mono ?_; rintro e w2 ⟨rfl, rfl⟩)
  all_goals
    go_ret
    refine ⟨ret_bool ?_, (Below.refl _ _).alloc (Nat.le_refl _) _⟩
    simp_all [Sm.ok, Sm.isSite] <;> omega

set_option maxRecDepth 100000 in
set_option maxHeartbeats 400000 in
theorem later_any (n s m t : Int) (w : World) :
    Calls Try.prog 71 #[.agg #[.int .i64 n, .int .i64 s], .agg #[.int .i64 m, .int .i64 t]] w fun e w' => e = .returned (sv (Sm.later (n, s) (m, t))) ∧ Below w.heap.size w w' := by
  go_enter Try.func71, Try.ntmps71
  go_wp2
  all_goals
    first
      | (have e : Sm.later (n, s) (m, t) = (n, s) := by (unfold Sm.later; rw [if_pos (by rw [Sm.less_iff]; simp; omega)]))
      | (have e : Sm.later (n, s) (m, t) = (m, t) := by (unfold Sm.later; rw [if_neg (by rw [Sm.less_iff]; simp; omega)]))
    rw [e]
    refine bodyPost_ret (v := _) (by simp [results, Try.results71, go_sem]; rfl) rfl ⟨?_, ?_⟩
    · simp [sv]
      try omega
    · exact ((((Below.refl _ w).alloc (Nat.le_refl _) _).alloc (by simp) _).alloc (by simp; omega) _)

set_option maxRecDepth 100000 in
set_option maxHeartbeats 1000000 in
theorem less_any (n s m t : Int) (w : World) :
    Calls Try.prog 52 #[.agg #[.int .i64 n, .int .i64 s], .agg #[.int .i64 m, .int .i64 t]] w fun e w' => e = .returned (.bool (Sm.less (n, s) (m, t))) ∧ Below w.heap.size w w' := by
  go_enter Try.func52, Try.ntmps52
  go_wp2_with fail
  have hne : ∀ w', (binOp .neq 24 (sv (Sm.later (n, s) (m, t))) (.agg #[.int .i64 n, .int .i64 s])).run Try.prog w' = .ok (.bool (Sm.less (n, s) (m, t))) w' := by
    intro w'
    rw [ne_stamp]
    congr 2
    have := Sm.later_ne (n, s) (m, t)
    cases h : Sm.less (n, s) (m, t) <;> simp_all
  have g0 : (((w.alloc (.cells #[.int .i64 n, .int .i64 s] 24)).alloc (.cells #[.int .i64 m, .int .i64 t] 24)).cell? ⟨w.heap.size, 0, none⟩ = some (.int .i64 n) ∧ ((w.alloc (.cells #[.int .i64 n, .int .i64 s] 24)).alloc (.cells #[.int .i64 m, .int .i64 t] 24)).cell? ⟨w.heap.size, 1, none⟩ = some (.int .i64 s) ∧ ((w.alloc (.cells #[.int .i64 n, .int .i64 s] 24)).alloc (.cells #[.int .i64 m, .int .i64 t] 24)).cell? ⟨w.heap.size + 1, 0, none⟩ = some (.int .i64 m) ∧ ((w.alloc (.cells #[.int .i64 n, .int .i64 s] 24)).alloc (.cells #[.int .i64 m, .int .i64 t] 24)).cell? ⟨w.heap.size + 1, 1, none⟩ = some (.int .i64 t)) := by
    refine ⟨?_, ?_, ?_, ?_⟩ <;> simp
  go_region_held3 (fun w' => w'.cell? ⟨w.heap.size, 0, none⟩ = some (.int .i64 n) ∧ w'.cell? ⟨w.heap.size, 1, none⟩ = some (.int .i64 s) ∧ w'.cell? ⟨w.heap.size + 1, 0, none⟩ = some (.int .i64 m) ∧ w'.cell? ⟨w.heap.size + 1, 1, none⟩ = some (.int .i64 t))
    (first | exact g0 | exact g1)
    (first
      | (go_at_call 71; ((with_reducible refine (later_any n s m t _).mono ?_); rintro e wa ⟨rfl, ha⟩; have g1 := keep22 ha g0)))
  go_wp2
  go_ret
  exact ⟨rfl, bstep (balloc (balloc (Below.refl _ w) _) _).drew ha⟩
end Go.Proofs.Ytplpeokmhomojaa
