/- What stamp.isSite, stamp.Check, stamp.later and stamp.Less answer. -/
import Derived.Test.YtllagelopdedfaaProg
import Derived.Test.YtllagelopdedfaaStampMath
import Derived.WalkKit
import Derived.WalkLawsBesides
import Derived.Lib.Hide
import Derived.BigQuiet
import Derived.Laws.StructEq
import Derived.Deep.RegionHeld3
namespace Go.Proofs.Ytllagelopdedfaa
open Go.RowKit
set_option linter.unusedVariables false

theorem kcellS {W w1 : World} {b o : Nat} {v : Value} (hb : Below W.heap.size W w1) (hlt : b < W.heap.size) (h : W.cell? ⟨b, o, none⟩ = some v) : w1.cell? ⟨b, o, none⟩ = some v := (hb.cell (p := ⟨b, o, none⟩) hlt).trans h

theorem lt_of_cellN {w : World} {b o : Nat} {v : Value} (h : w.cell? ⟨b, o, none⟩ = some v) : b < w.heap.size := by
  unfold World.cell? at h
  split at h
  · rename_i hb
    exact (Array.getElem?_eq_some_iff.1 hb).1
  · cases h
/-- A cell behind a call that only makes memory. -/
theorem kc {W w1 : World} {b o : Nat} {v : Value} (hb : Below W.heap.size W w1) (h : W.cell? ⟨b, o, none⟩ = some v) : w1.cell? ⟨b, o, none⟩ = some v := kcellS hb (lt_of_cellN h) h
/-- A stamp that lies at a place in memory. -/
abbrev At2 (w : World) (b o : Nat) (p : Int × Int) : Prop := w.cell? ⟨b, o, none⟩ = some (.int .i64 p.1) ∧ w.cell? ⟨b, o + 1, none⟩ = some (.int .i64 p.2)
theorem At2.keep {W w1 : World} {b o : Nat} {p : Int × Int} (hb : Below W.heap.size W w1) (h : At2 W b o p) : At2 w1 b o p := ⟨kc hb h.1, kc hb h.2⟩
theorem keep22 {W w1 : World} {b o b2 o2 b3 o3 b4 o4 : Nat} {x y z u : Value} (hb : Below W.heap.size W w1) (h : W.cell? ⟨b, o, none⟩ = some x ∧ W.cell? ⟨b2, o2, none⟩ = some y ∧ W.cell? ⟨b3, o3, none⟩ = some z ∧ W.cell? ⟨b4, o4, none⟩ = some u) :
    w1.cell? ⟨b, o, none⟩ = some x ∧ w1.cell? ⟨b2, o2, none⟩ = some y ∧ w1.cell? ⟨b3, o3, none⟩ = some z ∧ w1.cell? ⟨b4, o4, none⟩ = some u := ⟨kc hb h.1, kc hb h.2.1, kc hb h.2.2.1, kc hb h.2.2.2⟩

/-- A stamp as a value. -/
abbrev sv (p : Int × Int) : Value := .agg #[.int .i64 p.1, .int .i64 p.2]

/-- Two stamps compared as structs. -/
theorem eq_stamp (w : World) (n s m t : Int) : (binOp .eql 67 (.agg #[.int .i64 n, .int .i64 s]) (.agg #[.int .i64 m, .int .i64 t])).run Try.prog w = .ok (.bool (decide ((n, s) = (m, t)))) w := by
  rw [run_eql_struct, run_equalIn_agg w 9999 67 _ _ (by kernel_rfl) (by kernel_rfl)]
  unfold Program.fieldsOf
  rw [Try.underlying67]
  simp [go_sem, Try.underlying3]
  by_cases h1 : n = m <;> by_cases h2 : s = t <;> simp [h1, h2]
theorem ne_stamp (w : World) (n s m t : Int) : (binOp .neq 67 (.agg #[.int .i64 n, .int .i64 s]) (.agg #[.int .i64 m, .int .i64 t])).run Try.prog w = .ok (.bool (!decide ((n, s) = (m, t)))) w := by
  have h := eq_stamp w n s m t
  rw [run_eql_struct] at h
  rw [run_neq_struct]
  generalize (Op.equalIn 10000 _ _ _).run _ _ = r at h
  cases r with
  | ok b w1 => simp at h ⊢; simp [h]
  | halt x w1 => simp at h

set_option maxRecDepth 100000 in
theorem isSite_any (n : Int) (w : World) :
    Calls Try.prog 113 #[.int .i64 n] w fun e w' => e = .returned (.bool (Sm.isSite n)) ∧ w = w' := by
  go_enter Try.func113, Try.ntmps113
  go_wp2
  all_goals
    go_ret
    refine ⟨ret_bool ?_, rfl⟩
    simp_all [Sm.isSite] <;> omega

set_option maxRecDepth 100000 in
set_option maxHeartbeats 400000 in
theorem scheck_any (n s : Int) (w : World) :
    Calls Try.prog 104 #[.agg #[.int .i64 n, .int .i64 s]] w fun e w' => e = .returned (.bool (Sm.ok n s)) ∧ Below w.heap.size w w' := by
  go_enter Try.func104, Try.ntmps104
  go_wp2_with (go_at_call 113; refine (isSite_any s _).mono ?_; rintro e w2 ⟨rfl, rfl⟩)
  all_goals
    go_ret
    refine ⟨ret_bool ?_, (Below.refl _ _).alloc (Nat.le_refl _) _⟩
    simp_all [Sm.ok, Sm.isSite] <;> omega

end Go.Proofs.Ytllagelopdedfaa
