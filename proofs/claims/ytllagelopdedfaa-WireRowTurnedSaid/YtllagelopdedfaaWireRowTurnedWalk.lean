/- The walk of the law WireRowTurned. -/
import Derived.Test.YtllagelopdedfaaGW27
import Derived.Test.YtllagelopdedfaaWireTurned
namespace Go.Proofs.Ytllagelopdedfaa
open Go.RowKit
set_option linter.unusedVariables false
set_option linter.unusedSimpArgs false

set_option maxRecDepth 100000 in
set_option maxHeartbeats 3200000 in
theorem walkWireRowTurned (w : World) (a0 b0 c0 : Value) (l0 m0 n0 : List Int) (w0 : RowAt KI w a0 l0 ∧ ∀ z ∈ l0, -9223372036854775808 ≤ z ∧ z ≤ 9223372036854775807) (x0 : RowAt KI w b0 m0 ∧ ∀ z ∈ m0, -9223372036854775808 ≤ z ∧ z ≤ 9223372036854775807) (y0 : RowAt KI w c0 n0 ∧ ∀ z ∈ n0, -9223372036854775808 ≤ z ∧ z ≤ 9223372036854775807) (q0 q1 : Int) (b1 : -9223372036854775808 ≤ q0 ∧ q0 ≤ 9223372036854775807) (b2 : -9223372036854775808 ≤ q1 ∧ q1 ≤ 9223372036854775807) (cut : Bool) :
    Calls Try.prog 10 #[.agg #[a0, b0, c0], .agg #[.int .i64 q0, .int .i64 q1], .bool cut] w fun e w' => e = .returned (.bool true) ∧ Below w.heap.size w w' := by
  obtain ⟨w0, w0b⟩ := w0
  obtain ⟨x0, x0b⟩ := x0
  obtain ⟨y0, y0b⟩ := y0
  have htr := fun W hb' y => turned_any a0 b0 c0 l0 m0 n0 q0 y cut W (w0.below hb') (x0.below hb') (y0.below hb') w0b x0b y0b
  obtain ⟨i0, j0, rfl, _⟩ := w0
  obtain ⟨i1, j1, rfl, _⟩ := x0
  obtain ⟨i2, j2, rfl, _⟩ := y0
  clear w0b x0b y0b
  have hb : Below w.heap.size w ((w.alloc (.cells #[.slice i0 l0.length j0, .slice i1 m0.length j1, .slice i2 n0.length j2] 52)).alloc (.cells #[.int .i64 q0, .int .i64 q1] 26)) := balloc (balloc (Below.refl _ _) _) _
  have hS0 := (VrP.new w (.slice i0 l0.length j0) (.slice i1 m0.length j1) (.slice i2 n0.length j2) 52).keep (balloc (Below.refl _ _) (.cells #[.int .i64 q0, .int .i64 q1] 26))
  have k0 : ((w.alloc (.cells #[.slice i0 l0.length j0, .slice i1 m0.length j1, .slice i2 n0.length j2] 52)).alloc (.cells #[.int .i64 q0, .int .i64 q1] 26)).cell? ⟨w.heap.size + 1, 0, none⟩ = some (.int .i64 q0) := by simp
  have k1 : ((w.alloc (.cells #[.slice i0 l0.length j0, .slice i1 m0.length j1, .slice i2 n0.length j2] 52)).alloc (.cells #[.int .i64 q0, .int .i64 q1] 26)).cell? ⟨w.heap.size + 1, 1, none⟩ = some (.int .i64 q1) := by simp
  go_enter Try.func10, Try.ntmps10
  go_wp2_with fail
  generalize (w.alloc (.cells #[.slice i0 l0.length j0, .slice i1 m0.length j1, .slice i2 n0.length j2] 52)).alloc (.cells #[.int .i64 q0, .int .i64 q1] 26) = wb at *
  refine (wawake_any _).mono ?_
  rintro e wa ⟨rfl, hba⟩
  obtain ⟨p0, p1, p2, _⟩ := hS0.keep hba
  have k0' := kc6 hba k0
  have k1' := kc6 hba k1
  have HBA := Lib.hid (bstep hb hba)
  clear hb hba hS0 k0 k1
  go_wp2_with fail
  refine (htr _ HBA.out _).mono ?_
  rintro e wc ⟨rfl, hbc⟩
  go_wp2
  go_ret
  exact ⟨rfl, bstep HBA.out hbc⟩
end Go.Proofs.Ytllagelopdedfaa
