/- The walk of the law TableMany. -/
import Derived.Test.YtllagelopdedfaaTabHelp
namespace Go.Proofs.Ytllagelopdedfaa
open Go.RowKit Go.ChangeShapes Go.WideShapes Go.ChangeAt Go.Joins
set_option linter.unusedVariables false
set_option linter.unusedSimpArgs false

theorem many7_nat (m r : Nat) (w : World) (hm : m ≤ 200) (hr : manyN m = r) :
    Calls Try.prog 26 #[.int .i64 (m : Int)] w fun e w' => e = .returned (.int .i64 (r : Int)) ∧ w = w' := by
  have h := many7_any (m : Int) w (by omega)
  have e : manyI (m : Int) = r := by unfold manyI; rw [if_neg (by omega), Int.toNat_natCast, hr]
  rw [e] at h
  exact h
theorem many7_neg (x : Int) (w : World) (hx : x < 0) (h : -9223372036854775808 ≤ x) :
    Calls Try.prog 26 #[.int .i64 x] w fun e w' => e = .returned (.int .i64 0) ∧ w = w' := by
  have h := many7_any x w (by omega)
  have e : manyI x = 0 := by unfold manyI; rw [if_pos hx]
  rw [e] at h
  exact h

set_option maxRecDepth 100000 in
set_option maxHeartbeats 1600000 in
theorem walkTableMany (w : World) (a0 : Int) (w0 : (Lit.int .i64 a0).wf = true) :
    Calls Try.prog 7 #[.int .i64 a0] w fun e w' => e = .returned (.bool true) ∧ Below w.heap.size w w' := by
  obtain ⟨m, hm⟩ : ∃ m : Nat, bits .and .i64 a0 63 = (m : Int) := ⟨(a0 % 64).toNat, by rw [and63]; omega⟩
  have hm2 : m < 64 := by rw [and63] at hm; omega
  obtain ⟨q1, q2, q3⟩ := many_law m hm2
  have hle := manyN_le m
  have hle2 := manyN_le (63 - m)
  have h0 := fun W => many7_nat m _ W (by omega) rfl
  have h1 := fun W => many7_nat (63 - m) _ W (by omega) rfl
  have h2 := fun W => many7_nat (2 * m) _ W (by omega) q2
  have h3 := fun W => many7_nat (2 * m + 1) _ W (by omega) q3
  have h4 := fun W => many7_nat 0 0 W (by omega) (by decide +kernel)
  have e1 : ((63 - m : Nat) : Int) = 63 - (m : Int) := by omega
  have e2 : ((2 * m : Nat) : Int) = 2 * (m : Int) := by omega
  have e3 : ((2 * m + 1 : Nat) : Int) = 2 * (m : Int) + 1 := by omega
  rw [e1] at h1
  rw [e2] at h2
  rw [e3] at h3
  generalize manyN m = x at *
  generalize manyN (63 - m) = y at *
  obtain rfl : y = 6 - x := by omega
  have hx6 : x ≤ 6 := by omega
  clear q1 q2 q3 hle hle2 e1 e2 e3 w0
  obtain ⟨z, hz⟩ : ∃ z : Int, z = ((6 - x : Nat) : Int) := ⟨_, rfl⟩
  have hz2 : (x : Int) + z = 6 := by omega
  rw [← hz] at h1
  have HZ := Lib.hid hz
  clear hz
  go_enter Try.func7, Try.ntmps7
  go_wp2_with fail
  refine (awake7_any w).mono ?_
  rintro e wa ⟨rfl, hba⟩
  go_wp2_with fail
  refine (h0 _).mono ?_
  rintro e w1 ⟨rfl, rfl⟩
  go_wp2_with fail
  refine (h1 _).mono ?_
  rintro e w1 ⟨rfl, rfl⟩
  go_wp2_with fail
  refine (h2 _).mono ?_
  rintro e w1 ⟨rfl, rfl⟩
  go_wp2_with fail
  refine (h0 _).mono ?_
  rintro e w1 ⟨rfl, rfl⟩
  go_wp2_with fail
  refine (h3 _).mono ?_
  rintro e w1 ⟨rfl, rfl⟩
  go_wp2_with fail
  refine (h0 _).mono ?_
  rintro e w1 ⟨rfl, rfl⟩
  go_wp2_with fail
  refine (many7_neg _ _ (by omega) (by omega)).mono ?_
  rintro e w1 ⟨rfl, rfl⟩
  go_wp2_with fail
  refine (h4 _).mono ?_
  rintro e w1 ⟨rfl, rfl⟩
  go_wp2
  go_ret
  exact ⟨rfl, hba⟩
end Go.Proofs.Ytllagelopdedfaa
