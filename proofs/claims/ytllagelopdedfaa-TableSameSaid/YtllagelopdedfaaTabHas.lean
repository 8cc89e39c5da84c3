/- What table.has, Sites and Many answer, and the document's two, Bit and Many. -/
import Derived.Test.YtllagelopdedfaaTabMath
import Derived.Test.YtllagelopdedfaaRowAt
import Derived.Deep.DeepCutAuto
namespace Go.Proofs.Ytllagelopdedfaa
open Go.RowKit
set_option linter.unusedVariables false
set_option linter.unusedSimpArgs false

theorem and1 (n : Int) : bits .and .i64 n 1 = n % 2 := by
  have e : bits .and .i64 n 1 = IntKind.i64.wrap ((BitVec.ofInt 64 n &&& BitVec.ofInt 64 1).toNat : Nat) := rfl
  have h : (BitVec.ofInt 64 n).toNat = _ := BitVec.toNat_ofInt n
  have h1 : (BitVec.ofInt 64 1).toNat = 1 := rfl
  rw [e, BitVec.toNat_and, h1, Nat.and_one_is_mod, h, IntKind.wrap_i64]
  omega
theorem and63 (n : Int) : bits .and .i64 n 63 = n % 64 := by
  have e : bits .and .i64 n 63 = IntKind.i64.wrap ((BitVec.ofInt 64 n &&& BitVec.ofInt 64 63).toNat : Nat) := rfl
  have h : (BitVec.ofInt 64 n).toNat = _ := BitVec.toNat_ofInt n
  have h1 : (BitVec.ofInt 64 63).toNat = 2 ^ 6 - 1 := rfl
  rw [e, BitVec.toNat_and, h1, Nat.and_two_pow_sub_one_eq_mod, h, IntKind.wrap_i64]
  omega

set_option maxRecDepth 100000 in
theorem has7_any (m : Nat) (s : Int) (w : World) (hm : m < 64) (hs : -9223372036854775808 ≤ s ∧ s ≤ 9223372036854775807) :
    Calls Try.prog 39 #[.int .i64 (m : Int), .int .i64 s] w fun e w' => e = .returned (.bool (bitN m s)) ∧ w = w' := by
  by_cases h0 : s < 0
  · rw [bitN_neg h0]
    go_enter Try.func39, Try.ntmps39
    go_wp2
    go_ret
    exact ⟨rfl, rfl⟩
  · by_cases h6 : s ≤ 64
    · obtain ⟨k, rfl⟩ : ∃ k : Nat, s = (k : Int) := ⟨s.toNat, by omega⟩
      have hB : ((((m : Int) / 2 ^ k) % 2) == 1) = bitN m (k : Int) := by
        rw [bitN_nat]
        have : ((m : Int) / 2 ^ k) = ((m / 2 ^ k : Nat) : Int) := by simp
        rw [this]
        rw [Bool.eq_iff_iff]
        simp
        omega
      generalize bitN m (k : Int) = b at hB ⊢
      have HB := Lib.hid hB
      clear hB
      go_enter Try.func39, Try.ntmps39
      go_wp2
      go_ret
      exact ⟨ret_bool (by rw [← HB.out, and1]), rfl⟩
    · have hsh : Op.shift .shr .i64 (m : Int) .i64 s = pure (.int .i64 0) := by
        unfold Op.shift
        rw [if_neg h0]
        have : min s.toNat IntKind.i64.bits = 64 := by simp [IntKind.bits]; omega
        simp only [this]
        rw [Int.fdiv_eq_ediv_of_nonneg _ (by decide)]
        have : ((m : Int) / 2 ^ 64) = 0 := by omega
        rw [this]
      rw [bitN_far hm (by omega)]
      go_enter Try.func39, Try.ntmps39
      go_wp2
      go_ret
      exact ⟨rfl, rfl⟩

set_option maxRecDepth 100000 in
theorem sites_any (c : Rw) (u0 u1 u2 : Value) (w : World) (h : RowAt KI w u2 c.pa) :
    Calls Try.prog 19 #[.agg #[u0, u1, u2]] w fun e w' => e = .returned (.int .i64 (c.pa.length : Int)) ∧ Below w.heap.size w w' := by
  obtain ⟨a2, cp2, hu2, hq2, hm2, _⟩ := h
  subst hu2
  generalize c.pa.length = n at *
  go_enter Try.func19, Try.ntmps19
  go_wp2
  go_ret
  exact ⟨rfl, balloc (Below.refl _ _) _⟩

set_option maxRecDepth 100000 in
theorem two7_any (n : Nat) (w : World) (hn : n ≤ 60) :
    Calls Try.prog 45 #[.int .i64 (n : Int)] w fun e w' => e = .returned (.int .i64 ((2 ^ n : Nat) : Int)) ∧ w = w' := by
  go_enter Try.func45, Try.ntmps45
  go_wp2
  go_loop [3, 4] (fun p i => ∃ k q : Nat, k ≤ n ∧ i = .int .i64 k ∧ p = .int .i64 (q : Int) ∧ q = 2 ^ k) (fun _ i => n - (intOf i).toNat)
  case atStart => exact ⟨0, 1, by omega, rfl, rfl, rfl⟩
  case round =>
    obtain ⟨k, q, hk, rfl, rfl, hq⟩ := hrel
    have hq1 : q ≤ 1152921504606846976 := by
      rw [hq]
      exact Nat.pow_le_pow_right (n := 2) (by omega) (show k ≤ 60 by omega)
    have HQ := Lib.hid hq
    clear hq
    by_cases hlt : k < n
    · go_wp2
      go_round
      case rel => exact ⟨k + 1, q * 2, by omega, by go_num, by go_num, by rw [HQ.out, Nat.pow_succ]⟩
      case measure => simp [intOf]; omega
    · obtain rfl : k = n := by omega
      go_wp2
      go_ret
      exact ⟨ret_int (by rw [HQ.out]; simp), rfl⟩

set_option maxRecDepth 100000 in
theorem bit7_any (m k : Nat) (w : World) (hm : m < 64) (hk : k ≤ 60) :
    Calls Try.prog 40 #[.int .i64 (m : Int), .int .i64 (k : Int)] w fun e w' => e = .returned (.bool (bitN m k)) ∧ w = w' := by
  have hp : 1 ≤ 2 ^ k ∧ 2 ^ k ≤ 1152921504606846976 := ⟨Nat.two_pow_pos k, Nat.pow_le_pow_right (n := 2) (by omega) hk⟩
  have hB := bitN_nat m k
  have hcon := two7_any k w hk
  generalize bitN m k = b at hB ⊢
  generalize 2 ^ k = q at hp hB hcon
  obtain ⟨hp1, hp2⟩ := hp
  have HB := Lib.hid hB
  clear hB
  go_enter Try.func40, Try.ntmps40
  go_wp2_with fail
  refine hcon.mono ?_
  rintro e w1 ⟨rfl, rfl⟩
  go_wp2
  go_ret
  refine ⟨ret_bool ?_, rfl⟩
  rw [HB.out, Bool.eq_iff_iff]
  have e1 : ((m : Int) / (q : Int)) = ((m / q : Nat) : Int) := by simp
  rw [e1]
  have hz : m / q < 64 := Nat.lt_of_le_of_lt (Nat.div_le_self m q) hm
  generalize m / q = z at hz ⊢
  have e2 : wrap64 (z : Int) = (z : Int) := by unfold wrap64; omega
  rw [e2, Int.tmod_eq_emod_of_nonneg (by omega)]
  simp
  omega

set_option maxRecDepth 100000 in
set_option maxHeartbeats 800000 in
theorem many7_any (x : Int) (w : World) (hx : -9223372036854775808 ≤ x ∧ x ≤ 9223372036854775807) :
    Calls Try.prog 26 #[.int .i64 x] w fun e w' => e = .returned (.int .i64 (manyI x : Int)) ∧ w = w' := by
  by_cases h0 : x < 0
  · have e : manyI x = 0 := by unfold manyI; rw [if_pos h0]
    rw [e]
    go_enter Try.func26, Try.ntmps26
    go_wp2
    go_ret
    exact ⟨rfl, rfl⟩
  · obtain ⟨m, rfl⟩ : ∃ m : Nat, x = (m : Int) := ⟨x.toNat, by omega⟩
    have e : manyI (m : Int) = cntB m 64 := by
      unfold manyI manyN
      rw [if_neg h0, Int.toNat_natCast]
      exact (cntB_stop (Nat.div_eq_of_lt (show m < 2 ^ 63 by omega)) 64 (by omega)).symm
    rw [e]
    clear e
    go_enter Try.func26, Try.ntmps26
    go_wp2
    go_loop [3, 7] (fun n i => ∃ k q : Nat, k ≤ 64 ∧ i = .int .i64 k ∧ n = .int .i64 (q : Int) ∧ q = cntB m k ∧ q ≤ k) (fun _ i => 64 - (intOf i).toNat)
    case atStart => exact ⟨0, 0, by omega, rfl, rfl, rfl, by omega⟩
    case round =>
      obtain ⟨k, q, hk, rfl, rfl, hq, hqk⟩ := hrel
      have HQ := Lib.hid hq
      clear hq
      by_cases hlt : k < 64
      · have hb : bits .and .i64 ((m : Int) / 2 ^ k) 1 = ((m / 2 ^ k % 2 : Nat) : Int) := by
          rw [and1]
          simp
        have hb2 : m / 2 ^ k % 2 < 2 := Nat.mod_lt _ (by omega)
        have HC : Hid (cntB m (k + 1) = cntB m k + m / 2 ^ k % 2) := Lib.hid rfl
        generalize m / 2 ^ k % 2 = r at hb hb2 HC
        go_wp2
        go_round
        case rel => exact ⟨k + 1, q + r, by omega, by go_num, by go_num, by rw [HC.out, HQ.out], by omega⟩
        case measure => simp [intOf]; omega
      · obtain rfl : k = 64 := by omega
        go_wp2
        go_ret
        exact ⟨ret_int (by rw [HQ.out]), rfl⟩

set_option maxRecDepth 100000 in
set_option maxHeartbeats 800000 in
theorem refMany7_any (x : Int) (w : World) (hx : -9223372036854775808 ≤ x ∧ x ≤ 9223372036854775807) :
    Calls Try.prog 27 #[.int .i64 x] w fun e w' => e = .returned (.int .i64 (manyI x : Int)) ∧ w = w' := by
  by_cases h0 : x < 0
  · have e : manyI x = 0 := by unfold manyI; rw [if_pos h0]
    rw [e]
    go_enter Try.func27, Try.ntmps27
    go_wp2
    go_loop [3, 4] (fun n i => n = .int .i64 0 ∧ i = .int .i64 x) (fun _ _ => 0)
    case atStart => exact ⟨rfl, rfl⟩
    case round =>
      obtain ⟨rfl, rfl⟩ := hrel
      go_wp2
      go_ret
      exact ⟨rfl, rfl⟩
  · obtain ⟨m, rfl⟩ : ∃ m : Nat, x = (m : Int) := ⟨x.toNat, by omega⟩
    have e : manyI (m : Int) = cntB m 63 := by
      unfold manyI manyN
      rw [if_neg h0, Int.toNat_natCast]
    have HST : Hid (∀ k, k ≤ 63 → m / 2 ^ k = 0 → cntB m k = cntB m 63) := Lib.hid (fun k hk h => (cntB_stop h 63 hk).symm)
    have HLT : Hid (m / 2 ^ 63 = 0) := Lib.hid (Nat.div_eq_of_lt (show m < 2 ^ 63 by omega))
    rw [e]
    clear e
    go_enter Try.func27, Try.ntmps27
    go_wp2
    go_loop [3, 4] (fun n i => ∃ k q r : Nat, k ≤ 63 ∧ i = .int .i64 (r : Int) ∧ n = .int .i64 (q : Int) ∧ q = cntB m k ∧ q ≤ k ∧ r = m / 2 ^ k ∧ r ≤ 9223372036854775807) (fun _ i => (intOf i).toNat)
    case atStart => exact ⟨0, 0, m, by omega, rfl, rfl, rfl, by omega, by simp, by omega⟩
    case round =>
      obtain ⟨k, q, r, hk, rfl, rfl, hq, hqk, hr, hr2⟩ := hrel
      have HQ := Lib.hid hq
      have HR := Lib.hid hr
      clear hq
      by_cases hlt : 0 < r
      · have hk2 : k < 63 := by
          rcases Nat.lt_or_ge k 63 with h | h
          · exact h
          · exfalso
            obtain rfl : k = 63 := by omega
            rw [HLT.out] at hr
            omega
        have HC : Hid (cntB m (k + 1) = cntB m k + r % 2) := Lib.hid (by rw [hr]; rfl)
        have HR2 : Hid (r / 2 = m / 2 ^ (k + 1)) := Lib.hid (by rw [hr, Nat.div_div_eq_div_mul, Nat.pow_succ])
        clear hr
        go_wp2
        go_round
        case rel => exact ⟨k + 1, q + r % 2, r / 2, by omega, by go_num, by go_num, by rw [HC.out, HQ.out], by omega, HR2.out, by omega⟩
        case measure => simp [intOf]; omega
      · obtain rfl : r = 0 := by omega
        clear hr
        go_wp2
        go_ret
        exact ⟨ret_int (by rw [HQ.out, HST.out k hk HR.out.symm]), rfl⟩
end Go.Proofs.Ytllagelopdedfaa
