/- The walk of the law VaryLong. -/
import Derived.Test.YtpmebbamkkoakaaVaryAwake
import Derived.Test.YtpmebbamkkoakaaVaryLong
import Derived.PlainAid
import Derived.OpenShut
namespace Go.Proofs.Ytpmebbamkkoakaa
open Go.RowKit
set_option linter.unusedVariables false

theorem and63 (a : Int) : ∃ k : Nat, k ≤ 63 ∧ bits .and .i64 a 63 = (k : Int) := by
  refine ⟨(BitVec.ofInt 64 a).toNat % 64, by omega, ?_⟩
  show IntKind.i64.wrap ((BitVec.ofInt 64 a &&& BitVec.ofInt 64 63).toNat : Int) = _
  rw [BitVec.toNat_and]
  have e : (BitVec.ofInt 64 63).toNat = 2 ^ 6 - 1 := by decide
  rw [e, Nat.and_two_pow_sub_one_eq_mod, IntWalk.i64_in _ (by omega)]

theorem top_bit (k : Nat) (a1 : Int) (hk : k ≤ 63) (w1 : (Lit.int .u64 a1).wf = true) : ∃ n : Nat, n < 18446744073709551616 ∧ 2 ^ k ≤ n ∧ n < 2 ^ (k + 1) ∧
    bits .or .u64 (IntKind.u64.wrap (2 ^ min (IntKind.u64.wrap (k : Int)).toNat 64)) (bits .and .u64 a1 (IntKind.u64.wrap (IntKind.u64.wrap (2 ^ min (IntKind.u64.wrap (k : Int)).toNat 64) - 1))) = (n : Int) := by
  have hb := bounds_u64 w1
  obtain ⟨m, rfl⟩ := Int.eq_ofNat_of_zero_le hb.1
  have hp : (2 : Nat) ^ k ≤ 2 ^ 63 := Nat.pow_le_pow_right (by omega) hk
  have hp0 : 0 < (2 : Nat) ^ k := Nat.two_pow_pos k
  have h63 : (2 : Nat) ^ 63 = 9223372036854775808 := by decide
  rw [h63] at hp
  have e1 : (IntKind.u64.wrap (k : Int)).toNat = k := by rw [IntWalk.u64_in _ (by omega)]; simp
  have e2 : min k 64 = k := by omega
  have e3 : ((2 : Int) ^ k) = ((2 ^ k : Nat) : Int) := by simp
  rw [e1, e2, e3, IntWalk.u64_in _ (by omega), show (((2 ^ k : Nat) : Int) - 1) = ((2 ^ k - 1 : Nat) : Int) from by omega, IntWalk.u64_in _ (by omega), u64_and_nat _ _ (by omega) (by omega),
    Nat.and_two_pow_sub_one_eq_mod]
  have hm : m % 2 ^ k < 2 ^ k := Nat.mod_lt _ hp0
  rw [u64_or_nat _ _ (by omega) (by omega)]
  have e4 : 2 ^ k ||| m % 2 ^ k = 2 ^ k + m % 2 ^ k := by
    have := Nat.two_pow_add_eq_or_of_lt hm 1
    simpa using this.symm
  refine ⟨2 ^ k + m % 2 ^ k, by omega, by omega, by rw [Nat.pow_succ]; omega, by rw [e4]⟩

theorem len_bit (k n : Nat) (h1 : 2 ^ k ≤ n) (h2 : n < 2 ^ (k + 1)) : (Vm.enc n).length = k / 7 + 1 := by
  have e : (128 : Nat) = 2 ^ 7 := by decide
  have a := Vm.enc_len_ge (k / 7) n (by
    rw [e, ← Nat.pow_mul]
    exact Nat.le_trans (Nat.pow_le_pow_right (by omega) (by omega)) h1)
  have b := Vm.enc_len (k / 7) n (by
    rw [e, ← Nat.pow_mul]
    exact Nat.lt_of_lt_of_le h2 (Nat.pow_le_pow_right (by omega) (by omega)))
  omega

set_option maxRecDepth 100000 in
theorem walkVaryLong (a0 : Int) (w0 : (Lit.int .i64 a0).wf = true) (a1 : Int) (w1 : (Lit.int .u64 a1).wf = true) (w : World) :
    Calls Try.prog 8 #[.int .i64 a0, .int .u64 a1] w fun e w' => e = .returned (.bool true) ∧ Below w.heap.size w w' := by
  obtain ⟨k, hk, ek⟩ := and63 a0
  obtain ⟨n, hn, h1, h2, en⟩ := top_bit k a1 hk w1
  have Hl := Lib.hid (len_bit k n h1 h2)
  have HK := Lib.hid ek
  have HN := Lib.hid en
  have Hn := Lib.hid hn
  have Hz := Lib.hid (show (Vm.enc 0).length = 1 from by rw [Vm.enc_lt (by omega)]; rfl)
  clear ek en hn h1 h2 w0 w1
  go_enter Try.func8, Try.ntmps8
  go_wp2_with fail
  refine (awake_any _).mono ?_
  rintro e w' ⟨rfl, hb1⟩
  go_wp2_with fail
  rw [HK.out, HN.out]
  refine (long_any n _ Hn.out).mono ?_
  rintro e w'' ⟨rfl, rfl⟩
  rw [Hl.out]
  go_wp2_with fail
  refine (number_any n _ Hn.out).mono ?_
  rintro e w2 ⟨rfl, hb2⟩
  have hl := Hl.out
  go_wp2_with fail
  refine (long_any 0 _ (by omega)).mono ?_
  rintro e w'' ⟨rfl, rfl⟩
  rw [Hz.out]
  go_wp2
  go_ret
  exact ⟨rfl, hb1.trans (hb2.mono hb1.size)⟩

end Go.Proofs.Ytpmebbamkkoakaa
