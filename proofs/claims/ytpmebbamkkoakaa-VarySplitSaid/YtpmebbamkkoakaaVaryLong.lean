/- What vary.Long answers: how many bytes a number has. -/
import Derived.Test.YtpmebbamkkoakaaProg
import Derived.Test.YtpmebbamkkoakaaVaryMath
import Derived.WalkKit
import Derived.WalkLawsBesides
import Derived.Lib.Hide
namespace Go.Proofs.Ytpmebbamkkoakaa
open Go.RowKit

set_option maxRecDepth 100000 in
set_option maxHeartbeats 400000 in
theorem long_any (n : Nat) (w : World) (hn : n < 18446744073709551616) :
    Calls Try.prog 17 #[.int .u64 n] w fun e w' => e = .returned (.int .i64 (Vm.enc n).length) ∧ w = w' := by
  go_enter Try.func17, Try.ntmps17
  go_wp2
  go_loop [0, 3] (fun a c => ∃ m k : Nat, m < 18446744073709551616 ∧ k ≤ 10 ∧ a = .int .u64 m ∧ c = .int .i64 k ∧ k + (Vm.enc m).length = (Vm.enc n).length + 1) (fun a _ => (intOf a).toNat)
  case atStart => exact ⟨n, 1, hn, by omega, rfl, rfl, by omega⟩
  case round =>
    obtain ⟨m, k, hm, hk, rfl, rfl, he⟩ := hrel
    have H := Lib.hid he
    have Hm := Lib.hid hm
    have Hn := Lib.hid hn
    clear he hm hn
    by_cases hc : m < 128
    · go_wp2
      go_ret
      have e := H.out
      rw [Vm.enc_lt hc] at e
      simp at e
      exact ⟨ret_int (by omega), rfl⟩
    · go_wp2
      go_round
      case rel =>
        have e := H.out
        rw [Vm.enc_ge (by omega)] at e
        simp only [List.length_cons] at e
        have p := Vm.enc_pos (m / 128)
        have q := Vm.enc_len10 Hn.out
        exact ⟨m / 128, k + 1, by have := Hm.out; omega, by omega, by go_num, by go_num, by omega⟩
      case measure => simp [intOf]; omega

end Go.Proofs.Ytpmebbamkkoakaa
