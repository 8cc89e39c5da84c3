/- The walk of the law VaryPrefix. -/
import Derived.Test.YtpmebbamkkoakaaVaryAwake
import Derived.OpenShut
namespace Go.Proofs.Ytpmebbamkkoakaa
open Go.RowKit
set_option linter.unusedVariables false

theorem enc_mono : ∀ (k m n : Nat), n < 128 ^ k → m ≤ n → (Vm.enc m).length ≤ (Vm.enc n).length
  | 0, m, n, h, hmn => by
    obtain rfl : m = n := by simp at h; omega
    exact Nat.le_refl _
  | k + 1, m, n, h, hmn => by
    by_cases c : m < 128
    · rw [Vm.enc_lt c]
      exact Vm.enc_pos n
    · rw [Vm.enc_ge (n := m) (by omega), Vm.enc_ge (n := n) (by omega)]
      have := enc_mono k (m / 128) (n / 128) (by rw [Nat.pow_succ] at h; exact Nat.div_lt_of_lt_mul (by rw [Nat.mul_comm]; exact h)) (Nat.div_le_div_right hmn)
      simpa using this
theorem enc_mono64 {m n : Nat} (hn : n < 18446744073709551616) (h : m ≤ n) : (Vm.enc m).length ≤ (Vm.enc n).length :=
  enc_mono 10 m n (by have : (18446744073709551616 : Nat) ≤ 128 ^ 10 := by decide
                      omega) h

/-- No number's bytes begin with another number's. -/
theorem enc_begins {m n : Nat} (hm : m < 18446744073709551616) (hn : n < 18446744073709551616) (h : (Vm.enc n).take (Vm.enc m).length = Vm.enc m) : m = n := by
  have e : Vm.enc n = Vm.enc m ++ (Vm.enc n).drop (Vm.enc m).length := by
    have := List.take_append_drop (Vm.enc m).length (Vm.enc n)
    rw [h] at this
    exact this.symm
  have a := Vm.dec0_enc m ((Vm.enc n).drop (Vm.enc m).length) hm
  have b := Vm.dec0_enc n [] hn
  rw [← e] at a
  rw [List.append_nil, a] at b
  simp at b
  exact b.1

set_option maxRecDepth 100000 in
theorem walkVaryPrefix (a0 : Int) (w0 : (Lit.int .u64 a0).wf = true) (a1 : Int) (w1 : (Lit.int .u64 a1).wf = true) (w : World) :
    Calls Try.prog 9 #[.int .u64 a0, .int .u64 a1] w fun e w' => e = .returned (.bool true) ∧ Below w.heap.size w w' := by
  have hb0 := bounds_u64 w0
  have hb1 := bounds_u64 w1
  obtain ⟨m, rfl⟩ := Int.eq_ofNat_of_zero_le hb0.1
  obtain ⟨n, rfl⟩ := Int.eq_ofNat_of_zero_le hb1.1
  have Hm := Lib.hid (show m < 18446744073709551616 by omega)
  have Hn := Lib.hid (show n < 18446744073709551616 by omega)
  clear w0 w1 hb0 hb1
  go_enter Try.func9, Try.ntmps9
  go_wp2_with fail
  refine (awake_any _).mono ?_
  rintro e w1 ⟨rfl, hb1⟩
  go_wp2_with fail
  refine (number_any m _ Hm.out).mono ?_
  rintro e w2 ⟨rfl, hb2⟩
  go_wp2_with fail
  refine (number_any n _ Hn.out).mono ?_
  rintro e w3 ⟨rfl, hb3⟩
  have hb := (hb1.trans (hb2.mono hb1.size)).trans (hb3.mono (Nat.le_trans hb1.size hb2.size))
  by_cases hmn : m = n
  · subst hmn
    have hq : ((⟨(Vm.enc m).toArray⟩ : ByteArray).extract 0 (Vm.enc m).length).toList = Vm.enc m := by rw [str_take, List.take_length]
    go_wp2
    go_ret
    exact ⟨rfl, hb⟩
  · have hne : ((m : Int) == n) = false := by simp; omega
    by_cases hl : (Vm.enc m).length ≤ (Vm.enc n).length
    · have hq : (((⟨(Vm.enc n).toArray⟩ : ByteArray).extract 0 (Vm.enc m).length).toList == Vm.enc m) = false := by
        rw [str_take, beq_eq_false_iff_ne]
        exact fun h => hmn (enc_begins Hm.out Hn.out h)
      go_wp2
      all_goals
        go_ret
        exact ⟨rfl, hb⟩
    · have hgt : n < m := by
        rcases Nat.lt_or_ge n m with h | h
        · exact h
        · exact absurd (enc_mono64 Hn.out h) hl
      go_wp2
      go_ret
      exact ⟨rfl, hb⟩

end Go.Proofs.Ytpmebbamkkoakaa
