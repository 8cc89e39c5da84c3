/- The walk of the law VaryOnly. -/
import Derived.Test.YtpmebbamkkoakaaVaryAwake
import Derived.Test.YtpmebbamkkoakaaVaryPrefixWalk
import Derived.OpenShut
import Derived.Deep.RegionHeld3
import Derived.Deep.QuietTactic
import Derived.BigQuiet
namespace Go.Proofs.Ytpmebbamkkoakaa
open Go.RowKit
set_option linter.unusedVariables false

/-- A number's bytes without the last one are no number. -/
theorem enc_cut {n : Nat} (hn : n < 18446744073709551616) : Vm.dec 0 ((Vm.enc n).take ((Vm.enc n).length - 1)) = none := by
  cases h : Vm.dec 0 ((Vm.enc n).take ((Vm.enc n).length - 1)) with
  | none => rfl
  | some x =>
    obtain ⟨m, k⟩ := x
    obtain ⟨h1, h2, h3⟩ := Vm.dec0_inv _ _ _ h
    have hp := Vm.enc_pos n
    rw [List.length_take] at h2
    have hk : k = (Vm.enc m).length := by rw [← h3]; simp; omega
    rw [List.take_take, Nat.min_eq_left (by omega), hk] at h3
    have e := enc_begins h1 hn h3
    subst e
    omega

theorem read_cut (n : Nat) (w : World) (hn : n < 18446744073709551616) :
    Calls Try.prog 20 #[.string ((⟨(Vm.enc n).toArray⟩ : ByteArray).extract 0 ((Vm.enc n).length - 1)), .int .i64 0] w fun e w' => e = .returned (.tuple #[.int .u64 0, .int .i64 0, .bool false]) ∧ w = w' := by
  have hl := Vm.enc_len10 hn
  have e1 : ((⟨(Vm.enc n).toArray⟩ : ByteArray).extract 0 ((Vm.enc n).length - 1)).data.toList = (Vm.enc n).take ((Vm.enc n).length - 1) := by
    rw [← ByteArray.toList_eq, str_take]
  have h := read_any ((⟨(Vm.enc n).toArray⟩ : ByteArray).extract 0 ((Vm.enc n).length - 1)) 0 w (by
    have := congrArg List.length e1
    simp [ByteArray.size] at this ⊢
    omega)
  rw [e1, rd, if_neg (by simp)] at h
  simp only [Int.toNat_zero, List.drop_zero, enc_cut hn, Option.map_none] at h
  exact h

set_option maxRecDepth 100000 in
set_option maxHeartbeats 400000 in
theorem walkVaryOnly (a0 : ByteArray) (w0 : a0.size ≤ maxLen) (a1 : Int) (w1 : (Lit.int .u64 a1).wf = true) (w : World) :
    Calls Try.prog 6 #[.string a0, .int .u64 a1] w fun e w' => e = .returned (.bool true) ∧ Below w.heap.size w w' := by
  have hb1 := bounds_u64 w1
  obtain ⟨n, rfl⟩ := Int.eq_ofNat_of_zero_le hb1.1
  have Hn := Lib.hid (show n < 18446744073709551616 by omega)
  unfold maxLen at w0
  clear w1 hb1
  go_enter Try.func6, Try.ntmps6
  go_wp2_with fail
  refine (awake_any _).mono ?_
  rintro e w1 ⟨rfl, hb1⟩
  go_wp2_with fail
  refine (short_any a0 12 _ w0 (by omega)).mono ?_
  rintro e w1' ⟨rfl, rfl⟩
  have hsl : (⟨(a0.data.toList.take 12).toArray⟩ : ByteArray).size ≤ 12 := by show (a0.data.toList.take 12).toArray.size ≤ 12; rw [List.size_toArray]; exact List.length_take_le _ _
  generalize (⟨(a0.data.toList.take 12).toArray⟩ : ByteArray) = s at hsl ⊢
  go_wp2_with fail
  refine (read_any s 0 _ (by omega)).mono ?_
  rintro e w1' ⟨rfl, rfl⟩
  have e0 : rd s.data.toList 0 = (Vm.dec 0 s.data.toList) := by
    rw [rd, if_neg (by simp)]
    cases h : Vm.dec 0 s.data.toList <;> simp [h]
  rw [e0]
  clear e0
  cases hd : Vm.dec 0 s.data.toList with
  | none =>
    clear hd
    simp only [rdV]
    go_wp2_with fail
    go_quiet (fail)
    go_wp2_with fail
    refine (number_any n _ Hn.out).mono ?_
    rintro e w3 ⟨rfl, hb3⟩
    have hp := Vm.enc_pos n
    have hp10 := Vm.enc_len10 Hn.out
    go_wp2_with fail
    refine (read_cut n _ Hn.out).mono ?_
    rintro e w4 ⟨rfl, rfl⟩
    go_wp2
    go_ret
    exact ⟨ret_bool (by simp; omega), bstep (below_drewN hb1 nq) hb3⟩
  | some x =>
    obtain ⟨m, k⟩ := x
    obtain ⟨h1, h2, h3⟩ := Vm.dec0_inv _ _ _ hd
    have h2 : k ≤ s.size := by simpa using h2
    have hp := Vm.enc_pos m
    have hk : k = (Vm.enc m).length := by rw [← h3]; simp; omega
    have hk1 : 1 ≤ k := by omega
    have Hm := Lib.hid h1
    have H3 := Lib.hid h3
    clear hd h1 h3 hk hp
    simp only [rdV]
    have hq : (Vm.enc m == (s.extract 0 k).toList) = true := by rw [ByteArray.toList_eq, Lib.extract_data, List.drop_zero, Nat.sub_zero, H3.out]; simp
    have g1 : decide ((k : Int) < 1) = false := by simp; omega
    have g2 : decide (s.size < k) = false := by simp; omega
    go_wp2_with fail
    go_region_held3 (fun w' => True) (trivial) (first | (go_at_call 13; ((with_reducible refine (number_any m _ Hm.out).mono ?_); rintro e w2 ⟨rfl, hb2⟩)))
    go_wp2_with fail
    refine (number_any n _ Hn.out).mono ?_
    rintro e w3 ⟨rfl, hb3⟩
    have hp := Vm.enc_pos n
    have hp10 := Vm.enc_len10 Hn.out
    go_wp2_with fail
    refine (read_cut n _ Hn.out).mono ?_
    rintro e w4 ⟨rfl, rfl⟩
    go_wp2
    go_ret
    exact ⟨ret_bool (by simp; omega), bstep (bstep hb1.drew hb2) hb3⟩

end Go.Proofs.Ytpmebbamkkoakaa
