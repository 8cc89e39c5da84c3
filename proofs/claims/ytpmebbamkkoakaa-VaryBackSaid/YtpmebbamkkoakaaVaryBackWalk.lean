/- The walk of the law VaryBack. -/
import Derived.Test.YtpmebbamkkoakaaVaryAwake
import Derived.Test.YtpmebbamkkoakaaVaryText
import Derived.Test.YtpmebbamkkoakaaVaryLong
import Derived.OpenShut
namespace Go.Proofs.Ytpmebbamkkoakaa
open Go.RowKit
set_option linter.unusedVariables false

section
variable (a b s : ByteArray) (ha : a.size ≤ 9) (hb : b.size ≤ 9) (hs : s.size ≤ 60)
theorem data3 (l : List UInt8) : (a ++ ⟨l.toArray⟩ ++ b : ByteArray).data.toList = a.data.toList ++ l ++ b.data.toList := by simp
theorem size3 (l : List UInt8) (hl : l.length ≤ 100) (ha : a.size ≤ 9) (hb : b.size ≤ 9) : (a ++ ⟨l.toArray⟩ ++ b : ByteArray).size ≤ 9223372036854775807 := by
  have h := congrArg List.length (data3 a b l)
  simp only [List.length_append] at h
  have e1 : a.data.toList.length = a.size := by simp
  have e2 : b.data.toList.length = b.size := by simp
  have e3 : (a ++ ⟨l.toArray⟩ ++ b : ByteArray).data.toList.length = (a ++ ⟨l.toArray⟩ ++ b : ByteArray).size := by simp only [Array.length_toList]; rfl
  omega
include ha hb
theorem back_read (n : Nat) (hn : n < 18446744073709551616) (w : World) :
    Calls Try.prog 20 #[.string (a ++ ⟨(Vm.enc n).toArray⟩ ++ b), .int .i64 a.size] w fun e w' => e = .returned (.tuple #[.int .u64 (n : Int), .int .i64 ((a.size + (Vm.enc n).length : Nat) : Int), .bool true]) ∧ w = w' := by
  have hl := Vm.enc_len10 hn
  have h := read_any (a ++ ⟨(Vm.enc n).toArray⟩ ++ b) a.size w (size3 a b (Vm.enc n) (by omega) ha hb)
  rw [data3, show (a.size : Int) = (a.data.toList.length : Int) from by simp, rd_back _ _ n hn] at h
  exact h
include hs
theorem back_text (w : World) :
    Calls Try.prog 22 #[.string (a ++ ⟨(Vm.enc s.size ++ s.data.toList).toArray⟩ ++ b), .int .i64 a.size, .int .i64 60] w fun e w' => e = .returned (.tuple #[.string s, .int .i64 ((a.size + (Vm.enc s.size).length + s.size : Nat) : Int), .bool true]) ∧ w = w' := by
  have hl := Vm.enc_len10 (n := s.size) (by omega)
  have es : s.size = s.data.toList.length := by simp
  have h := readText_any (a ++ ⟨(Vm.enc s.size ++ s.data.toList).toArray⟩ ++ b) a.size 60 w (size3 a b _ (by rw [List.length_append]; omega) ha hb) (by omega)
  rw [data3, show (a.size : Int) = (a.data.toList.length : Int) from by simp] at h
  simp only [es] at h hl ⊢
  rw [rdt_back _ _ _ 60 (by omega) (by omega)] at h
  exact h
theorem back_less (w : World) :
    Calls Try.prog 22 #[.string (a ++ ⟨(Vm.enc s.size ++ s.data.toList).toArray⟩ ++ b), .int .i64 a.size, .int .i64 ((s.size : Int) - 1)] w fun e w' => e = .returned (.tuple #[.string ⟨#[]⟩, .int .i64 0, .bool false]) ∧ w = w' := by
  have hl := Vm.enc_len10 (n := s.size) (by omega)
  have es : s.size = s.data.toList.length := by simp
  have h := readText_any (a ++ ⟨(Vm.enc s.size ++ s.data.toList).toArray⟩ ++ b) a.size ((s.size : Int) - 1) w (size3 a b _ (by rw [List.length_append]; omega) ha hb) (by omega)
  rw [data3, show (a.size : Int) = (a.data.toList.length : Int) from by simp] at h
  simp only [es] at h hl ⊢
  rw [rdt_less _ _ _ _ (by omega) (by omega)] at h
  exact h
end

set_option maxRecDepth 100000 in
set_option maxHeartbeats 400000 in
theorem walkVaryBack (a0 : Int) (w0 : (Lit.int .u64 a0).wf = true) (a1 : ByteArray) (w1 : a1.size ≤ maxLen) (ss : List ByteArray) (hl : ss.length = 2) (hss : ∀ s ∈ ss, s.size ≤ maxLen) (w : World) :
    Calls Try.prog 5 #[.int .u64 a0, .string a1, .agg (ss.map Value.string).toArray] w fun e w' => e = .returned (.bool true) ∧ Below w.heap.size w w' := by
  have hb0 := bounds_u64 w0
  obtain ⟨n, rfl⟩ := Int.eq_ofNat_of_zero_le hb0.1
  have Hn := Lib.hid (show n < 18446744073709551616 by omega)
  match ss, hl with
  | [q0, q1], _ =>
  have hq0 : q0.size ≤ 9223372036854775807 := hss q0 (by simp)
  have hq1 : q1.size ≤ 9223372036854775807 := hss q1 (by simp)
  have w1 : a1.size ≤ 9223372036854775807 := w1
  clear w0 hb0 hss hl
  show Calls Try.prog 5 #[.int .u64 n, .string a1, .agg #[.string q0, .string q1]] w _
  go_enter Try.func5, Try.ntmps5
  go_wp2_with fail
  refine (awake_any _).mono ?_
  rintro e w2 ⟨rfl, hb1⟩
  have c0 : w2.cell? ⟨w.heap.size, 0, none⟩ = some (.string q0) := (hb1.cell (p := ⟨w.heap.size, 0, none⟩) (by simp)).trans (by simp)
  have c1 : w2.cell? ⟨w.heap.size, 1, none⟩ = some (.string q1) := (hb1.cell (p := ⟨w.heap.size, 1, none⟩) (by simp)).trans (by simp)
  have hb1 : Below w.heap.size w w2 := bstep ((Below.refl _ w).alloc (Nat.le_refl _) _) hb1
  go_wp2_with fail
  refine (short_any a1 60 _ w1 (by omega)).mono ?_
  rintro e w2' ⟨rfl, rfl⟩
  have hs := short_size a1.data.toList 60
  generalize (⟨(a1.data.toList.take 60).toArray⟩ : ByteArray) = s at hs ⊢
  go_wp2_with fail
  refine (short_any q0 9 _ hq0 (by omega)).mono ?_
  rintro e w2' ⟨rfl, rfl⟩
  have ha := short_size q0.data.toList 9
  generalize (⟨(q0.data.toList.take 9).toArray⟩ : ByteArray) = a at ha ⊢
  go_wp2_with fail
  refine (short_any q1 9 _ hq1 (by omega)).mono ?_
  rintro e w2' ⟨rfl, rfl⟩
  have hb := short_size q1.data.toList 9
  generalize (⟨(q1.data.toList.take 9).toArray⟩ : ByteArray) = b at hb ⊢
  clear c0 c1 hq0 hq1
  have hn10 := Vm.enc_len10 Hn.out
  have hs10 := Vm.enc_len10 (n := s.size) (by omega)
  go_wp2_with fail
  refine (number_any n _ Hn.out).mono ?_
  rintro e w3 ⟨rfl, hb2⟩
  go_wp2_with fail
  refine (back_read a b ha hb n Hn.out _).mono ?_
  rintro e w3' ⟨rfl, rfl⟩
  go_wp2_with fail
  refine (text_any s _ (by omega)).mono ?_
  rintro e w4 ⟨rfl, hb3⟩
  go_wp2_with fail
  refine (back_text a b s ha hb hs _).mono ?_
  rintro e w4' ⟨rfl, rfl⟩
  go_wp2_with fail
  refine (text_any s _ (by omega)).mono ?_
  rintro e w5 ⟨rfl, hb4⟩
  go_wp2_with fail
  refine (back_less a b s ha hb hs _).mono ?_
  rintro e w5' ⟨rfl, rfl⟩
  go_wp2_with fail
  refine (long_any n _ Hn.out).mono ?_
  rintro e w5' ⟨rfl, rfl⟩
  go_wp2_with fail
  refine (text_any s _ (by omega)).mono ?_
  rintro e w6 ⟨rfl, hb5⟩
  go_wp2
  go_ret
  exact ⟨rfl, bstep (bstep (bstep (bstep hb1 hb2) hb3) hb4) hb5⟩

end Go.Proofs.Ytpmebbamkkoakaa
