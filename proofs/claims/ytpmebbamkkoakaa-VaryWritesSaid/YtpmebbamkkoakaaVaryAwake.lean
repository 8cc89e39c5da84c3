/- What the laws' own helpers of layer 1 answer: awake, short. -/
import Derived.Test.YtpmebbamkkoakaaVaryRead
import Derived.Test.YtpmebbamkkoakaaVaryJoin
namespace Go.Proofs.Ytpmebbamkkoakaa
open Go.RowKit

theorem aw_read0 (w : World) : Calls Try.prog 20 #[.string ⟨#[128, 0]⟩, .int .i64 0] w fun e w' => e = .returned (.tuple #[.int .u64 0, .int .i64 0, .bool false]) ∧ w = w' := by
  have h := read_any ⟨#[128, 0]⟩ 0 w (by decide)
  have e : rd (⟨#[128, 0]⟩ : ByteArray).data.toList 0 = none := by decide
  rw [e] at h
  exact h
theorem aw_read1 (w : World) : Calls Try.prog 20 #[.string ⟨#[120, 172, 2]⟩, .int .i64 1] w fun e w' => e = .returned (.tuple #[.int .u64 300, .int .i64 3, .bool true]) ∧ w = w' := by
  have h := read_any ⟨#[120, 172, 2]⟩ 1 w (by decide)
  have e : rd (⟨#[120, 172, 2]⟩ : ByteArray).data.toList 1 = some (300, 3) := by decide
  rw [e] at h
  exact h
theorem aw_number (w : World) : Calls Try.prog 13 #[.int .u64 300] w fun e w' => e = .returned (.string ⟨#[172, 2]⟩) ∧ Below w.heap.size w w' := by
  have h := number_any 300 w (by decide)
  have e : (⟨(Vm.enc 300).toArray⟩ : ByteArray) = ⟨#[172, 2]⟩ := by
    rw [Vm.enc_ge (by omega), Vm.enc_lt (by omega)]
    rfl
  rw [e] at h
  exact h

set_option maxRecDepth 100000 in
theorem awake_any (w : World) : Calls Try.prog 11 #[] w fun e w' => e = .returned (.bool true) ∧ Below w.heap.size w w' := by
  go_enter Try.func11, Try.ntmps11
  go_wp2_with fail
  refine (aw_read0 _).mono ?_
  rintro e w' ⟨rfl, rfl⟩
  go_wp2_with fail
  refine (aw_read1 _).mono ?_
  rintro e w' ⟨rfl, rfl⟩
  go_wp2_with fail
  refine (aw_number _).mono ?_
  rintro e w' ⟨rfl, hb⟩
  go_wp2
  go_ret
  exact ⟨rfl, hb⟩

set_option maxRecDepth 100000 in
theorem short_any (s : ByteArray) (n : Nat) (w : World) (_hs : s.size ≤ 9223372036854775807) (_hn : n ≤ 1000000) :
    Calls Try.prog 12 #[.string s, .int .i64 n] w fun e w' => e = .returned (.string ⟨(s.data.toList.take n).toArray⟩) ∧ w = w' := by
  by_cases h : n < s.size
  · go_enter Try.func12, Try.ntmps12
    go_wp2
    go_ret
    refine ⟨ret_str ?_, rfl⟩
    apply ByteArray.ext
    apply Array.ext'
    rw [Lib.extract_data]
    simp
  · go_enter Try.func12, Try.ntmps12
    go_wp2
    go_ret
    refine ⟨ret_str ?_, rfl⟩
    apply ByteArray.ext
    apply Array.ext'
    rw [List.take_of_length_le (by simpa using h)]

theorem short_size (l : List UInt8) (n : Nat) : (⟨(l.take n).toArray⟩ : ByteArray).size ≤ n := by
  show (l.take n).toArray.size ≤ n
  rw [List.size_toArray]
  exact List.length_take_le _ _

end Go.Proofs.Ytpmebbamkkoakaa
