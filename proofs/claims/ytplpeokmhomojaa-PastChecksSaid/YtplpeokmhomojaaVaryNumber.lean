/- What vary.Number and vary.Text answer. -/
import Derived.Test.YtplpeokmhomojaaVaryJoin
namespace Go.Proofs.Ytplpeokmhomojaa
open Go.RowKit

set_option maxRecDepth 100000 in
theorem number_any (n : Nat) (w : World) (hn : n < 18446744073709551616) :
    Calls Try.prog 56 #[.int .u64 n] w fun e w' => e = .returned (.string ⟨(Vm.enc n).toArray⟩) ∧ Below w.heap.size w w' := by
  have hu : U64s (w.alloc (.cells #[.int .u64 (n : Int)] 84)) (some ⟨w.heap.size, 0, none⟩) [n] := by
    refine ⟨by simpa using hn, fun i hi => ⟨_, _, rfl, ?_⟩⟩
    obtain rfl : i = 0 := by simpa using hi
    simp
  have he : encs [n] = Vm.enc n := by simp [encs]
  have HU := Lib.hid hu
  have HE := Lib.hid he
  clear hu he hn
  go_enter Try.func56, Try.ntmps56
  go_wp2_with (go_at_call 83; refine (join_at _ 1 1 [n] _ rfl HU.out (by simp)).mono ?_; rintro e w2 ⟨rfl, hbel⟩)
  go_ret
  refine ⟨ret_str (by rw [HE.out]), ?_⟩
  exact ((Below.refl _ w).alloc (Nat.le_refl _) _).trans (hbel.mono (by simp))

set_option maxRecDepth 100000 in
theorem text_any (s : ByteArray) (w : World) (hs : s.size ≤ 1099511627776) :
    Calls Try.prog 57 #[.string s] w fun e w' => e = .returned (.string ⟨(Vm.enc s.size ++ s.data.toList).toArray⟩) ∧ Below w.heap.size w w' := by
  have hq := Vm.enc_len10 (n := s.size) (by omega)
  go_enter Try.func57, Try.ntmps57
  go_wp2_with (go_at_call 56; refine (number_any s.size _ (by omega)).mono ?_; rintro e w2 ⟨rfl, hbel⟩)
  go_ret
  exact ⟨ret_str (str_add _ _), hbel⟩

end Go.Proofs.Ytplpeokmhomojaa
