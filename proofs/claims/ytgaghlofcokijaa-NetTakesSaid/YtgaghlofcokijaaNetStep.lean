/- One byte as a text. -/
import Derived.Test.YtgaghlofcokijaaNetRoomWalk
import Derived.Test.YtgaghlofcokijaaOpen11
import Derived.Laws.IdiomStrings
namespace Go.Proofs.Ytgaghlofcokijaa
open Go.RowKit
set_option linter.unusedVariables false
set_option linter.unusedSimpArgs false

theorem conv_oneN (w : World) (b : UInt8) :
    (convert 30 9 (.slice (some ⟨w.heap.size, 0, none⟩) 1 1)).run Try.prog (w.alloc (.cells #[.int .u8 (b.toNat : Int)] 5)) = .ok (.string ⟨#[b]⟩) (w.alloc (.cells #[.int .u8 (b.toNat : Int)] 5)) :=
  run_convert_bytes_back (P := Try.prog) _ 30 9 5 ⟨w.heap.size, 0, none⟩ 1 [b] Try.underlying30 Try.underlying5 Try.underlying9 (fun j hj => by
    obtain rfl : j = 0 := by simp at hj; omega
    simp [Addr.add])
/-- The letter of step x. -/
def ltr (x : Nat) : UInt8 := UInt8.ofNat (97 + x % 26)
theorem ltr_toNat (x : Nat) : (ltr x).toNat = 97 + x % 26 := by
  unfold ltr
  rw [UInt8.toNat_ofNat']
  omega
theorem ltr_wrap (x : Nat) : IntKind.u8.wrap (97 + (x : Int).tmod 26) = ((ltr x).toNat : Int) := by
  rw [ltr_toNat, Int.tmod_eq_emod_of_nonneg (by omega), IntWalk.u8_in _ (by omega)]
  omega
theorem conv_ltr (w : World) (x : Nat) :
    (convert 30 9 (.slice (some ⟨w.heap.size, 0, none⟩) 1 1)).run Try.prog (w.alloc (.cells #[.int .u8 (97 + (x : Int) % 26)] 5)) = .ok (.string ⟨#[ltr x]⟩) (w.alloc (.cells #[.int .u8 (97 + (x : Int) % 26)] 5)) := by
  have := conv_oneN w (ltr x)
  rw [show (((ltr x).toNat : Nat) : Int) = 97 + (x : Int) % 26 by rw [ltr_toNat]; omega] at this
  exact this
theorem sent_le (s : Ses) (d : ByteArray) : (s.sent d).all.length ≤ s.all.length + 1 := by
  unfold Ses.sent
  split <;> simp
theorem again_all (s : Ses) : s.again.all = s.all := rfl
end Go.Proofs.Ytgaghlofcokijaa
