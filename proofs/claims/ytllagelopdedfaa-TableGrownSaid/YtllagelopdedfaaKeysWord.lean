/- What the laws' own helper 'word' answers: some key of one to five runes. -/
import Derived.Test.YtllagelopdedfaaKeysAwake
import Derived.Test.YtllagelopdedfaaKeysRunesMath
import Derived.Laws.BitsLemmas
namespace Go.Proofs.Ytllagelopdedfaa
open Go.RowKit
set_option linter.unusedVariables false

/-- What is left of a number behind '& 4095'. -/
theorem and_small (n : Int) : ∃ m : Nat, bits .and .i64 n 4095 = (m : Int) ∧ m < 4096 := by
  have hb : (BitVec.ofInt 64 n &&& BitVec.ofInt 64 4095).toNat < 4096 := by
    rw [BitVec.toNat_and]
    have h1 : (BitVec.ofInt 64 4095).toNat = 4095 := by decide
    have h2 := Nat.and_le_right (n := (BitVec.ofInt 64 n).toNat) (m := (BitVec.ofInt 64 4095).toNat)
    omega
  refine ⟨_, ?_, hb⟩
  show IntKind.i64.wrap ((BitVec.ofInt 64 n &&& BitVec.ofInt 64 4095).toNat : Nat) = _
  rw [IntKind.wrap_i64]
  omega

theorem kconv_one (w : World) (b off : Nat) (c : UInt8) (x : Int) (hx : x = (c.toNat : Int)) (h : w.cell? ⟨b, off, none⟩ = some (.int .u8 x)) :
    (convert 56 9 (.slice (some ⟨b, off, none⟩) 1 1)).run Try.prog w = .ok (.string ⟨#[c]⟩) w := by
  subst hx
  exact run_convert_bytes_back (P := Try.prog) w 56 9 5 ⟨b, off, none⟩ 1 [c] Try.underlying56 Try.underlying5 Try.underlying9 (by
    intro j hj
    obtain rfl : j = 0 := by simpa using hj
    rw [Addr.add_lit]
    simp [h])

theorem word_step {j m : Nat} (h : m < 8 ^ (4 - j)) (h0 : 0 < m) (hj : j ≤ 4) : j < 4 ∧ m / 8 < 8 ^ (4 - (j + 1)) := by
  rcases (show j = 0 ∨ j = 1 ∨ j = 2 ∨ j = 3 ∨ j = 4 by omega) with rfl | rfl | rfl | rfl | rfl <;> simp at h ⊢ <;> omega

namespace Km
theorem rune_letter (c : UInt8) (h1 : 97 ≤ c.toNat) (h2 : c.toNat ≤ 122) : isRune [c] := by
  refine ⟨by simp, ?_, fun v => ?_⟩
  · show 33 ≤ c.toNat
    omega
  · rw [wid_eq (by simp)]
    have e : nth ([c] ++ v) 0 = c.toNat := rfl
    rw [e]
    unfold widN
    rw [if_pos (by omega)]
    rfl
end Km

/-- Some word: a key. -/
def WordPost (w : World) (e : Ending) (w' : World) : Prop := ∃ (u : List UInt8) (m : Nat), e = .returned (.string ⟨u.toArray⟩) ∧ Km.run m u ∧ 1 ≤ m ∧ m ≤ 5 ∧ Below w.heap.size w w'

end Go.Proofs.Ytllagelopdedfaa
