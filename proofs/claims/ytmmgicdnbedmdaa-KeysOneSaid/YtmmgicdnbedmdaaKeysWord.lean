/- What the laws' own helper 'word' answers: some key of one to five runes. -/
import Derived.Test.YtmmgicdnbedmdaaKeysAwake
import Derived.Test.YtmmgicdnbedmdaaKeysRunesMath
import Derived.Laws.BitsLemmas
namespace Go.Proofs.Ytmmgicdnbedmdaa
open Go.RowKit
set_option linter.unusedVariables false

/-- What is left of a number behind '& 4095'. -/
theorem and_small (n : Int) : ∃ m : Nat, bits .and .i64 n 4095 = (m : Int) ∧ m < 4096 := by
  have hb : (BitVec.ofInt 64 n &&& BitVec.ofInt 64 4095).toNat < 4096 := by
    rw [BitVec.toNat_and]
    have h1 : (BitVec.ofInt 64 4095).toNat = 4095 := by decide
    have h2 := Nat.and_le_right (n := (BitVec.ofInt 64 n).toNat) (m := (BitVec.ofInt 64 4095).toNat)
    omega
  refine ⟨_, ?_, hb⟩
  show IntKind.i64.wrap ((BitVec.ofInt 64 n &&& BitVec.ofInt 64 4095).toNat : Nat) = _
  rw [IntKind.wrap_i64]
  omega

theorem kconv_one (w : World) (b off : Nat) (c : UInt8) (x : Int) (hx : x = (c.toNat : Int)) (h : w.cell? ⟨b, off, none⟩ = some (.int .u8 x)) :
    (convert 56 9 (.slice (some ⟨b, off, none⟩) 1 1)).run Try.prog w = .ok (.string ⟨#[c]⟩) w := by
  subst hx
  exact run_convert_bytes_back (P := Try.prog) w 56 9 5 ⟨b, off, none⟩ 1 [c] Try.underlying56 Try.underlying5 Try.underlying9 (by
    intro j hj
    obtain rfl : j = 0 := by simpa using hj
    rw [Addr.add_lit]
    simp [h])

theorem word_step {j m : Nat} (h : m < 8 ^ (4 - j)) (h0 : 0 < m) (hj : j ≤ 4) : j < 4 ∧ m / 8 < 8 ^ (4 - (j + 1)) := by
  rcases (show j = 0 ∨ j = 1 ∨ j = 2 ∨ j = 3 ∨ j = 4 by omega) with rfl | rfl | rfl | rfl | rfl <;> simp at h ⊢ <;> omega

namespace Km
theorem rune_letter (c : UInt8) (h1 : 97 ≤ c.toNat) (h2 : c.toNat ≤ 122) : isRune [c] := by
  refine ⟨by simp, ?_, fun v => ?_⟩
  · show 33 ≤ c.toNat
    omega
  · rw [wid_eq (by simp)]
    have e : nth ([c] ++ v) 0 = c.toNat := rfl
    rw [e]
    unfold widN
    rw [if_pos (by omega)]
    rfl
end Km

/-- Some word: a key. -/
def WordPost (w : World) (e : Ending) (w' : World) : Prop := ∃ (u : List UInt8) (m : Nat), e = .returned (.string ⟨u.toArray⟩) ∧ Km.run m u ∧ 1 ≤ m ∧ m ≤ 5 ∧ Below w.heap.size w w'

set_option maxRecDepth 100000 in
set_option maxHeartbeats 800000 in
theorem word_any (n : Int) (w : World) (hn : -9223372036854775808 ≤ n ∧ n ≤ 9223372036854775807) :
    Calls Try.prog 31 #[.int .i64 n] w (WordPost w) := by
  obtain ⟨m0, hm0⟩ := and_small n
  obtain ⟨hand, hlt⟩ := hm0
  have Hlt := Lib.hid hlt
  clear hlt hn
  go_enter Try.func31, Try.ntmps31
  go_wp2
  clear hand
  go_loopw [3, 4] (fun s k wr => ∃ (j m : Nat) (u : List UInt8), s = .string ⟨u.toArray⟩ ∧ k = .int .i64 m ∧ Km.run j u ∧ j ≤ 4 ∧ m < 8 ^ (4 - j) ∧ Below w.heap.size w wr) (fun _ k _ => (intOf k).toNat)
  case atStart => exact ⟨0, m0, [], rfl, rfl, Km.run_nil, by omega, Hlt.out, Below.refl _ _⟩
  case round =>
    obtain ⟨j, m, u, rfl, rfl, hrun, hj, hm, hb⟩ := hrel
    have HR := Lib.hid hrun
    have HM := Lib.hid hm
    have hul := hrun.1
    clear hrun hm
    by_cases h0 : 0 < m
    · obtain ⟨hj4, hm8⟩ := word_step HM.out h0 hj
      have HM8 := Lib.hid hm8
      have hmb : m ≤ 4096 := by
        have := HM.out
        have h2 : 8 ^ (4 - j) ≤ 8 ^ 4 := Nat.pow_le_pow_right (by omega) (by omega)
        omega
      clear hm8
      obtain ⟨c, hc⟩ : ∃ c : UInt8, c.toNat = 97 + m % 8 := ⟨UInt8.ofNat (97 + m % 8), by rw [UInt8.toNat_ofNat']; omega⟩
      have HC := Lib.hid hc
      have hcv : ∀ (w' : World) (b off : Nat), w'.cell? ⟨b, off, none⟩ = some (.int .u8 (97 + (m : Int) % 8)) → _ := fun w' b off h => kconv_one w' b off c _ (by omega) h
      clear hc
      go_wp2
      go_roundw
      case rel =>
        refine ⟨j + 1, m / 8, u ++ [c], by rw [str_add], ?_, Km.run_snoc HR.out (Km.rune_letter c (by rw [HC.out]; omega) (by rw [HC.out]; omega)) (by simp), by omega, HM8.out, balloc hb _⟩
        first | go_num | (rw [IntWalk.wrap64_in _ (by omega)]; go_num)
      case measure =>
        simp [intOf]
        omega
    · have hc : Km.run (j + 1) (u ++ [107]) := Km.run_snoc HR.out (Km.rune_letter 107 (by decide) (by decide)) (by simp)
      have HC := Lib.hid hc
      clear hc
      go_wp2
      go_ret
      refine ⟨u ++ [107], j + 1, ret_str (by rw [str_add]), HC.out, by omega, by omega, hb⟩
end Go.Proofs.Ytmmgicdnbedmdaa
