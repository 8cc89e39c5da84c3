/- Texts of so many runes. Plain lemmas. -/
import Derived.Test.YtllagelopdedfaaKeysRef3
import Derived.Test.YtllagelopdedfaaKeysAwake
namespace Go.Proofs.Ytllagelopdedfaa
set_option linter.unusedVariables false

namespace Km
/-- u is n runes, whatever stands behind it. -/
def run (n : Nat) (u : List UInt8) : Prop := u.length ≤ 4 * n ∧ ∀ v low, low ≤ 33 → cnt low (u ++ v) = (cnt low v).map (· + n)
theorem run_nil : run 0 [] := ⟨by simp, fun v low _ => by simp⟩
theorem run_snoc {n : Nat} {u r : List UInt8} (h : run n u) (hr : isRune r) (hl : r.length ≤ 4) : run (n + 1) (u ++ r) := by
  refine ⟨by have := h.1; simp; omega, fun v low hlow => ?_⟩
  rw [List.append_assoc, h.2 _ _ hlow, cnt_rune hr hlow]
  cases cnt low v with
  | none => rfl
  | some m => simp only [Option.map_some, Option.some.injEq]; omega
theorem run_cnt {n low : Nat} {u : List UInt8} (h : run n u) (hl : low ≤ 33) : cnt low u = some n := by
  have := h.2 [] low hl
  rw [List.append_nil, cnt_nil] at this
  simpa using this
theorem run_runes {n : Nat} {u : List UInt8} (h : run n u) : runesV u = n := by
  rw [runesV_eq, run_cnt h (by omega)]
theorem run_chk {n : Nat} {u : List UInt8} (h : run n u) : chk u = (decide (1 ≤ n) && decide (n ≤ 8)) := by
  unfold chk
  rw [run_cnt h (by omega)]
  have hc : capV 8 (some n) = (if n ≤ 8 then (n : Int) else -1) := rfl
  rw [Bool.eq_iff_iff, decide_eq_true_iff, Bool.and_eq_true, decide_eq_true_iff, decide_eq_true_iff, hc]
  by_cases h8 : n ≤ 8
  · rw [if_pos h8]; omega
  · rw [if_neg h8]; omega
theorem run_bad {n low : Nat} {u v : List UInt8} (h : run n u) (hl : low ≤ 33) (hv : cnt low v = none) : cnt low (u ++ v) = none := by
  rw [h.2 v low hl, hv]; rfl
theorem run_ff {n : Nat} {u : List UInt8} (h : run n u) : runesV (u ++ [255]) = -1 := by
  rw [runesV_eq, run_bad h (by omega) (cnt_bad (by simp) (.inl (by decide)))]
theorem run_sp {n : Nat} {u : List UInt8} (h : run n u) : chk (u ++ [32]) = false := by
  unfold chk
  rw [run_bad h (by omega) (cnt_bad (by simp) (.inr (by decide)))]; rfl
theorem run_c3 {n : Nat} {u : List UInt8} (h : run n u) : chk (u ++ [195]) = false := by
  unfold chk
  rw [run_bad h (by omega) (cnt_bad (by simp) (.inl (by decide)))]; rfl
theorem rune_euro : isRune [226, 130, 172] := ⟨by simp, by decide, fun v => by simp [wid, nth, widN, okc]⟩
theorem rune_grin : isRune [240, 159, 152, 128] := ⟨by simp, by decide, fun v => by simp [wid, nth, widN, okc]⟩
theorem rune_tilde : isRune [126] := ⟨by simp, by decide, fun v => by simp [wid, nth, widN]⟩
theorem rune_ffff : isRune [239, 191, 191] := ⟨by simp, by decide, fun v => by simp [wid, nth, widN, okc]⟩
end Km

end Go.Proofs.Ytllagelopdedfaa
