/- What the document's Check, Good and Meet answer. -/
import Derived.Test.YtllagelopdedfaaKeysRef
namespace Go.Proofs.Ytllagelopdedfaa
open Go.RowKit
set_option linter.unusedVariables false

namespace Km
theorem widN_cont {n b0 b1 b2 b3 : Nat} : (1 < widN n b0 b1 b2 b3 → 128 ≤ b1) ∧ (2 < widN n b0 b1 b2 b3 → 128 ≤ b2) ∧ (3 < widN n b0 b1 b2 b3 → 128 ≤ b3) ∧ widN n b0 b1 b2 b3 ≤ 4 := by
  unfold widN okc
  repeat' split
  all_goals omega
theorem wid_cont {l : List UInt8} {i : Nat} (h1 : 1 ≤ i) (h2 : i < wid l) : 128 ≤ nth l i := by
  by_cases h : l = []
  · subst h; simp [wid] at h2
  · rw [wid_eq h] at h2
    have hc := widN_cont (n := l.length) (b0 := nth l 0) (b1 := nth l 1) (b2 := nth l 2) (b3 := nth l 3)
    rcases (show i = 1 ∨ i = 2 ∨ i = 3 by omega) with rfl | rfl | rfl
    · exact hc.1 h2
    · exact hc.2.1 h2
    · exact hc.2.2.1 h2

/-- With a byte below 'low' there is none. -/
theorem cnt_low {low : Nat} (hlow : low ≤ 128) (l : List UInt8) (i : Nat) (hi : i < l.length) (hb : nth l i < low) : cnt low l = none := by
  induction hk : l.length using Nat.strongRecOn generalizing l i with
  | ind k ih =>
    have h0 : l ≠ [] := by rintro rfl; simp at hi
    by_cases hbad : wid l = 0 ∨ nth l 0 < low
    · exact cnt_bad h0 hbad
    · rw [cnt_go h0 (by omega) (by omega)]
      have hw : wid l ≤ i := by
        by_cases e : i = 0
        · subst e; omega
        · by_cases hlt : i < wid l
          · have := wid_cont (l := l) (i := i) (by omega) hlt
            omega
          · omega
      rw [ih (l.drop (wid l)).length (by simp; omega) (l.drop (wid l)) (i - wid l) (by simp; omega) (by rw [nth_drop]; rw [show wid l + (i - wid l) = i by omega]; exact hb) rfl]
      rfl
theorem cnt_high {low : Nat} (l : List UInt8) (h : ∀ i, i < l.length → low ≤ nth l i) : cnt low l = cnt 0 l := by
  induction hk : l.length using Nat.strongRecOn generalizing l with
  | ind k ih =>
    by_cases h0 : l = []
    · subst h0; rw [cnt_nil, cnt_nil]
    · have hp := List.length_pos_iff.2 h0
      by_cases hw : wid l = 0
      · rw [cnt_bad h0 (.inl hw), cnt_bad h0 (.inl hw)]
      · rw [cnt_go h0 (by omega) (h 0 hp), cnt_go h0 (by omega) (by omega)]
        rw [ih (l.drop (wid l)).length (by simp; omega) (l.drop (wid l)) (fun i hi => by rw [nth_drop]; exact h _ (by simp at hi; omega)) rfl]
theorem runesV_eq (l : List UInt8) : runesV l = match cnt 0 l with | none => -1 | some n => (n : Int) := by
  unfold runesV capV
  cases h : cnt 0 l with
  | none => rfl
  | some n => simp only []; rw [if_pos (cnt_le 0 l n h)]
theorem chk_low {l : List UInt8} {i : Nat} (hi : i < l.length) (hb : nth l i < 33) : chk l = false := by
  unfold chk
  rw [cnt_low (by omega) l i hi hb]
  rfl
theorem chk_high {l : List UInt8} (h : ∀ i, i < l.length → 33 ≤ nth l i) : chk l = (decide (1 ≤ runesV l) && decide (runesV l ≤ 8)) := by
  unfold chk
  rw [cnt_high l h, runesV_eq]
  cases cnt 0 l with
  | none => rfl
  | some n =>
    show decide (0 < capV 8 (some n)) = (decide (1 ≤ (n : Int)) && decide ((n : Int) ≤ 8))
    have hc : capV 8 (some n) = (if n ≤ 8 then (n : Int) else -1) := rfl
    rw [Bool.eq_iff_iff, decide_eq_true_iff, Bool.and_eq_true, decide_eq_true_iff, decide_eq_true_iff, hc]
    by_cases h8 : n ≤ 8
    · rw [if_pos h8]; omega
    · rw [if_neg h8]; omega
theorem meet_lt {f t f2 t2 : List UInt8} (hl : Op.bytesLess f f2 = true) : meet f t f2 t2 = (good f t && good f2 t2 && has f t f2) := by
  unfold meet
  have : has f2 t2 f = false := by unfold has; rw [hl]; rfl
  rw [this, Bool.or_false]
theorem meet_ge {f t f2 t2 : List UInt8} (hl : Op.bytesLess f f2 = false) : meet f t f2 t2 = (good f t && good f2 t2 && has f2 t2 f) := by
  unfold meet
  cases hg2 : good f2 t2 with
  | false => simp
  | true =>
    cases hh : has f t f2 with
    | false => rw [Bool.false_or]
    | true =>
      have h1 : Op.bytesLess f2 f = false := by unfold has at hh; simp at hh; exact hh.1
      have e := bl_tri hl h1
      subst e
      have : has f t2 f = true := by
        unfold good at hg2
        unfold has
        rw [bl_irrefl]
        simp at hg2 ⊢
        exact hg2.2
      rw [this]
      simp
end Km

set_option maxRecDepth 100000 in
set_option maxHeartbeats 800000 in
theorem refCheck_any (s : ByteArray) (w : World) (hs : s.size ≤ 9223372036854775807) :
    Calls Try.prog 99 #[.string s] w fun e w' => e = .returned (.bool (Km.chk s.data.toList)) ∧ w = w' := by
  go_enter Try.func99, Try.ntmps99
  go_wp2_with fail
  refine (refRunes_any s _ hs).mono ?_
  rintro e w1 ⟨rfl, rfl⟩
  generalize hn : Km.runesV s.data.toList = n
  have HN := Lib.hid hn
  clear hn
  go_wp2
  go_loop [4] (fun i => ∃ k : Nat, k ≤ s.size ∧ i = .int .i64 k ∧ ∀ j, j < k → 33 ≤ Km.nth s.data.toList j) (fun i => s.size - (intOf i).toNat)
  case atStart => exact ⟨0, by omega, rfl, fun j h => by omega⟩
  case round =>
    obtain ⟨k, hk, rfl, hall⟩ := hrel
    have HA := Lib.hid hall
    clear hall
    by_cases hlt : k < s.size
    · have HK := Lib.hid (Km.nth_get s k hlt)
      by_cases hb : s[k].toNat < 33
      · have t1 : decide ((s[k].toNat : Int) < 33) = true := by simp; omega
        have HB := Lib.hid hb
        clear hb
        go_wp2
        go_ret
        exact ⟨ret_bool (Km.chk_low (i := k) (by simpa using hlt) (by rw [← HK.out]; exact HB.out)).symm, rfl⟩
      · have t1 : decide ((s[k].toNat : Int) < 33) = false := by simp; omega
        have HB := Lib.hid hb
        clear hb
        go_wp2
        go_round
        case rel =>
          refine ⟨k + 1, by omega, by go_num, fun j hj => ?_⟩
          by_cases e : j = k
          · subst e; rw [← HK.out]; have := HB.out; omega
          · exact HA.out j (by omega)
        case measure => simp [intOf]; omega
    · obtain rfl : k = s.size := by omega
      have hc : Km.chk s.data.toList = (decide (1 ≤ n) && decide (n ≤ 8)) := by
        rw [← HN.out]
        exact Km.chk_high (fun i hi => HA.out i (by simpa using hi))
      have HC := Lib.hid hc
      clear hc
      by_cases h1 : 1 ≤ n
      · have t1 : decide (1 ≤ n) = true := by simpa using h1
        go_wp2
        go_ret
        refine ⟨ret_bool ?_, rfl⟩
        rw [HC.out, t1, Bool.true_and]
      · have t1 : decide (1 ≤ n) = false := by simpa using h1
        go_wp2
        go_ret
        refine ⟨ret_bool ?_, rfl⟩
        rw [HC.out, t1, Bool.false_and]

end Go.Proofs.Ytllagelopdedfaa
