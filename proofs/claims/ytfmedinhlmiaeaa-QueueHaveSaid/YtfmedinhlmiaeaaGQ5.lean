/- Texts of this proof, one behind the other: KeysRef, KeysRef2, StampRef. -/
import Derived.Test.YtfmedinhlmiaeaaGQ4
/- What the document's Runes, Check, Good and Meet answer. -/
namespace Go.Proofs.Ytfmedinhlmiaeaa
open Go.RowKit
set_option linter.unusedVariables false

set_option maxRecDepth 100000 in
theorem refLong_any (c : Nat) (w : World) (hc : c < 256) :
    Calls Try.prog 60 #[.int .u8 c] w fun e w' => e = .returned (.int .i64 (Km.lead c)) ∧ w = w' := by
  go_enter Try.func60, Try.ntmps60
  go_wp2
  all_goals
    go_ret
    refine ⟨ret_int ?_, rfl⟩
    unfold Km.lead
    repeat' split
    all_goals omega

set_option maxRecDepth 100000 in
set_option maxHeartbeats 4000000 in
theorem refRunes_any (s : ByteArray) (w : World) (hs : s.size ≤ 9223372036854775807) :
    Calls Try.prog 45 #[.string s] w fun e w' => e = .returned (.int .i64 (Km.runesV s.data.toList)) ∧ w = w' := by
  go_enter Try.func45, Try.ntmps45
  go_wp2
  go_loop [3, 4] (fun n i => ∃ pos acc : Nat, pos ≤ s.size ∧ acc ≤ pos ∧ n = .int .i64 acc ∧ i = .int .i64 pos ∧ Km.cnt 0 s.data.toList = (Km.cnt 0 (s.data.toList.drop pos)).map (· + acc)) (fun _ i => s.size - (intOf i).toNat)
  case atStart => exact ⟨0, 0, by omega, by omega, rfl, rfl, by simp⟩
  case round =>
    obtain ⟨pos, acc, hp, hap, rfl, rfl, he⟩ := hrel
    have He := Lib.hid he
    clear he
    by_cases hlt : pos < s.size
    · have Hne := Lib.hid (drop_ne s pos hlt)
      go_wp2_with fail
      refine (refLong_any s[pos].toNat _ s[pos].toNat_lt).mono ?_
      rintro e w' ⟨rfl, rfl⟩
      have hn0 : s[pos].toNat = Km.nth (s.data.toList.drop pos) 0 := by rw [Km.nth_get s pos hlt, Km.nth_drop]; rfl
      have hdl := drop_len s pos hp
      have Hdl := Lib.hid hdl
      have Hk4 := Lib.hid (Km.lead_le s[pos].toNat)
      generalize hk : Km.lead s[pos].toNat = k at Hk4
      have hk4 : k ≤ 4 := Hk4.out
      have Hk : Hid (Km.lead (Km.nth (s.data.toList.drop pos) 0) = k) := by rw [← hn0]; exact Lib.hid hk
      have Hn0 := Lib.hid hn0
      clear hn0 hk hdl Hk4
      by_cases hk0 : k = 0
      · have h1 : ((k : Int) == 0) = true := by simpa using hk0
        have HK0 := Lib.hid hk0
        clear hk0
        go_wp2
        go_ret
        refine ⟨ret_int (cnt_none He.out Hne.out (.inl (Km.wid_bad_lead Hne.out (.inl ?_)))).symm, rfl⟩
        rw [Hk.out]; exact HK0.out
      have h1 : ((k : Int) == 0) = false := by simpa using hk0
      by_cases hk1 : s.size - pos < k
      · have h2 : decide ((s.size : Int) - (pos : Int) < (k : Int)) = true := by simp; omega
        have HK1 := Lib.hid hk1
        clear hk0 hk1
        go_wp2
        go_ret
        refine ⟨ret_int (cnt_none He.out Hne.out (.inl (Km.wid_bad_lead Hne.out (.inr ?_)))).symm, rfl⟩
        rw [Hk.out, Hdl.out]; exact HK1.out
      have h2 : decide ((s.size : Int) - (pos : Int) < (k : Int)) = false := by simp; omega
      have hk1' : pos + k ≤ s.size := by omega
      clear hk1
      go_wp2
      go_loop [6] (fun i => ∃ j : Nat, 1 ≤ j ∧ j ≤ k ∧ i = .int .i64 j ∧ ∀ m, 1 ≤ m → m < j → Km.okc (Km.nth (s.data.toList.drop pos) m)) (fun i => k - (intOf i).toNat)
      case atStart => exact ⟨1, by omega, by omega, rfl, fun m a b => by omega⟩
      case round =>
        obtain ⟨j, hj1, hjk, rfl, hall⟩ := hrel
        have HA := Lib.hid hall
        clear hall
        by_cases hj : j < k
        · have hlj : pos + j < s.size := by omega
          have hnj : s[pos + j].toNat = Km.nth (s.data.toList.drop pos) j := by rw [Km.nth_get s (pos + j) hlj, Km.nth_drop]
          have HNJ := Lib.hid hnj
          clear hnj
          by_cases ho : 128 ≤ s[pos + j].toNat ∧ s[pos + j].toNat ≤ 191
          · have HO := Lib.hid ho
            have t1 : decide ((s[pos + j].toNat : Int) < 128) = false := by simp; omega
            have t2 : decide ((191 : Int) < (s[pos + j].toNat : Int)) = false := by simp; omega
            clear ho
            go_wp2
            go_round
            case rel =>
              refine ⟨j + 1, by omega, by omega, by go_num, fun m a b => ?_⟩
              by_cases e : m = j
              · subst e; rw [← HNJ.out]; exact HO.out
              · exact HA.out m a (by omega)
            case measure => simp [intOf]; omega
          · have HO : Hid (¬ Km.okc (Km.nth (s.data.toList.drop pos) j)) := by rw [← HNJ.out]; exact Lib.hid ho
            have HW := Lib.hid (Km.wid_bad_cont Hne.out hj1 (by rw [Hk.out]; exact hj) HO.out)
            rcases (show s[pos + j].toNat < 128 ∨ (¬ s[pos + j].toNat < 128 ∧ 191 < s[pos + j].toNat) by omega) with h | ⟨h, h'⟩
            · have t1 : decide ((s[pos + j].toNat : Int) < 128) = true := by simp; omega
              clear ho h
              go_wp2
              go_ret
              exact ⟨ret_int (cnt_none He.out Hne.out (.inl HW.out)).symm, rfl⟩
            · have t1 : decide ((s[pos + j].toNat : Int) < 128) = false := by simp; omega
              have t2 : decide ((191 : Int) < (s[pos + j].toNat : Int)) = true := by simp; omega
              clear ho h h'
              go_wp2
              go_ret
              exact ⟨ret_int (cnt_none He.out Hne.out (.inl HW.out)).symm, rfl⟩
        · obtain rfl : j = k := by omega
          by_cases hsp : s[pos].toNat = 224 ∨ s[pos].toNat = 237 ∨ s[pos].toNat = 240 ∨ s[pos].toNat = 244
          · have hj2 : 2 ≤ j := by
              have e := Hk.out
              rw [← Hn0.out] at e
              rw [← e]
              rcases hsp with h | h | h | h <;> rw [h] <;> decide
            have hl1 : pos + 1 < s.size := by omega
            have hn1 : s[pos + 1].toNat = Km.nth (s.data.toList.drop pos) 1 := by rw [Km.nth_get s (pos + 1) hl1, Km.nth_drop]
            have HN1 := Lib.hid hn1
            clear hn1
            have HB : ∀ (h : Km.spec s[pos].toNat s[pos + 1].toNat), Hid (Km.wid (s.data.toList.drop pos) = 0) := fun h => by
              rw [Hn0.out, HN1.out] at h
              exact Lib.hid (Km.wid_bad_spec Hne.out h)
            have HG : ∀ (h : ¬ Km.spec s[pos].toNat s[pos + 1].toNat), Hid (Km.wid (s.data.toList.drop pos) = j) := fun h => by
              rw [Hn0.out, HN1.out] at h
              have := Km.wid_ok Hne.out (by rw [Hk.out, Hdl.out]; omega) (by rw [Hk.out]; exact HA.out) h
              rw [Hk.out] at this
              exact Lib.hid this
            have HB' := Lib.hid HB
            have HG' := Lib.hid HG
            clear HB HG
            rcases hsp with h | h | h | h
            · have q1 : ((s[pos].toNat : Int) == 224) = true := by simp; omega
              have q2 : ((s[pos].toNat : Int) == 237) = false := by simp; omega
              have q3 : ((s[pos].toNat : Int) == 240) = false := by simp; omega
              have q4 : ((s[pos].toNat : Int) == 244) = false := by simp; omega
              by_cases hx : s[pos + 1].toNat < 160
              · have HW := HB'.out (.inl ⟨h, hx⟩)
                have q5 : decide ((s[pos + 1].toNat : Int) < 160) = true := by simp; omega
                clear h hx
                go_wp2
                go_ret
                exact ⟨ret_int (cnt_none He.out Hne.out (.inl HW.out)).symm, rfl⟩
              · have HW := HG'.out (by unfold Km.spec; omega)
                have q5 : decide ((s[pos + 1].toNat : Int) < 160) = false := by simp; omega
                clear h hx
                go_wp2
                go_round
                case rel => exact ⟨pos + j, acc + 1, by omega, by omega, by go_num, by go_num, cnt_next He.out Hne.out (by rw [HW.out]; omega) (by omega) HW.out.symm⟩
                case measure => simp [intOf]; omega
            · have q1 : ((s[pos].toNat : Int) == 224) = false := by simp; omega
              have q2 : ((s[pos].toNat : Int) == 237) = true := by simp; omega
              have q3 : ((s[pos].toNat : Int) == 240) = false := by simp; omega
              have q4 : ((s[pos].toNat : Int) == 244) = false := by simp; omega
              by_cases hx : 159 < s[pos + 1].toNat
              · have HW := HB'.out (.inr (.inl ⟨h, hx⟩))
                have q5 : decide ((159 : Int) < (s[pos + 1].toNat : Int)) = true := by simp; omega
                clear h hx
                go_wp2
                go_ret
                exact ⟨ret_int (cnt_none He.out Hne.out (.inl HW.out)).symm, rfl⟩
              · have HW := HG'.out (by unfold Km.spec; omega)
                have q5 : decide ((159 : Int) < (s[pos + 1].toNat : Int)) = false := by simp; omega
                clear h hx
                go_wp2
                go_round
                case rel => exact ⟨pos + j, acc + 1, by omega, by omega, by go_num, by go_num, cnt_next He.out Hne.out (by rw [HW.out]; omega) (by omega) HW.out.symm⟩
                case measure => simp [intOf]; omega
            · have q1 : ((s[pos].toNat : Int) == 224) = false := by simp; omega
              have q2 : ((s[pos].toNat : Int) == 237) = false := by simp; omega
              have q3 : ((s[pos].toNat : Int) == 240) = true := by simp; omega
              have q4 : ((s[pos].toNat : Int) == 244) = false := by simp; omega
              by_cases hx : s[pos + 1].toNat < 144
              · have HW := HB'.out (.inr (.inr (.inl ⟨h, hx⟩)))
                have q5 : decide ((s[pos + 1].toNat : Int) < 144) = true := by simp; omega
                clear h hx
                go_wp2
                go_ret
                exact ⟨ret_int (cnt_none He.out Hne.out (.inl HW.out)).symm, rfl⟩
              · have HW := HG'.out (by unfold Km.spec; omega)
                have q5 : decide ((s[pos + 1].toNat : Int) < 144) = false := by simp; omega
                clear h hx
                go_wp2
                go_round
                case rel => exact ⟨pos + j, acc + 1, by omega, by omega, by go_num, by go_num, cnt_next He.out Hne.out (by rw [HW.out]; omega) (by omega) HW.out.symm⟩
                case measure => simp [intOf]; omega
            · have q1 : ((s[pos].toNat : Int) == 224) = false := by simp; omega
              have q2 : ((s[pos].toNat : Int) == 237) = false := by simp; omega
              have q3 : ((s[pos].toNat : Int) == 240) = false := by simp; omega
              have q4 : ((s[pos].toNat : Int) == 244) = true := by simp; omega
              by_cases hx : 143 < s[pos + 1].toNat
              · have HW := HB'.out (.inr (.inr (.inr ⟨h, hx⟩)))
                have q5 : decide ((143 : Int) < (s[pos + 1].toNat : Int)) = true := by simp; omega
                clear h hx
                go_wp2
                go_ret
                exact ⟨ret_int (cnt_none He.out Hne.out (.inl HW.out)).symm, rfl⟩
              · have HW := HG'.out (by unfold Km.spec; omega)
                have q5 : decide ((143 : Int) < (s[pos + 1].toNat : Int)) = false := by simp; omega
                clear h hx
                go_wp2
                go_round
                case rel => exact ⟨pos + j, acc + 1, by omega, by omega, by go_num, by go_num, cnt_next He.out Hne.out (by rw [HW.out]; omega) (by omega) HW.out.symm⟩
                case measure => simp [intOf]; omega
          · have q1 : ((s[pos].toNat : Int) == 224) = false := by simp; omega
            have q2 : ((s[pos].toNat : Int) == 237) = false := by simp; omega
            have q3 : ((s[pos].toNat : Int) == 240) = false := by simp; omega
            have q4 : ((s[pos].toNat : Int) == 244) = false := by simp; omega
            have HW : Hid (Km.wid (s.data.toList.drop pos) = j) := by
              have := Km.wid_ok Hne.out (by rw [Hk.out, Hdl.out]; omega) (by rw [Hk.out]; exact HA.out) (by rw [← Hn0.out]; unfold Km.spec; omega)
              rw [Hk.out] at this
              exact Lib.hid this
            clear hsp
            go_wp2
            go_round
            case rel => exact ⟨pos + j, acc + 1, by omega, by omega, by go_num, by go_num, cnt_next He.out Hne.out (by rw [HW.out]; omega) (by omega) HW.out.symm⟩
            case measure => simp [intOf]; omega
    · go_wp2
      go_ret
      refine ⟨ret_int ?_, rfl⟩
      exact (cnt_done He.out (drop_none s pos hlt) (by simpa using (show acc ≤ s.size by omega))).symm
end Go.Proofs.Ytfmedinhlmiaeaa
/- What the document's Check, Good and Meet answer. -/
namespace Go.Proofs.Ytfmedinhlmiaeaa
open Go.RowKit
set_option linter.unusedVariables false

namespace Km
theorem widN_cont {n b0 b1 b2 b3 : Nat} : (1 < widN n b0 b1 b2 b3 → 128 ≤ b1) ∧ (2 < widN n b0 b1 b2 b3 → 128 ≤ b2) ∧ (3 < widN n b0 b1 b2 b3 → 128 ≤ b3) ∧ widN n b0 b1 b2 b3 ≤ 4 := by
  unfold widN okc
  repeat' split
  all_goals omega
theorem wid_cont {l : List UInt8} {i : Nat} (h1 : 1 ≤ i) (h2 : i < wid l) : 128 ≤ nth l i := by
  by_cases h : l = []
  · subst h; simp [wid] at h2
  · rw [wid_eq h] at h2
    have hc := widN_cont (n := l.length) (b0 := nth l 0) (b1 := nth l 1) (b2 := nth l 2) (b3 := nth l 3)
    rcases (show i = 1 ∨ i = 2 ∨ i = 3 by omega) with rfl | rfl | rfl
    · exact hc.1 h2
    · exact hc.2.1 h2
    · exact hc.2.2.1 h2

/-- With a byte below 'low' there is none. -/
theorem cnt_low {low : Nat} (hlow : low ≤ 128) (l : List UInt8) (i : Nat) (hi : i < l.length) (hb : nth l i < low) : cnt low l = none := by
  induction hk : l.length using Nat.strongRecOn generalizing l i with
  | ind k ih =>
    have h0 : l ≠ [] := by rintro rfl; simp at hi
    by_cases hbad : wid l = 0 ∨ nth l 0 < low
    · exact cnt_bad h0 hbad
    · rw [cnt_go h0 (by omega) (by omega)]
      have hw : wid l ≤ i := by
        by_cases e : i = 0
        · subst e; omega
        · by_cases hlt : i < wid l
          · have := wid_cont (l := l) (i := i) (by omega) hlt
            omega
          · omega
      rw [ih (l.drop (wid l)).length (by simp; omega) (l.drop (wid l)) (i - wid l) (by simp; omega) (by rw [nth_drop]; rw [show wid l + (i - wid l) = i by omega]; exact hb) rfl]
      rfl
theorem cnt_high {low : Nat} (l : List UInt8) (h : ∀ i, i < l.length → low ≤ nth l i) : cnt low l = cnt 0 l := by
  induction hk : l.length using Nat.strongRecOn generalizing l with
  | ind k ih =>
    by_cases h0 : l = []
    · subst h0; rw [cnt_nil, cnt_nil]
    · have hp := List.length_pos_iff.2 h0
      by_cases hw : wid l = 0
      · rw [cnt_bad h0 (.inl hw), cnt_bad h0 (.inl hw)]
      · rw [cnt_go h0 (by omega) (h 0 hp), cnt_go h0 (by omega) (by omega)]
        rw [ih (l.drop (wid l)).length (by simp; omega) (l.drop (wid l)) (fun i hi => by rw [nth_drop]; exact h _ (by simp at hi; omega)) rfl]
theorem runesV_eq (l : List UInt8) : runesV l = match cnt 0 l with | none => -1 | some n => (n : Int) := by
  unfold runesV capV
  cases h : cnt 0 l with
  | none => rfl
  | some n => simp only []; rw [if_pos (cnt_le 0 l n h)]
theorem chk_low {l : List UInt8} {i : Nat} (hi : i < l.length) (hb : nth l i < 33) : chk l = false := by
  unfold chk
  rw [cnt_low (by omega) l i hi hb]
  rfl
theorem chk_high {l : List UInt8} (h : ∀ i, i < l.length → 33 ≤ nth l i) : chk l = (decide (1 ≤ runesV l) && decide (runesV l ≤ 8)) := by
  unfold chk
  rw [cnt_high l h, runesV_eq]
  cases cnt 0 l with
  | none => rfl
  | some n =>
    show decide (0 < capV 8 (some n)) = (decide (1 ≤ (n : Int)) && decide ((n : Int) ≤ 8))
    have hc : capV 8 (some n) = (if n ≤ 8 then (n : Int) else -1) := rfl
    rw [Bool.eq_iff_iff, decide_eq_true_iff, Bool.and_eq_true, decide_eq_true_iff, decide_eq_true_iff, hc]
    by_cases h8 : n ≤ 8
    · rw [if_pos h8]; omega
    · rw [if_neg h8]; omega
theorem meet_lt {f t f2 t2 : List UInt8} (hl : Op.bytesLess f f2 = true) : meet f t f2 t2 = (good f t && good f2 t2 && has f t f2) := by
  unfold meet
  have : has f2 t2 f = false := by unfold has; rw [hl]; rfl
  rw [this, Bool.or_false]
theorem meet_ge {f t f2 t2 : List UInt8} (hl : Op.bytesLess f f2 = false) : meet f t f2 t2 = (good f t && good f2 t2 && has f2 t2 f) := by
  unfold meet
  cases hg2 : good f2 t2 with
  | false => simp
  | true =>
    cases hh : has f t f2 with
    | false => rw [Bool.false_or]
    | true =>
      have h1 : Op.bytesLess f2 f = false := by unfold has at hh; simp at hh; exact hh.1
      have e := bl_tri hl h1
      subst e
      have : has f t2 f = true := by
        unfold good at hg2
        unfold has
        rw [bl_irrefl]
        simp at hg2 ⊢
        exact hg2.2
      rw [this]
      simp
end Km

set_option maxRecDepth 100000 in
set_option maxHeartbeats 800000 in
theorem refCheck_any (s : ByteArray) (w : World) (hs : s.size ≤ 9223372036854775807) :
    Calls Try.prog 33 #[.string s] w fun e w' => e = .returned (.bool (Km.chk s.data.toList)) ∧ w = w' := by
  go_enter Try.func33, Try.ntmps33
  go_wp2_with fail
  refine (refRunes_any s _ hs).mono ?_
  rintro e w1 ⟨rfl, rfl⟩
  generalize hn : Km.runesV s.data.toList = n
  have HN := Lib.hid hn
  clear hn
  go_wp2
  go_loop [4] (fun i => ∃ k : Nat, k ≤ s.size ∧ i = .int .i64 k ∧ ∀ j, j < k → 33 ≤ Km.nth s.data.toList j) (fun i => s.size - (intOf i).toNat)
  case atStart => exact ⟨0, by omega, rfl, fun j h => by omega⟩
  case round =>
    obtain ⟨k, hk, rfl, hall⟩ := hrel
    have HA := Lib.hid hall
    clear hall
    by_cases hlt : k < s.size
    · have HK := Lib.hid (Km.nth_get s k hlt)
      by_cases hb : s[k].toNat < 33
      · have t1 : decide ((s[k].toNat : Int) < 33) = true := by simp; omega
        have HB := Lib.hid hb
        clear hb
        go_wp2
        go_ret
        exact ⟨ret_bool (Km.chk_low (i := k) (by simpa using hlt) (by rw [← HK.out]; exact HB.out)).symm, rfl⟩
      · have t1 : decide ((s[k].toNat : Int) < 33) = false := by simp; omega
        have HB := Lib.hid hb
        clear hb
        go_wp2
        go_round
        case rel =>
          refine ⟨k + 1, by omega, by go_num, fun j hj => ?_⟩
          by_cases e : j = k
          · subst e; rw [← HK.out]; have := HB.out; omega
          · exact HA.out j (by omega)
        case measure => simp [intOf]; omega
    · obtain rfl : k = s.size := by omega
      have hc : Km.chk s.data.toList = (decide (1 ≤ n) && decide (n ≤ 8)) := by
        rw [← HN.out]
        exact Km.chk_high (fun i hi => HA.out i (by simpa using hi))
      have HC := Lib.hid hc
      clear hc
      by_cases h1 : 1 ≤ n
      · have t1 : decide (1 ≤ n) = true := by simpa using h1
        go_wp2
        go_ret
        refine ⟨ret_bool ?_, rfl⟩
        rw [HC.out, t1, Bool.true_and]
      · have t1 : decide (1 ≤ n) = false := by simpa using h1
        go_wp2
        go_ret
        refine ⟨ret_bool ?_, rfl⟩
        rw [HC.out, t1, Bool.false_and]

end Go.Proofs.Ytfmedinhlmiaeaa
/- What the document's own Check, Less, Next and Max of stamps answer. -/
namespace Go.Proofs.Ytfmedinhlmiaeaa
open Go.RowKit
set_option linter.unusedVariables false

set_option maxRecDepth 100000 in
set_option maxHeartbeats 400000 in
theorem refSCheck_any (n s : Int) (w : World) :
    Calls Try.prog 34 #[.agg #[.int .i64 n, .int .i64 s]] w fun e w' => e = .returned (.bool (Sm.ok n s)) ∧ Below w.heap.size w w' := by
  go_enter Try.func34, Try.ntmps34
  go_wp2
  all_goals
    go_ret
    refine ⟨ret_bool ?_, (Below.refl _ _).alloc (Nat.le_refl _) _⟩
    simp_all [Sm.ok] <;> omega

set_option maxRecDepth 100000 in
set_option maxHeartbeats 400000 in
theorem refLess_any (n s m t : Int) (w : World) :
    Calls Try.prog 28 #[.agg #[.int .i64 n, .int .i64 s], .agg #[.int .i64 m, .int .i64 t]] w fun e w' => e = .returned (.bool (Sm.less (n, s) (m, t))) ∧ Below w.heap.size w w' := by
  go_enter Try.func28, Try.ntmps28
  go_wp2
  all_goals
    go_ret
    refine ⟨ret_bool ?_, balloc (balloc (Below.refl _ w) _) _⟩
    simp_all [Sm.less]

end Go.Proofs.Ytfmedinhlmiaeaa
