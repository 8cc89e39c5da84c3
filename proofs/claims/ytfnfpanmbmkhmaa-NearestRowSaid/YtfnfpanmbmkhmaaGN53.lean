/- Texts of this proof, one behind the other: KeysRef, KeysRef2, StampRef, PastVal. -/
import Derived.Test.YtfnfpanmbmkhmaaGN52
import Derived.Deep.RegionHeld3
/- What the document's Runes, Check, Good and Meet answer. -/
namespace Go.Proofs.Ytfnfpanmbmkhmaa
open Go.RowKit
set_option linter.unusedVariables false

set_option maxRecDepth 100000 in
theorem refLong_any (c : Nat) (w : World) (hc : c < 256) :
    Calls Try.prog 74 #[.int .u8 c] w fun e w' => e = .returned (.int .i64 (Km.lead c)) ∧ w = w' := by
  go_enter Try.func74, Try.ntmps74
  go_wp2
  all_goals
    go_ret
    refine ⟨ret_int ?_, rfl⟩
    unfold Km.lead
    repeat' split
    all_goals omega

set_option maxRecDepth 100000 in
set_option maxHeartbeats 4000000 in
theorem refRunes_any (s : ByteArray) (w : World) (hs : s.size ≤ 9223372036854775807) :
    Calls Try.prog 62 #[.string s] w fun e w' => e = .returned (.int .i64 (Km.runesV s.data.toList)) ∧ w = w' := by
  go_enter Try.func62, Try.ntmps62
  go_wp2
  go_loop [3, 4] (fun n i => ∃ pos acc : Nat, pos ≤ s.size ∧ acc ≤ pos ∧ n = .int .i64 acc ∧ i = .int .i64 pos ∧ Km.cnt 0 s.data.toList = (Km.cnt 0 (s.data.toList.drop pos)).map (· + acc)) (fun _ i => s.size - (intOf i).toNat)
  case atStart => exact ⟨0, 0, by omega, by omega, rfl, rfl, by simp⟩
  case round =>
    obtain ⟨pos, acc, hp, hap, rfl, rfl, he⟩ := hrel
    have He := Lib.hid he
    clear he
    by_cases hlt : pos < s.size
    · have Hne := Lib.hid (drop_ne s pos hlt)
      go_wp2_with fail
      refine (refLong_any s[pos].toNat _ s[pos].toNat_lt).mono ?_
      rintro e w' ⟨rfl, rfl⟩
      have hn0 : s[pos].toNat = Km.nth (s.data.toList.drop pos) 0 := by rw [Km.nth_get s pos hlt, Km.nth_drop]; rfl
      have hdl := drop_len s pos hp
      have Hdl := Lib.hid hdl
      have Hk4 := Lib.hid (Km.lead_le s[pos].toNat)
      generalize hk : Km.lead s[pos].toNat = k at Hk4
      have hk4 : k ≤ 4 := Hk4.out
      have Hk : Hid (Km.lead (Km.nth (s.data.toList.drop pos) 0) = k) := by rw [← hn0]; exact Lib.hid hk
      have Hn0 := Lib.hid hn0
      clear hn0 hk hdl Hk4
      by_cases hk0 : k = 0
      · have h1 : ((k : Int) == 0) = true := by simpa using hk0
        have HK0 := Lib.hid hk0
        clear hk0
        go_wp2
        go_ret
        refine ⟨ret_int (cnt_none He.out Hne.out (.inl (Km.wid_bad_lead Hne.out (.inl ?_)))).symm, rfl⟩
        rw [Hk.out]; exact HK0.out
      have h1 : ((k : Int) == 0) = false := by simpa using hk0
      by_cases hk1 : s.size - pos < k
      · have h2 : decide ((s.size : Int) - (pos : Int) < (k : Int)) = true := by simp; omega
        have HK1 := Lib.hid hk1
        clear hk0 hk1
        go_wp2
        go_ret
        refine ⟨ret_int (cnt_none He.out Hne.out (.inl (Km.wid_bad_lead Hne.out (.inr ?_)))).symm, rfl⟩
        rw [Hk.out, Hdl.out]; exact HK1.out
      have h2 : decide ((s.size : Int) - (pos : Int) < (k : Int)) = false := by simp; omega
      have hk1' : pos + k ≤ s.size := by omega
      clear hk1
      go_wp2
      go_loop [6] (fun i => ∃ j : Nat, 1 ≤ j ∧ j ≤ k ∧ i = .int .i64 j ∧ ∀ m, 1 ≤ m → m < j → Km.okc (Km.nth (s.data.toList.drop pos) m)) (fun i => k - (intOf i).toNat)
      case atStart => exact ⟨1, by omega, by omega, rfl, fun m a b => by omega⟩
      case round =>
        obtain ⟨j, hj1, hjk, rfl, hall⟩ := hrel
        have HA := Lib.hid hall
        clear hall
        by_cases hj : j < k
        · have hlj : pos + j < s.size := by omega
          have hnj : s[pos + j].toNat = Km.nth (s.data.toList.drop pos) j := by rw [Km.nth_get s (pos + j) hlj, Km.nth_drop]
          have HNJ := Lib.hid hnj
          clear hnj
          by_cases ho : 128 ≤ s[pos + j].toNat ∧ s[pos + j].toNat ≤ 191
          · have HO := Lib.hid ho
            have t1 : decide ((s[pos + j].toNat : Int) < 128) = false := by simp; omega
            have t2 : decide ((191 : Int) < (s[pos + j].toNat : Int)) = false := by simp; omega
            clear ho
            go_wp2
            go_round
            case rel =>
              refine ⟨j + 1, by omega, by omega, by go_num, fun m a b => ?_⟩
              by_cases e : m = j
              · subst e; rw [← HNJ.out]; exact HO.out
              · exact HA.out m a (by omega)
            case measure => simp [intOf]; omega
          · have HO : Hid (¬ Km.okc (Km.nth (s.data.toList.drop pos) j)) := by rw [← HNJ.out]; exact Lib.hid ho
            have HW := Lib.hid (Km.wid_bad_cont Hne.out hj1 (by rw [Hk.out]; exact hj) HO.out)
            rcases (show s[pos + j].toNat < 128 ∨ (¬ s[pos + j].toNat < 128 ∧ 191 < s[pos + j].toNat) by omega) with h | ⟨h, h'⟩
            · have t1 : decide ((s[pos + j].toNat : Int) < 128) = true := by simp; omega
              clear ho h
              go_wp2
              go_ret
              exact ⟨ret_int (cnt_none He.out Hne.out (.inl HW.out)).symm, rfl⟩
            · have t1 : decide ((s[pos + j].toNat : Int) < 128) = false := by simp; omega
              have t2 : decide ((191 : Int) < (s[pos + j].toNat : Int)) = true := by simp; omega
              clear ho h h'
              go_wp2
              go_ret
              exact ⟨ret_int (cnt_none He.out Hne.out (.inl HW.out)).symm, rfl⟩
        · obtain rfl : j = k := by omega
          by_cases hsp : s[pos].toNat = 224 ∨ s[pos].toNat = 237 ∨ s[pos].toNat = 240 ∨ s[pos].toNat = 244
          · have hj2 : 2 ≤ j := by
              have e := Hk.out
              rw [← Hn0.out] at e
              rw [← e]
              rcases hsp with h | h | h | h <;> rw [h] <;> decide
            have hl1 : pos + 1 < s.size := by omega
            have hn1 : s[pos + 1].toNat = Km.nth (s.data.toList.drop pos) 1 := by rw [Km.nth_get s (pos + 1) hl1, Km.nth_drop]
            have HN1 := Lib.hid hn1
            clear hn1
            have HB : ∀ (h : Km.spec s[pos].toNat s[pos + 1].toNat), Hid (Km.wid (s.data.toList.drop pos) = 0) := fun h => by
              rw [Hn0.out, HN1.out] at h
              exact Lib.hid (Km.wid_bad_spec Hne.out h)
            have HG : ∀ (h : ¬ Km.spec s[pos].toNat s[pos + 1].toNat), Hid (Km.wid (s.data.toList.drop pos) = j) := fun h => by
              rw [Hn0.out, HN1.out] at h
              have := Km.wid_ok Hne.out (by rw [Hk.out, Hdl.out]; omega) (by rw [Hk.out]; exact HA.out) h
              rw [Hk.out] at this
              exact Lib.hid this
            have HB' := Lib.hid HB
            have HG' := Lib.hid HG
            clear HB HG
            rcases hsp with h | h | h | h
            · have q1 : ((s[pos].toNat : Int) == 224) = true := by simp; omega
              have q2 : ((s[pos].toNat : Int) == 237) = false := by simp; omega
              have q3 : ((s[pos].toNat : Int) == 240) = false := by simp; omega
              have q4 : ((s[pos].toNat : Int) == 244) = false := by simp; omega
              by_cases hx : s[pos + 1].toNat < 160
              · have HW := HB'.out (.inl ⟨h, hx⟩)
                have q5 : decide ((s[pos + 1].toNat : Int) < 160) = true := by simp; omega
                clear h hx
                go_wp2
                go_ret
                exact ⟨ret_int (cnt_none He.out Hne.out (.inl HW.out)).symm, rfl⟩
              · have HW := HG'.out (by unfold Km.spec; omega)
                have q5 : decide ((s[pos + 1].toNat : Int) < 160) = false := by simp; omega
                clear h hx
                go_wp2
                go_round
                case rel => exact ⟨pos + j, acc + 1, by omega, by omega, by go_num, by go_num, cnt_next He.out Hne.out (by rw [HW.out]; omega) (by omega) HW.out.symm⟩
                case measure => simp [intOf]; omega
            · have q1 : ((s[pos].toNat : Int) == 224) = false := by simp; omega
              have q2 : ((s[pos].toNat : Int) == 237) = true := by simp; omega
              have q3 : ((s[pos].toNat : Int) == 240) = false := by simp; omega
              have q4 : ((s[pos].toNat : Int) == 244) = false := by simp; omega
              by_cases hx : 159 < s[pos + 1].toNat
              · have HW := HB'.out (.inr (.inl ⟨h, hx⟩))
                have q5 : decide ((159 : Int) < (s[pos + 1].toNat : Int)) = true := by simp; omega
                clear h hx
                go_wp2
                go_ret
                exact ⟨ret_int (cnt_none He.out Hne.out (.inl HW.out)).symm, rfl⟩
              · have HW := HG'.out (by unfold Km.spec; omega)
                have q5 : decide ((159 : Int) < (s[pos + 1].toNat : Int)) = false := by simp; omega
                clear h hx
                go_wp2
                go_round
                case rel => exact ⟨pos + j, acc + 1, by omega, by omega, by go_num, by go_num, cnt_next He.out Hne.out (by rw [HW.out]; omega) (by omega) HW.out.symm⟩
                case measure => simp [intOf]; omega
            · have q1 : ((s[pos].toNat : Int) == 224) = false := by simp; omega
              have q2 : ((s[pos].toNat : Int) == 237) = false := by simp; omega
              have q3 : ((s[pos].toNat : Int) == 240) = true := by simp; omega
              have q4 : ((s[pos].toNat : Int) == 244) = false := by simp; omega
              by_cases hx : s[pos + 1].toNat < 144
              · have HW := HB'.out (.inr (.inr (.inl ⟨h, hx⟩)))
                have q5 : decide ((s[pos + 1].toNat : Int) < 144) = true := by simp; omega
                clear h hx
                go_wp2
                go_ret
                exact ⟨ret_int (cnt_none He.out Hne.out (.inl HW.out)).symm, rfl⟩
              · have HW := HG'.out (by unfold Km.spec; omega)
                have q5 : decide ((s[pos + 1].toNat : Int) < 144) = false := by simp; omega
                clear h hx
                go_wp2
                go_round
                case rel => exact ⟨pos + j, acc + 1, by omega, by omega, by go_num, by go_num, cnt_next He.out Hne.out (by rw [HW.out]; omega) (by omega) HW.out.symm⟩
                case measure => simp [intOf]; omega
            · have q1 : ((s[pos].toNat : Int) == 224) = false := by simp; omega
              have q2 : ((s[pos].toNat : Int) == 237) = false := by simp; omega
              have q3 : ((s[pos].toNat : Int) == 240) = false := by simp; omega
              have q4 : ((s[pos].toNat : Int) == 244) = true := by simp; omega
              by_cases hx : 143 < s[pos + 1].toNat
              · have HW := HB'.out (.inr (.inr (.inr ⟨h, hx⟩)))
                have q5 : decide ((143 : Int) < (s[pos + 1].toNat : Int)) = true := by simp; omega
                clear h hx
                go_wp2
                go_ret
                exact ⟨ret_int (cnt_none He.out Hne.out (.inl HW.out)).symm, rfl⟩
              · have HW := HG'.out (by unfold Km.spec; omega)
                have q5 : decide ((143 : Int) < (s[pos + 1].toNat : Int)) = false := by simp; omega
                clear h hx
                go_wp2
                go_round
                case rel => exact ⟨pos + j, acc + 1, by omega, by omega, by go_num, by go_num, cnt_next He.out Hne.out (by rw [HW.out]; omega) (by omega) HW.out.symm⟩
                case measure => simp [intOf]; omega
          · have q1 : ((s[pos].toNat : Int) == 224) = false := by simp; omega
            have q2 : ((s[pos].toNat : Int) == 237) = false := by simp; omega
            have q3 : ((s[pos].toNat : Int) == 240) = false := by simp; omega
            have q4 : ((s[pos].toNat : Int) == 244) = false := by simp; omega
            have HW : Hid (Km.wid (s.data.toList.drop pos) = j) := by
              have := Km.wid_ok Hne.out (by rw [Hk.out, Hdl.out]; omega) (by rw [Hk.out]; exact HA.out) (by rw [← Hn0.out]; unfold Km.spec; omega)
              rw [Hk.out] at this
              exact Lib.hid this
            clear hsp
            go_wp2
            go_round
            case rel => exact ⟨pos + j, acc + 1, by omega, by omega, by go_num, by go_num, cnt_next He.out Hne.out (by rw [HW.out]; omega) (by omega) HW.out.symm⟩
            case measure => simp [intOf]; omega
    · go_wp2
      go_ret
      refine ⟨ret_int ?_, rfl⟩
      exact (cnt_done He.out (drop_none s pos hlt) (by simpa using (show acc ≤ s.size by omega))).symm
end Go.Proofs.Ytfnfpanmbmkhmaa
/- What the document's Check, Good and Meet answer. -/
namespace Go.Proofs.Ytfnfpanmbmkhmaa
open Go.RowKit
set_option linter.unusedVariables false

namespace Km
theorem widN_cont {n b0 b1 b2 b3 : Nat} : (1 < widN n b0 b1 b2 b3 → 128 ≤ b1) ∧ (2 < widN n b0 b1 b2 b3 → 128 ≤ b2) ∧ (3 < widN n b0 b1 b2 b3 → 128 ≤ b3) ∧ widN n b0 b1 b2 b3 ≤ 4 := by
  unfold widN okc
  repeat' split
  all_goals omega
theorem wid_cont {l : List UInt8} {i : Nat} (h1 : 1 ≤ i) (h2 : i < wid l) : 128 ≤ nth l i := by
  by_cases h : l = []
  · subst h; simp [wid] at h2
  · rw [wid_eq h] at h2
    have hc := widN_cont (n := l.length) (b0 := nth l 0) (b1 := nth l 1) (b2 := nth l 2) (b3 := nth l 3)
    rcases (show i = 1 ∨ i = 2 ∨ i = 3 by omega) with rfl | rfl | rfl
    · exact hc.1 h2
    · exact hc.2.1 h2
    · exact hc.2.2.1 h2

/-- With a byte below 'low' there is none. -/
theorem cnt_low {low : Nat} (hlow : low ≤ 128) (l : List UInt8) (i : Nat) (hi : i < l.length) (hb : nth l i < low) : cnt low l = none := by
  induction hk : l.length using Nat.strongRecOn generalizing l i with
  | ind k ih =>
    have h0 : l ≠ [] := by rintro rfl; simp at hi
    by_cases hbad : wid l = 0 ∨ nth l 0 < low
    · exact cnt_bad h0 hbad
    · rw [cnt_go h0 (by omega) (by omega)]
      have hw : wid l ≤ i := by
        by_cases e : i = 0
        · subst e; omega
        · by_cases hlt : i < wid l
          · have := wid_cont (l := l) (i := i) (by omega) hlt
            omega
          · omega
      rw [ih (l.drop (wid l)).length (by simp; omega) (l.drop (wid l)) (i - wid l) (by simp; omega) (by rw [nth_drop]; rw [show wid l + (i - wid l) = i by omega]; exact hb) rfl]
      rfl
theorem cnt_high {low : Nat} (l : List UInt8) (h : ∀ i, i < l.length → low ≤ nth l i) : cnt low l = cnt 0 l := by
  induction hk : l.length using Nat.strongRecOn generalizing l with
  | ind k ih =>
    by_cases h0 : l = []
    · subst h0; rw [cnt_nil, cnt_nil]
    · have hp := List.length_pos_iff.2 h0
      by_cases hw : wid l = 0
      · rw [cnt_bad h0 (.inl hw), cnt_bad h0 (.inl hw)]
      · rw [cnt_go h0 (by omega) (h 0 hp), cnt_go h0 (by omega) (by omega)]
        rw [ih (l.drop (wid l)).length (by simp; omega) (l.drop (wid l)) (fun i hi => by rw [nth_drop]; exact h _ (by simp at hi; omega)) rfl]
theorem runesV_eq (l : List UInt8) : runesV l = match cnt 0 l with | none => -1 | some n => (n : Int) := by
  unfold runesV capV
  cases h : cnt 0 l with
  | none => rfl
  | some n => simp only []; rw [if_pos (cnt_le 0 l n h)]
theorem chk_low {l : List UInt8} {i : Nat} (hi : i < l.length) (hb : nth l i < 33) : chk l = false := by
  unfold chk
  rw [cnt_low (by omega) l i hi hb]
  rfl
theorem chk_high {l : List UInt8} (h : ∀ i, i < l.length → 33 ≤ nth l i) : chk l = (decide (1 ≤ runesV l) && decide (runesV l ≤ 8)) := by
  unfold chk
  rw [cnt_high l h, runesV_eq]
  cases cnt 0 l with
  | none => rfl
  | some n =>
    show decide (0 < capV 8 (some n)) = (decide (1 ≤ (n : Int)) && decide ((n : Int) ≤ 8))
    have hc : capV 8 (some n) = (if n ≤ 8 then (n : Int) else -1) := rfl
    rw [Bool.eq_iff_iff, decide_eq_true_iff, Bool.and_eq_true, decide_eq_true_iff, decide_eq_true_iff, hc]
    by_cases h8 : n ≤ 8
    · rw [if_pos h8]; omega
    · rw [if_neg h8]; omega
theorem meet_lt {f t f2 t2 : List UInt8} (hl : Op.bytesLess f f2 = true) : meet f t f2 t2 = (good f t && good f2 t2 && has f t f2) := by
  unfold meet
  have : has f2 t2 f = false := by unfold has; rw [hl]; rfl
  rw [this, Bool.or_false]
theorem meet_ge {f t f2 t2 : List UInt8} (hl : Op.bytesLess f f2 = false) : meet f t f2 t2 = (good f t && good f2 t2 && has f2 t2 f) := by
  unfold meet
  cases hg2 : good f2 t2 with
  | false => simp
  | true =>
    cases hh : has f t f2 with
    | false => rw [Bool.false_or]
    | true =>
      have h1 : Op.bytesLess f2 f = false := by unfold has at hh; simp at hh; exact hh.1
      have e := bl_tri hl h1
      subst e
      have : has f t2 f = true := by
        unfold good at hg2
        unfold has
        rw [bl_irrefl]
        simp at hg2 ⊢
        exact hg2.2
      rw [this]
      simp
end Km

set_option maxRecDepth 100000 in
set_option maxHeartbeats 800000 in
theorem refCheck_any (s : ByteArray) (w : World) (hs : s.size ≤ 9223372036854775807) :
    Calls Try.prog 44 #[.string s] w fun e w' => e = .returned (.bool (Km.chk s.data.toList)) ∧ w = w' := by
  go_enter Try.func44, Try.ntmps44
  go_wp2_with fail
  refine (refRunes_any s _ hs).mono ?_
  rintro e w1 ⟨rfl, rfl⟩
  generalize hn : Km.runesV s.data.toList = n
  have HN := Lib.hid hn
  clear hn
  go_wp2
  go_loop [4] (fun i => ∃ k : Nat, k ≤ s.size ∧ i = .int .i64 k ∧ ∀ j, j < k → 33 ≤ Km.nth s.data.toList j) (fun i => s.size - (intOf i).toNat)
  case atStart => exact ⟨0, by omega, rfl, fun j h => by omega⟩
  case round =>
    obtain ⟨k, hk, rfl, hall⟩ := hrel
    have HA := Lib.hid hall
    clear hall
    by_cases hlt : k < s.size
    · have HK := Lib.hid (Km.nth_get s k hlt)
      by_cases hb : s[k].toNat < 33
      · have t1 : decide ((s[k].toNat : Int) < 33) = true := by simp; omega
        have HB := Lib.hid hb
        clear hb
        go_wp2
        go_ret
        exact ⟨ret_bool (Km.chk_low (i := k) (by simpa using hlt) (by rw [← HK.out]; exact HB.out)).symm, rfl⟩
      · have t1 : decide ((s[k].toNat : Int) < 33) = false := by simp; omega
        have HB := Lib.hid hb
        clear hb
        go_wp2
        go_round
        case rel =>
          refine ⟨k + 1, by omega, by go_num, fun j hj => ?_⟩
          by_cases e : j = k
          · subst e; rw [← HK.out]; have := HB.out; omega
          · exact HA.out j (by omega)
        case measure => simp [intOf]; omega
    · obtain rfl : k = s.size := by omega
      have hc : Km.chk s.data.toList = (decide (1 ≤ n) && decide (n ≤ 8)) := by
        rw [← HN.out]
        exact Km.chk_high (fun i hi => HA.out i (by simpa using hi))
      have HC := Lib.hid hc
      clear hc
      by_cases h1 : 1 ≤ n
      · have t1 : decide (1 ≤ n) = true := by simpa using h1
        go_wp2
        go_ret
        refine ⟨ret_bool ?_, rfl⟩
        rw [HC.out, t1, Bool.true_and]
      · have t1 : decide (1 ≤ n) = false := by simpa using h1
        go_wp2
        go_ret
        refine ⟨ret_bool ?_, rfl⟩
        rw [HC.out, t1, Bool.false_and]

end Go.Proofs.Ytfnfpanmbmkhmaa
/- What the document's own Check, Less, Next and Max of stamps answer. -/
namespace Go.Proofs.Ytfnfpanmbmkhmaa
open Go.RowKit
set_option linter.unusedVariables false

set_option maxRecDepth 100000 in
set_option maxHeartbeats 400000 in
theorem refSCheck_any (n s : Int) (w : World) :
    Calls Try.prog 43 #[.agg #[.int .i64 n, .int .i64 s]] w fun e w' => e = .returned (.bool (Sm.ok n s)) ∧ Below w.heap.size w w' := by
  go_enter Try.func43, Try.ntmps43
  go_wp2
  all_goals
    go_ret
    refine ⟨ret_bool ?_, (Below.refl _ _).alloc (Nat.le_refl _) _⟩
    simp_all [Sm.ok] <;> omega

set_option maxRecDepth 100000 in
set_option maxHeartbeats 400000 in
theorem refLess_any (n s m t : Int) (w : World) :
    Calls Try.prog 25 #[.agg #[.int .i64 n, .int .i64 s], .agg #[.int .i64 m, .int .i64 t]] w fun e w' => e = .returned (.bool (Sm.less (n, s) (m, t))) ∧ Below w.heap.size w w' := by
  go_enter Try.func25, Try.ntmps25
  go_wp2
  all_goals
    go_ret
    refine ⟨ret_bool ?_, balloc (balloc (Below.refl _ w) _) _⟩
    simp_all [Sm.less]

end Go.Proofs.Ytfnfpanmbmkhmaa
/- Which dependencies may be; which pasts may be. -/
namespace Go.Proofs.Ytfnfpanmbmkhmaa
open Go.RowKit
set_option linter.unusedVariables false
set_option linter.unusedSimpArgs false

/-- May this dependency be? -/
def okD (d : De) : Bool := Km.chk d.1.data.toList && Sm.ok d.2.1 d.2.2
/-- The order of keys. -/
def klt (a b : ByteArray) : Bool := Op.bytesLess a.data.toList b.data.toList

/-- A boxed dependency behind a call that only makes memory. -/
theorem box3 {w w1 : World} {x y z : Value} {T : TypeId} (hb : Below (w.alloc (.cells #[x, y, z] T)).heap.size (w.alloc (.cells #[x, y, z] T)) w1) :
    w1.cell? ⟨w.heap.size, 0, none⟩ = some x ∧ w1.cell? ⟨w.heap.size, 1, none⟩ = some y ∧ w1.cell? ⟨w.heap.size, 2, none⟩ = some z ∧ w.heap.size < w1.heap.size ∧ Below w.heap.size w w1 := by
  have hs := hb.size
  simp at hs
  refine ⟨?_, ?_, ?_, by omega, balloc (Below.refl _ _) _ |>.trans (hb.mono (by simp))⟩
  · rw [hb.cell (p := ⟨w.heap.size, 0, none⟩) (by simp)]; simp
  · rw [hb.cell (p := ⟨w.heap.size, 1, none⟩) (by simp)]; simp
  · rw [hb.cell (p := ⟨w.heap.size, 2, none⟩) (by simp)]; simp

set_option maxRecDepth 100000 in
set_option maxHeartbeats 800000 in
theorem valid_any (k : ByteArray) (n s : Int) (w : World) (hs : k.size ≤ 9223372036854775807) :
    Calls Try.prog 50 #[.agg #[.string k, .int .i64 n, .int .i64 s]] w fun e w' => e = .returned (.bool (okD (k, n, s))) ∧ Below w.heap.size w w' := by
  go_enter Try.func50, Try.ntmps50
  go_wp2_with fail
  refine (check_any k _ hs).mono ?_
  rintro e w1 ⟨rfl, hb⟩
  obtain ⟨c0, c1, c2, z1, hb1⟩ := box3 hb
  clear hb
  cases hc : Km.chk k.data.toList with
  | false =>
    have H1 := Lib.hid hc
    clear hc
    go_wp2
    go_ret
    exact ⟨ret_bool (by simp [okD, H1.out]), hb1⟩
  | true =>
    have H1 := Lib.hid hc
    clear hc
    go_wp2_with fail
    refine (scheck_any n s _).mono ?_
    rintro e w2 ⟨rfl, hb⟩
    have hb2 := bstep hb1 hb
    generalize hx : Sm.ok n s = x
    have HX := Lib.hid hx
    clear hx
    go_wp2
    go_ret
    exact ⟨ret_bool (by simp [okD, H1.out, HX.out]), hb2⟩

/-- May d stand behind p? -/
def folD (p : List De) (d : De) : Bool := okD d && (match p.getLast? with | none => true | some x => klt x.1 d.1)

theorem keepC3 {W w1 : World} {b o b2 o2 b3 o3 : Nat} {x y z : Value} (hb : Below W.heap.size W w1) (h : W.cell? ⟨b, o, none⟩ = some x ∧ W.cell? ⟨b2, o2, none⟩ = some y ∧ W.cell? ⟨b3, o3, none⟩ = some z) :
    w1.cell? ⟨b, o, none⟩ = some x ∧ w1.cell? ⟨b2, o2, none⟩ = some y ∧ w1.cell? ⟨b3, o3, none⟩ = some z := ⟨kc hb h.1, kc hb h.2.1, kc hb h.2.2⟩

theorem valid_b (k : ByteArray) (n s : Int) (c : Bool) (w : World) (hs : k.size ≤ 9223372036854775807) (h : okD (k, n, s) = c) :
    Calls Try.prog 50 #[.agg #[.string k, .int .i64 n, .int .i64 s]] w fun e w' => e = .returned (.bool c) ∧ Below w.heap.size w w' := by
  rw [← h]
  exact valid_any k n s w hs

set_option maxRecDepth 100000 in
set_option maxHeartbeats 1600000 in
theorem follows_any (a : Option Addr) (cap : Nat) (l : List De) (k : ByteArray) (n s : Int) (w : World) (hl : l.length ≤ 1000000) (hr : DepIn w a l) (hs : k.size ≤ 9223372036854775807) :
    Calls Try.prog 72 #[.slice a l.length cap, .agg #[.string k, .int .i64 n, .int .i64 s]] w fun e w' => e = .returned (.bool (folD l (k, n, s))) ∧ Below w.heap.size w w' := by
  have HR := Lib.hid hr
  clear hr
  have g0 : (w.alloc (.cells #[.string k, .int .i64 n, .int .i64 s] 26)).cell? ⟨w.heap.size, 0, none⟩ = some (.string k) ∧ (w.alloc (.cells #[.string k, .int .i64 n, .int .i64 s] 26)).cell? ⟨w.heap.size, 1, none⟩ = some (.int .i64 n) ∧ (w.alloc (.cells #[.string k, .int .i64 n, .int .i64 s] 26)).cell? ⟨w.heap.size, 2, none⟩ = some (.int .i64 s) := by
    refine ⟨?_, ?_, ?_⟩ <;> simp
  have hbx : Below w.heap.size w (w.alloc (.cells #[.string k, .int .i64 n, .int .i64 s] 26)) := balloc (Below.refl _ w) _
  cases hc : okD (k, n, s) with
  | false =>
    have HC := Lib.hid hc
    clear hc
    rw [show folD l (k, n, s) = false by simp [folD, HC.out]]
    go_enter Try.func72, Try.ntmps72
    go_wp2_with fail
    refine wp_region_held_drew (S := fun w' => w'.cell? ⟨w.heap.size, 0, none⟩ = some (.string k) ∧ w'.cell? ⟨w.heap.size, 1, none⟩ = some (.int .i64 n) ∧ w'.cell? ⟨w.heap.size, 2, none⟩ = some (.int .i64 s)) (by kernel_rfl) (g0) (fun hHeld => ?_)
    refine wpAnyH_take (i := 0) (v := ?va0) rfl (by kernel_rfl) (by kernel_rfl) (by kernel_rfl) (fun _ _ _ h => h) (Or.inl ⟨by rfl, ?ya0⟩) (by assumption) ?ra0
    case ya0 => (intro w hSw; (try dsimp only at hSw); go_simp; try with_reducible rfl)
    try simp only [Act.put, List.setIfInBounds_toArray, List.set_cons_zero, List.set_cons_succ, List.getElem_toArray, List.getElem_cons_zero, List.getElem_cons_succ]
    refine wpAnyH_ready (rs := [1]) (by kernel_rfl) (by simp) ?_
    refine AllReadyH.cons rfl (fun K hK => ?_) AllReadyH.nil
    go_simp
    go_at_call 50
    refine (valid_b k n s false _ hs HC.out).mono ?_
    rintro e v1 ⟨rfl, q1⟩
    have g1 := keepC3 q1 g0
    go_wp2_with fail
    refine hK.out _ _ (g1) (fun hHeld => ?_)
    clear hK K
    try simp only [Act.put, List.setIfInBounds_toArray, List.set_cons_zero, List.set_cons_succ, List.getElem_toArray, List.getElem_cons_zero, List.getElem_cons_succ]
    refine wpAnyH_take (i := 2) (v := ?va2) rfl (by kernel_rfl) (by kernel_rfl) (by kernel_rfl) (fun _ _ _ h => h) (Or.inl ⟨by rfl, ?ya2⟩) (by assumption) ?ra2
    case ya2 => (intro w hSw; (try dsimp only at hSw); go_simp; try with_reducible rfl)
    try simp only [Act.put, List.setIfInBounds_toArray, List.set_cons_zero, List.set_cons_succ, List.getElem_toArray, List.getElem_cons_zero, List.getElem_cons_succ]
    refine wpAnyH_take (i := 3) (v := undef) rfl (by kernel_rfl) (by kernel_rfl) (by kernel_rfl) (fun _ _ _ h => h) (Or.inr ⟨by rfl, rfl⟩) (by assumption) ?_
    try simp only [Act.put, List.setIfInBounds_toArray, List.set_cons_zero, List.set_cons_succ, List.getElem_toArray, List.getElem_cons_zero, List.getElem_cons_succ]
    refine wpAnyH_take (i := 4) (v := undef) rfl (by kernel_rfl) (by kernel_rfl) (by kernel_rfl) (fun _ _ _ h => h) (Or.inr ⟨by rfl, rfl⟩) (by assumption) ?_
    try simp only [Act.put, List.setIfInBounds_toArray, List.set_cons_zero, List.set_cons_succ, List.getElem_toArray, List.getElem_cons_zero, List.getElem_cons_succ]
    refine wpAnyH_take (i := 5) (v := undef) rfl (by kernel_rfl) (by kernel_rfl) (by kernel_rfl) (fun _ _ _ h => h) (Or.inr ⟨by rfl, rfl⟩) (by assumption) ?_
    try simp only [Act.put, List.setIfInBounds_toArray, List.set_cons_zero, List.set_cons_succ, List.getElem_toArray, List.getElem_cons_zero, List.getElem_cons_succ]
    refine wpAnyH_take (i := 6) (v := undef) rfl (by kernel_rfl) (by kernel_rfl) (by kernel_rfl) (fun _ _ _ h => h) (Or.inr ⟨by rfl, rfl⟩) (by assumption) ?_
    try simp only [Act.put, List.setIfInBounds_toArray, List.set_cons_zero, List.set_cons_succ, List.getElem_toArray, List.getElem_cons_zero, List.getElem_cons_succ]
    refine wpAnyH_take (i := 7) (v := undef) rfl (by kernel_rfl) (by kernel_rfl) (by kernel_rfl) (fun _ _ _ h => h) (Or.inr ⟨by rfl, rfl⟩) (by assumption) ?_
    try simp only [Act.put, List.setIfInBounds_toArray, List.set_cons_zero, List.set_cons_succ, List.getElem_toArray, List.getElem_cons_zero, List.getElem_cons_succ]
    refine wpAnyH_take (i := 8) (v := undef) rfl (by kernel_rfl) (by kernel_rfl) (by kernel_rfl) (fun _ _ _ h => h) (Or.inr ⟨by rfl, rfl⟩) (by assumption) ?_
    try simp only [Act.put, List.setIfInBounds_toArray, List.set_cons_zero, List.set_cons_succ, List.getElem_toArray, List.getElem_cons_zero, List.getElem_cons_succ]
    refine wpAnyH_take (i := 9) (v := undef) rfl (by kernel_rfl) (by kernel_rfl) (by kernel_rfl) (fun _ _ _ h => h) (Or.inr ⟨by rfl, rfl⟩) (by assumption) ?_
    try simp only [Act.put, List.setIfInBounds_toArray, List.set_cons_zero, List.set_cons_succ, List.getElem_toArray, List.getElem_cons_zero, List.getElem_cons_succ]
    refine wpAnyH_take (i := 10) (v := undef) rfl (by kernel_rfl) (by kernel_rfl) (by kernel_rfl) (fun _ _ _ h => h) (Or.inr ⟨by rfl, rfl⟩) (by assumption) ?_
    try simp only [Act.put, List.setIfInBounds_toArray, List.set_cons_zero, List.set_cons_succ, List.getElem_toArray, List.getElem_cons_zero, List.getElem_cons_succ]
    refine wpAnyH_take (i := 11) (v := undef) rfl (by kernel_rfl) (by kernel_rfl) (by kernel_rfl) (fun _ _ _ h => h) (Or.inr ⟨by rfl, rfl⟩) (by assumption) ?_
    try simp only [Act.put, List.setIfInBounds_toArray, List.set_cons_zero, List.set_cons_succ, List.getElem_toArray, List.getElem_cons_zero, List.getElem_cons_succ]
    refine wpAnyH_take (i := 12) (v := undef) rfl (by kernel_rfl) (by kernel_rfl) (by kernel_rfl) (fun _ _ _ h => h) (Or.inr ⟨by rfl, rfl⟩) (by assumption) ?_
    try simp only [Act.put, List.setIfInBounds_toArray, List.set_cons_zero, List.set_cons_succ, List.getElem_toArray, List.getElem_cons_zero, List.getElem_cons_succ]
    refine wpAnyH_take (i := 13) (v := undef) rfl (by kernel_rfl) (by kernel_rfl) (by kernel_rfl) (fun _ _ _ h => h) (Or.inr ⟨by rfl, rfl⟩) (by assumption) ?_
    try simp only [Act.put, List.setIfInBounds_toArray, List.set_cons_zero, List.set_cons_succ, List.getElem_toArray, List.getElem_cons_zero, List.getElem_cons_succ]
    refine wpAnyH_take (i := 14) (v := undef) rfl (by kernel_rfl) (by kernel_rfl) (by kernel_rfl) (fun _ _ _ h => h) (Or.inr ⟨by rfl, rfl⟩) (by assumption) ?_
    try simp only [Act.put, List.setIfInBounds_toArray, List.set_cons_zero, List.set_cons_succ, List.getElem_toArray, List.getElem_cons_zero, List.getElem_cons_succ]
    refine wpAnyH_take (i := 15) (v := undef) rfl (by kernel_rfl) (by kernel_rfl) (by kernel_rfl) (fun _ _ _ h => h) (Or.inr ⟨by rfl, rfl⟩) (by assumption) ?_
    try simp only [Act.put, List.setIfInBounds_toArray, List.set_cons_zero, List.set_cons_succ, List.getElem_toArray, List.getElem_cons_zero, List.getElem_cons_succ]
    refine wpAnyH_take (i := 16) (v := undef) rfl (by kernel_rfl) (by kernel_rfl) (by kernel_rfl) (fun _ _ _ h => h) (Or.inr ⟨by rfl, rfl⟩) (by assumption) ?_
    try simp only [Act.put, List.setIfInBounds_toArray, List.set_cons_zero, List.set_cons_succ, List.getElem_toArray, List.getElem_cons_zero, List.getElem_cons_succ]
    refine wpAnyH_take (i := 17) (v := undef) rfl (by kernel_rfl) (by kernel_rfl) (by kernel_rfl) (fun _ _ _ h => h) (Or.inr ⟨by rfl, rfl⟩) (by assumption) ?_
    try simp only [Act.put, List.setIfInBounds_toArray, List.set_cons_zero, List.set_cons_succ, List.getElem_toArray, List.getElem_cons_zero, List.getElem_cons_succ]
    refine wpAnyH_take (i := 18) (v := ?va18) rfl (by kernel_rfl) (by kernel_rfl) (by kernel_rfl) (fun _ _ _ h => h) (Or.inl ⟨by rfl, ?ya18⟩) (by assumption) ?ra18
    case ya18 => (intro w hSw; (try dsimp only at hSw); go_simp; try with_reducible rfl)
    try simp only [Act.put, List.setIfInBounds_toArray, List.set_cons_zero, List.set_cons_succ, List.getElem_toArray, List.getElem_cons_zero, List.getElem_cons_succ]
    refine wpAnyH_take (i := 19) (v := ?va19) rfl (by kernel_rfl) (by kernel_rfl) (by kernel_rfl) (fun _ _ _ h => h) (Or.inl ⟨by rfl, ?ya19⟩) (by assumption) ?ra19
    case ya19 => (intro w hSw; (try dsimp only at hSw); go_simp; try with_reducible rfl)
    try simp only [Act.put, List.setIfInBounds_toArray, List.set_cons_zero, List.set_cons_succ, List.getElem_toArray, List.getElem_cons_zero, List.getElem_cons_succ]
    refine wpAnyH_done (by kernel_rfl) ?_ _
    go_wp2
    go_ret
    exact ⟨rfl, bstep hbx.drew q1⟩
  | true =>
    have HC := Lib.hid hc
    clear hc
    by_cases h0 : l.length = 0
    · obtain rfl : l = [] := List.length_eq_zero_iff.1 h0
      clear h0
      rw [show folD [] (k, n, s) = true by simp [folD, HC.out], List.length_nil]
      go_enter Try.func72, Try.ntmps72
      go_wp2_with fail
      refine wp_region_held_drew (S := fun w' => w'.cell? ⟨w.heap.size, 0, none⟩ = some (.string k) ∧ w'.cell? ⟨w.heap.size, 1, none⟩ = some (.int .i64 n) ∧ w'.cell? ⟨w.heap.size, 2, none⟩ = some (.int .i64 s)) (by kernel_rfl) (g0) (fun hHeld => ?_)
      refine wpAnyH_take (i := 0) (v := ?vb0) rfl (by kernel_rfl) (by kernel_rfl) (by kernel_rfl) (fun _ _ _ h => h) (Or.inl ⟨by rfl, ?yb0⟩) (by assumption) ?rb0
      case yb0 => (intro w hSw; (try dsimp only at hSw); go_simp; try with_reducible rfl)
      try simp only [Act.put, List.setIfInBounds_toArray, List.set_cons_zero, List.set_cons_succ, List.getElem_toArray, List.getElem_cons_zero, List.getElem_cons_succ]
      refine wpAnyH_ready (rs := [1]) (by kernel_rfl) (by simp) ?_
      refine AllReadyH.cons rfl (fun K hK => ?_) AllReadyH.nil
      go_simp
      go_at_call 50
      refine (valid_b k n s true _ hs HC.out).mono ?_
      rintro e v1 ⟨rfl, q1⟩
      have g1 := keepC3 q1 g0
      go_wp2_with fail
      refine hK.out _ _ (g1) (fun hHeld => ?_)
      clear hK K
      try simp only [Act.put, List.setIfInBounds_toArray, List.set_cons_zero, List.set_cons_succ, List.getElem_toArray, List.getElem_cons_zero, List.getElem_cons_succ]
      refine wpAnyH_take (i := 2) (v := ?vb2) rfl (by kernel_rfl) (by kernel_rfl) (by kernel_rfl) (fun _ _ _ h => h) (Or.inl ⟨by rfl, ?yb2⟩) (by assumption) ?rb2
      case yb2 => (intro w hSw; (try dsimp only at hSw); go_simp; try with_reducible rfl)
      try simp only [Act.put, List.setIfInBounds_toArray, List.set_cons_zero, List.set_cons_succ, List.getElem_toArray, List.getElem_cons_zero, List.getElem_cons_succ]
      refine wpAnyH_take (i := 3) (v := ?vb3) rfl (by kernel_rfl) (by kernel_rfl) (by kernel_rfl) (fun _ _ _ h => h) (Or.inl ⟨by rfl, ?yb3⟩) (by assumption) ?rb3
      case yb3 => (intro w hSw; (try dsimp only at hSw); go_simp; try with_reducible rfl)
      try simp only [Act.put, List.setIfInBounds_toArray, List.set_cons_zero, List.set_cons_succ, List.getElem_toArray, List.getElem_cons_zero, List.getElem_cons_succ]
      refine wpAnyH_take (i := 4) (v := ?vb4) rfl (by kernel_rfl) (by kernel_rfl) (by kernel_rfl) (fun _ _ _ h => h) (Or.inl ⟨by rfl, ?yb4⟩) (by assumption) ?rb4
      case yb4 => (intro w hSw; (try dsimp only at hSw); go_simp; try with_reducible rfl)
      try simp only [Act.put, List.setIfInBounds_toArray, List.set_cons_zero, List.set_cons_succ, List.getElem_toArray, List.getElem_cons_zero, List.getElem_cons_succ]
      refine wpAnyH_take (i := 5) (v := ?vb5) rfl (by kernel_rfl) (by kernel_rfl) (by kernel_rfl) (fun _ _ _ h => h) (Or.inl ⟨by rfl, ?yb5⟩) (by assumption) ?rb5
      case yb5 => (intro w hSw; (try dsimp only at hSw); go_simp; try with_reducible rfl)
      try simp only [Act.put, List.setIfInBounds_toArray, List.set_cons_zero, List.set_cons_succ, List.getElem_toArray, List.getElem_cons_zero, List.getElem_cons_succ]
      refine wpAnyH_take (i := 6) (v := ?vb6) rfl (by kernel_rfl) (by kernel_rfl) (by kernel_rfl) (fun _ _ _ h => h) (Or.inl ⟨by rfl, ?yb6⟩) (by assumption) ?rb6
      case yb6 => (intro w hSw; (try dsimp only at hSw); go_simp; try with_reducible rfl)
      try simp only [Act.put, List.setIfInBounds_toArray, List.set_cons_zero, List.set_cons_succ, List.getElem_toArray, List.getElem_cons_zero, List.getElem_cons_succ]
      refine wpAnyH_take (i := 7) (v := undef) rfl (by kernel_rfl) (by kernel_rfl) (by kernel_rfl) (fun _ _ _ h => h) (Or.inr ⟨by rfl, rfl⟩) (by assumption) ?_
      try simp only [Act.put, List.setIfInBounds_toArray, List.set_cons_zero, List.set_cons_succ, List.getElem_toArray, List.getElem_cons_zero, List.getElem_cons_succ]
      refine wpAnyH_take (i := 8) (v := undef) rfl (by kernel_rfl) (by kernel_rfl) (by kernel_rfl) (fun _ _ _ h => h) (Or.inr ⟨by rfl, rfl⟩) (by assumption) ?_
      try simp only [Act.put, List.setIfInBounds_toArray, List.set_cons_zero, List.set_cons_succ, List.getElem_toArray, List.getElem_cons_zero, List.getElem_cons_succ]
      refine wpAnyH_take (i := 9) (v := undef) rfl (by kernel_rfl) (by kernel_rfl) (by kernel_rfl) (fun _ _ _ h => h) (Or.inr ⟨by rfl, rfl⟩) (by assumption) ?_
      try simp only [Act.put, List.setIfInBounds_toArray, List.set_cons_zero, List.set_cons_succ, List.getElem_toArray, List.getElem_cons_zero, List.getElem_cons_succ]
      refine wpAnyH_take (i := 10) (v := undef) rfl (by kernel_rfl) (by kernel_rfl) (by kernel_rfl) (fun _ _ _ h => h) (Or.inr ⟨by rfl, rfl⟩) (by assumption) ?_
      try simp only [Act.put, List.setIfInBounds_toArray, List.set_cons_zero, List.set_cons_succ, List.getElem_toArray, List.getElem_cons_zero, List.getElem_cons_succ]
      refine wpAnyH_take (i := 11) (v := undef) rfl (by kernel_rfl) (by kernel_rfl) (by kernel_rfl) (fun _ _ _ h => h) (Or.inr ⟨by rfl, rfl⟩) (by assumption) ?_
      try simp only [Act.put, List.setIfInBounds_toArray, List.set_cons_zero, List.set_cons_succ, List.getElem_toArray, List.getElem_cons_zero, List.getElem_cons_succ]
      refine wpAnyH_take (i := 12) (v := undef) rfl (by kernel_rfl) (by kernel_rfl) (by kernel_rfl) (fun _ _ _ h => h) (Or.inr ⟨by rfl, rfl⟩) (by assumption) ?_
      try simp only [Act.put, List.setIfInBounds_toArray, List.set_cons_zero, List.set_cons_succ, List.getElem_toArray, List.getElem_cons_zero, List.getElem_cons_succ]
      refine wpAnyH_take (i := 13) (v := undef) rfl (by kernel_rfl) (by kernel_rfl) (by kernel_rfl) (fun _ _ _ h => h) (Or.inr ⟨by rfl, rfl⟩) (by assumption) ?_
      try simp only [Act.put, List.setIfInBounds_toArray, List.set_cons_zero, List.set_cons_succ, List.getElem_toArray, List.getElem_cons_zero, List.getElem_cons_succ]
      refine wpAnyH_take (i := 14) (v := undef) rfl (by kernel_rfl) (by kernel_rfl) (by kernel_rfl) (fun _ _ _ h => h) (Or.inr ⟨by rfl, rfl⟩) (by assumption) ?_
      try simp only [Act.put, List.setIfInBounds_toArray, List.set_cons_zero, List.set_cons_succ, List.getElem_toArray, List.getElem_cons_zero, List.getElem_cons_succ]
      refine wpAnyH_take (i := 15) (v := undef) rfl (by kernel_rfl) (by kernel_rfl) (by kernel_rfl) (fun _ _ _ h => h) (Or.inr ⟨by rfl, rfl⟩) (by assumption) ?_
      try simp only [Act.put, List.setIfInBounds_toArray, List.set_cons_zero, List.set_cons_succ, List.getElem_toArray, List.getElem_cons_zero, List.getElem_cons_succ]
      refine wpAnyH_take (i := 16) (v := undef) rfl (by kernel_rfl) (by kernel_rfl) (by kernel_rfl) (fun _ _ _ h => h) (Or.inr ⟨by rfl, rfl⟩) (by assumption) ?_
      try simp only [Act.put, List.setIfInBounds_toArray, List.set_cons_zero, List.set_cons_succ, List.getElem_toArray, List.getElem_cons_zero, List.getElem_cons_succ]
      refine wpAnyH_take (i := 17) (v := ?vb17) rfl (by kernel_rfl) (by kernel_rfl) (by kernel_rfl) (fun _ _ _ h => h) (Or.inl ⟨by rfl, ?yb17⟩) (by assumption) ?rb17
      case yb17 => (intro w hSw; (try dsimp only at hSw); go_simp; try with_reducible rfl)
      try simp only [Act.put, List.setIfInBounds_toArray, List.set_cons_zero, List.set_cons_succ, List.getElem_toArray, List.getElem_cons_zero, List.getElem_cons_succ]
      refine wpAnyH_take (i := 18) (v := ?vb18) rfl (by kernel_rfl) (by kernel_rfl) (by kernel_rfl) (fun _ _ _ h => h) (Or.inl ⟨by rfl, ?yb18⟩) (by assumption) ?rb18
      case yb18 => (intro w hSw; (try dsimp only at hSw); go_simp; try with_reducible rfl)
      try simp only [Act.put, List.setIfInBounds_toArray, List.set_cons_zero, List.set_cons_succ, List.getElem_toArray, List.getElem_cons_zero, List.getElem_cons_succ]
      refine wpAnyH_take (i := 19) (v := ?vb19) rfl (by kernel_rfl) (by kernel_rfl) (by kernel_rfl) (fun _ _ _ h => h) (Or.inl ⟨by rfl, ?yb19⟩) (by assumption) ?rb19
      case yb19 => (intro w hSw; (try dsimp only at hSw); go_simp; try with_reducible rfl)
      try simp only [Act.put, List.setIfInBounds_toArray, List.set_cons_zero, List.set_cons_succ, List.getElem_toArray, List.getElem_cons_zero, List.getElem_cons_succ]
      refine wpAnyH_done (by kernel_rfl) ?_ _
      go_wp2
      go_ret
      exact ⟨rfl, bstep hbx.drew q1⟩
    · obtain ⟨m, hm⟩ : ∃ m, l.length = m + 1 := ⟨l.length - 1, by omega⟩
      obtain ⟨b, off, rfl, hbl, hc0, hc1, hc2⟩ := HR.out m (by omega)
      have HL : Hid (l.getLast? = some (l[m]'(by omega))) := Lib.hid (by rw [List.getLast?_eq_getElem?, show l.length - 1 = m by omega]; simp)
      generalize l[m]'(by omega) = d at hc0 HL
      have hf : folD l (k, n, s) = Op.bytesLess d.1.data.toList k.data.toList := by simp [folD, HC.out, HL.out, klt]
      rw [hf, hm]
      generalize d.1 = p at hc0
      have HM := Lib.hid hm
      have hw1 : IntKind.i64.wrap (m : Int) = (m : Int) := IntWalk.i64_in _ (by omega)
      have hw2 : (m : Int) < (m : Int) + 1 := by omega
      have g0 : _ ∧ _ ∧ _ ∧ (w.alloc (.cells #[.string k, .int .i64 n, .int .i64 s] 26)).cell? ⟨b, off + m * 3, none⟩ = some (.string p) := ⟨g0.1, g0.2.1, g0.2.2, kcell hbx hbl hc0⟩
      clear h0 hm hf hc0 hc1 hc2 HL
      go_enter Try.func72, Try.ntmps72
      go_wp2_with fail
      refine wp_region_held_drew (S := fun w' => w'.cell? ⟨w.heap.size, 0, none⟩ = some (.string k) ∧ w'.cell? ⟨w.heap.size, 1, none⟩ = some (.int .i64 n) ∧ w'.cell? ⟨w.heap.size, 2, none⟩ = some (.int .i64 s) ∧ w'.cell? ⟨b, off + m * 3, none⟩ = some (.string p)) (by kernel_rfl) (g0) (fun hHeld => ?_)
      refine wpAnyH_take (i := 0) (v := ?vc0) rfl (by kernel_rfl) (by kernel_rfl) (by kernel_rfl) (fun _ _ _ h => h) (Or.inl ⟨by rfl, ?yc0⟩) (by assumption) ?rc0
      case yc0 => (intro w hSw; (try dsimp only at hSw); go_simp; try with_reducible rfl)
      try simp only [Act.put, List.setIfInBounds_toArray, List.set_cons_zero, List.set_cons_succ, List.getElem_toArray, List.getElem_cons_zero, List.getElem_cons_succ]
      refine wpAnyH_ready (rs := [1]) (by kernel_rfl) (by simp) ?_
      refine AllReadyH.cons rfl (fun K hK => ?_) AllReadyH.nil
      go_simp
      go_at_call 50
      refine (valid_b k n s true _ hs HC.out).mono ?_
      rintro e v1 ⟨rfl, q1⟩
      have g1 := keep22 q1 g0
      go_wp2_with fail
      refine hK.out _ _ (g1) (fun hHeld => ?_)
      clear hK K
      try simp only [Act.put, List.setIfInBounds_toArray, List.set_cons_zero, List.set_cons_succ, List.getElem_toArray, List.getElem_cons_zero, List.getElem_cons_succ]
      refine wpAnyH_take (i := 2) (v := ?vc2) rfl (by kernel_rfl) (by kernel_rfl) (by kernel_rfl) (fun _ _ _ h => h) (Or.inl ⟨by rfl, ?yc2⟩) (by assumption) ?rc2
      case yc2 => (intro w hSw; (try dsimp only at hSw); go_simp; try with_reducible rfl)
      try simp only [Act.put, List.setIfInBounds_toArray, List.set_cons_zero, List.set_cons_succ, List.getElem_toArray, List.getElem_cons_zero, List.getElem_cons_succ]
      refine wpAnyH_take (i := 3) (v := ?vc3) rfl (by kernel_rfl) (by kernel_rfl) (by kernel_rfl) (fun _ _ _ h => h) (Or.inl ⟨by rfl, ?yc3⟩) (by assumption) ?rc3
      case yc3 => (intro w hSw; (try dsimp only at hSw); go_simp; try with_reducible rfl)
      try simp only [Act.put, List.setIfInBounds_toArray, List.set_cons_zero, List.set_cons_succ, List.getElem_toArray, List.getElem_cons_zero, List.getElem_cons_succ]
      refine wpAnyH_take (i := 4) (v := ?vc4) rfl (by kernel_rfl) (by kernel_rfl) (by kernel_rfl) (fun _ _ _ h => h) (Or.inl ⟨by rfl, ?yc4⟩) (by assumption) ?rc4
      case yc4 => (intro w hSw; (try dsimp only at hSw); go_simp; try with_reducible rfl)
      try simp only [Act.put, List.setIfInBounds_toArray, List.set_cons_zero, List.set_cons_succ, List.getElem_toArray, List.getElem_cons_zero, List.getElem_cons_succ]
      refine wpAnyH_take (i := 5) (v := ?vc5) rfl (by kernel_rfl) (by kernel_rfl) (by kernel_rfl) (fun _ _ _ h => h) (Or.inl ⟨by rfl, ?yc5⟩) (by assumption) ?rc5
      case yc5 => (intro w hSw; (try dsimp only at hSw); go_simp; try with_reducible rfl)
      try simp only [Act.put, List.setIfInBounds_toArray, List.set_cons_zero, List.set_cons_succ, List.getElem_toArray, List.getElem_cons_zero, List.getElem_cons_succ]
      refine wpAnyH_take (i := 6) (v := ?vc6) rfl (by kernel_rfl) (by kernel_rfl) (by kernel_rfl) (fun _ _ _ h => h) (Or.inl ⟨by rfl, ?yc6⟩) (by assumption) ?rc6
      case yc6 => (intro w hSw; (try dsimp only at hSw); go_simp; try with_reducible rfl)
      try simp only [Act.put, List.setIfInBounds_toArray, List.set_cons_zero, List.set_cons_succ, List.getElem_toArray, List.getElem_cons_zero, List.getElem_cons_succ]
      refine wpAnyH_take (i := 7) (v := ?vc7) rfl (by kernel_rfl) (by kernel_rfl) (by kernel_rfl) (fun _ _ _ h => h) (Or.inl ⟨by rfl, ?yc7⟩) (by assumption) ?rc7
      case yc7 => (intro w hSw; (try dsimp only at hSw); go_simp; try with_reducible rfl)
      try simp only [Act.put, List.setIfInBounds_toArray, List.set_cons_zero, List.set_cons_succ, List.getElem_toArray, List.getElem_cons_zero, List.getElem_cons_succ]
      refine wpAnyH_take (i := 8) (v := ?vc8) rfl (by kernel_rfl) (by kernel_rfl) (by kernel_rfl) (fun _ _ _ h => h) (Or.inl ⟨by rfl, ?yc8⟩) (by assumption) ?rc8
      case yc8 => (intro w hSw; (try dsimp only at hSw); go_simp; try with_reducible rfl)
      try simp only [Act.put, List.setIfInBounds_toArray, List.set_cons_zero, List.set_cons_succ, List.getElem_toArray, List.getElem_cons_zero, List.getElem_cons_succ]
      refine wpAnyH_take (i := 9) (v := ?vc9) rfl (by kernel_rfl) (by kernel_rfl) (by kernel_rfl) (fun _ _ _ h => h) (Or.inl ⟨by rfl, ?yc9⟩) (by assumption) ?rc9
      case yc9 => (intro w hSw; (try dsimp only at hSw); go_simp; try with_reducible rfl)
      try simp only [Act.put, List.setIfInBounds_toArray, List.set_cons_zero, List.set_cons_succ, List.getElem_toArray, List.getElem_cons_zero, List.getElem_cons_succ]
      refine wpAnyH_take (i := 10) (v := ?vc10) rfl (by kernel_rfl) (by kernel_rfl) (by kernel_rfl) (fun _ _ _ h => h) (Or.inl ⟨by rfl, ?yc10⟩) (by assumption) ?rc10
      case yc10 => (intro w hSw; (try dsimp only at hSw); go_simp; try with_reducible rfl)
      try simp only [Act.put, List.setIfInBounds_toArray, List.set_cons_zero, List.set_cons_succ, List.getElem_toArray, List.getElem_cons_zero, List.getElem_cons_succ]
      refine wpAnyH_take (i := 11) (v := ?vc11) rfl (by kernel_rfl) (by kernel_rfl) (by kernel_rfl) (fun _ _ _ h => h) (Or.inl ⟨by rfl, ?yc11⟩) (by assumption) ?rc11
      case yc11 => (intro w hSw; (try dsimp only at hSw); go_simp; try with_reducible rfl)
      try simp only [Act.put, List.setIfInBounds_toArray, List.set_cons_zero, List.set_cons_succ, List.getElem_toArray, List.getElem_cons_zero, List.getElem_cons_succ]
      refine wpAnyH_take (i := 12) (v := ?vc12) rfl (by kernel_rfl) (by kernel_rfl) (by kernel_rfl) (fun _ _ _ h => h) (Or.inl ⟨by rfl, ?yc12⟩) (by assumption) ?rc12
      case yc12 => (intro w hSw; (try dsimp only at hSw); go_simp; try with_reducible rfl)
      try simp only [Act.put, List.setIfInBounds_toArray, List.set_cons_zero, List.set_cons_succ, List.getElem_toArray, List.getElem_cons_zero, List.getElem_cons_succ]
      refine wpAnyH_take (i := 13) (v := ?vc13) rfl (by kernel_rfl) (by kernel_rfl) (by kernel_rfl) (fun _ _ _ h => h) (Or.inl ⟨by rfl, ?yc13⟩) (by assumption) ?rc13
      case yc13 => (intro w hSw; (try dsimp only at hSw); go_simp; try with_reducible rfl)
      try simp only [Act.put, List.setIfInBounds_toArray, List.set_cons_zero, List.set_cons_succ, List.getElem_toArray, List.getElem_cons_zero, List.getElem_cons_succ]
      refine wpAnyH_take (i := 14) (v := ?vc14) rfl (by kernel_rfl) (by kernel_rfl) (by kernel_rfl) (fun _ _ _ h => h) (Or.inl ⟨by rfl, ?yc14⟩) (by assumption) ?rc14
      case yc14 => (intro w hSw; (try dsimp only at hSw); go_simp; try with_reducible rfl)
      try simp only [Act.put, List.setIfInBounds_toArray, List.set_cons_zero, List.set_cons_succ, List.getElem_toArray, List.getElem_cons_zero, List.getElem_cons_succ]
      refine wpAnyH_take (i := 15) (v := ?vc15) rfl (by kernel_rfl) (by kernel_rfl) (by kernel_rfl) (fun _ _ _ h => h) (Or.inl ⟨by rfl, ?yc15⟩) (by assumption) ?rc15
      case yc15 => (intro w hSw; (try dsimp only at hSw); go_simp; try with_reducible rfl)
      try simp only [Act.put, List.setIfInBounds_toArray, List.set_cons_zero, List.set_cons_succ, List.getElem_toArray, List.getElem_cons_zero, List.getElem_cons_succ]
      refine wpAnyH_take (i := 16) (v := ?vc16) rfl (by kernel_rfl) (by kernel_rfl) (by kernel_rfl) (fun _ _ _ h => h) (Or.inl ⟨by rfl, ?yc16⟩) (by assumption) ?rc16
      case yc16 => (intro w hSw; (try dsimp only at hSw); go_simp; try with_reducible rfl)
      try simp only [Act.put, List.setIfInBounds_toArray, List.set_cons_zero, List.set_cons_succ, List.getElem_toArray, List.getElem_cons_zero, List.getElem_cons_succ]
      refine wpAnyH_take (i := 17) (v := ?vc17) rfl (by kernel_rfl) (by kernel_rfl) (by kernel_rfl) (fun _ _ _ h => h) (Or.inl ⟨by rfl, ?yc17⟩) (by assumption) ?rc17
      case yc17 => (intro w hSw; (try dsimp only at hSw); go_simp; try with_reducible rfl)
      try simp only [Act.put, List.setIfInBounds_toArray, List.set_cons_zero, List.set_cons_succ, List.getElem_toArray, List.getElem_cons_zero, List.getElem_cons_succ]
      refine wpAnyH_take (i := 18) (v := ?vc18) rfl (by kernel_rfl) (by kernel_rfl) (by kernel_rfl) (fun _ _ _ h => h) (Or.inl ⟨by rfl, ?yc18⟩) (by assumption) ?rc18
      case yc18 => (intro w hSw; (try dsimp only at hSw); go_simp; try with_reducible rfl)
      try simp only [Act.put, List.setIfInBounds_toArray, List.set_cons_zero, List.set_cons_succ, List.getElem_toArray, List.getElem_cons_zero, List.getElem_cons_succ]
      refine wpAnyH_take (i := 19) (v := ?vc19) rfl (by kernel_rfl) (by kernel_rfl) (by kernel_rfl) (fun _ _ _ h => h) (Or.inl ⟨by rfl, ?yc19⟩) (by assumption) ?rc19
      case yc19 => (intro w hSw; (try dsimp only at hSw); go_simp; try with_reducible rfl)
      try simp only [Act.put, List.setIfInBounds_toArray, List.set_cons_zero, List.set_cons_succ, List.getElem_toArray, List.getElem_cons_zero, List.getElem_cons_succ]
      refine wpAnyH_done (by kernel_rfl) ?_ _
      go_wp2
      go_ret
      refine ⟨ret_bool (a := ((m : Int) + 1 == 0 || Op.bytesLess p.toList k.toList)) ?_, bstep hbx.drew q1⟩
      rw [show ((m : Int) + 1 == 0) = false by simp; omega, Bool.false_or, Lib.toList_data, Lib.toList_data]
theorem follows_at (a : Option Addr) (len cap : Nat) (l : List De) (k : ByteArray) (n s : Int) (c : Bool) (w : World) (hlen : l.length = len) (hl : l.length ≤ 1000000) (hr : DepIn w a l) (hs : k.size ≤ 9223372036854775807) (hc : folD l (k, n, s) = c) :
    Calls Try.prog 72 #[.slice a len cap, .agg #[.string k, .int .i64 n, .int .i64 s]] w fun e w' => e = .returned (.bool c) ∧ Below w.heap.size w w' := by
  subst hlen
  rw [← hc]
  exact follows_any a cap l k n s w hl hr hs
end Go.Proofs.Ytfnfpanmbmkhmaa
