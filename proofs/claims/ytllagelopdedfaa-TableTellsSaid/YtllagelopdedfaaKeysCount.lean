/- What keys.count and keys.Check answer. -/
import Derived.Test.YtllagelopdedfaaProg
import Derived.Test.YtllagelopdedfaaKeysMath
import Derived.Test.YtllagelopdedfaaVaryMath
import Derived.WalkKit
import Derived.WalkLawsBesides
import Derived.Lib.Hide
import Derived.Lib.Strings
import Derived.Laws.RangeString
import Derived.Laws.RangeAny
import Derived.Below
namespace Go.Proofs.Ytllagelopdedfaa
open Go.RowKit
set_option linter.unusedVariables false

/-- A text that is cut to another one's length is that one just if it begins with it. -/
theorem cut_is (s p : ByteArray) (h : p.size ≤ s.size) : ((s.extract 0 p.size).toList == p.toList) = Lib.hasPrefix s.data.toList p.data.toList := by
  unfold Lib.hasPrefix
  rw [Bool.eq_iff_iff, beq_iff_eq, List.isPrefixOf_iff_prefix, ByteArray.toList_eq, ByteArray.toList_eq, Lib.extract_data, List.drop_zero, Nat.sub_zero, List.prefix_iff_eq_take]
  constructor
  · intro e
    rw [← e]
    simp
  · intro e
    rw [e]
    simp
theorem long_none (s p : ByteArray) (h : s.size < p.size) : Lib.hasPrefix s.data.toList p.data.toList = false := by
  rw [Bool.eq_false_iff]
  intro e
  unfold Lib.hasPrefix at e
  have := (List.isPrefixOf_iff_prefix.1 e).length_le
  simp at this
  have h1 : s.data.size = s.size := rfl
  have h2 : p.data.size = p.size := rfl
  omega

set_option maxRecDepth 100000 in
theorem stringslite_HasPrefix_any (s p : ByteArray) (w : World) :
    Calls Try.prog 117 #[.string s, .string p] w fun e w' => e = .returned (.bool (Lib.hasPrefix s.data.toList p.data.toList)) ∧ w = w' := by
  by_cases h : p.size ≤ s.size
  · have HC := Lib.hid (cut_is s p h)
    have hd : decide (p.size ≤ s.size) = true := decide_eq_true h
    go_enter Try.func117, Try.ntmps117
    go_wp2
    go_ret
    exact ⟨ret_bool HC.out, rfl⟩
  · have HC := Lib.hid (long_none s p (by omega))
    have hd : decide (p.size ≤ s.size) = false := decide_eq_false h
    go_enter Try.func117, Try.ntmps117
    go_wp2
    go_ret
    exact ⟨ret_bool HC.out.symm, rfl⟩

set_option maxRecDepth 100000 in
theorem hasPrefix_any (s p : ByteArray) (w : World) :
    Calls Try.prog 114 #[.string s, .string p] w fun e w' => e = .returned (.bool (Lib.hasPrefix s.data.toList p.data.toList)) ∧ w = w' := by
  go_enter Try.func114, Try.ntmps114
  go_wp2_with (go_at_call 117; refine (stringslite_HasPrefix_any _ _ _).mono ?_; rintro e w' ⟨rfl, rfl⟩)
  go_ret
  exact ⟨rfl, rfl⟩

theorem cnt_full {low most acc : Nat} {l d : List UInt8} (he : Km.cnt low l = (Km.cnt low d).map (· + acc)) (hd : d ≠ []) (hm : acc = most) : Km.capV most (Km.cnt low l) = -1 := by
  rw [he]
  by_cases hb : Km.wid d = 0 ∨ Km.nth d 0 < low
  · rw [Km.cnt_bad hd hb]; rfl
  · rw [Km.cnt_go hd (by omega) (by omega)]
    cases Km.cnt low (d.drop (Km.wid d)) with
    | none => rfl
    | some m =>
      simp only [Option.map_some, Km.capV]
      rw [if_neg (by omega)]
theorem cnt_none {low most acc : Nat} {l d : List UInt8} (he : Km.cnt low l = (Km.cnt low d).map (· + acc)) (hd : d ≠ []) (hb : Km.wid d = 0 ∨ Km.nth d 0 < low) : Km.capV most (Km.cnt low l) = -1 := by
  rw [he, Km.cnt_bad hd hb]; rfl
theorem cnt_done {low most acc : Nat} {l d : List UInt8} (he : Km.cnt low l = (Km.cnt low d).map (· + acc)) (hd : d = []) (hm : acc ≤ most) : Km.capV most (Km.cnt low l) = acc := by
  rw [he, hd, Km.cnt_nil]
  simp only [Option.map_some, Km.capV]
  rw [if_pos (by omega)]
  omega
theorem cnt_next {low acc pos wd : Nat} {l : List UInt8} (he : Km.cnt low l = (Km.cnt low (l.drop pos)).map (· + acc)) (hd : l.drop pos ≠ []) (hw : 0 < Km.wid (l.drop pos)) (hl : low ≤ Km.nth (l.drop pos) 0) (hwd : wd = Km.wid (l.drop pos)) :
    Km.cnt low l = (Km.cnt low (l.drop (pos + wd))).map (· + (acc + 1)) := by
  subst hwd
  rw [he, Km.cnt_go hd hw hl, List.drop_drop]
  cases Km.cnt low (l.drop (pos + Km.wid (l.drop pos))) with
  | none => rfl
  | some m =>
    simp only [Option.map_some, Option.some.injEq]
    omega
theorem drop_ne (s : ByteArray) (pos : Nat) (h : pos < s.size) : s.data.toList.drop pos ≠ [] := by
  intro e
  have e := congrArg List.length e
  simp at e
  have : s.data.size = s.size := rfl
  omega
theorem drop_len (s : ByteArray) (pos : Nat) (h : pos ≤ s.size) : (s.data.toList.drop pos).length = s.size - pos := by
  simp
theorem drop_none (s : ByteArray) (pos : Nat) (h : ¬ pos < s.size) : s.data.toList.drop pos = [] := by
  apply List.drop_eq_nil_of_le
  simp
  have : s.data.size = s.size := rfl
  omega
theorem take_all (s : ByteArray) (pos : Nat) : List.take (s.size - pos) (List.drop pos s.data.toList) = List.drop pos s.data.toList := by
  apply List.take_of_length_le
  simp
theorem ext_list (s : ByteArray) (pos : Nat) : (s.extract pos s.size).data.toList = s.data.toList.drop pos := by
  rw [Lib.extract_data, List.take_of_length_le (by simp)]
theorem below_iter (w : World) (s : ByteArray) (pos : Nat) : Below w.heap.size w (w.iter s pos) := (Below.refl _ _).alloc (Nat.le_refl _) _

set_option maxRecDepth 100000 in
set_option maxHeartbeats 1600000 in
theorem count_any (s : ByteArray) (most low : Nat) (w : World) (hs : s.size ≤ 9223372036854775807) (hm : most ≤ 140737488355328) (hlow : low ≤ 100) :
    Calls Try.prog 109 #[.string s, .int .i64 most, .int .i32 low] w fun e w' => e = .returned (.int .i64 (Km.capV most (Km.cnt low s.data.toList))) ∧ Below w.heap.size w w' := by
  go_enter Try.func109, Try.ntmps109
  go_wp2
  go_step3
  go_wp2
  go_step3
  go_wp2
  go_loopw [7] (fun n wr => ∃ pos acc : Nat, wr = w.iter s pos ∧ pos ≤ s.size ∧ n = .int .i64 acc ∧ acc ≤ most ∧ acc ≤ pos ∧ Km.cnt low s.data.toList = (Km.cnt low (s.data.toList.drop pos)).map (· + acc)) (fun _ wr => s.size - wr.iterPos w.heap.size)
  case atStart => exact ⟨0, 0, rfl, by omega, rfl, by omega, by omega, by simp⟩
  case round =>
    obtain ⟨pos, acc, rfl, hp, rfl, ham, hap, he⟩ := hrel
    have He := Lib.hid he
    clear he
    by_cases hlt : pos < s.size
    · have hne := drop_ne s pos hlt
      have hnx : ∀ ty, (Instr.next (.pointer (some ⟨w.heap.size, 0, none⟩)) true ty).run Try.prog (w.iter s pos) = _ := fun ty => run_next_any w s pos ty hlt
      have hrle := decode_le s pos
      have Hne := Lib.hid hne
      clear hne
      by_cases hmost : acc = most
      · have HM := Lib.hid hmost
        have hb1 : (acc == most) = true := by simpa using hmost
        have hb2 : ((acc : Int) == (most : Int)) = true := by simp [hmost]
        clear hmost
        generalize (Utf8.decode s pos).1 = r at hnx hrle
        generalize (Utf8.decode s pos).2 = wd at hnx
        go_wp2
        rw [Exit.noGoto_ret]
        go_ret
        exact ⟨ret_int (cnt_full He.out Hne.out HM.out).symm, below_iter _ _ _⟩
      · have hb1 : (acc == most) = false := by simpa using hmost
        have hb2 : ((acc : Int) == (most : Int)) = false := by simpa using (show ¬ (acc : Int) = most by omega)
        have hlt2 : acc < most := by omega
        clear hmost
        by_cases hw : Km.wid (s.data.toList.drop pos) = 0
        · obtain ⟨hd, hpre⟩ := Km.dec_bad s pos hlt hw
          rw [hd] at hnx
          rw [← take_all s pos] at hpre
          have Hw := Lib.hid hw
          clear hw hd hrle
          have hl : decide ((65533 : Int) < (low : Int)) = false := by simp; omega
          go_wp2_with (go_at_call 114; refine (hasPrefix_any _ _ _).mono ?_; rintro e w' ⟨rfl, rfl⟩)
          rw [Exit.noGoto_ret]
          go_ret
          exact ⟨ret_int (cnt_none He.out Hne.out (.inl Hw.out)).symm, below_iter _ _ _⟩
        · obtain ⟨hd2, hpre, hr1, hr2⟩ := Km.dec_good s pos hlt (by omega)
          have hwl := Km.wid_le (s.data.toList.drop pos)
          rw [drop_len s pos hp] at hwl
          rw [← take_all s pos] at hpre
          generalize (Utf8.decode s pos).1 = r at *
          generalize (Utf8.decode s pos).2 = wd at *
          have hwp : 0 < wd := by omega
          have hwe : pos + wd ≤ s.size := by omega
          have Hd := Lib.hid hd2
          have Hw := Lib.hid hw
          clear hd2 hw hwl
          by_cases hrl : r < low
          · have hn0 : Km.nth (s.data.toList.drop pos) 0 < low := by rw [← hr1 (by omega)]; exact hrl
            have Hn := Lib.hid hn0
            have hl : decide ((r : Int) < (low : Int)) = true := by simpa using hrl
            have hl2 : decide (r < low) = true := by simpa using hrl
            clear hr1 hr2 hpre hn0 hrl
            go_wp2
            rw [Exit.noGoto_ret]
            go_ret
            exact ⟨ret_int (cnt_none He.out Hne.out (.inr Hn.out)).symm, below_iter _ _ _⟩
          · have hn0 : low ≤ Km.nth (s.data.toList.drop pos) 0 := by
              by_cases h128 : Km.nth (s.data.toList.drop pos) 0 < 128
              · rw [← hr2 h128]; omega
              · omega
            have HN := Lib.hid (cnt_next (wd := wd) He.out Hne.out (by have := Hw.out; omega) hn0 Hd.out)
            have hl : decide ((r : Int) < (low : Int)) = false := by simpa using hrl
            have hl2 : decide (r < low) = false := by simpa using hrl
            clear hr1 hr2 hn0 hrl
            by_cases hr : r = 65533
            · have hpre := hpre hr
              subst hr
              clear hrle
              have h65 : (((65533 : Nat) : Int) == 65533) = true := by decide
              have h66 : ((65533 : Nat) == 65533) = true := by decide
              have hl3 : decide ((65533 : Int) < (low : Int)) = false := by simp; omega
              clear hl hl2
              go_wp2_with (go_at_call 114; refine (hasPrefix_any _ _ _).mono ?_; rintro e w' ⟨rfl, rfl⟩)
              go_roundw
              case rel => exact ⟨pos + wd, acc + 1, rfl, hwe, by go_num, by omega, by omega, HN.out⟩
              case measure => simp; omega
            · have hr1 : ((r : Int) == 65533) = false := by simpa using (show ¬ (r : Int) = 65533 by omega)
              have hr2 : (r == 65533) = false := by simpa using hr
              clear hpre hr
              go_wp2
              go_roundw
              case rel => exact ⟨pos + wd, acc + 1, rfl, hwe, by go_num, by omega, by omega, HN.out⟩
              case measure => simp; omega
    · have hnx : ∀ ty, (Instr.next (.pointer (some ⟨w.heap.size, 0, none⟩)) true ty).run Try.prog (w.iter s pos) = _ := fun ty => run_next_end w s pos ty hlt
      go_wp2
      rw [Exit.noGoto_ret]
      go_ret
      exact ⟨ret_int (cnt_done He.out (drop_none s pos hlt) ham).symm, below_iter _ _ _⟩

set_option maxRecDepth 100000 in
theorem check_any (s : ByteArray) (w : World) (hs : s.size ≤ 9223372036854775807) :
    Calls Try.prog 98 #[.string s] w fun e w' => e = .returned (.bool (Km.chk s.data.toList)) ∧ Below w.heap.size w w' := by
  go_enter Try.func98, Try.ntmps98
  go_wp2_with fail
  refine (count_any s 8 33 _ hs (by omega) (by omega)).mono ?_
  rintro e w1 ⟨rfl, hb⟩
  generalize hn : Km.capV 8 (Km.cnt 33 s.data.toList) = n
  have HN := Lib.hid hn
  clear hn
  go_wp2
  go_ret
  exact ⟨ret_bool (by rw [Km.chk, HN.out]), hb⟩

end Go.Proofs.Ytllagelopdedfaa
