/- Texts of this proof, one behind the other: KeysCount, KeysOrd, KeysHas, PastRows, PastPush. -/
import Derived.Test.YthjjidfoclcghaaGR2
import Derived.Test.YthjjidfoclcghaaProg
import Derived.WalkKit
import Derived.WalkLawsBesides
import Derived.Lib.Hide
import Derived.Lib.Strings
import Derived.Laws.RangeString
import Derived.Laws.RangeAny
import Derived.Below
import Derived.ChangeAlike
import Derived.Deep.AppendLies
import Derived.OwnWalk
import Derived.Laws.AppendOwnNone
/- What keys.count and keys.Check answer. -/
namespace Go.Proofs.Ythjjidfoclcghaa
open Go.RowKit
set_option linter.unusedVariables false

/-- A text that is cut to another one's length is that one just if it begins with it. -/
theorem cut_is (s p : ByteArray) (h : p.size ≤ s.size) : ((s.extract 0 p.size).toList == p.toList) = Lib.hasPrefix s.data.toList p.data.toList := by
  unfold Lib.hasPrefix
  rw [Bool.eq_iff_iff, beq_iff_eq, List.isPrefixOf_iff_prefix, ByteArray.toList_eq, ByteArray.toList_eq, Lib.extract_data, List.drop_zero, Nat.sub_zero, List.prefix_iff_eq_take]
  constructor
  · intro e
    rw [← e]
    simp
  · intro e
    rw [e]
    simp
theorem long_none (s p : ByteArray) (h : s.size < p.size) : Lib.hasPrefix s.data.toList p.data.toList = false := by
  rw [Bool.eq_false_iff]
  intro e
  unfold Lib.hasPrefix at e
  have := (List.isPrefixOf_iff_prefix.1 e).length_le
  simp at this
  have h1 : s.data.size = s.size := rfl
  have h2 : p.data.size = p.size := rfl
  omega

set_option maxRecDepth 100000 in
theorem stringslite_HasPrefix_any (s p : ByteArray) (w : World) :
    Calls Try.prog 69 #[.string s, .string p] w fun e w' => e = .returned (.bool (Lib.hasPrefix s.data.toList p.data.toList)) ∧ w = w' := by
  by_cases h : p.size ≤ s.size
  · have HC := Lib.hid (cut_is s p h)
    have hd : decide (p.size ≤ s.size) = true := decide_eq_true h
    go_enter Try.func69, Try.ntmps69
    go_wp2
    go_ret
    exact ⟨ret_bool HC.out, rfl⟩
  · have HC := Lib.hid (long_none s p (by omega))
    have hd : decide (p.size ≤ s.size) = false := decide_eq_false h
    go_enter Try.func69, Try.ntmps69
    go_wp2
    go_ret
    exact ⟨ret_bool HC.out.symm, rfl⟩

set_option maxRecDepth 100000 in
theorem hasPrefix_any (s p : ByteArray) (w : World) :
    Calls Try.prog 68 #[.string s, .string p] w fun e w' => e = .returned (.bool (Lib.hasPrefix s.data.toList p.data.toList)) ∧ w = w' := by
  go_enter Try.func68, Try.ntmps68
  go_wp2_with (go_at_call 69; refine (stringslite_HasPrefix_any _ _ _).mono ?_; rintro e w' ⟨rfl, rfl⟩)
  go_ret
  exact ⟨rfl, rfl⟩

theorem cnt_full {low most acc : Nat} {l d : List UInt8} (he : Km.cnt low l = (Km.cnt low d).map (· + acc)) (hd : d ≠ []) (hm : acc = most) : Km.capV most (Km.cnt low l) = -1 := by
  rw [he]
  by_cases hb : Km.wid d = 0 ∨ Km.nth d 0 < low
  · rw [Km.cnt_bad hd hb]; rfl
  · rw [Km.cnt_go hd (by omega) (by omega)]
    cases Km.cnt low (d.drop (Km.wid d)) with
    | none => rfl
    | some m =>
      simp only [Option.map_some, Km.capV]
      rw [if_neg (by omega)]
theorem cnt_none {low most acc : Nat} {l d : List UInt8} (he : Km.cnt low l = (Km.cnt low d).map (· + acc)) (hd : d ≠ []) (hb : Km.wid d = 0 ∨ Km.nth d 0 < low) : Km.capV most (Km.cnt low l) = -1 := by
  rw [he, Km.cnt_bad hd hb]; rfl
theorem cnt_done {low most acc : Nat} {l d : List UInt8} (he : Km.cnt low l = (Km.cnt low d).map (· + acc)) (hd : d = []) (hm : acc ≤ most) : Km.capV most (Km.cnt low l) = acc := by
  rw [he, hd, Km.cnt_nil]
  simp only [Option.map_some, Km.capV]
  rw [if_pos (by omega)]
  omega
theorem cnt_next {low acc pos wd : Nat} {l : List UInt8} (he : Km.cnt low l = (Km.cnt low (l.drop pos)).map (· + acc)) (hd : l.drop pos ≠ []) (hw : 0 < Km.wid (l.drop pos)) (hl : low ≤ Km.nth (l.drop pos) 0) (hwd : wd = Km.wid (l.drop pos)) :
    Km.cnt low l = (Km.cnt low (l.drop (pos + wd))).map (· + (acc + 1)) := by
  subst hwd
  rw [he, Km.cnt_go hd hw hl, List.drop_drop]
  cases Km.cnt low (l.drop (pos + Km.wid (l.drop pos))) with
  | none => rfl
  | some m =>
    simp only [Option.map_some, Option.some.injEq]
    omega
theorem drop_ne (s : ByteArray) (pos : Nat) (h : pos < s.size) : s.data.toList.drop pos ≠ [] := by
  intro e
  have e := congrArg List.length e
  simp at e
  have : s.data.size = s.size := rfl
  omega
theorem drop_len (s : ByteArray) (pos : Nat) (h : pos ≤ s.size) : (s.data.toList.drop pos).length = s.size - pos := by
  simp
theorem drop_none (s : ByteArray) (pos : Nat) (h : ¬ pos < s.size) : s.data.toList.drop pos = [] := by
  apply List.drop_eq_nil_of_le
  simp
  have : s.data.size = s.size := rfl
  omega
theorem take_all (s : ByteArray) (pos : Nat) : List.take (s.size - pos) (List.drop pos s.data.toList) = List.drop pos s.data.toList := by
  apply List.take_of_length_le
  simp
theorem ext_list (s : ByteArray) (pos : Nat) : (s.extract pos s.size).data.toList = s.data.toList.drop pos := by
  rw [Lib.extract_data, List.take_of_length_le (by simp)]
theorem below_iter (w : World) (s : ByteArray) (pos : Nat) : Below w.heap.size w (w.iter s pos) := (Below.refl _ _).alloc (Nat.le_refl _) _

set_option maxRecDepth 100000 in
set_option maxHeartbeats 1600000 in
theorem count_any (s : ByteArray) (most low : Nat) (w : World) (hs : s.size ≤ 9223372036854775807) (hm : most ≤ 140737488355328) (hlow : low ≤ 100) :
    Calls Try.prog 66 #[.string s, .int .i64 most, .int .i32 low] w fun e w' => e = .returned (.int .i64 (Km.capV most (Km.cnt low s.data.toList))) ∧ Below w.heap.size w w' := by
  go_enter Try.func66, Try.ntmps66
  go_wp2
  go_step3
  go_wp2
  go_step3
  go_wp2
  go_loopw [7] (fun n wr => ∃ pos acc : Nat, wr = w.iter s pos ∧ pos ≤ s.size ∧ n = .int .i64 acc ∧ acc ≤ most ∧ acc ≤ pos ∧ Km.cnt low s.data.toList = (Km.cnt low (s.data.toList.drop pos)).map (· + acc)) (fun _ wr => s.size - wr.iterPos w.heap.size)
  case atStart => exact ⟨0, 0, rfl, by omega, rfl, by omega, by omega, by simp⟩
  case round =>
    obtain ⟨pos, acc, rfl, hp, rfl, ham, hap, he⟩ := hrel
    have He := Lib.hid he
    clear he
    by_cases hlt : pos < s.size
    · have hne := drop_ne s pos hlt
      have hnx : ∀ ty, (Instr.next (.pointer (some ⟨w.heap.size, 0, none⟩)) true ty).run Try.prog (w.iter s pos) = _ := fun ty => run_next_any w s pos ty hlt
      have hrle := decode_le s pos
      have Hne := Lib.hid hne
      clear hne
      by_cases hmost : acc = most
      · have HM := Lib.hid hmost
        have hb1 : (acc == most) = true := by simpa using hmost
        have hb2 : ((acc : Int) == (most : Int)) = true := by simp [hmost]
        clear hmost
        generalize (Utf8.decode s pos).1 = r at hnx hrle
        generalize (Utf8.decode s pos).2 = wd at hnx
        go_wp2
        rw [Exit.noGoto_ret]
        go_ret
        exact ⟨ret_int (cnt_full He.out Hne.out HM.out).symm, below_iter _ _ _⟩
      · have hb1 : (acc == most) = false := by simpa using hmost
        have hb2 : ((acc : Int) == (most : Int)) = false := by simpa using (show ¬ (acc : Int) = most by omega)
        have hlt2 : acc < most := by omega
        clear hmost
        by_cases hw : Km.wid (s.data.toList.drop pos) = 0
        · obtain ⟨hd, hpre⟩ := Km.dec_bad s pos hlt hw
          rw [hd] at hnx
          rw [← take_all s pos] at hpre
          have Hw := Lib.hid hw
          clear hw hd hrle
          have hl : decide ((65533 : Int) < (low : Int)) = false := by simp; omega
          go_wp2_with (go_at_call 68; refine (hasPrefix_any _ _ _).mono ?_; rintro e w' ⟨rfl, rfl⟩)
          rw [Exit.noGoto_ret]
          go_ret
          exact ⟨ret_int (cnt_none He.out Hne.out (.inl Hw.out)).symm, below_iter _ _ _⟩
        · obtain ⟨hd2, hpre, hr1, hr2⟩ := Km.dec_good s pos hlt (by omega)
          have hwl := Km.wid_le (s.data.toList.drop pos)
          rw [drop_len s pos hp] at hwl
          rw [← take_all s pos] at hpre
          generalize (Utf8.decode s pos).1 = r at *
          generalize (Utf8.decode s pos).2 = wd at *
          have hwp : 0 < wd := by omega
          have hwe : pos + wd ≤ s.size := by omega
          have Hd := Lib.hid hd2
          have Hw := Lib.hid hw
          clear hd2 hw hwl
          by_cases hrl : r < low
          · have hn0 : Km.nth (s.data.toList.drop pos) 0 < low := by rw [← hr1 (by omega)]; exact hrl
            have Hn := Lib.hid hn0
            have hl : decide ((r : Int) < (low : Int)) = true := by simpa using hrl
            have hl2 : decide (r < low) = true := by simpa using hrl
            clear hr1 hr2 hpre hn0 hrl
            go_wp2
            rw [Exit.noGoto_ret]
            go_ret
            exact ⟨ret_int (cnt_none He.out Hne.out (.inr Hn.out)).symm, below_iter _ _ _⟩
          · have hn0 : low ≤ Km.nth (s.data.toList.drop pos) 0 := by
              by_cases h128 : Km.nth (s.data.toList.drop pos) 0 < 128
              · rw [← hr2 h128]; omega
              · omega
            have HN := Lib.hid (cnt_next (wd := wd) He.out Hne.out (by have := Hw.out; omega) hn0 Hd.out)
            have hl : decide ((r : Int) < (low : Int)) = false := by simpa using hrl
            have hl2 : decide (r < low) = false := by simpa using hrl
            clear hr1 hr2 hn0 hrl
            by_cases hr : r = 65533
            · have hpre := hpre hr
              subst hr
              clear hrle
              have h65 : (((65533 : Nat) : Int) == 65533) = true := by decide
              have h66 : ((65533 : Nat) == 65533) = true := by decide
              have hl3 : decide ((65533 : Int) < (low : Int)) = false := by simp; omega
              clear hl hl2
              go_wp2_with (go_at_call 68; refine (hasPrefix_any _ _ _).mono ?_; rintro e w' ⟨rfl, rfl⟩)
              go_roundw
              case rel => exact ⟨pos + wd, acc + 1, rfl, hwe, by go_num, by omega, by omega, HN.out⟩
              case measure => simp; omega
            · have hr1 : ((r : Int) == 65533) = false := by simpa using (show ¬ (r : Int) = 65533 by omega)
              have hr2 : (r == 65533) = false := by simpa using hr
              clear hpre hr
              go_wp2
              go_roundw
              case rel => exact ⟨pos + wd, acc + 1, rfl, hwe, by go_num, by omega, by omega, HN.out⟩
              case measure => simp; omega
    · have hnx : ∀ ty, (Instr.next (.pointer (some ⟨w.heap.size, 0, none⟩)) true ty).run Try.prog (w.iter s pos) = _ := fun ty => run_next_end w s pos ty hlt
      go_wp2
      rw [Exit.noGoto_ret]
      go_ret
      exact ⟨ret_int (cnt_done He.out (drop_none s pos hlt) ham).symm, below_iter _ _ _⟩

set_option maxRecDepth 100000 in
theorem check_any (s : ByteArray) (w : World) (hs : s.size ≤ 9223372036854775807) :
    Calls Try.prog 63 #[.string s] w fun e w' => e = .returned (.bool (Km.chk s.data.toList)) ∧ Below w.heap.size w w' := by
  go_enter Try.func63, Try.ntmps63
  go_wp2_with fail
  refine (count_any s 8 33 _ hs (by omega) (by omega)).mono ?_
  rintro e w1 ⟨rfl, hb⟩
  generalize hn : Km.capV 8 (Km.cnt 33 s.data.toList) = n
  have HN := Lib.hid hn
  clear hn
  go_wp2
  go_ret
  exact ⟨ret_bool (by rw [Km.chk, HN.out]), hb⟩

end Go.Proofs.Ythjjidfoclcghaa
/- The order of texts, byte by byte. Plain lemmas: they speak of no one program. -/
namespace Go.Proofs.Ythjjidfoclcghaa.Km

theorem bl_eq (x : List UInt8) : ∀ y, Op.bytesLess x y = decide (x < y) := by
  induction x with
  | nil => intro y; cases y <;> simp [Op.bytesLess]
  | cons a x ih =>
    intro y
    cases y with
    | nil => simp [Op.bytesLess]
    | cons b y =>
      simp only [Op.bytesLess, ih, List.cons_lt_cons_iff]
      rw [Bool.eq_iff_iff]
      simp
theorem bl_irrefl (a : List UInt8) : Op.bytesLess a a = false := by rw [bl_eq]; simp
theorem bl_trans {a b c : List UInt8} (h : Op.bytesLess a b = true) (k : Op.bytesLess b c = true) : Op.bytesLess a c = true := by
  rw [bl_eq, decide_eq_true_iff] at *
  exact List.lt_trans h k
theorem bl_asymm {a b : List UInt8} (h : Op.bytesLess a b = true) : Op.bytesLess b a = false := by
  cases hc : Op.bytesLess b a with
  | false => rfl
  | true =>
    have := bl_trans h hc
    rw [bl_irrefl] at this
    cases this
theorem bl_tri : ∀ {a b : List UInt8}, Op.bytesLess a b = false → Op.bytesLess b a = false → a = b
  | [], [], _, _ => rfl
  | _ :: _, [], _, k => by simp [Op.bytesLess] at k
  | [], _ :: _, h, _ => by simp [Op.bytesLess] at h
  | a :: x, b :: y, h, k => by
    simp [Op.bytesLess] at h k
    have e : a = b := by
      rw [← UInt8.toNat_inj]
      have h1 := h.1
      have k1 := k.1
      rw [UInt8.le_iff_toNat_le] at h1 k1
      omega
    subst e
    rw [bl_tri (h.2 rfl) (k.2 rfl)]
theorem bl_gtr (a b : List UInt8) : (!Op.bytesLess b a && !(b == a)) = Op.bytesLess a b := by
  cases h : Op.bytesLess b a with
  | true => simp [bl_asymm h]
  | false =>
    cases k : Op.bytesLess a b with
    | true =>
      have hne : b ≠ a := by
        rintro rfl
        rw [h] at k
        cases k
      simpa using hne
    | false => simp [bl_tri h k]
theorem bl_nil (a : List UInt8) : Op.bytesLess a [] = false := by cases a <;> simp [Op.bytesLess]
theorem bl_nil_left {a : List UInt8} (h : a ≠ []) : Op.bytesLess [] a = true := by cases a <;> simp_all [Op.bytesLess]
/-- a is not above b, b is not above c. -/
theorem bl_le_trans {a b c : List UInt8} (h : Op.bytesLess b a = false) (k : Op.bytesLess c b = false) : Op.bytesLess c a = false := by
  cases hc : Op.bytesLess c a with
  | false => rfl
  | true =>
    cases hb : Op.bytesLess a b with
    | true =>
      rw [bl_trans hc hb] at k
      cases k
    | false =>
      have e := bl_tri hb h
      subst e
      rw [hc] at k
      cases k
theorem bl_lt_le {a b c : List UInt8} (h : Op.bytesLess a b = true) (k : Op.bytesLess c b = false) : Op.bytesLess a c = true := by
  cases hc : Op.bytesLess a c with
  | true => rfl
  | false =>
    have := bl_le_trans k hc
    rw [h] at this
    cases this
theorem bl_le_lt {a b c : List UInt8} (h : Op.bytesLess b a = false) (k : Op.bytesLess b c = true) : Op.bytesLess a c = true := by
  cases hc : Op.bytesLess a c with
  | true => rfl
  | false =>
    have := bl_le_trans hc h
    rw [k] at this
    cases this
end Go.Proofs.Ythjjidfoclcghaa.Km
/- What keys.Has answers, and the document's Has. -/
namespace Go.Proofs.Ythjjidfoclcghaa
open Go.RowKit
set_option linter.unusedVariables false

namespace Km
/-- Is k in the range from f to t? -/
def has (f t k : List UInt8) : Bool := !Op.bytesLess k f && (t.isEmpty || Op.bytesLess k t)
def bound (l : List UInt8) : Bool := l.isEmpty || chk l
def good (f t : List UInt8) : Bool := bound f && bound t && (t.isEmpty || Op.bytesLess f t)
def meet (f t f2 t2 : List UInt8) : Bool := good f t && good f2 t2 && (has f t f2 || has f2 t2 f)
end Km

set_option maxRecDepth 100000 in
set_option maxHeartbeats 400000 in
theorem has_any (f t k : ByteArray) (w : World) :
    Calls Try.prog 54 #[.agg #[.string f, .string t], .string k] w fun e w' => e = .returned (.bool (Km.has f.data.toList t.data.toList k.data.toList)) ∧ Below w.heap.size w w' := by
  go_enter Try.func54, Try.ntmps54
  go_wp2
  all_goals
    go_ret
    refine ⟨ret_bool ?_, (Below.refl _ _).alloc (Nat.le_refl _) _⟩
    simp_all [Km.has, Lib.toList_data]

set_option maxRecDepth 100000 in
set_option maxHeartbeats 400000 in
theorem refHas_any (f t k : ByteArray) (w : World) :
    Calls Try.prog 41 #[.agg #[.string f, .string t], .string k] w fun e w' => e = .returned (.bool (Km.has f.data.toList t.data.toList k.data.toList)) ∧ Below w.heap.size w w' := by
  go_enter Try.func41, Try.ntmps41
  go_wp2
  all_goals
    go_ret
    refine ⟨ret_bool ?_, (Below.refl _ _).alloc (Nat.le_refl _) _⟩
    simp_all [Km.has, Lib.toList_data]

/-- A boxed pair behind a call that only makes memory. -/
theorem box2 {w w1 : World} {x y : Value} {T : TypeId} (hb : Below (w.alloc (.cells #[x, y] T)).heap.size (w.alloc (.cells #[x, y] T)) w1) :
    w1.cell? ⟨w.heap.size, 0, none⟩ = some x ∧ w1.cell? ⟨w.heap.size, 1, none⟩ = some y ∧ w.heap.size < w1.heap.size ∧ Below w.heap.size w w1 := by
  have hs := hb.size
  simp at hs
  refine ⟨?_, ?_, by omega, balloc (Below.refl _ _) _ |>.trans (hb.mono (by simp))⟩
  · rw [hb.cell (p := ⟨w.heap.size, 0, none⟩) (by simp)]; simp
  · rw [hb.cell (p := ⟨w.heap.size, 1, none⟩) (by simp)]; simp

theorem kcell {W w1 : World} {b o : Nat} {v : Value} (hb : Below W.heap.size W w1) (hlt : b < W.heap.size) (h : W.cell? ⟨b, o, none⟩ = some v) : w1.cell? ⟨b, o, none⟩ = some v := (hb.cell (p := ⟨b, o, none⟩) hlt).trans h

/-- Two boxed pairs behind a call that only makes memory. -/
theorem box22 {w w1 : World} {x y x2 y2 : Value} {T : TypeId} (hb : Below ((w.alloc (.cells #[x, y] T)).alloc (.cells #[x2, y2] T)).heap.size ((w.alloc (.cells #[x, y] T)).alloc (.cells #[x2, y2] T)) w1) :
    (w1.cell? ⟨w.heap.size, 0, none⟩ = some x ∧ w1.cell? ⟨w.heap.size, 1, none⟩ = some y) ∧ (w1.cell? ⟨w.heap.size + 1, 0, none⟩ = some x2 ∧ w1.cell? ⟨w.heap.size + 1, 1, none⟩ = some y2) ∧ w.heap.size + 1 < w1.heap.size ∧ Below w.heap.size w w1 := by
  have hs := hb.size
  simp at hs
  refine ⟨⟨?_, ?_⟩, ⟨?_, ?_⟩, by omega, (balloc (balloc (Below.refl _ _) _) _).trans (hb.mono (by simp; omega))⟩
  · rw [hb.cell (p := ⟨w.heap.size, 0, none⟩) (by simp; omega)]; simp
  · rw [hb.cell (p := ⟨w.heap.size, 1, none⟩) (by simp; omega)]; simp
  · rw [hb.cell (p := ⟨w.heap.size + 1, 0, none⟩) (by simp)]; simp
  · rw [hb.cell (p := ⟨w.heap.size + 1, 1, none⟩) (by simp)]; simp

end Go.Proofs.Ythjjidfoclcghaa
/- Dependencies in memory: rows that are read, and rows that a call makes. -/
namespace Go.Proofs.Ythjjidfoclcghaa
open Go.RowKit
set_option linter.unusedVariables false

/-- A dependency: its key, its stamp's number, its stamp's site. -/
abbrev De := ByteArray × Int × Int
abbrev dv (d : De) : Value := .agg #[.string d.1, .int .i64 d.2.1, .int .i64 d.2.2]
def dV (l : List De) : List Value := l.flatMap fun d => [.string d.1, .int .i64 d.2.1, .int .i64 d.2.2]
theorem dV_nil : dV [] = [] := rfl
theorem dV_cons (d : De) (l : List De) : dV (d :: l) = .string d.1 :: .int .i64 d.2.1 :: .int .i64 d.2.2 :: dV l := by simp [dV]
theorem dV_len (l : List De) : (dV l).length = l.length * 3 := by
  induction l with
  | nil => rfl
  | cons r t ih => rw [dV_cons]; simp [ih]; omega
theorem dV_get (l : List De) (i : Nat) (h : i < l.length) : (dV l)[i * 3]? = some (.string l[i].1) ∧ (dV l)[i * 3 + 1]? = some (.int .i64 l[i].2.1) ∧ (dV l)[i * 3 + 2]? = some (.int .i64 l[i].2.2) := by
  induction l generalizing i with
  | nil => simp at h
  | cons r t ih =>
    rw [dV_cons]
    cases i with
    | zero => simp
    | succ i =>
      have := ih i (by simpa using h)
      rw [show (i + 1) * 3 = i * 3 + 1 + 1 + 1 by omega]
      simpa using this
theorem dV_append (l m : List De) : dV (l ++ m) = dV l ++ dV m := by simp [dV]
theorem dV_snoc (l : List De) (d : De) : dV (l ++ [d]) = dV l ++ [.string d.1, .int .i64 d.2.1, .int .i64 d.2.2] := by simp [dV]
theorem dV_one (l : List De) : ∀ u ∈ dV l, u.oneCell' = true := by
  intro u hu
  simp only [dV, List.mem_flatMap] at hu
  obtain ⟨p, _, hp⟩ := hu
  simp at hp
  rcases hp with rfl | rfl | rfl <;> rfl
theorem dV_take (l : List De) (k : Nat) : dV (l.take k) = (dV l).take (k * 3) := by
  induction l generalizing k with
  | nil => simp [dV]
  | cons r t ih =>
    cases k with
    | zero => simp [dV]
    | succ k =>
      rw [List.take_succ_cons, dV_cons, dV_cons, ih, show (k + 1) * 3 = k * 3 + 1 + 1 + 1 by omega]
      simp
theorem dV_set (l : List De) (i : Nat) (d : De) (h : i < l.length) : (((dV l).set (i * 3) (.string d.1)).set (i * 3 + 1) (.int .i64 d.2.1)).set (i * 3 + 2) (.int .i64 d.2.2) = dV (l.set i d) := by
  induction l generalizing i with
  | nil => simp at h
  | cons r t ih =>
    cases i with
    | zero => simp [dV_cons]
    | succ i =>
      have := ih i (by simpa using h)
      rw [List.set_cons_succ, dV_cons, dV_cons, ← this, show (i + 1) * 3 = i * 3 + 1 + 1 + 1 by omega]
      simp

/-- A row of dependencies in memory. -/
def DepIn (w : World) (a : Option Addr) (l : List De) : Prop :=
  ∀ i (h : i < l.length), ∃ b off, a = some ⟨b, off, none⟩ ∧ b < w.heap.size ∧ w.cell? ⟨b, off + i * 3, none⟩ = some (.string l[i].1) ∧ w.cell? ⟨b, off + i * 3 + 1, none⟩ = some (.int .i64 l[i].2.1) ∧ w.cell? ⟨b, off + i * 3 + 2, none⟩ = some (.int .i64 l[i].2.2)
theorem DepIn.nil (w : World) (a : Option Addr) : DepIn w a [] := fun i h => absurd h (by simp)
theorem DepIn.below {w w' : World} {a : Option Addr} {l : List De} (h : DepIn w a l) (hb : Below w.heap.size w w') : DepIn w' a l := by
  intro i hi
  obtain ⟨b, off, rfl, hlt, h0, h1, h2⟩ := h i hi
  exact ⟨b, off, rfl, by have := hb.size; omega, kcell hb hlt h0, kcell hb hlt h1, kcell hb hlt h2⟩
theorem DepIn.drew {w : World} {a : Option Addr} {l : List De} (h : DepIn w a l) : DepIn w.drew a l := h
theorem DepIn.alloc {w : World} {a : Option Addr} {l : List De} (h : DepIn w a l) (o : Obj) : DepIn (w.alloc o) a l := h.below (balloc (Below.refl _ _) _)
theorem DepIn.take {w : World} {a : Option Addr} {l : List De} (h : DepIn w a l) (k : Nat) : DepIn w a (l.take k) := by
  intro i hi
  have hi' : i < l.length := by simp at hi; omega
  obtain ⟨b, off, e, hlt, h0, h1, h2⟩ := h i hi'
  exact ⟨b, off, e, hlt, by simpa using h0, by simpa using h1, by simpa using h2⟩
theorem DepIn.drop {w : World} {b off : Nat} {l : List De} (h : DepIn w (some ⟨b, off, none⟩) l) (k : Nat) : DepIn w (some ⟨b, off + k * 3, none⟩) (l.drop k) := by
  intro i hi
  have hi' : k + i < l.length := by simp at hi; omega
  obtain ⟨b', off', e, hlt, h0, h1, h2⟩ := h (k + i) hi'
  cases e
  rw [show off + (k + i) * 3 = off + k * 3 + i * 3 by omega] at h0 h1 h2
  exact ⟨b, off + k * 3, rfl, hlt, by simpa using h0, by simpa using h1, by simpa using h2⟩
theorem DepIn.news {w : World} {x : Addr} {l : List De} (h : DepIn w (some x) l) : ∀ j u, (dV l)[j]? = some u → w.cell? (x.add j) = some u := by
  intro j u hj
  have hlt : j < (dV l).length := (List.getElem?_eq_some_iff.1 hj).1
  rw [dV_len] at hlt
  obtain ⟨b', off', e, _, h0, h1, h2⟩ := h (j / 3) (by omega)
  cases e
  obtain ⟨k0, k1, k2⟩ := dV_get l (j / 3) (by omega)
  rw [Addr.add_lit]
  rcases (show j = j / 3 * 3 ∨ j = j / 3 * 3 + 1 ∨ j = j / 3 * 3 + 2 by omega) with ej | ej | ej
  · rw [ej] at hj ⊢
    rw [k0] at hj
    cases hj
    exact h0
  · rw [ej] at hj ⊢
    rw [k1] at hj
    cases hj
    rw [← Nat.add_assoc]
    exact h1
  · rw [ej] at hj ⊢
    rw [k2] at hj
    cases hj
    rw [← Nat.add_assoc]
    exact h2

/-- A slice that reads as these dependencies. -/
def DepAt (w : World) (v : Value) (l : List De) : Prop := ∃ a cap, v = .slice a l.length cap ∧ l.length ≤ cap ∧ cap ≤ maxLen ∧ (a = none → cap = 0) ∧ DepIn w a l
theorem DepAt.nil (w : World) : DepAt w (.slice none 0 0) [] := ⟨none, 0, rfl, by simp, by simp, by simp, DepIn.nil _ _⟩
theorem DepAt.below {w w' : World} {v : Value} {l : List De} (h : DepAt w v l) (hb : Below w.heap.size w w') : DepAt w' v l := by
  obtain ⟨a, cap, rfl, h1, h2, h3, hr⟩ := h
  exact ⟨a, cap, rfl, h1, h2, h3, hr.below hb⟩
theorem DepAt.drew {w : World} {v : Value} {l : List De} (h : DepAt w v l) : DepAt w.drew v l := h
theorem DepAt.alloc {w : World} {v : Value} {l : List De} (h : DepAt w v l) (o : Obj) : DepAt (w.alloc o) v l := h.below (balloc (Below.refl _ _) _)
end Go.Proofs.Ythjjidfoclcghaa
/- Appending to a row of the call's own: one dependency; a row of them. -/
namespace Go.Proofs.Ythjjidfoclcghaa
open Go.RowKit
set_option linter.unusedVariables false

/-- What lies outside the row lies as it lay. -/
abbrev KeptD (v : Value) (w w' : World) : Prop := ∀ k, k < w.heap.size → v.ownBlock ≠ some k → w'.heap[k]? = w.heap[k]?
theorem KeptD.cell {v : Value} {w w' : World} (h : KeptD v w w') {b o : Nat} {u : Value} (hlt : b < w.heap.size) (hne : v.ownBlock ≠ some b) (hc : w.cell? ⟨b, o, none⟩ = some u) : w'.cell? ⟨b, o, none⟩ = some u := by
  rw [World.cell?_of_block (h b hlt hne)]; exact hc
/-- A variable of a dependency's type: block b holds it, and may be written. -/
structure VarD (w : World) (b : Nat) (x : ByteArray) (y z : Int) : Prop where
  c0 : w.cell? ⟨b, 0, none⟩ = some (.string x)
  c1 : w.cell? ⟨b, 1, none⟩ = some (.int .i64 y)
  c2 : w.cell? ⟨b, 2, none⟩ = some (.int .i64 z)
  f0 : w.frozen? ⟨b, 0, none⟩ = false
  f1 : w.frozen? ⟨b, 1, none⟩ = false
  f2 : w.frozen? ⟨b, 2, none⟩ = false
theorem VarD.new (w : World) (x : ByteArray) (y z : Int) (T : TypeId) : VarD (w.alloc (.cells #[.string x, .int .i64 y, .int .i64 z] T)) w.heap.size x y z := ⟨by simp, by simp, by simp, by simp, by simp, by simp⟩
theorem VarD.lt {w : World} {b : Nat} {x : ByteArray} {y z : Int} (h : VarD w b x y z) : b < w.heap.size := lt_of_cellN h.c0
theorem VarD.keep {w w' : World} {b : Nat} {x : ByteArray} {y z : Int} (h : VarD w b x y z) (hb : Below w.heap.size w w') : VarD w' b x y z :=
  ⟨kc hb h.c0, kc hb h.c1, kc hb h.c2, (hb.frozen (p := ⟨b, 0, none⟩) h.lt).trans h.f0, (hb.frozen (p := ⟨b, 1, none⟩) h.lt).trans h.f1, (hb.frozen (p := ⟨b, 2, none⟩) h.lt).trans h.f2⟩
theorem VarD.block {w w' : World} {b : Nat} {x : ByteArray} {y z : Int} (h : VarD w b x y z) (hb : w'.heap[b]? = w.heap[b]?) : VarD w' b x y z := by
  refine ⟨?_, ?_, ?_, ?_, ?_, ?_⟩
  · rw [World.cell?_of_block hb]; exact h.c0
  · rw [World.cell?_of_block hb]; exact h.c1
  · rw [World.cell?_of_block hb]; exact h.c2
  · rw [World.frozen?_of_block hb]; exact h.f0
  · rw [World.frozen?_of_block hb]; exact h.f1
  · rw [World.frozen?_of_block hb]; exact h.f2
abbrev World.put3 (w : World) (b : Nat) (x y z : Value) : World := ((w.setCell ⟨b, 0, none⟩ x).setCell ⟨b, 1, none⟩ y).setCell ⟨b, 2, none⟩ z
theorem VarD.put {w : World} {b : Nat} {x : ByteArray} {y z : Int} (h : VarD w b x y z) (x' : ByteArray) (y' z' : Int) : VarD (World.put3 w b (.string x') (.int .i64 y') (.int .i64 z')) b x' y' z' := by
  have c1 : (w.setCell ⟨b, 0, none⟩ (.string x')).cell? ⟨b, 1, none⟩ = some (.int .i64 y) := by rw [World.cell?_setCell_other _ _ _ _ (by simp)]; exact h.c1
  have c2 : ((w.setCell ⟨b, 0, none⟩ (.string x')).setCell ⟨b, 1, none⟩ (.int .i64 y')).cell? ⟨b, 2, none⟩ = some (.int .i64 z) := by
    rw [World.cell?_setCell_other _ _ _ _ (by simp), World.cell?_setCell_other _ _ _ _ (by simp)]; exact h.c2
  refine ⟨?_, ?_, World.cell?_setCell_same _ _ _ c2, by simpa [World.put3] using h.f0, by simpa [World.put3] using h.f1, by simpa [World.put3] using h.f2⟩
  · rw [World.put3, World.cell?_setCell_other _ _ _ _ (by simp), World.cell?_setCell_other _ _ _ _ (by simp)]; exact World.cell?_setCell_same _ _ _ h.c0
  · rw [World.put3, World.cell?_setCell_other _ _ _ _ (by simp)]; exact World.cell?_setCell_same _ _ _ c1
theorem put3_size (w : World) (b : Nat) (x y z : Value) : (World.put3 w b x y z).heap.size = w.heap.size := by simp [World.put3, World.setCell]
theorem put3_block (w : World) (b : Nat) (x y z : Value) (k : Nat) (h : k ≠ b) : (World.put3 w b x y z).heap[k]? = w.heap[k]? := by
  rw [World.put3, Below.heap_setCell _ _ _ _ h, Below.heap_setCell _ _ _ _ h, Below.heap_setCell _ _ _ _ h]
theorem below_put3 {n b : Nat} {w w' : World} (hb : Below n w w') (h : n ≤ b) (x y z : Value) : Below n w (World.put3 w' b x y z) := ((hb.setCell h _).setCell h _).setCell h _
end Go.Proofs.Ythjjidfoclcghaa
