/- What keys.count and keys.Check answer. -/
import Derived.Test.YtgaghlofcokijaaProg
import Derived.Test.YtgaghlofcokijaaKeysMath
import Derived.Test.YtgaghlofcokijaaVaryMath
import Derived.WalkKit
import Derived.WalkLawsBesides
import Derived.Lib.Hide
import Derived.Lib.Strings
import Derived.Laws.RangeString
import Derived.Laws.RangeAny
import Derived.Below
namespace Go.Proofs.Ytgaghlofcokijaa
open Go.RowKit
set_option linter.unusedVariables false

/-- A text that is cut to another one's length is that one just if it begins with it. -/
theorem cut_is (s p : ByteArray) (h : p.size ≤ s.size) : ((s.extract 0 p.size).toList == p.toList) = Lib.hasPrefix s.data.toList p.data.toList := by
  unfold Lib.hasPrefix
  rw [Bool.eq_iff_iff, beq_iff_eq, List.isPrefixOf_iff_prefix, ByteArray.toList_eq, ByteArray.toList_eq, Lib.extract_data, List.drop_zero, Nat.sub_zero, List.prefix_iff_eq_take]
  constructor
  · intro e
    rw [← e]
    simp
  · intro e
    rw [e]
    simp
theorem long_none (s p : ByteArray) (h : s.size < p.size) : Lib.hasPrefix s.data.toList p.data.toList = false := by
  rw [Bool.eq_false_iff]
  intro e
  unfold Lib.hasPrefix at e
  have := (List.isPrefixOf_iff_prefix.1 e).length_le
  simp at this
  have h1 : s.data.size = s.size := rfl
  have h2 : p.data.size = p.size := rfl
  omega

theorem cnt_full {low most acc : Nat} {l d : List UInt8} (he : Km.cnt low l = (Km.cnt low d).map (· + acc)) (hd : d ≠ []) (hm : acc = most) : Km.capV most (Km.cnt low l) = -1 := by
  rw [he]
  by_cases hb : Km.wid d = 0 ∨ Km.nth d 0 < low
  · rw [Km.cnt_bad hd hb]; rfl
  · rw [Km.cnt_go hd (by omega) (by omega)]
    cases Km.cnt low (d.drop (Km.wid d)) with
    | none => rfl
    | some m =>
      simp only [Option.map_some, Km.capV]
      rw [if_neg (by omega)]
theorem cnt_none {low most acc : Nat} {l d : List UInt8} (he : Km.cnt low l = (Km.cnt low d).map (· + acc)) (hd : d ≠ []) (hb : Km.wid d = 0 ∨ Km.nth d 0 < low) : Km.capV most (Km.cnt low l) = -1 := by
  rw [he, Km.cnt_bad hd hb]; rfl
theorem cnt_done {low most acc : Nat} {l d : List UInt8} (he : Km.cnt low l = (Km.cnt low d).map (· + acc)) (hd : d = []) (hm : acc ≤ most) : Km.capV most (Km.cnt low l) = acc := by
  rw [he, hd, Km.cnt_nil]
  simp only [Option.map_some, Km.capV]
  rw [if_pos (by omega)]
  omega
theorem cnt_next {low acc pos wd : Nat} {l : List UInt8} (he : Km.cnt low l = (Km.cnt low (l.drop pos)).map (· + acc)) (hd : l.drop pos ≠ []) (hw : 0 < Km.wid (l.drop pos)) (hl : low ≤ Km.nth (l.drop pos) 0) (hwd : wd = Km.wid (l.drop pos)) :
    Km.cnt low l = (Km.cnt low (l.drop (pos + wd))).map (· + (acc + 1)) := by
  subst hwd
  rw [he, Km.cnt_go hd hw hl, List.drop_drop]
  cases Km.cnt low (l.drop (pos + Km.wid (l.drop pos))) with
  | none => rfl
  | some m =>
    simp only [Option.map_some, Option.some.injEq]
    omega
theorem drop_ne (s : ByteArray) (pos : Nat) (h : pos < s.size) : s.data.toList.drop pos ≠ [] := by
  intro e
  have e := congrArg List.length e
  simp at e
  have : s.data.size = s.size := rfl
  omega
theorem drop_len (s : ByteArray) (pos : Nat) (h : pos ≤ s.size) : (s.data.toList.drop pos).length = s.size - pos := by
  simp
theorem drop_none (s : ByteArray) (pos : Nat) (h : ¬ pos < s.size) : s.data.toList.drop pos = [] := by
  apply List.drop_eq_nil_of_le
  simp
  have : s.data.size = s.size := rfl
  omega
theorem take_all (s : ByteArray) (pos : Nat) : List.take (s.size - pos) (List.drop pos s.data.toList) = List.drop pos s.data.toList := by
  apply List.take_of_length_le
  simp
theorem ext_list (s : ByteArray) (pos : Nat) : (s.extract pos s.size).data.toList = s.data.toList.drop pos := by
  rw [Lib.extract_data, List.take_of_length_le (by simp)]
theorem below_iter (w : World) (s : ByteArray) (pos : Nat) : Below w.heap.size w (w.iter s pos) := (Below.refl _ _).alloc (Nat.le_refl _) _

end Go.Proofs.Ytgaghlofcokijaa
