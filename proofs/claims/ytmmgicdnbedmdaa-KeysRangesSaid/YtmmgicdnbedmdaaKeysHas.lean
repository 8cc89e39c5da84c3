/- What keys.Has, keys.Good, keys.Meet answer, and the document's Has. -/
import Derived.Test.YtmmgicdnbedmdaaKeysCount
import Derived.Test.YtmmgicdnbedmdaaKeysOrd
import Derived.ChangeAlike
namespace Go.Proofs.Ytmmgicdnbedmdaa
open Go.RowKit
set_option linter.unusedVariables false

namespace Km
/-- Is k in the range from f to t? -/
def has (f t k : List UInt8) : Bool := !Op.bytesLess k f && (t.isEmpty || Op.bytesLess k t)
def bound (l : List UInt8) : Bool := l.isEmpty || chk l
def good (f t : List UInt8) : Bool := bound f && bound t && (t.isEmpty || Op.bytesLess f t)
def meet (f t f2 t2 : List UInt8) : Bool := good f t && good f2 t2 && (has f t f2 || has f2 t2 f)
end Km

set_option maxRecDepth 100000 in
set_option maxHeartbeats 400000 in
theorem has_any (f t k : ByteArray) (w : World) :
    Calls Try.prog 20 #[.agg #[.string f, .string t], .string k] w fun e w' => e = .returned (.bool (Km.has f.data.toList t.data.toList k.data.toList)) ∧ Below w.heap.size w w' := by
  go_enter Try.func20, Try.ntmps20
  go_wp2
  all_goals
    go_ret
    refine ⟨ret_bool ?_, (Below.refl _ _).alloc (Nat.le_refl _) _⟩
    simp_all [Km.has, Lib.toList_data]

set_option maxRecDepth 100000 in
set_option maxHeartbeats 400000 in
theorem refHas_any (f t k : ByteArray) (w : World) :
    Calls Try.prog 21 #[.agg #[.string f, .string t], .string k] w fun e w' => e = .returned (.bool (Km.has f.data.toList t.data.toList k.data.toList)) ∧ Below w.heap.size w w' := by
  go_enter Try.func21, Try.ntmps21
  go_wp2
  all_goals
    go_ret
    refine ⟨ret_bool ?_, (Below.refl _ _).alloc (Nat.le_refl _) _⟩
    simp_all [Km.has, Lib.toList_data]

set_option maxRecDepth 100000 in
set_option maxHeartbeats 400000 in
theorem bound_any (s : ByteArray) (w : World) (hs : s.size ≤ 1099511627776) :
    Calls Try.prog 34 #[.string s] w fun e w' => e = .returned (.bool (Km.bound s.data.toList)) ∧ Below w.heap.size w w' := by
  by_cases h : s.data.toList = []
  · have h1 : s.toList = [] := by rw [Lib.toList_data]; exact h
    go_enter Try.func34, Try.ntmps34
    go_wp2
    go_ret
    exact ⟨ret_bool (by simp [Km.bound, h]), Below.refl _ _⟩
  · have h1 : ¬ s.toList = [] := by rw [Lib.toList_data]; exact h
    have h2 : s.toList.isEmpty = false := by simpa using h1
    clear h
    go_enter Try.func34, Try.ntmps34
    go_wp2_with fail
    refine (check_any s _ hs).mono ?_
    rintro e w1 ⟨rfl, hb⟩
    generalize hc : Km.chk s.data.toList = c
    have HC := Lib.hid hc
    clear hc
    go_wp2
    go_ret
    rw [Lib.toList_data] at h2
    exact ⟨ret_bool (by rw [Km.bound, HC.out, h2]; simp), hb⟩

/-- A boxed pair behind a call that only makes memory. -/
theorem box2 {w w1 : World} {x y : Value} {T : TypeId} (hb : Below (w.alloc (.cells #[x, y] T)).heap.size (w.alloc (.cells #[x, y] T)) w1) :
    w1.cell? ⟨w.heap.size, 0, none⟩ = some x ∧ w1.cell? ⟨w.heap.size, 1, none⟩ = some y ∧ w.heap.size < w1.heap.size ∧ Below w.heap.size w w1 := by
  have hs := hb.size
  simp at hs
  refine ⟨?_, ?_, by omega, balloc (Below.refl _ _) _ |>.trans (hb.mono (by simp))⟩
  · rw [hb.cell (p := ⟨w.heap.size, 0, none⟩) (by simp)]; simp
  · rw [hb.cell (p := ⟨w.heap.size, 1, none⟩) (by simp)]; simp

theorem kcell {W w1 : World} {b o : Nat} {v : Value} (hb : Below W.heap.size W w1) (hlt : b < W.heap.size) (h : W.cell? ⟨b, o, none⟩ = some v) : w1.cell? ⟨b, o, none⟩ = some v := (hb.cell (p := ⟨b, o, none⟩) hlt).trans h

set_option maxRecDepth 100000 in
set_option maxHeartbeats 1000000 in
theorem good_any (f t : ByteArray) (w : World) (hf : f.size ≤ 1099511627776) (ht : t.size ≤ 1099511627776) :
    Calls Try.prog 18 #[.agg #[.string f, .string t]] w fun e w' => e = .returned (.bool (Km.good f.data.toList t.data.toList)) ∧ Below w.heap.size w w' := by
  go_enter Try.func18, Try.ntmps18
  go_wp2_with fail
  refine (bound_any f _ hf).mono ?_
  rintro e w1 ⟨rfl, hb⟩
  obtain ⟨c0, c1, z1, hb1⟩ := box2 hb
  clear hb
  cases hbf : Km.bound f.data.toList with
  | false =>
    have H1 := Lib.hid hbf
    clear hbf
    go_wp2
    go_ret
    exact ⟨ret_bool (by simp [Km.good, H1.out]), hb1⟩
  | true =>
    have H1 := Lib.hid hbf
    clear hbf
    go_wp2_with fail
    refine (bound_any t _ ht).mono ?_
    rintro e w2 ⟨rfl, hb⟩
    have d0 := kcell hb z1 c0
    have d1 := kcell hb z1 c1
    have hb2 := bstep hb1 hb
    clear c0 c1 hb hb1 z1
    cases hbt : Km.bound t.data.toList with
    | false =>
      have H2 := Lib.hid hbt
      clear hbt
      go_wp2
      go_ret
      exact ⟨ret_bool (by simp [Km.good, H1.out, H2.out]), hb2⟩
    | true =>
      have H2 := Lib.hid hbt
      clear hbt
      go_wp2
      all_goals
        go_ret
        refine ⟨ret_bool ?_, hb2⟩
        rw [Km.good, H1.out, H2.out, ← Km.bl_gtr f.data.toList, ← Lib.toList_data, ← Lib.toList_data]
        simp_all

/-- Two boxed pairs behind a call that only makes memory. -/
theorem box22 {w w1 : World} {x y x2 y2 : Value} {T : TypeId} (hb : Below ((w.alloc (.cells #[x, y] T)).alloc (.cells #[x2, y2] T)).heap.size ((w.alloc (.cells #[x, y] T)).alloc (.cells #[x2, y2] T)) w1) :
    (w1.cell? ⟨w.heap.size, 0, none⟩ = some x ∧ w1.cell? ⟨w.heap.size, 1, none⟩ = some y) ∧ (w1.cell? ⟨w.heap.size + 1, 0, none⟩ = some x2 ∧ w1.cell? ⟨w.heap.size + 1, 1, none⟩ = some y2) ∧ w.heap.size + 1 < w1.heap.size ∧ Below w.heap.size w w1 := by
  have hs := hb.size
  simp at hs
  refine ⟨⟨?_, ?_⟩, ⟨?_, ?_⟩, by omega, (balloc (balloc (Below.refl _ _) _) _).trans (hb.mono (by simp; omega))⟩
  · rw [hb.cell (p := ⟨w.heap.size, 0, none⟩) (by simp; omega)]; simp
  · rw [hb.cell (p := ⟨w.heap.size, 1, none⟩) (by simp; omega)]; simp
  · rw [hb.cell (p := ⟨w.heap.size + 1, 0, none⟩) (by simp)]; simp
  · rw [hb.cell (p := ⟨w.heap.size + 1, 1, none⟩) (by simp)]; simp

set_option maxRecDepth 100000 in
set_option maxHeartbeats 1000000 in
theorem meet_any (f t f2 t2 : ByteArray) (w : World) (hf : f.size ≤ 1099511627776) (ht : t.size ≤ 1099511627776) (hf2 : f2.size ≤ 1099511627776) (ht2 : t2.size ≤ 1099511627776) :
    Calls Try.prog 22 #[.agg #[.string f, .string t], .agg #[.string f2, .string t2]] w fun e w' => e = .returned (.bool (Km.meet f.data.toList t.data.toList f2.data.toList t2.data.toList)) ∧ Below w.heap.size w w' := by
  go_enter Try.func22, Try.ntmps22
  go_wp2_with fail
  refine (good_any f t _ hf ht).mono ?_
  rintro e w1 ⟨rfl, hb⟩
  obtain ⟨⟨c0, c1⟩, ⟨c2, c3⟩, z1, hb1⟩ := box22 hb
  clear hb
  cases hg : Km.good f.data.toList t.data.toList with
  | false =>
    have H1 := Lib.hid hg
    clear hg
    go_wp2
    go_ret
    exact ⟨ret_bool (by simp [Km.meet, H1.out]), hb1⟩
  | true =>
    have H1 := Lib.hid hg
    clear hg
    go_wp2_with fail
    refine (good_any f2 t2 _ hf2 ht2).mono ?_
    rintro e w2 ⟨rfl, hb⟩
    have d0 := kcell hb (by omega) c0
    have d1 := kcell hb (by omega) c1
    have d2 := kcell hb (by omega) c2
    have d3 := kcell hb (by omega) c3
    have hb2 := bstep hb1 hb
    have z2 : w.heap.size + 1 < w2.heap.size := by have := hb.size; omega
    clear c0 c1 c2 c3 hb hb1 z1
    cases hg2 : Km.good f2.data.toList t2.data.toList with
    | false =>
      have H2 := Lib.hid hg2
      clear hg2
      go_wp2
      go_ret
      exact ⟨ret_bool (by simp [Km.meet, H1.out, H2.out]), hb2⟩
    | true =>
      have H2 := Lib.hid hg2
      clear hg2
      go_wp2_with fail
      refine (has_any f t f2 _).mono ?_
      rintro e w3 ⟨rfl, hb⟩
      have c0 := kcell hb (by omega) d0
      have c1 := kcell hb (by omega) d1
      have c2 := kcell hb (by omega) d2
      have c3 := kcell hb (by omega) d3
      have hb3 := bstep hb2 hb
      clear d0 d1 d2 d3 hb hb2 z2
      cases hh : Km.has f.data.toList t.data.toList f2.data.toList with
      | true =>
        have H3 := Lib.hid hh
        clear hh
        go_wp2
        go_ret
        exact ⟨ret_bool (by simp [Km.meet, H1.out, H2.out, H3.out]), hb3⟩
      | false =>
        have H3 := Lib.hid hh
        clear hh
        go_wp2_with fail
        refine (has_any f2 t2 f _).mono ?_
        rintro e w4 ⟨rfl, hb⟩
        have hb4 := bstep hb3 hb
        generalize hh : Km.has f2.data.toList t2.data.toList f.data.toList = x
        have H4 := Lib.hid hh
        clear hh
        go_wp2
        go_ret
        exact ⟨ret_bool (by simp [Km.meet, H1.out, H2.out, H3.out, H4.out]), hb4⟩

end Go.Proofs.Ytmmgicdnbedmdaa
