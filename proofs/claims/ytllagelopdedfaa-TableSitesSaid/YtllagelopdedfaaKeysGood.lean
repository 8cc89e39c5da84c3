/- What keys.Good and keys.Meet answer. -/
import Derived.Test.YtllagelopdedfaaKeysHas
namespace Go.Proofs.Ytllagelopdedfaa
open Go.RowKit
set_option linter.unusedVariables false

set_option maxRecDepth 100000 in
set_option maxHeartbeats 400000 in
theorem bound_any (s : ByteArray) (w : World) (hs : s.size ≤ 9223372036854775807) :
    Calls Try.prog 97 #[.string s] w fun e w' => e = .returned (.bool (Km.bound s.data.toList)) ∧ Below w.heap.size w w' := by
  by_cases h : s.data.toList = []
  · have h1 : s.toList = [] := by rw [Lib.toList_data]; exact h
    go_enter Try.func97, Try.ntmps97
    go_wp2
    go_ret
    exact ⟨ret_bool (by simp [Km.bound, h]), Below.refl _ _⟩
  · have h1 : ¬ s.toList = [] := by rw [Lib.toList_data]; exact h
    have h2 : s.toList.isEmpty = false := by simpa using h1
    clear h
    go_enter Try.func97, Try.ntmps97
    go_wp2_with fail
    refine (check_any s _ hs).mono ?_
    rintro e w1 ⟨rfl, hb⟩
    generalize hc : Km.chk s.data.toList = c
    have HC := Lib.hid hc
    clear hc
    go_wp2
    go_ret
    rw [Lib.toList_data] at h2
    exact ⟨ret_bool (by rw [Km.bound, HC.out, h2]; simp), hb⟩

set_option maxRecDepth 100000 in
set_option maxHeartbeats 1000000 in
theorem good_any (f t : ByteArray) (w : World) (hf : f.size ≤ 9223372036854775807) (ht : t.size ≤ 9223372036854775807) :
    Calls Try.prog 68 #[.agg #[.string f, .string t]] w fun e w' => e = .returned (.bool (Km.good f.data.toList t.data.toList)) ∧ Below w.heap.size w w' := by
  go_enter Try.func68, Try.ntmps68
  go_wp2_with fail
  refine (bound_any f _ hf).mono ?_
  rintro e w1 ⟨rfl, hb⟩
  obtain ⟨c0, c1, z1, hb1⟩ := box2 hb
  clear hb
  cases hbf : Km.bound f.data.toList with
  | false =>
    have H1 := Lib.hid hbf
    clear hbf
    go_wp2
    go_ret
    exact ⟨ret_bool (by simp [Km.good, H1.out]), hb1⟩
  | true =>
    have H1 := Lib.hid hbf
    clear hbf
    go_wp2_with fail
    refine (bound_any t _ ht).mono ?_
    rintro e w2 ⟨rfl, hb⟩
    have d0 := kcell hb z1 c0
    have d1 := kcell hb z1 c1
    have hb2 := bstep hb1 hb
    clear c0 c1 hb hb1 z1
    cases hbt : Km.bound t.data.toList with
    | false =>
      have H2 := Lib.hid hbt
      clear hbt
      go_wp2
      go_ret
      exact ⟨ret_bool (by simp [Km.good, H1.out, H2.out]), hb2⟩
    | true =>
      have H2 := Lib.hid hbt
      clear hbt
      go_wp2
      all_goals
        go_ret
        refine ⟨ret_bool ?_, hb2⟩
        rw [Km.good, H1.out, H2.out, ← Km.bl_gtr f.data.toList, ← Lib.toList_data, ← Lib.toList_data]
        simp_all

end Go.Proofs.Ytllagelopdedfaa
