/- The walk of the law StampSites. -/
import Derived.Test.YtmfjoiajghmeoaaStampNums
namespace Go.Proofs.Ytmfjoiajghmeoaa
open Go.RowKit Go.ChangeShapes Go.WideShapes Go.ChangeAt Go.Joins
set_option linter.unusedVariables false

set_option maxRecDepth 100000 in
set_option maxHeartbeats 2000000 in
theorem walkStampSites (w : World) (n : Int) (hn : (Lit.int .i64 n).wf = true) (a : Int) (ha : (Lit.int .i64 a).wf = true) (b : Int) (hb : (Lit.int .i64 b).wf = true) :
    Calls Try.prog 8 #[.int .i64 n, .int .i64 a, .int .i64 b] w fun e w' => e = .returned (.bool true) ∧ Below w.heap.size w w' := by
  obtain ⟨n1, n2⟩ := bounds_i64 hn
  obtain ⟨a1, a2⟩ := bounds_i64 ha
  obtain ⟨b1, b2⟩ := bounds_i64 hb
  clear hn ha hb
  go_enter Try.func8, Try.ntmps8
  go_wp2_with fail
  refine (sawake_any _).mono ?_
  rintro e w1 ⟨rfl, hb1⟩
  go_wp2_with fail
  obtain ⟨k, hk, k1, k2⟩ := num1000 n
  obtain ⟨x, hx, x1, x2⟩ := site6 a
  obtain ⟨y, hy, y1, y2⟩ := site6 b
  have hu : wrap64 (k + 1) = k + 1 := by unfold wrap64; omega
  rw [hk, hx, hy, hu]
  clear n1 n2 a1 a2 b1 b2
  have hxy : (decide (x < y) == decide (x < y)) = true := by simp
  have hs6 : wrap64 (6 + x) = 6 + x := by unfold wrap64; omega
  have hng : wrap64 (-k) = -k := by unfold wrap64; omega
  have HS6 := Lib.hid hs6
  have HNG := Lib.hid hng
  have K1 := Lib.hid k1
  have K2 := Lib.hid k2
  have X1 := Lib.hid x1
  have X2 := Lib.hid x2
  have Y1 := Lib.hid y1
  have Y2 := Lib.hid y2
  clear hs6 hng hk hx hy hu k1 k2 x1 x2 y1 y2
  obtain ⟨u, hu⟩ : ∃ u, u = k + 1 := ⟨_, rfl⟩
  rw [← hu]
  have HU := Lib.hid hu
  clear hu
  refine (less_b k x k y (decide (x < y)) _ (by simp [Sm.less])).mono ?_
  rintro e w2 ⟨rfl, hb⟩
  obtain ⟨⟨c0, c1⟩, ⟨c2, c3⟩, ⟨c4, c5⟩, hb9⟩ := boxes3 hb
  have hbel := bstep hb1 hb9
  clear hb hb1
  go_wp2_with fail
  refine (less_b k x u y true _ (by rw [Sm.less_iff]; have := HU.out; simp; omega)).mono ?_
  rintro e w3 ⟨rfl, hb⟩
  replace c0 := kc hb c0
  replace c1 := kc hb c1
  replace c2 := kc hb c2
  replace c3 := kc hb c3
  replace c4 := kc hb c4
  replace c5 := kc hb c5
  replace hbel := bstep hbel hb
  clear hb
  go_wp2_with fail
  refine (less_b u y k x false _ (by rw [Sm.less_false]; have := HU.out; simp; omega)).mono ?_
  rintro e w4 ⟨rfl, hb⟩
  replace c0 := kc hb c0
  replace c1 := kc hb c1
  replace c2 := kc hb c2
  replace c3 := kc hb c3
  replace c4 := kc hb c4
  replace c5 := kc hb c5
  replace hbel := bstep hbel hb
  clear hb
  go_wp2_with fail
  refine (less_b 0 0 k x true _ (by rw [Sm.less_iff]; have := K1.out; simp; omega)).mono ?_
  rintro e w5 ⟨rfl, hb⟩
  replace c0 := kc hb c0
  replace c1 := kc hb c1
  replace c2 := kc hb c2
  replace c3 := kc hb c3
  replace c4 := kc hb c4
  replace c5 := kc hb c5
  replace hbel := bstep hbel hb
  clear hb
  go_wp2_with fail
  refine (check_b k x true _ (by simp only [Sm.ok, decide_eq_true_eq]; have := K1.out; have := K2.out; have := X1.out; have := X2.out; omega)).mono ?_
  rintro e w6 ⟨rfl, hb⟩
  replace c0 := kc hb c0
  replace c1 := kc hb c1
  replace c2 := kc hb c2
  replace c3 := kc hb c3
  replace c4 := kc hb c4
  replace c5 := kc hb c5
  replace hbel := bstep hbel hb
  clear hb
  go_wp2_with fail
  refine (check_b k (wrap64 (6 + x)) false _ (by rw [HS6.out]; simp only [Sm.ok, decide_eq_false_iff_not]; have := X1.out; omega)).mono ?_
  rintro e w7 ⟨rfl, hb⟩
  replace c0 := kc hb c0
  replace c1 := kc hb c1
  replace c2 := kc hb c2
  replace c3 := kc hb c3
  replace c4 := kc hb c4
  replace c5 := kc hb c5
  replace hbel := bstep hbel hb
  clear hb
  go_wp2_with fail
  refine (check_b (wrap64 (-k)) x false _ (by rw [HNG.out]; simp only [Sm.ok, decide_eq_false_iff_not]; have := K1.out; omega)).mono ?_
  rintro e w8 ⟨rfl, hb⟩
  replace c0 := kc hb c0
  replace c1 := kc hb c1
  replace c2 := kc hb c2
  replace c3 := kc hb c3
  replace c4 := kc hb c4
  replace c5 := kc hb c5
  replace hbel := bstep hbel hb
  clear hb
  go_wp2
  go_ret
  exact ⟨rfl, hbel⟩
end Go.Proofs.Ytmfjoiajghmeoaa
