/- The walk of the law StampOrder: one of four cases of how the stamps lie. -/
import Derived.Test.YtmfjoiajghmeoaaStampOrderBase
namespace Go.Proofs.Ytmfjoiajghmeoaa
open Go.RowKit
set_option linter.unusedVariables false

set_option maxRecDepth 100000 in
set_option maxHeartbeats 4000000 in
theorem orderA (w : World) (a0 a1 b0 b1 c0 c1 : Int) (h1 : Sm.less (a0, a1) (b0, b1) = true) (h2 : Sm.less (b0, b1) (a0, a1) = false) (h3 : decide ((a0, a1) = (b0, b1)) = false) (h4 : Sm.less (b0, b1) (c0, c1) = true) (h5 : Sm.less (a0, a1) (c0, c1) = true) :
    Calls Try.prog 5 #[.agg #[.int .i64 a0, .int .i64 a1], .agg #[.int .i64 b0, .int .i64 b1], .agg #[.int .i64 c0, .int .i64 c1]] w fun e w' => e = .returned (.bool true) ∧ Below w.heap.size w w' := by
  obtain ⟨m0, m1, hm⟩ : ∃ m0 m1, Sm.mx (0, 0) [(a0, a1), (b0, b1), (c0, c1)] = (m0, m1) := ⟨_, _, rfl⟩
  have k1 : Sm.less (m0, m1) (a0, a1) = false := by rw [← hm]; exact Sm.mx_each _ _ _ (by simp)
  have k2 : Sm.less (m0, m1) (b0, b1) = false := by rw [← hm]; exact Sm.mx_each _ _ _ (by simp)
  have k3 : Sm.less (m0, m1) (c0, c1) = false := by rw [← hm]; exact Sm.mx_each _ _ _ (by simp)
  have k4 : Sm.mx (0, 0) [(c0, c1), (a0, a1), (b0, b1)] = (m0, m1) := by rw [← Sm.mx_turn]; exact hm
  have heq : ∀ w', (binOp .eql 25 (.agg #[.int .i64 a0, .int .i64 a1]) (.agg #[.int .i64 b0, .int .i64 b1])).run Try.prog w' = .ok (.bool false) w' := fun w' => by rw [eq_stamp, h3]
  have heq2 : ∀ w', (binOp .eql 25 (.agg #[.int .i64 m0, .int .i64 m1]) (.agg #[.int .i64 m0, .int .i64 m1])).run Try.prog w' = .ok (.bool true) w' := fun w' => by rw [eq_stamp]; simp
  have HM := Lib.hid hm
  clear hm
  have H1 := Lib.hid h1
  clear h1
  have H2 := Lib.hid h2
  clear h2
  have H3 := Lib.hid h3
  clear h3
  have K1 := Lib.hid k1
  clear k1
  have K2 := Lib.hid k2
  clear k2
  have K3 := Lib.hid k3
  clear k3
  have K4 := Lib.hid k4
  clear k4
  have H4 := Lib.hid h4
  clear h4
  have H5 := Lib.hid h5
  clear h5
  go_enter Try.func5, Try.ntmps5
  go_wp2_with fail
  refine (sawake_any _).mono ?_
  rintro e w1 ⟨rfl, hb⟩
  obtain ⟨⟨d0, d1⟩, ⟨d2, d3⟩, ⟨d4, d5⟩, hbel⟩ := boxes3 hb
  clear hb
  go_wp2_with fail
  refine (less_b a0 a1 b0 b1 true _ H1.out).mono ?_
  rintro e w2 ⟨rfl, hb⟩
  replace d0 := kc hb d0
  replace d1 := kc hb d1
  replace d2 := kc hb d2
  replace d3 := kc hb d3
  replace d4 := kc hb d4
  replace d5 := kc hb d5
  replace hbel := bstep hbel hb
  clear hb
  go_wp2_with fail
  refine (less_b b0 b1 a0 a1 false _ H2.out).mono ?_
  rintro e w3 ⟨rfl, hb⟩
  replace d0 := kc hb d0
  replace d1 := kc hb d1
  replace d2 := kc hb d2
  replace d3 := kc hb d3
  replace d4 := kc hb d4
  replace d5 := kc hb d5
  replace hbel := bstep hbel hb
  clear hb
  go_wp2_with fail
  refine (max3 _ _ a0 a1 b0 b1 c0 c1 m0 m1 HM.out).mono ?_
  rintro e w4 ⟨rfl, hb⟩
  have hb9 := bstep (balloc (Below.refl _ w3) _) hb
  replace d0 := kc hb9 d0
  replace d1 := kc hb9 d1
  replace d2 := kc hb9 d2
  replace d3 := kc hb9 d3
  replace d4 := kc hb9 d4
  replace d5 := kc hb9 d5
  replace hbel := bstep hbel hb9
  clear hb hb9
  have ha9 := balloc (Below.refl _ w4) (.cells #[.int .i64 m0, .int .i64 m1] 25)
  have g0 : (w4.alloc (.cells #[.int .i64 m0, .int .i64 m1] 25)).cell? ⟨w.heap.size, 0, none⟩ = some (.int .i64 a0) ∧ (w4.alloc (.cells #[.int .i64 m0, .int .i64 m1] 25)).cell? ⟨w.heap.size, 1, none⟩ = some (.int .i64 a1) ∧ (w4.alloc (.cells #[.int .i64 m0, .int .i64 m1] 25)).cell? ⟨w.heap.size + 1, 0, none⟩ = some (.int .i64 b0) ∧ (w4.alloc (.cells #[.int .i64 m0, .int .i64 m1] 25)).cell? ⟨w.heap.size + 1, 1, none⟩ = some (.int .i64 b1) ∧ (w4.alloc (.cells #[.int .i64 m0, .int .i64 m1] 25)).cell? ⟨w.heap.size + 1 + 1, 0, none⟩ = some (.int .i64 c0) ∧ (w4.alloc (.cells #[.int .i64 m0, .int .i64 m1] 25)).cell? ⟨w.heap.size + 1 + 1, 1, none⟩ = some (.int .i64 c1) ∧ (w4.alloc (.cells #[.int .i64 m0, .int .i64 m1] 25)).cell? ⟨w4.heap.size, 0, none⟩ = some (.int .i64 m0) ∧ (w4.alloc (.cells #[.int .i64 m0, .int .i64 m1] 25)).cell? ⟨w4.heap.size, 1, none⟩ = some (.int .i64 m1) := ⟨kc ha9 d0, kc ha9 d1, kc ha9 d2, kc ha9 d3, kc ha9 d4, kc ha9 d5, by simp, by simp⟩
  replace hbel := bstep hbel ha9
  have z9 := lt_of_cellN d4
  clear ha9 d0 d1 d2 d3 d4 d5
  go_wp2_with fail
  go_region_held3 (fun w' => w'.cell? ⟨w.heap.size, 0, none⟩ = some (.int .i64 a0) ∧ w'.cell? ⟨w.heap.size, 1, none⟩ = some (.int .i64 a1) ∧ w'.cell? ⟨w.heap.size + 1, 0, none⟩ = some (.int .i64 b0) ∧ w'.cell? ⟨w.heap.size + 1, 1, none⟩ = some (.int .i64 b1) ∧ w'.cell? ⟨w.heap.size + 1 + 1, 0, none⟩ = some (.int .i64 c0) ∧ w'.cell? ⟨w.heap.size + 1 + 1, 1, none⟩ = some (.int .i64 c1) ∧ w'.cell? ⟨w4.heap.size, 0, none⟩ = some (.int .i64 m0) ∧ w'.cell? ⟨w4.heap.size, 1, none⟩ = some (.int .i64 m1))
    (first | exact g0 | exact g1 | exact g2 | exact g3 | exact g4 | exact g5 | exact g6 | exact g7 | exact keep8 (balloc (Below.refl _ _) _) g6)
    (first
      | (go_at_call 15; ((with_reducible refine (less_b a0 a1 b0 b1 true _ H1.out).mono ?_); rintro e v1 ⟨rfl, y1⟩; have g1 := keep8 y1 g0))
      | (go_at_call 15; ((with_reducible refine (less_b b0 b1 c0 c1 true _ H4.out).mono ?_); rintro e v2 ⟨rfl, y2⟩; have g2 := keep8 y2 g1))
      | (go_at_call 15; ((with_reducible refine (less_b a0 a1 c0 c1 true _ H5.out).mono ?_); rintro e v3 ⟨rfl, y3⟩; have g3 := keep8 y3 g2))
      | (go_at_call 15; ((with_reducible refine (less_b m0 m1 a0 a1 false _ K1.out).mono ?_); rintro e v4 ⟨rfl, y4⟩; have g4 := keep8 y4 g3))
      | (go_at_call 15; ((with_reducible refine (less_b m0 m1 b0 b1 false _ K2.out).mono ?_); rintro e v5 ⟨rfl, y5⟩; have g5 := keep8 y5 g4))
      | (go_at_call 15; ((with_reducible refine (less_b m0 m1 c0 c1 false _ K3.out).mono ?_); rintro e v6 ⟨rfl, y6⟩; have g6 := keep8 y6 g5))
      | (go_at_call 21; ((with_reducible refine (max3 _ _ c0 c1 a0 a1 b0 b1 m0 m1 K4.out).mono ?_); rintro e v7 ⟨rfl, y7⟩; have g7 := keep8 y7 (keep8 (balloc (Below.refl _ v6) _) g6))))
  have hbF := bstep (balloc (bstep (bstep (bstep (bstep (bstep (bstep hbel.drew y1) y2) y3) y4) y5) y6) _) y7
  clear g0 g1 g2 g3 g4 g5 g6 g7 y1 y2 y3 y4 y5 y6 y7
  go_wp2
  go_ret
  exact ⟨rfl, hbF⟩

end Go.Proofs.Ytmfjoiajghmeoaa
