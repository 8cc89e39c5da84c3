/- What the walk of the law StampOrder leans on. -/
import Derived.Test.YtmfjoiajghmeoaaStampNums
import Derived.Deep.RegionHeld3
namespace Go.Proofs.Ytmfjoiajghmeoaa
open Go.RowKit
set_option linter.unusedVariables false

/-- Max of three stamps that were just laid in a row. -/
theorem max3 (w : World) (T : TypeId) (x0 x1 y0 y1 z0 z1 m0 m1 : Int) (h : Sm.mx (0, 0) [(x0, x1), (y0, y1), (z0, z1)] = (m0, m1)) :
    Calls Try.prog 21 #[.slice (some ⟨w.heap.size, 0, none⟩) 3 3] (w.alloc (.cells #[.int .i64 x0, .int .i64 x1, .int .i64 y0, .int .i64 y1, .int .i64 z0, .int .i64 z1] T))
      fun e w' => e = .returned (.agg #[.int .i64 m0, .int .i64 m1]) ∧ Below (w.alloc (.cells #[.int .i64 x0, .int .i64 x1, .int .i64 y0, .int .i64 y1, .int .i64 z0, .int .i64 z1] T)).heap.size (w.alloc (.cells #[.int .i64 x0, .int .i64 x1, .int .i64 y0, .int .i64 y1, .int .i64 z0, .int .i64 z1] T)) w' := by
  have hr : StIn (w.alloc (.cells #[.int .i64 x0, .int .i64 x1, .int .i64 y0, .int .i64 y1, .int .i64 z0, .int .i64 z1] T)) (some ⟨w.heap.size, 0, none⟩) [(x0, x1), (y0, y1), (z0, z1)] := by
    intro i hi
    refine ⟨_, _, rfl, ?_⟩
    match i, hi with
    | 0, _ => exact ⟨by simp, by simp⟩
    | 1, _ => exact ⟨by simp, by simp⟩
    | 2, _ => exact ⟨by simp, by simp⟩
  have := max_any _ 3 _ _ (by simp) hr
  rw [h] at this
  exact this

theorem keep8 {W w1 : World} {b1 b2 b3 b4 b5 b6 b7 b8 o1 o2 o3 o4 o5 o6 o7 o8 : Nat} {x1 x2 x3 x4 x5 x6 x7 x8 : Value} (hb : Below W.heap.size W w1)
    (h : W.cell? ⟨b1, o1, none⟩ = some x1 ∧ W.cell? ⟨b2, o2, none⟩ = some x2 ∧ W.cell? ⟨b3, o3, none⟩ = some x3 ∧ W.cell? ⟨b4, o4, none⟩ = some x4 ∧ W.cell? ⟨b5, o5, none⟩ = some x5 ∧ W.cell? ⟨b6, o6, none⟩ = some x6 ∧ W.cell? ⟨b7, o7, none⟩ = some x7 ∧ W.cell? ⟨b8, o8, none⟩ = some x8) :
    w1.cell? ⟨b1, o1, none⟩ = some x1 ∧ w1.cell? ⟨b2, o2, none⟩ = some x2 ∧ w1.cell? ⟨b3, o3, none⟩ = some x3 ∧ w1.cell? ⟨b4, o4, none⟩ = some x4 ∧ w1.cell? ⟨b5, o5, none⟩ = some x5 ∧ w1.cell? ⟨b6, o6, none⟩ = some x6 ∧ w1.cell? ⟨b7, o7, none⟩ = some x7 ∧ w1.cell? ⟨b8, o8, none⟩ = some x8 :=
  ⟨kc hb h.1, kc hb h.2.1, kc hb h.2.2.1, kc hb h.2.2.2.1, kc hb h.2.2.2.2.1, kc hb h.2.2.2.2.2.1, kc hb h.2.2.2.2.2.2.1, kc hb h.2.2.2.2.2.2.2⟩

end Go.Proofs.Ytmfjoiajghmeoaa
