/- What chain.Put answers. -/
import Derived.Test.YtfmedinhlmiaeaaGQ27
import Derived.Test.YtfmedinhlmiaeaaChAt
import Derived.Deep.RegionHeld3
import Derived.Deep.DeepCutAuto
namespace Go.Proofs.Ytfmedinhlmiaeaa
open Go.RowKit Go.Shelf
set_option linter.unusedVariables false
set_option linter.unusedSimpArgs false

theorem w_single (w : World) (x : Vw) : OwnR KW (w.alloc (.cells (wcs x) 27)) w.heap.size (.slice (some ⟨w.heap.size, 0, none⟩) 1 1) [x] :=
  ⟨by simp [rV, KW, wL], .inr ⟨_, _, _, rfl, Nat.le_refl _, heap_alloc_new _ _, by simp, by simp [maxLen], by simp [KW], by simp [rV, KW, wL]⟩⟩
theorem concat3_any (B : Nat) (v1 v2 v3 : Value) (x y z : List Vw) (w : World) (hx : x.length ≤ 300000) (hy : y.length ≤ 300000) (hz : z.length ≤ 300000) (h1 : RowAt KW w v1 x) (h2 : RowAt KW w v2 y) (h3 : RowAt KW w v3 z) (c1 : w.cell? ⟨B, 0, none⟩ = some v1) (c2 : w.cell? ⟨B, 1, none⟩ = some v2) (c3 : w.cell? ⟨B, 2, none⟩ = some v3) :
    Calls Try.prog 38 #[.slice (some ⟨B, 0, none⟩) 3 3] w fun e w' => ∃ v', e = .returned v' ∧ OwnR KW w' w.heap.size v' (x ++ y ++ z) ∧ Below w.heap.size w w' := by
  have hr : RowsAtW w (some ⟨B, 0, none⟩) [x, y, z] := by
    refine ⟨[v1, v2, v3], rfl, fun i hi => ?_, fun i hi hi' => ?_⟩
    · rcases (show i = 0 ∨ i = 1 ∨ i = 2 by simp at hi; omega) with rfl | rfl | rfl
      · exact ⟨B, 0, rfl, lt_of_cellN c1, c1⟩
      · exact ⟨B, 0, rfl, lt_of_cellN c1, c2⟩
      · exact ⟨B, 0, rfl, lt_of_cellN c1, c3⟩
    · rcases (show i = 0 ∨ i = 1 ∨ i = 2 by simp at hi; omega) with rfl | rfl | rfl
      · exact h1
      · exact h2
      · exact h3
  have h := concatW_any (some ⟨B, 0, none⟩) 3 [x, y, z] w (by simp) (by simp [totW]; omega) hr
  have e : [x, y, z].flatten = x ++ y ++ z := by simp
  rw [e] at h
  exact h
/-- What lies behind the first ones of a row. -/
theorem tailW {w : World} {a : Option Addr} {cap : Nat} {xs : List Vw} (h : RowAt KW w (.slice a xs.length cap) xs) (n : Nat) (hn : n ≤ xs.length) : RowAt KW w (.slice (if cap = n then a else a.map (·.add (n * 6))) (xs.length - n) (cap - n)) (xs.drop n) := by
  obtain ⟨a', c', e, h1, h2, h3, hr⟩ := h
  cases e
  refine ⟨_, _, by rw [List.length_drop], by rw [List.length_drop]; omega, by omega, fun he => ?_, ?_⟩
  · by_cases hc : cap = n
    · omega
    · rw [if_neg hc, Option.map_eq_none_iff] at he
      have := h3 he
      omega
  · by_cases hc : cap = n
    · rw [List.drop_of_length_le (by omega)]
      intro i hi
      exact absurd hi (by simp)
    · rw [if_neg hc]
      cases xs with
      | nil => intro i hi; exact absurd hi (by simp)
      | cons x r =>
        obtain ⟨b, off, rfl, _⟩ := hr 0 (by simp)
        rw [Option.map_some, Addr.add_lit]
        exact hr.dropR n
theorem fitK_nil (x : Vw) : fitK [] x = true := rfl
theorem fitK_pos {xs : List Vw} (x : Vw) (h : 0 < xs.length) : fitK xs x = decide (xs[0].1.key = x.1.key) := by
  cases xs with
  | nil => simp at h
  | cons y r => rfl
theorem keepQ {W w1 : World} {b : Nat} {x0 x1 x2 x3 x4 x5 : Value} (hb : Below W.heap.size W w1) (h : W.cell? ⟨b, 0, none⟩ = some x0 ∧ W.cell? ⟨b, 1, none⟩ = some x1 ∧ W.cell? ⟨b, 2, none⟩ = some x2 ∧ W.cell? ⟨b, 3, none⟩ = some x3 ∧ W.cell? ⟨b, 4, none⟩ = some x4 ∧ W.cell? ⟨b, 5, none⟩ = some x5) :
    w1.cell? ⟨b, 0, none⟩ = some x0 ∧ w1.cell? ⟨b, 1, none⟩ = some x1 ∧ w1.cell? ⟨b, 2, none⟩ = some x2 ∧ w1.cell? ⟨b, 3, none⟩ = some x3 ∧ w1.cell? ⟨b, 4, none⟩ = some x4 ∧ w1.cell? ⟨b, 5, none⟩ = some x5 :=
  ⟨kc hb h.1, kc hb h.2.1, kc hb h.2.2.1, kc hb h.2.2.2.1, kc hb h.2.2.2.2.1, kc hb h.2.2.2.2.2⟩
theorem keepP {W w1 : World} {b b' o : Nat} {x0 x1 x2 x3 x4 x5 y : Value} (hb : Below W.heap.size W w1) (h : (W.cell? ⟨b, 0, none⟩ = some x0 ∧ W.cell? ⟨b, 1, none⟩ = some x1 ∧ W.cell? ⟨b, 2, none⟩ = some x2 ∧ W.cell? ⟨b, 3, none⟩ = some x3 ∧ W.cell? ⟨b, 4, none⟩ = some x4 ∧ W.cell? ⟨b, 5, none⟩ = some x5) ∧ W.cell? ⟨b', o, none⟩ = some y) :
    (w1.cell? ⟨b, 0, none⟩ = some x0 ∧ w1.cell? ⟨b, 1, none⟩ = some x1 ∧ w1.cell? ⟨b, 2, none⟩ = some x2 ∧ w1.cell? ⟨b, 3, none⟩ = some x3 ∧ w1.cell? ⟨b, 4, none⟩ = some x4 ∧ w1.cell? ⟨b, 5, none⟩ = some x5) ∧ w1.cell? ⟨b', o, none⟩ = some y := ⟨keepQ hb h.1, kc hb h.2⟩

end Go.Proofs.Ytfmedinhlmiaeaa
