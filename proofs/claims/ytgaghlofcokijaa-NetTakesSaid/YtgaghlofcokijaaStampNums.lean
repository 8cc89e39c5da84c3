/- Small numbers that the laws of stamps make of any: sites, and numbers from 1 to 1000; cells that are kept. -/
import Derived.Test.YtgaghlofcokijaaStampMax
import Derived.Test.YtgaghlofcokijaaOpen3
namespace Go.Proofs.Ytgaghlofcokijaa
open Go.RowKit
set_option linter.unusedVariables false

theorem tmod_lt (x k : Int) (hk : 0 < k) : -k < x.tmod k ∧ x.tmod k < k := ⟨Int.lt_tmod_of_pos x hk, Int.tmod_lt_of_pos x hk⟩
theorem site6 (a : Int) : ∃ x : Int, (wrap64 (a.tmod 6 + 6)).tmod 6 = x ∧ 0 ≤ x ∧ x < 6 := by
  obtain ⟨h1, h2⟩ := tmod_lt a 6 (by omega)
  have e : wrap64 (a.tmod 6 + 6) = a.tmod 6 + 6 := by unfold wrap64; omega
  rw [e, Int.tmod_eq_emod_of_nonneg (by omega)]
  exact ⟨_, rfl, by omega, by omega⟩
theorem num1000 (n : Int) : ∃ x : Int, wrap64 (1 + (wrap64 (n.tmod 1000 + 1000)).tmod 1000) = x ∧ 1 ≤ x ∧ x ≤ 1000 := by
  obtain ⟨h1, h2⟩ := tmod_lt n 1000 (by omega)
  have e : wrap64 (n.tmod 1000 + 1000) = n.tmod 1000 + 1000 := by unfold wrap64; omega
  rw [e, Int.tmod_eq_emod_of_nonneg (by omega)]
  refine ⟨_, rfl, ?_, ?_⟩ <;> unfold wrap64 <;> omega

/-- Three boxed pairs behind a call that only makes memory. -/
theorem boxes3 {w w' : World} {x0 x1 y0 y1 z0 z1 : Value} {T : TypeId}
    (hb : Below (((w.alloc (.cells #[x0, x1] T)).alloc (.cells #[y0, y1] T)).alloc (.cells #[z0, z1] T)).heap.size (((w.alloc (.cells #[x0, x1] T)).alloc (.cells #[y0, y1] T)).alloc (.cells #[z0, z1] T)) w') :
    (w'.cell? ⟨w.heap.size, 0, none⟩ = some x0 ∧ w'.cell? ⟨w.heap.size, 1, none⟩ = some x1) ∧ (w'.cell? ⟨w.heap.size + 1, 0, none⟩ = some y0 ∧ w'.cell? ⟨w.heap.size + 1, 1, none⟩ = some y1) ∧
      (w'.cell? ⟨w.heap.size + 1 + 1, 0, none⟩ = some z0 ∧ w'.cell? ⟨w.heap.size + 1 + 1, 1, none⟩ = some z1) ∧ Below w.heap.size w w' := by
  have s : ((w.alloc (.cells #[x0, x1] T)).alloc (.cells #[y0, y1] T)).heap.size = w.heap.size + 1 + 1 := by simp
  refine ⟨⟨kc hb ?_, kc hb ?_⟩, ⟨kc hb ?_, kc hb ?_⟩, ⟨kc hb ?_, kc hb ?_⟩, (balloc (balloc (balloc (Below.refl _ w) _) _) _).trans (hb.mono (by simp; omega))⟩
  · rw [World.cell?_alloc_past _ _ _ (by rw [s]; omega)]; simp
  · rw [World.cell?_alloc_past _ _ _ (by rw [s]; omega)]; simp
  · rw [World.cell?_alloc_past _ _ _ (by rw [s]; omega)]; simp
  · rw [World.cell?_alloc_past _ _ _ (by rw [s]; omega)]; simp
  · rw [World.cell?_alloc_at _ _ _ _ s.symm]; rfl
  · rw [World.cell?_alloc_at _ _ _ _ s.symm]; rfl
end Go.Proofs.Ytgaghlofcokijaa
