/- What the document's Read of a past answers. -/
import Derived.Test.YtllagelopdedfaaGW27
import Derived.Test.YtllagelopdedfaaRefRead
import Derived.Test.YtllagelopdedfaaRefText
import Derived.Test.YtllagelopdedfaaStampRefRead
namespace Go.Proofs.Ytllagelopdedfaa
open Go.RowKit
set_option linter.unusedVariables false
set_option linter.unusedSimpArgs false

/-- A variable of two cells: block b holds it, and may be written. -/
structure V2 (w : World) (b : Nat) (x y : Value) : Prop where
  c0 : w.cell? ⟨b, 0, none⟩ = some x
  c1 : w.cell? ⟨b, 1, none⟩ = some y
  f0 : w.frozen? ⟨b, 0, none⟩ = false
  f1 : w.frozen? ⟨b, 1, none⟩ = false
theorem V2.new (w : World) (T : TypeId) (x y : Value) : V2 (w.alloc (.cells #[x, y] T)) w.heap.size x y := ⟨by simp, by simp, by simp, by simp⟩
theorem V2.lt {w : World} {b : Nat} {x y : Value} (h : V2 w b x y) : b < w.heap.size := lt_of_cellN h.c0
theorem V2.keep {w w' : World} {b : Nat} {x y : Value} (h : V2 w b x y) (hb : Below w.heap.size w w') : V2 w' b x y :=
  ⟨kc hb h.c0, kc hb h.c1, (hb.frozen (p := ⟨b, 0, none⟩) h.lt).trans h.f0, (hb.frozen (p := ⟨b, 1, none⟩) h.lt).trans h.f1⟩
theorem V2.block {w w' : World} {b : Nat} {x y : Value} (h : V2 w b x y) (hb : w'.heap[b]? = w.heap[b]?) : V2 w' b x y := by
  refine ⟨?_, ?_, ?_, ?_⟩
  · rw [World.cell?_of_block hb]; exact h.c0
  · rw [World.cell?_of_block hb]; exact h.c1
  · rw [World.frozen?_of_block hb]; exact h.f0
  · rw [World.frozen?_of_block hb]; exact h.f1
theorem V2.put {w : World} {b : Nat} {x y : Value} (h : V2 w b x y) (x' y' : Value) : V2 ((w.setCell ⟨b, 0, none⟩ x').setCell ⟨b, 1, none⟩ y') b x' y' := by
  have c1 : (w.setCell ⟨b, 0, none⟩ x').cell? ⟨b, 1, none⟩ = some y := by rw [World.cell?_setCell_other _ _ _ _ (by simp)]; exact h.c1
  refine ⟨?_, World.cell?_setCell_same _ _ _ c1, by simpa using h.f0, by simpa using h.f1⟩
  rw [World.cell?_setCell_other _ _ _ _ (by simp)]
  exact World.cell?_setCell_same _ _ _ h.c0
theorem V2.other {w : World} {b b2 : Nat} {x y : Value} (h : V2 w b x y) (hne : b ≠ b2) (o : Nat) (u : Value) : V2 (w.setCell ⟨b2, o, none⟩ u) b x y := h.block (Below.heap_setCell _ _ _ _ hne)
theorem below_put2S {n b : Nat} {w w' : World} (hb : Below n w w') (h : n ≤ b) (x y : Value) : Below n w ((w'.setCell ⟨b, 0, none⟩ x).setCell ⟨b, 1, none⟩ y) := (hb.setCell h _).setCell h _

theorem rdt_pos {l : List UInt8} {a : Int} {most : Int} {t : List UInt8} {m : Nat} (h : rdt l a most = some (t, m)) : a < m ∧ 0 < m ∧ (t.length : Int) ≤ most ∧ m ≤ l.length := by
  unfold rdt at h
  cases hr : rd l a with
  | none => rw [hr] at h; cases h
  | some z =>
    obtain ⟨n, e⟩ := z
    obtain ⟨_, h2, h3, h4⟩ := rd_some hr
    rw [hr] at h
    simp only at h
    split at h
    · cases h
    · rename_i hc
      simp at h
      obtain ⟨rfl, rfl⟩ := h
      simp
      omega
theorem rdS_pos {l : List UInt8} {a : Int} {p : Int × Int} {e : Nat} (h : Sm.rdS (rd l) a = some (p, e)) : 0 < e ∧ e ≤ l.length := by
  unfold Sm.rdS at h
  split at h
  · cases h
  · split at h
    · cases h
    · rename_i hb
      split at h
      · simp at h
        obtain ⟨_, rfl⟩ := h
        have := rd_bounds hb
        omega
      · cases h

end Go.Proofs.Ytllagelopdedfaa
