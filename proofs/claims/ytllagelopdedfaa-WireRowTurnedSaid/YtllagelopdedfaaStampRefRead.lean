/- What the document's own Read of stamps answers. -/
import Derived.Test.YtllagelopdedfaaGW27
import Derived.Test.YtllagelopdedfaaRefRead
namespace Go.Proofs.Ytllagelopdedfaa
open Go.RowKit
set_option linter.unusedVariables false

/-- The answer of the document's Read, as a value. -/
def sgV : Option ((Int × Int) × Nat) → Value
  | none => .agg #[.int .i64 0, .int .i64 0, .int .i64 0]
  | some (p, e) => .agg #[.int .i64 p.1, .int .i64 p.2, .int .i64 (e : Int)]

/-- A variable of three cells: block b holds it, and may be written. -/
structure Var3 (w : World) (b : Nat) (x y z : Value) : Prop where
  c0 : w.cell? ⟨b, 0, none⟩ = some x
  c1 : w.cell? ⟨b, 1, none⟩ = some y
  c2 : w.cell? ⟨b, 2, none⟩ = some z
  f0 : w.frozen? ⟨b, 0, none⟩ = false
  f1 : w.frozen? ⟨b, 1, none⟩ = false
  f2 : w.frozen? ⟨b, 2, none⟩ = false
theorem Var3.keep {w w' : World} {b : Nat} {x y z : Value} (hb : Below w.heap.size w w') (h : Var3 w b x y z) : Var3 w' b x y z :=
  ⟨kc hb h.c0, kc hb h.c1, kc hb h.c2, (hb.frozen (p := ⟨b, 0, none⟩) (lt_of_cellN h.c0)).trans h.f0, (hb.frozen (p := ⟨b, 1, none⟩) (lt_of_cellN h.c0)).trans h.f1, (hb.frozen (p := ⟨b, 2, none⟩) (lt_of_cellN h.c0)).trans h.f2⟩
theorem Var3.new (w : World) (T : TypeId) (x y z : Value) : Var3 (w.alloc (.cells #[x, y, z] T)) w.heap.size x y z := ⟨by simp, by simp, by simp, by simp, by simp, by simp⟩
theorem Var3.put {w : World} {b : Nat} {x y z : Value} (h : Var3 w b x y z) (x' y' z' : Value) : Var3 (((w.setCell ⟨b, 0, none⟩ x').setCell ⟨b, 1, none⟩ y').setCell ⟨b, 2, none⟩ z') b x' y' z' := by
  have s0 : (w.setCell ⟨b, 0, none⟩ x').cell? ⟨b, 0, none⟩ = some x' := World.cell?_setCell_same _ _ _ h.c0
  have s1 : (w.setCell ⟨b, 0, none⟩ x').cell? ⟨b, 1, none⟩ = some y := by
    rw [World.cell?_setCell_other _ _ _ _ (by simp)]; exact h.c1
  have t1 : ((w.setCell ⟨b, 0, none⟩ x').setCell ⟨b, 1, none⟩ y').cell? ⟨b, 1, none⟩ = some y' := World.cell?_setCell_same _ _ _ s1
  have t2 : ((w.setCell ⟨b, 0, none⟩ x').setCell ⟨b, 1, none⟩ y').cell? ⟨b, 2, none⟩ = some z := by
    rw [World.cell?_setCell_other _ _ _ _ (by simp), World.cell?_setCell_other _ _ _ _ (by simp)]; exact h.c2
  refine ⟨?_, ?_, World.cell?_setCell_same _ _ _ t2, by simpa using h.f0, by simpa using h.f1, by simpa using h.f2⟩
  · rw [World.cell?_setCell_other _ _ _ _ (by simp), World.cell?_setCell_other _ _ _ _ (by simp)]; exact s0
  · rw [World.cell?_setCell_other _ _ _ _ (by simp)]; exact t1
theorem below_put3S {w w' : World} {n b : Nat} (hb : Below n w w') (h : n ≤ b) (x y z : Value) : Below n w (((w'.setCell ⟨b, 0, none⟩ x).setCell ⟨b, 1, none⟩ y).setCell ⟨b, 2, none⟩ z) := ((hb.setCell h _).setCell h _).setCell h _

end Go.Proofs.Ytllagelopdedfaa
