/- Rows of stamps in memory; what stamp.Max answers. -/
import Derived.Test.YtgaghlofcokijaaStampLess
namespace Go.Proofs.Ytgaghlofcokijaa
open Go.RowKit
set_option linter.unusedVariables false

/-- A row of stamps, in memory. -/
def StIn (w : World) (a : Option Addr) (l : List (Int × Int)) : Prop :=
  ∀ i (h : i < l.length), ∃ b off, a = some ⟨b, off, none⟩ ∧ w.cell? ⟨b, off + i * 2, none⟩ = some (.int .i64 l[i].1) ∧ w.cell? ⟨b, off + i * 2 + 1, none⟩ = some (.int .i64 l[i].2)
theorem StIn.below {w w' : World} {a : Option Addr} {l : List (Int × Int)} (h : StIn w a l) (hb : Below w.heap.size w w') : StIn w' a l := by
  intro i hi
  obtain ⟨b, off, rfl, h0, h1⟩ := h i hi
  exact ⟨b, off, rfl, kc hb h0, kc hb h1⟩

/-- A variable of a stamp's type: block b holds it, and may be written. -/
structure Var2 (w : World) (b : Nat) (p : Int × Int) : Prop where
  c0 : w.cell? ⟨b, 0, none⟩ = some (.int .i64 p.1)
  c1 : w.cell? ⟨b, 1, none⟩ = some (.int .i64 p.2)
  f0 : w.frozen? ⟨b, 0, none⟩ = false
  f1 : w.frozen? ⟨b, 1, none⟩ = false
theorem Var2.keep {w w' : World} {b : Nat} {p : Int × Int} (hb : Below w.heap.size w w') (h : Var2 w b p) : Var2 w' b p :=
  ⟨kc hb h.c0, kc hb h.c1, (hb.frozen (p := ⟨b, 0, none⟩) (lt_of_cellN h.c0)).trans h.f0, (hb.frozen (p := ⟨b, 1, none⟩) (lt_of_cellN h.c0)).trans h.f1⟩

theorem Var2.put {w : World} {b : Nat} {p : Int × Int} (h : Var2 w b p) (x y : Int) : Var2 ((w.setCell ⟨b, 0, none⟩ (.int .i64 x)).setCell ⟨b, 1, none⟩ (.int .i64 y)) b (x, y) := by
  have c1 : (w.setCell ⟨b, 0, none⟩ (.int .i64 x)).cell? ⟨b, 1, none⟩ = some (.int .i64 p.2) := by
    rw [World.cell?_setCell_other _ _ _ _ (by simp)]; exact h.c1
  refine ⟨?_, World.cell?_setCell_same _ _ _ c1, by simpa using h.f0, by simpa using h.f1⟩
  rw [World.cell?_setCell_other _ _ _ _ (by simp)]
  exact World.cell?_setCell_same _ _ _ h.c0
theorem Var2.other {w : World} {b : Nat} {p : Int × Int} (h : Var2 w b p) (b' : Nat) (hne : b' ≠ b) (x y : Value) : Var2 ((w.setCell ⟨b', 0, none⟩ x).setCell ⟨b', 1, none⟩ y) b p := by
  refine ⟨?_, ?_, by simpa using h.f0, by simpa using h.f1⟩
  · rw [World.cell?_setCell_other _ _ _ _ (fun e => hne (congrArg Addr.block e)), World.cell?_setCell_other _ _ _ _ (fun e => hne (congrArg Addr.block e))]; exact h.c0
  · rw [World.cell?_setCell_other _ _ _ _ (fun e => hne (congrArg Addr.block e)), World.cell?_setCell_other _ _ _ _ (fun e => hne (congrArg Addr.block e))]; exact h.c1
theorem below_put {w w' : World} {n b : Nat} (hb : Below n w w') (h : n ≤ b) (x y : Value) : Below n w ((w'.setCell ⟨b, 0, none⟩ x).setCell ⟨b, 1, none⟩ y) := (hb.setCell h _).setCell h _

end Go.Proofs.Ytgaghlofcokijaa
