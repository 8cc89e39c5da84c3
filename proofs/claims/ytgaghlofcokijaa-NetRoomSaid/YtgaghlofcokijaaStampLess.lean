/- What stamp.isSite, stamp.Check, stamp.later and stamp.Less answer. -/
import Derived.Test.YtgaghlofcokijaaProg
import Derived.Test.YtgaghlofcokijaaStampMath
import Derived.WalkKit
import Derived.WalkLawsBesides
import Derived.Lib.Hide
import Derived.BigQuiet
import Derived.Laws.StructEq
import Derived.Deep.RegionHeld3
namespace Go.Proofs.Ytgaghlofcokijaa
open Go.RowKit
set_option linter.unusedVariables false

theorem kcellS {W w1 : World} {b o : Nat} {v : Value} (hb : Below W.heap.size W w1) (hlt : b < W.heap.size) (h : W.cell? ⟨b, o, none⟩ = some v) : w1.cell? ⟨b, o, none⟩ = some v := (hb.cell (p := ⟨b, o, none⟩) hlt).trans h

theorem lt_of_cellN {w : World} {b o : Nat} {v : Value} (h : w.cell? ⟨b, o, none⟩ = some v) : b < w.heap.size := by
  unfold World.cell? at h
  split at h
  · rename_i hb
    exact (Array.getElem?_eq_some_iff.1 hb).1
  · cases h
/-- A cell behind a call that only makes memory. -/
theorem kc {W w1 : World} {b o : Nat} {v : Value} (hb : Below W.heap.size W w1) (h : W.cell? ⟨b, o, none⟩ = some v) : w1.cell? ⟨b, o, none⟩ = some v := kcellS hb (lt_of_cellN h) h
/-- A stamp that lies at a place in memory. -/
abbrev At2 (w : World) (b o : Nat) (p : Int × Int) : Prop := w.cell? ⟨b, o, none⟩ = some (.int .i64 p.1) ∧ w.cell? ⟨b, o + 1, none⟩ = some (.int .i64 p.2)
theorem At2.keep {W w1 : World} {b o : Nat} {p : Int × Int} (hb : Below W.heap.size W w1) (h : At2 W b o p) : At2 w1 b o p := ⟨kc hb h.1, kc hb h.2⟩
theorem keep22 {W w1 : World} {b o b2 o2 b3 o3 b4 o4 : Nat} {x y z u : Value} (hb : Below W.heap.size W w1) (h : W.cell? ⟨b, o, none⟩ = some x ∧ W.cell? ⟨b2, o2, none⟩ = some y ∧ W.cell? ⟨b3, o3, none⟩ = some z ∧ W.cell? ⟨b4, o4, none⟩ = some u) :
    w1.cell? ⟨b, o, none⟩ = some x ∧ w1.cell? ⟨b2, o2, none⟩ = some y ∧ w1.cell? ⟨b3, o3, none⟩ = some z ∧ w1.cell? ⟨b4, o4, none⟩ = some u := ⟨kc hb h.1, kc hb h.2.1, kc hb h.2.2.1, kc hb h.2.2.2⟩

/-- A stamp as a value. -/
abbrev sv (p : Int × Int) : Value := .agg #[.int .i64 p.1, .int .i64 p.2]

end Go.Proofs.Ytgaghlofcokijaa
