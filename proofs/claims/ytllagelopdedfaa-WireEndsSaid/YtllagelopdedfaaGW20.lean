/- Texts of this proof, one behind the other: WireRowBytesA, RowV. -/
import Derived.Test.YtllagelopdedfaaGW19
/- What wire.RowBytes answers of whatever row. -/
namespace Go.Proofs.Ytllagelopdedfaa
open Go.RowKit

theorem rowBytes_any (c : Rw) (u0 u1 u2 : Value) (w : World) (h : RwAt w u0 u1 u2 c) :
    Calls Try.prog 34 #[.agg #[u0, u1, u2]] w fun e w' => e = .returned (.string ⟨(rowbV c).toArray⟩) ∧ Below w.heap.size w w' := by
  cases hk : okRw c with
  | false => exact rowBytes_no c u0 u1 u2 w h hk
  | true =>
    rw [show rowbV c = rowB c by simp [rowbV, hk]]
    exact rowBytes_ok c u0 u1 u2 w h hk
end Go.Proofs.Ytllagelopdedfaa
/- A variable of a row's type whose slices are the call's own, and grow. -/
namespace Go.Proofs.Ytllagelopdedfaa
open Go.RowKit
set_option linter.unusedVariables false
set_option linter.unusedSimpArgs false

theorem cell_put7 {w : World} {b i j : Nat} {x y : Value} (hne : j ≠ i) (h : w.cell? ⟨b, i, none⟩ = some y) : (w.setCell ⟨b, j, none⟩ x).cell? ⟨b, i, none⟩ = some y := by
  rw [World.cell?_setCell_other _ _ _ _ (by simp [hne])]; exact h
theorem VrP.put0 {w : World} {b : Nat} {u0 u1 u2 : Value} (h : VrP w b u0 u1 u2) (x : Value) : VrP (w.setCell ⟨b, 0, none⟩ x) b x u1 u2 :=
  ⟨World.cell?_setCell_same _ _ _ h.c0, cell_put7 (by decide) h.c1, cell_put7 (by decide) h.c2, fun j hj => by simpa using h.f j hj⟩
theorem VrP.put1 {w : World} {b : Nat} {u0 u1 u2 : Value} (h : VrP w b u0 u1 u2) (x : Value) : VrP (w.setCell ⟨b, 1, none⟩ x) b u0 x u2 :=
  ⟨cell_put7 (by decide) h.c0, World.cell?_setCell_same _ _ _ h.c1, cell_put7 (by decide) h.c2, fun j hj => by simpa using h.f j hj⟩
theorem VrP.put2 {w : World} {b : Nat} {u0 u1 u2 : Value} (h : VrP w b u0 u1 u2) (x : Value) : VrP (w.setCell ⟨b, 2, none⟩ x) b u0 u1 x :=
  ⟨cell_put7 (by decide) h.c0, cell_put7 (by decide) h.c1, World.cell?_setCell_same _ _ _ h.c2, fun j hj => by simpa using h.f j hj⟩

/-- The variable lies at B; its slices' blocks are none of B, and each its own. -/
structure RwV (base B : Nat) (w : World) (u0 u1 u2 : Value) (c : Rw) : Prop where
  v : VrP w B u0 u1 u2
  r : OwnR KR w base u0 c.rs
  o : OwnR KI w base u1 c.ow
  p : OwnR KI w base u2 c.pa
  b : base ≤ B
  n0 : u0.ownBlock ≠ some B
  n1 : u1.ownBlock ≠ some B
  n2 : u2.ownBlock ≠ some B
  d01 : ∀ g, u0.ownBlock = some g → u1.ownBlock ≠ some g
  d02 : ∀ g, u0.ownBlock = some g → u2.ownBlock ≠ some g
  d12 : ∀ g, u1.ownBlock = some g → u2.ownBlock ≠ some g
/-- What an append leaves of another row. -/
theorem OwnR.kept7 {α β : Type} {K : RK α} {w w' : World} {base : Nat} {v u : Value} {l : List α} (h : OwnR K w base v l) (hk : KeptD u w w') (hd : ∀ g, v.ownBlock = some g → u.ownBlock ≠ some g) : OwnR K w' base v l :=
  h.block (fun g e => hk g (h.lt g e).2 (hd g e))
theorem OwnR.put7 {α : Type} {K : RK α} {w : World} {base B o : Nat} {v x : Value} {l : List α} (h : OwnR K w base v l) (hne : v.ownBlock ≠ some B) : OwnR K (w.setCell ⟨B, o, none⟩ x) base v l :=
  h.block (fun g e => Below.heap_setCell _ _ _ _ (fun e' => hne (by rw [e]; exact congrArg some e')))
theorem RwV.put0 {base B : Nat} {wr w2 : World} {u0 u1 u2 u0' : Value} {c : Rw} {l : List (ByteArray × ByteArray)} (h : RwV base B wr u0 u1 u2 c) (ho : OwnR KR w2 base u0' l) (hk : KeptD u0 wr w2) (hat : ∀ g, u0'.ownBlock = some g → u0.ownBlock = some g ∨ wr.heap.size ≤ g) :
    RwV base B (w2.setCell ⟨B, 0, none⟩ u0') u0' u1 u2 ⟨l, c.ow, c.pa⟩ := by
  have hn0 : u0'.ownBlock ≠ some B := fun e => by
    rcases hat B e with h1 | h1
    · exact h.n0 h1
    · have := h.v.lt; omega
  have hn : ∀ g, u0'.ownBlock = some g → ∀ (v : Value), (∀ g, u0.ownBlock = some g → v.ownBlock ≠ some g) → (∀ g, v.ownBlock = some g → g < wr.heap.size) → v.ownBlock ≠ some g := by
    intro g e v h1 h2 e2
    rcases hat g e with h3 | h3
    · exact h1 g h3 e2
    · have := h2 g e2; omega
  refine ⟨(h.v.block (hk B h.v.lt h.n0)).put0 u0', ho.put7 hn0, ?_, ?_, h.b, hn0, h.n1, h.n2, ?_, ?_, h.d12⟩
  · exact (OwnR.kept7 (β := Nat) h.o hk (fun g e e' => h.d01 g e' e)).put7 h.n1
  · exact (OwnR.kept7 (β := Nat) h.p hk (fun g e e' => h.d02 g e' e)).put7 h.n2
  · exact fun g e => hn g e u1 h.d01 (fun g e => (h.o.lt g e).2)
  · exact fun g e => hn g e u2 h.d02 (fun g e => (h.p.lt g e).2)
theorem RwV.put1 {base B : Nat} {wr w2 : World} {u0 u1 u2 u1' : Value} {c : Rw} {l : List Int} (h : RwV base B wr u0 u1 u2 c) (ho : OwnR KI w2 base u1' l) (hk : KeptD u1 wr w2) (hat : ∀ g, u1'.ownBlock = some g → u1.ownBlock = some g ∨ wr.heap.size ≤ g) :
    RwV base B (w2.setCell ⟨B, 1, none⟩ u1') u0 u1' u2 ⟨c.rs, l, c.pa⟩ := by
  have hn1 : u1'.ownBlock ≠ some B := fun e => by
    rcases hat B e with h1 | h1
    · exact h.n1 h1
    · have := h.v.lt; omega
  have hn : ∀ g, u1'.ownBlock = some g → ∀ (v : Value), (∀ g, u1.ownBlock = some g → v.ownBlock ≠ some g) → (∀ g, v.ownBlock = some g → g < wr.heap.size) → v.ownBlock ≠ some g := by
    intro g e v h1 h2 e2
    rcases hat g e with h3 | h3
    · exact h1 g h3 e2
    · have := h2 g e2; omega
  refine ⟨(h.v.block (hk B h.v.lt h.n1)).put1 u1', ?_, ho.put7 hn1, ?_, h.b, h.n0, hn1, h.n2, ?_, h.d02, ?_⟩
  · exact (OwnR.kept7 (β := Nat) h.r hk (fun g e e' => h.d01 g e e')).put7 h.n0
  · exact (OwnR.kept7 (β := Nat) h.p hk (fun g e e' => h.d12 g e' e)).put7 h.n2
  · exact fun g e e' => hn g e' u0 (fun g a b => h.d01 g b a) (fun g e => (h.r.lt g e).2) e
  · exact fun g e => hn g e u2 h.d12 (fun g e => (h.p.lt g e).2)
theorem RwV.put2 {base B : Nat} {wr w2 : World} {u0 u1 u2 u2' : Value} {c : Rw} {l : List Int} (h : RwV base B wr u0 u1 u2 c) (ho : OwnR KI w2 base u2' l) (hk : KeptD u2 wr w2) (hat : ∀ g, u2'.ownBlock = some g → u2.ownBlock = some g ∨ wr.heap.size ≤ g) :
    RwV base B (w2.setCell ⟨B, 2, none⟩ u2') u0 u1 u2' ⟨c.rs, c.ow, l⟩ := by
  have hn2 : u2'.ownBlock ≠ some B := fun e => by
    rcases hat B e with h1 | h1
    · exact h.n2 h1
    · have := h.v.lt; omega
  have hn : ∀ g, u2'.ownBlock = some g → ∀ (v : Value), (∀ g, u2.ownBlock = some g → v.ownBlock ≠ some g) → (∀ g, v.ownBlock = some g → g < wr.heap.size) → v.ownBlock ≠ some g := by
    intro g e v h1 h2 e2
    rcases hat g e with h3 | h3
    · exact h1 g h3 e2
    · have := h2 g e2; omega
  refine ⟨(h.v.block (hk B h.v.lt h.n2)).put2 u2', ?_, ?_, ho.put7 hn2, h.b, h.n0, h.n1, hn2, h.d01, ?_, ?_⟩
  · exact (OwnR.kept7 (β := Nat) h.r hk (fun g e e' => h.d02 g e e')).put7 h.n0
  · exact (OwnR.kept7 (β := Nat) h.o hk (fun g e e' => h.d12 g e e')).put7 h.n1
  · exact fun g e e' => hn g e' u0 (fun g a b => h.d02 g b a) (fun g e => (h.r.lt g e).2) e
  · exact fun g e e' => hn g e' u1 (fun g a b => h.d12 g b a) (fun g e => (h.o.lt g e).2) e
theorem RwV.below {base B : Nat} {w w' : World} {u0 u1 u2 : Value} {c : Rw} (h : RwV base B w u0 u1 u2 c) (hb : Below w.heap.size w w') : RwV base B w' u0 u1 u2 c :=
  ⟨h.v.keep hb, h.r.below hb, h.o.below hb, h.p.below hb, h.b, h.n0, h.n1, h.n2, h.d01, h.d02, h.d12⟩
theorem RwV.nil (w : World) (T : TypeId) (base : Nat) (hb : base ≤ w.heap.size) : RwV base w.heap.size (w.alloc (.cells #[.slice none 0 0, .slice none 0 0, .slice none 0 0] T)) (.slice none 0 0) (.slice none 0 0) (.slice none 0 0) ⟨[], [], []⟩ :=
  ⟨VrP.new w _ _ _ T, OwnR.nil _ _ _, OwnR.nil _ _ _, OwnR.nil _ _ _, hb, by simp [Value.ownBlock], by simp [Value.ownBlock], by simp [Value.ownBlock], by simp [Value.ownBlock], by simp [Value.ownBlock], by simp [Value.ownBlock]⟩
theorem RwV.at {base B : Nat} {w : World} {u0 u1 u2 : Value} {c : Rw} (h : RwV base B w u0 u1 u2 c) (hz : Szs c.rs) : RwAt w u0 u1 u2 c :=
  ⟨RowAt.of_own kr_ok h.r, RowAt.of_own ki_ok h.o, RowAt.of_own ki_ok h.p, hz⟩
/-- A row whose slices are the call's own. -/
structure RwO (base : Nat) (w : World) (u0 u1 u2 : Value) (c : Rw) : Prop where
  r : OwnR KR w base u0 c.rs
  o : OwnR KI w base u1 c.ow
  p : OwnR KI w base u2 c.pa
  sz : Szs c.rs
theorem RwO.at {base : Nat} {w : World} {u0 u1 u2 : Value} {c : Rw} (h : RwO base w u0 u1 u2 c) : RwAt w u0 u1 u2 c :=
  ⟨RowAt.of_own kr_ok h.r, RowAt.of_own ki_ok h.o, RowAt.of_own ki_ok h.p, h.sz⟩
theorem RwO.below {base : Nat} {w w' : World} {u0 u1 u2 : Value} {c : Rw} (h : RwO base w u0 u1 u2 c) (hb : Below w.heap.size w w') : RwO base w' u0 u1 u2 c :=
  ⟨h.r.below hb, h.o.below hb, h.p.below hb, h.sz⟩
theorem RwO.mono {base base' : Nat} {w : World} {u0 u1 u2 : Value} {c : Rw} (h : RwO base w u0 u1 u2 c) (hb : base' ≤ base) : RwO base' w u0 u1 u2 c :=
  ⟨h.r.mono hb, h.o.mono hb, h.p.mono hb, h.sz⟩
theorem RwO.put {base B o : Nat} {w : World} {u0 u1 u2 : Value} {c : Rw} (h : RwO base w u0 u1 u2 c) (hb : B < base) (x : Value) : RwO base (w.setCell ⟨B, o, none⟩ x) u0 u1 u2 c :=
  ⟨h.r.put7 (h.r.lo hb), h.o.put7 (h.o.lo hb), h.p.put7 (h.p.lo hb), h.sz⟩
theorem own_at7 {a : Nat} {n c : Nat} : ∀ g, (Value.slice (some ⟨a, 0, none⟩) n c).ownBlock = some g → g = a := by
  intro g h
  simp [Value.ownBlock] at h
  exact h.symm
end Go.Proofs.Ytllagelopdedfaa
