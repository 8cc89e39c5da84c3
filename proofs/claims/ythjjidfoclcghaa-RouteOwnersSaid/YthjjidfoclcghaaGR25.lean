/- Texts of this proof, one behind the other: WireMem, PastSame, PastRefCheck, WireCheck, WireNext, WireParts. -/
import Derived.Test.YthjjidfoclcghaaGR24
import Derived.Deep.QuietTactic
import Derived.BigQuiet
import Derived.Deep.DeepCutAuto
import Derived.Deep.RegionHeld3
/- What a call that writes some blocks of its own leaves as it was; a reader's two cells, a version's six. -/
namespace Go.Proofs.Ythjjidfoclcghaa
open Go.RowKit
set_option linter.unusedVariables false
set_option linter.unusedSimpArgs false

/-- All blocks are as they were, but those of P, and new ones. -/
structure Mv (P : Nat → Prop) (w w' : World) : Prop where
  os : w'.os = w.os
  tape : w'.tape = w.tape
  output : w'.output = w.output
  size : w.heap.size ≤ w'.heap.size
  block : ∀ k, k < w.heap.size → ¬ P k → w'.heap[k]? = w.heap[k]?
theorem Mv.refl (P : Nat → Prop) (w : World) : Mv P w w := ⟨rfl, rfl, rfl, Nat.le_refl _, fun _ _ _ => rfl⟩
theorem Mv.of_below {P : Nat → Prop} {w w' : World} (h : Below w.heap.size w w') : Mv P w w' := ⟨h.os, h.tape, h.output, h.size, fun k hk _ => h.block k hk⟩
theorem Mv.trans {P : Nat → Prop} {a b c : World} (h : Mv P a b) (k : Mv P b c) : Mv P a c :=
  ⟨k.os.trans h.os, k.tape.trans h.tape, k.output.trans h.output, Nat.le_trans h.size k.size, fun i hi hp => (k.block i (Nat.lt_of_lt_of_le hi h.size) hp).trans (h.block i hi hp)⟩
theorem Mv.below {P : Nat → Prop} {w w' : World} (h : Mv P w w') {n : Nat} (hn : ∀ k, k < n → ¬ P k) (hs : n ≤ w.heap.size) : Below n w w' :=
  ⟨h.os, h.tape, h.output, h.size, fun k hk => h.block k (Nat.lt_of_lt_of_le hk hs) (hn k hk)⟩
theorem Mv.mono {P Q : Nat → Prop} {w w' : World} (h : Mv P w w') (hpq : ∀ k, P k → Q k) : Mv Q w w' :=
  ⟨h.os, h.tape, h.output, h.size, fun k hk hq => h.block k hk (fun hp => hq (hpq k hp))⟩
theorem Mv.set {P : Nat → Prop} {w w' : World} (h : Mv P w w') {b o : Nat} (hb : P b) (x : Value) : Mv P w (w'.setCell ⟨b, o, none⟩ x) := by
  have k := (Below.refl b w').setCell (p := ⟨b, o, none⟩) (Nat.le_refl b) x
  refine ⟨k.os.trans h.os, k.tape.trans h.tape, k.output.trans h.output, Nat.le_trans h.size k.size, fun i hi hp => ?_⟩
  have hne : i ≠ b := fun e => hp (e ▸ hb)
  rw [← h.block i hi hp]
  exact Below.heap_setCell _ _ _ _ hne
theorem Mv.alloc {P : Nat → Prop} {w w' : World} (h : Mv P w w') (o : Obj) : Mv P w (w'.alloc o) := h.trans (Mv.of_below (balloc (Below.refl _ _) _))
theorem Mv.step {P : Nat → Prop} {w w1 w2 : World} (h : Mv P w w1) (k : Below w1.heap.size w1 w2) : Mv P w w2 := h.trans (Mv.of_below k)
theorem Mv.cell {P : Nat → Prop} {w w' : World} (h : Mv P w w') {b o : Nat} {x : Value} (hp : ¬ P b) (hc : w.cell? ⟨b, o, none⟩ = some x) : w'.cell? ⟨b, o, none⟩ = some x := by
  rw [World.cell?_of_block (h.block b (lt_of_cellN hc) hp)]
  exact hc

/-- A reader: its text, its place. -/
structure RdP (w : World) (R : Nat) (s : ByteArray) (a : Int) : Prop where
  c0 : w.cell? ⟨R, 0, none⟩ = some (.string s)
  c1 : w.cell? ⟨R, 1, none⟩ = some (.int .i64 a)
  f1 : w.frozen? ⟨R, 1, none⟩ = false
theorem RdP.lt {w : World} {R : Nat} {s : ByteArray} {a : Int} (h : RdP w R s a) : R < w.heap.size := lt_of_cellN h.c0
theorem RdP.block {w w' : World} {R : Nat} {s : ByteArray} {a : Int} (h : RdP w R s a) (hb : w'.heap[R]? = w.heap[R]?) : RdP w' R s a :=
  ⟨by rw [World.cell?_of_block hb]; exact h.c0, by rw [World.cell?_of_block hb]; exact h.c1, by rw [World.frozen?_of_block hb]; exact h.f1⟩
theorem RdP.keep {w w' : World} {R : Nat} {s : ByteArray} {a : Int} (h : RdP w R s a) (hb : Below w.heap.size w w') : RdP w' R s a := h.block (hb.block R h.lt)
theorem RdP.mv {P : Nat → Prop} {w w' : World} {R : Nat} {s : ByteArray} {a : Int} (h : RdP w R s a) (hb : Mv P w w') (hp : ¬ P R) : RdP w' R s a := h.block (hb.block R h.lt hp)
theorem RdP.put {w : World} {R : Nat} {s : ByteArray} {a : Int} (h : RdP w R s a) (e : Int) : RdP (w.setCell ⟨R, 1, none⟩ (.int .i64 e)) R s e :=
  ⟨by rw [World.cell?_setCell_other _ _ _ _ (by simp)]; exact h.c0, World.cell?_setCell_same _ _ _ h.c1, by simpa using h.f1⟩
theorem RdP.other {w : World} {R : Nat} {s : ByteArray} {a : Int} (h : RdP w R s a) {b o : Nat} (hne : b ≠ R) (x : Value) : RdP (w.setCell ⟨b, o, none⟩ x) R s a :=
  h.block (Below.heap_setCell _ _ _ _ (Ne.symm hne))
theorem RdP.new (w : World) (s : ByteArray) (T : TypeId) : RdP (w.alloc (.cells #[.string s, .int .i64 0] T)) w.heap.size s 0 := ⟨by simp, by simp, by simp⟩
theorem RdP.two {w : World} {R : Nat} {s : ByteArray} {a : Int} (h : RdP w R s a) : w.cell? ⟨R, 0, none⟩ = some (.string s) ∧ w.cell? ⟨R, 1, none⟩ = some (.int .i64 a) := ⟨h.c0, h.c1⟩
theorem keepR {W w' : World} {R : Nat} {s : ByteArray} {a : Int} (hb : Below W.heap.size W w') (h : W.cell? ⟨R, 0, none⟩ = some (.string s) ∧ W.cell? ⟨R, 1, none⟩ = some (.int .i64 a)) :
    w'.cell? ⟨R, 0, none⟩ = some (.string s) ∧ w'.cell? ⟨R, 1, none⟩ = some (.int .i64 a) := ⟨kc hb h.1, kc hb h.2⟩

/-- A version and the value that is its past. -/
abbrev wvs (v : Wv) (u : Value) : Array Value := #[.string v.key, .string v.val, .bool v.gone, .int .i64 v.st.1, .int .i64 v.st.2, u]
/-- A variable of a version's type. -/
structure VwP (w : World) (b : Nat) (v : Wv) (u : Value) : Prop where
  c0 : w.cell? ⟨b, 0, none⟩ = some (.string v.key)
  c1 : w.cell? ⟨b, 1, none⟩ = some (.string v.val)
  c2 : w.cell? ⟨b, 2, none⟩ = some (.bool v.gone)
  c3 : w.cell? ⟨b, 3, none⟩ = some (.int .i64 v.st.1)
  c4 : w.cell? ⟨b, 4, none⟩ = some (.int .i64 v.st.2)
  c5 : w.cell? ⟨b, 5, none⟩ = some u
  f : ∀ j, j < 6 → w.frozen? ⟨b, j, none⟩ = false
theorem VwP.lt {w : World} {b : Nat} {v : Wv} {u : Value} (h : VwP w b v u) : b < w.heap.size := lt_of_cellN h.c0
theorem VwP.block {w w' : World} {b : Nat} {v : Wv} {u : Value} (h : VwP w b v u) (hb : w'.heap[b]? = w.heap[b]?) : VwP w' b v u := by
  refine ⟨?_, ?_, ?_, ?_, ?_, ?_, fun j hj => by rw [World.frozen?_of_block hb]; exact h.f j hj⟩ <;> rw [World.cell?_of_block hb]
  · exact h.c0
  · exact h.c1
  · exact h.c2
  · exact h.c3
  · exact h.c4
  · exact h.c5
theorem VwP.keep {w w' : World} {b : Nat} {v : Wv} {u : Value} (h : VwP w b v u) (hb : Below w.heap.size w w') : VwP w' b v u := h.block (hb.block b h.lt)
theorem VwP.mv {P : Nat → Prop} {w w' : World} {b : Nat} {v : Wv} {u : Value} (h : VwP w b v u) (hb : Mv P w w') (hp : ¬ P b) : VwP w' b v u := h.block (hb.block b h.lt hp)
theorem VwP.other {w : World} {b : Nat} {v : Wv} {u : Value} (h : VwP w b v u) {b' o : Nat} (hne : b' ≠ b) (x : Value) : VwP (w.setCell ⟨b', o, none⟩ x) b v u :=
  h.block (Below.heap_setCell _ _ _ _ (Ne.symm hne))
theorem VwP.new (w : World) (v : Wv) (u : Value) (T : TypeId) : VwP (w.alloc (.cells (wvs v u) T)) w.heap.size v u :=
  ⟨by simp, by simp, by simp, by simp, by simp, by simp, fun j hj => by simp⟩
/-- One cell is written. -/
theorem cell_put {w : World} {b i j : Nat} {x y : Value} (hne : j ≠ i) (h : w.cell? ⟨b, i, none⟩ = some y) : (w.setCell ⟨b, j, none⟩ x).cell? ⟨b, i, none⟩ = some y := by
  rw [World.cell?_setCell_other _ _ _ _ (by simp [hne])]; exact h
theorem VwP.put0 {w : World} {b : Nat} {v : Wv} {u : Value} (h : VwP w b v u) (x : ByteArray) : VwP (w.setCell ⟨b, 0, none⟩ (.string x)) b ⟨x, v.val, v.gone, v.st, v.past⟩ u :=
  ⟨World.cell?_setCell_same _ _ _ h.c0, cell_put (by decide) h.c1, cell_put (by decide) h.c2, cell_put (by decide) h.c3, cell_put (by decide) h.c4, cell_put (by decide) h.c5, fun j hj => by simpa using h.f j hj⟩
theorem VwP.put1 {w : World} {b : Nat} {v : Wv} {u : Value} (h : VwP w b v u) (x : ByteArray) : VwP (w.setCell ⟨b, 1, none⟩ (.string x)) b ⟨v.key, x, v.gone, v.st, v.past⟩ u :=
  ⟨cell_put (by decide) h.c0, World.cell?_setCell_same _ _ _ h.c1, cell_put (by decide) h.c2, cell_put (by decide) h.c3, cell_put (by decide) h.c4, cell_put (by decide) h.c5, fun j hj => by simpa using h.f j hj⟩
theorem VwP.put2 {w : World} {b : Nat} {v : Wv} {u : Value} (h : VwP w b v u) (x : Bool) : VwP (w.setCell ⟨b, 2, none⟩ (.bool x)) b ⟨v.key, v.val, x, v.st, v.past⟩ u :=
  ⟨cell_put (by decide) h.c0, cell_put (by decide) h.c1, World.cell?_setCell_same _ _ _ h.c2, cell_put (by decide) h.c3, cell_put (by decide) h.c4, cell_put (by decide) h.c5, fun j hj => by simpa using h.f j hj⟩
theorem VwP.put3 {w : World} {b : Nat} {v : Wv} {u : Value} (h : VwP w b v u) (x y : Int) : VwP ((w.setCell ⟨b, 3, none⟩ (.int .i64 x)).setCell ⟨b, 4, none⟩ (.int .i64 y)) b ⟨v.key, v.val, v.gone, (x, y), v.past⟩ u :=
  ⟨cell_put (by decide) (cell_put (by decide) h.c0), cell_put (by decide) (cell_put (by decide) h.c1), cell_put (by decide) (cell_put (by decide) h.c2), cell_put (by decide) (World.cell?_setCell_same _ _ _ h.c3), World.cell?_setCell_same _ _ _ (cell_put (by decide) h.c4), cell_put (by decide) (cell_put (by decide) h.c5), fun j hj => by simpa using h.f j hj⟩
theorem VwP.put5 {w : World} {b : Nat} {v : Wv} {u : Value} (h : VwP w b v u) (x : Value) (p : List De) : VwP (w.setCell ⟨b, 5, none⟩ x) b ⟨v.key, v.val, v.gone, v.st, p⟩ x :=
  ⟨cell_put (by decide) h.c0, cell_put (by decide) h.c1, cell_put (by decide) h.c2, cell_put (by decide) h.c3, cell_put (by decide) h.c4, World.cell?_setCell_same _ _ _ h.c5, fun j hj => by simpa using h.f j hj⟩
end Go.Proofs.Ythjjidfoclcghaa
/- What slices.Equal, past.Same and the document's Same answer. -/
namespace Go.Proofs.Ythjjidfoclcghaa
open Go.RowKit
set_option linter.unusedVariables false

theorem bdrewN (w : World) (n : Nat) : Below w.heap.size w (w.drewN n) := ⟨rfl, rfl, rfl, Nat.le_refl _, fun _ _ => rfl⟩

end Go.Proofs.Ythjjidfoclcghaa
/- What the document's Check of pasts answers. -/
namespace Go.Proofs.Ythjjidfoclcghaa
open Go.RowKit
set_option linter.unusedVariables false
set_option linter.unusedSimpArgs false

theorem folD_false {p : List De} {d : De} (h : okD d = false) : folD p d = false := by simp [folD, h]
theorem folD_nil {d : De} (h : okD d = true) : folD [] d = true := by simp [folD, h]
theorem folD_at {l : List De} {k : Nat} {d : De} (hk : k + 1 ≤ l.length) (h : okD d = true) : folD (l.take (k + 1)) d = klt (l[k]'(by omega)).1 d.1 := by
  unfold folD
  rw [h, Bool.true_and, List.take_succ_eq_append_getElem (by omega), List.getLast?_concat]

end Go.Proofs.Ythjjidfoclcghaa
/- What wire.Check and the document's Check answer of a version. -/
namespace Go.Proofs.Ythjjidfoclcghaa
open Go.RowKit
set_option linter.unusedVariables false
set_option linter.unusedSimpArgs false

/-- What is asked of a version that is given: no text is longer than a machine's, and its past is a row in memory. -/
structure WvOk (w : World) (v : Wv) (u : Value) : Prop where
  key : v.key.size ≤ 1099511627776
  val : v.val.size ≤ 1099511627776
  len : v.past.length ≤ 1000000
  szd : Szd v.past
  at_ : DepAt w u v.past
theorem WvOk.below {w w' : World} {v : Wv} {u : Value} (h : WvOk w v u) (hb : Below w.heap.size w w') : WvOk w' v u := ⟨h.key, h.val, h.len, h.szd, h.at_.below hb⟩
theorem WvOk.drew {w : World} {v : Wv} {u : Value} (h : WvOk w v u) : WvOk w.drew v u := ⟨h.key, h.val, h.len, h.szd, h.at_⟩
theorem ba_zero {s : ByteArray} (h : s.size = 0) : s = ⟨#[]⟩ := by
  obtain ⟨d⟩ := s
  have : d.size = 0 := h
  rw [Array.eq_empty_of_size_eq_zero this]
def vbW (v : Wv) : Bool := decide (v.val.size ≤ 32) && (decide (v.val.size = 0) || !v.gone)

end Go.Proofs.Ythjjidfoclcghaa
/- The reader's next part, of each kind. -/
namespace Go.Proofs.Ythjjidfoclcghaa
open Go.RowKit
set_option linter.unusedVariables false
set_option linter.unusedSimpArgs false

theorem rdV_form (r : Option (Nat × Nat)) : ∃ (x m : Nat), rdV r = .tuple #[.int .u64 (x : Int), .int .i64 (m : Int), .bool r.isSome] ∧ ∀ y k, r = some (y, k) → x = y ∧ m = k := by
  cases r with
  | none => exact ⟨0, 0, rfl, fun y k h => by cases h⟩
  | some z => obtain ⟨y, k⟩ := z; exact ⟨y, k, rfl, fun y' k' h => by cases h; exact ⟨rfl, rfl⟩⟩
theorem rdtV_form (r : Option (List UInt8 × Nat)) : ∃ (x : ByteArray) (m : Nat), rdtV r = .tuple #[.string x, .int .i64 (m : Int), .bool r.isSome] ∧ ∀ y k, r = some (y, k) → x = ⟨y.toArray⟩ ∧ m = k := by
  cases r with
  | none => exact ⟨⟨#[]⟩, 0, rfl, fun y k h => by cases h⟩
  | some z => obtain ⟨y, k⟩ := z; exact ⟨⟨y.toArray⟩, k, rfl, fun y' k' h => by cases h; exact ⟨rfl, rfl⟩⟩
theorem srV_form (r : Option ((Int × Int) × Nat)) : ∃ (x y : Int) (m : Nat), srV r = .tuple #[.agg #[.int .i64 x, .int .i64 y], .int .i64 (m : Int), .bool r.isSome] ∧ ∀ z k, r = some (z, k) → (x, y) = z ∧ m = k := by
  cases r with
  | none => exact ⟨0, 0, 0, rfl, fun y k h => by cases h⟩
  | some z => obtain ⟨⟨x, y⟩, k⟩ := z; exact ⟨x, y, k, rfl, fun y' k' h => by cases h; exact ⟨rfl, rfl⟩⟩
theorem prV_form (r : Option (List De × Nat)) : ∃ (m : Nat), prE r = m ∧ ∀ z k, r = some (z, k) → m = k := ⟨_, rfl, fun z k h => by rw [h]; rfl⟩

theorem wold_cells {W w1 : World} (hb : Below W.heap.size W w1) (b o : Nat) (h : b < W.heap.size) : w1.cell? ⟨b, o, none⟩ = W.cell? ⟨b, o, none⟩ := hb.cell (p := ⟨b, o, none⟩) h
theorem wold_marks {W w1 : World} (hb : Below W.heap.size W w1) (b o : Nat) (h : b < W.heap.size) : w1.frozen? ⟨b, o, none⟩ = W.frozen? ⟨b, o, none⟩ := hb.frozen (p := ⟨b, o, none⟩) h
theorem keepRS {W : World} {R B : Nat} {s : ByteArray} {a : Int} {x y : Value} (h : W.cell? ⟨R, 0, none⟩ = some (.string s) ∧ W.cell? ⟨R, 1, none⟩ = some (.int .i64 a)) (hne : R ≠ B) :
    ((W.setCell ⟨B, 0, none⟩ x).setCell ⟨B, 1, none⟩ y).cell? ⟨R, 0, none⟩ = some (.string s) ∧ ((W.setCell ⟨B, 0, none⟩ x).setCell ⟨B, 1, none⟩ y).cell? ⟨R, 1, none⟩ = some (.int .i64 a) := by
  have hb : ((W.setCell ⟨B, 0, none⟩ x).setCell ⟨B, 1, none⟩ y).heap[R]? = W.heap[R]? := by rw [Below.heap_setCell _ _ _ _ hne, Below.heap_setCell _ _ _ _ hne]
  refine ⟨?_, ?_⟩
  · rw [World.cell?_of_block hb]; exact h.1
  · rw [World.cell?_of_block hb]; exact h.2
theorem Var2.block {w w' : World} {b : Nat} {p : Int × Int} (h : Var2 w b p) (hb : w'.heap[b]? = w.heap[b]?) : Var2 w' b p :=
  ⟨by rw [World.cell?_of_block hb]; exact h.c0, by rw [World.cell?_of_block hb]; exact h.c1, by rw [World.frozen?_of_block hb]; exact h.f0, by rw [World.frozen?_of_block hb]; exact h.f1⟩
/-- A new stamp in memory, and what stands beside it. -/
def StNew (w0 : World) (m : Nat) (ok : Bool) (x y : Int) (s6 s7 s8 : Value) (wx : World) : Prop :=
  ∃ B, s6 = .pointer (some ⟨B, 0, none⟩) ∧ s7 = .int .i64 (m : Int) ∧ s8 = .bool ok ∧ wx.cell? ⟨B, 0, none⟩ = some (.int .i64 x) ∧ wx.cell? ⟨B, 1, none⟩ = some (.int .i64 y) ∧ w0.heap.size ≤ B ∧ Below w0.heap.size w0 wx
theorem stNew_new {w0 w1 : World} {m : Nat} {ok : Bool} {x y : Int} {T : TypeId} (hb : Below w0.heap.size w0 w1) : StNew w0 m ok x y (.pointer (some ⟨w1.heap.size, 0, none⟩)) (.int .i64 (m : Int)) (.bool ok) (w1.alloc (.cells #[.int .i64 x, .int .i64 y] T)) :=
  ⟨w1.heap.size, rfl, rfl, rfl, by simp, by simp, hb.size, balloc hb _⟩
theorem stNew_set {w0 w1 : World} {B m : Nat} {ok : Bool} {x y : Int} {x0 x1 : Value} (hle : w0.heap.size ≤ B) (c0 : w1.cell? ⟨B, 0, none⟩ = some x0) (c1 : w1.cell? ⟨B, 1, none⟩ = some x1) (hb : Below w0.heap.size w0 w1) :
    StNew w0 m ok x y (.pointer (some ⟨B, 0, none⟩)) (.int .i64 (m : Int)) (.bool ok) ((w1.setCell ⟨B, 0, none⟩ (.int .i64 x)).setCell ⟨B, 1, none⟩ (.int .i64 y)) :=
  ⟨B, rfl, rfl, rfl, cell_put (by decide) (World.cell?_setCell_same _ _ _ c0), World.cell?_setCell_same _ _ _ (cell_put (by decide) c1), hle, (hb.setCell hle _).setCell hle _⟩

end Go.Proofs.Ythjjidfoclcghaa
/- The reader's parts: numbers, signs, texts, stamps, pasts. -/
namespace Go.Proofs.Ythjjidfoclcghaa
open Go.RowKit
set_option linter.unusedVariables false
set_option linter.unusedSimpArgs false

/-- A number of at most 63. -/
def rdI (s : List UInt8) (a : Int) : Option (Int × Nat) :=
  match rd s a with
  | none => none
  | some (n, e) => if n ≤ 63 then some ((n : Int), e) else none
def rdF (s : List UInt8) (a : Int) : Option (Bool × Nat) :=
  match rdI s a with
  | none => none
  | some (n, e) => if n ≤ 1 then some (decide (n = 1), e) else none
def rdPa (s : List UInt8) (a : Int) : Option (Int × Nat) :=
  match rdI s a with
  | none => none
  | some (n, e) => some (n - 1, e)
theorem ret2b {v v' : Value} {b c : Bool} (hv : v = v') (h : b = c) : Ending.returned (.tuple #[v, .bool b]) = .returned (.tuple #[v', .bool c]) := by subst hv h; rfl
theorem rdI_some {s : List UInt8} {a : Int} {n : Int} {e : Nat} (h : rdI s a = some (n, e)) : ∃ k : Nat, n = k ∧ k ≤ 63 ∧ rd s a = some (k, e) := by
  unfold rdI at h
  cases hr : rd s a with
  | none => rw [hr] at h; cases h
  | some x =>
    obtain ⟨k, e'⟩ := x
    rw [hr] at h
    simp only at h
    by_cases c : k ≤ 63
    · rw [if_pos c] at h
      cases h
      exact ⟨k, rfl, c, rfl⟩
    · rw [if_neg c] at h; cases h

end Go.Proofs.Ythjjidfoclcghaa
