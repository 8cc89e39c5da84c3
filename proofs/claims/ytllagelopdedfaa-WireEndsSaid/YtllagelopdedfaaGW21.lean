/- What wire.ReadRow answers. -/
import Derived.Test.YtllagelopdedfaaGW20
namespace Go.Proofs.Ytllagelopdedfaa
open Go.RowKit
set_option linter.unusedVariables false
set_option linter.unusedSimpArgs false

/-- A text's reading, as the row of texts takes it. -/
def F2 (s : ByteArray) (a : Int) : Option (ByteArray × Nat) := (rdt s.data.toList a (s.size : Int)).map fun p => (⟨p.1.toArray⟩, p.2)
theorem goN_map {α β : Type} (f : Int → Option (α × Nat)) (g : α → β) : ∀ (n : Nat) (acc : List α) (a : Nat), goN (fun b => (f b).map fun p => (g p.1, p.2)) n (acc.map g) a = (goN f n acc a).map fun p => (p.1.map g, p.2)
  | 0, acc, a => rfl
  | n + 1, acc, a => by
    rw [goN, goN]
    cases f a with
    | none => rfl
    | some x =>
      obtain ⟨y, e⟩ := x
      show goN _ n (acc.map g ++ [g y]) e = _
      have := goN_map f g n (acc ++ [y]) e
      rw [List.map_append] at this
      exact this
theorem F2_goN (s : ByteArray) (n : Nat) (a : Nat) : goN (F2 s) n [] a = (goN (fun b => rdt s.data.toList b (s.size : Int)) n [] a).map fun p => (p.1.map fun u => ⟨u.toArray⟩, p.2) := by
  have h := goN_map (fun b => rdt s.data.toList b (s.size : Int)) (fun u : List UInt8 => (⟨u.toArray⟩ : ByteArray)) n [] a
  exact h
theorem F2_small {s : ByteArray} {n a : Nat} {l : List ByteArray} {e : Nat} (h : goN (F2 s) n [] a = some (l, e)) : ∀ x ∈ l, x.size ≤ s.size := by
  intro x hx
  rcases goN_mem _ _ _ _ _ h x hx with h1 | ⟨b, e', h1⟩
  · simp at h1
  · unfold F2 at h1
    cases hr : rdt s.data.toList (b : Int) (s.size : Int) with
    | none => rw [hr] at h1; cases h1
    | some y =>
      rw [hr] at h1
      cases h1
      have := (rdt_end hr).2.2
      show y.1.toArray.size ≤ s.size
      rw [List.size_toArray]
      exact this
theorem map_us (l : List ByteArray) : (l.map fun x => x.data.toList).map (fun u => (⟨u.toArray⟩ : ByteArray)) = l := by
  rw [List.map_map]
  conv => rhs; rw [← List.map_id l]
  rfl
theorem rowW_eq2 (s : ByteArray) : rowW s.data.toList =
    match rdI s.data.toList 0 with
    | none => none
    | some (n, e0) =>
      match goN (F2 s) (n - 1).toNat [] e0 with
      | none => none
      | some (le, e1) =>
        match goN (rdI s.data.toList) n.toNat [] e1 with
        | none => none
        | some (ow, e2) =>
          match rdI s.data.toList (e2 : Int) with
          | none => none
          | some (m, e3) =>
            match goN (rdPa s.data.toList) m.toNat [] e3 with
            | none => none
            | some (pa, e4) => some (⟨wbas (Km.chainL [] (le.map fun x => x.data.toList)), ow, pa⟩, e4) := by
  unfold rowW
  cases rdI s.data.toList 0 with
  | none => rfl
  | some y =>
    obtain ⟨n, e0⟩ := y
    simp only [F2_goN]
    have e : (s.data.toList.length : Int) = (s.size : Int) := rfl
    rw [e]
    cases goN (fun b => rdt s.data.toList b (s.size : Int)) (n - 1).toNat [] e0 with
    | none => rfl
    | some z =>
      obtain ⟨us, e1⟩ := z
      simp only [Option.map]
      have e3 : ((us.map fun u => (⟨u.toArray⟩ : ByteArray)).map fun x => x.data.toList) = us := by
        rw [List.map_map]
        conv => rhs; rw [← List.map_id us]
        rfl
      rw [e3]
      rfl
theorem wbas_szs6 {us : List (List UInt8)} (h : ∀ u ∈ us, u.length ≤ 1099511627776) : Szs (wbas (Km.chainL [] us)) := by
  intro r hr
  unfold wbas at hr
  obtain ⟨q, hq, rfl⟩ := List.mem_map.1 hr
  obtain ⟨h1, h2⟩ := chain_mem us [] q hq
  constructor
  · show q.1.toArray.size ≤ 1099511627776
    rw [List.size_toArray]
    rcases h1 with h1 | h1
    · rw [h1]; simp
    · exact h _ h1
  · show q.2.toArray.size ≤ 1099511627776
    rw [List.size_toArray]
    rcases h2 with h2 | h2
    · rw [h2]; simp
    · exact h _ h2
theorem part_text (R : Nat) (s : ByteArray) (hs : s.size ≤ 9223372036854775807) : PartOk 60 R s (fun x : ByteArray => .string x) (fun x z => x = z) (F2 s) := fun W m h =>
  (text_part R s m W hs h).mono fun e w' ⟨x, m', he, hr, hx, hm⟩ => ⟨x, m', by rw [he]; unfold F2; rw [Option.isSome_map], hr, fun z k hk => by
    unfold F2 at hk
    cases hq : rdt s.data.toList (m : Int) (s.size : Int) with
    | none => rw [hq] at hk; cases hk
    | some y =>
      rw [hq] at hk
      cases hk
      exact hx _ _ hq, hm⟩
theorem part_num (R : Nat) (s : ByteArray) (hs : s.size ≤ 9223372036854775807) : PartOk 58 R s (fun x : Int => .int .i64 x) (fun x z => x = z) (rdI s.data.toList) := fun W m h =>
  (number_part R s m W hs h).mono fun e w' ⟨x, m', he, hr, hx, hm⟩ => ⟨x, m', he, hr, hx, hm⟩
theorem part_par (R : Nat) (s : ByteArray) (hs : s.size ≤ 9223372036854775807) : PartOk 62 R s (fun x : Int => .int .i64 x) (fun x z => x = z) (rdPa s.data.toList) := fun W m h =>
  (parent_part R s m W hs h).mono fun e w' ⟨x, m', he, hr, hx, hm⟩ => ⟨x, m', he, hr, hx, hm⟩

/-- The blocks that the call makes stand one behind the other. -/
def Ds (R V N M E b : Nat) : Prop := R < V ∧ V < N ∧ N < M ∧ M < E ∧ E < b
def RP (R V N M E k : Nat) : Prop := k = R ∨ k = V ∨ k = N ∨ k = M ∨ k = E
/-- A reader, the variables that it fills, and the rows that they hold. -/
structure RQ (w3 W : World) (R V N M E : Nat) (s : ByteArray) (n m : Int) (ue : Value) (le : List ByteArray) (uo : Value) (lo : List Int) (up : Value) (lp : List Int) (a : Int) : Prop where
  rd : RdP W R s a
  cn : W.cell? ⟨N, 0, none⟩ = some (.int .i64 n)
  fn : W.frozen? ⟨N, 0, none⟩ = false
  cm : W.cell? ⟨M, 0, none⟩ = some (.int .i64 m)
  fm : W.frozen? ⟨M, 0, none⟩ = false
  ce : W.cell? ⟨E, 0, none⟩ = some ue
  fe : W.frozen? ⟨E, 0, none⟩ = false
  v : VrP W V (.slice none 0 0) uo up
  oe : OwnR KS W w3.heap.size ue le
  oo : OwnR KI W w3.heap.size uo lo
  op : OwnR KI W w3.heap.size up lp
  zl : le.length ≤ 1000 ∧ lo.length ≤ 1000 ∧ lp.length ≤ 1000
  mv : Mv (RP R V N M E) w3 W
theorem OwnR.mvq {α : Type} {K : RK α} {P : Nat → Prop} {W W' : World} {base : Nat} {v : Value} {l : List α} (h : OwnR K W base v l) (hm : Mv P W W') (hp : ∀ k, base ≤ k → ¬ P k) : OwnR K W' base v l :=
  h.block (fun g e => hm.block g (h.lt g e).2 (hp g (h.lt g e).1))
theorem mvf {P : Nat → Prop} {W W' : World} {b o : Nat} {x : Value} (hm : Mv P W W') (c : W.cell? ⟨b, o, none⟩ = some x) (hp : ¬ P b) (f : W.frozen? ⟨b, o, none⟩ = false) : W'.frozen? ⟨b, o, none⟩ = false := by
  rw [World.frozen?_of_block (hm.block b (lt_of_cellN c) hp)]; exact f
section
variable {w3 W wm : World} {R V N M E : Nat} {s : ByteArray} {n m : Int} {ue : Value} {le : List ByteArray} {uo : Value} {lo : List Int} {up : Value} {lp : List Int} {a a' : Int}
theorem RQ.mvd (h : RQ w3 W R V N M E s n m ue le uo lo up lp a) (d : Ds R V N M E w3.heap.size) (hm : Mv (· = R) W wm) (hr : RdP wm R s a') : RQ w3 wm R V N M E s n m ue le uo lo up lp a' := by
  obtain ⟨d1, d2, d3, d4, d5⟩ := d
  exact ⟨hr, hm.cell (fun e => by omega) h.cn, mvf hm h.cn (fun e => by omega) h.fn, hm.cell (fun e => by omega) h.cm, mvf hm h.cm (fun e => by omega) h.fm, hm.cell (fun e => by omega) h.ce, mvf hm h.ce (fun e => by omega) h.fe,
    h.v.block (hm.block V h.v.lt (fun e => by omega)), h.oe.mvq hm (fun k hk e => by omega), h.oo.mvq hm (fun k hk e => by omega), h.op.mvq hm (fun k hk e => by omega), h.zl, h.mv.trans (hm.mono (fun k e => .inl e))⟩
theorem RQ.setN (h : RQ w3 W R V N M E s n m ue le uo lo up lp a) (d : Ds R V N M E w3.heap.size) (x : Int) : RQ w3 (W.setCell ⟨N, 0, none⟩ (.int .i64 x)) R V N M E s x m ue le uo lo up lp a := by
  obtain ⟨d1, d2, d3, d4, d5⟩ := d
  have hb : ∀ k, k ≠ N → (W.setCell ⟨N, 0, none⟩ (.int .i64 x)).heap[k]? = W.heap[k]? := fun k hk => Below.heap_setCell _ _ _ _ hk
  exact ⟨h.rd.other (by omega) _, World.cell?_setCell_same _ _ _ h.cn, by rw [World.frozen?_setCell]; exact h.fn, by rw [World.cell?_of_block (hb M (by omega))]; exact h.cm, by rw [World.frozen?_setCell]; exact h.fm, by rw [World.cell?_of_block (hb E (by omega))]; exact h.ce, by rw [World.frozen?_setCell]; exact h.fe,
    h.v.block (hb V (by omega)), h.oe.block (fun g e => hb g (by have := (h.oe.lt g e).1; omega)), h.oo.block (fun g e => hb g (by have := (h.oo.lt g e).1; omega)), h.op.block (fun g e => hb g (by have := (h.op.lt g e).1; omega)), h.zl, h.mv.set (.inr (.inr (.inl rfl))) _⟩
theorem RQ.setM (h : RQ w3 W R V N M E s n m ue le uo lo up lp a) (d : Ds R V N M E w3.heap.size) (x : Int) : RQ w3 (W.setCell ⟨M, 0, none⟩ (.int .i64 x)) R V N M E s n x ue le uo lo up lp a := by
  obtain ⟨d1, d2, d3, d4, d5⟩ := d
  have hb : ∀ k, k ≠ M → (W.setCell ⟨M, 0, none⟩ (.int .i64 x)).heap[k]? = W.heap[k]? := fun k hk => Below.heap_setCell _ _ _ _ hk
  exact ⟨h.rd.other (by omega) _, by rw [World.cell?_of_block (hb N (by omega))]; exact h.cn, by rw [World.frozen?_setCell]; exact h.fn, World.cell?_setCell_same _ _ _ h.cm, by rw [World.frozen?_setCell]; exact h.fm, by rw [World.cell?_of_block (hb E (by omega))]; exact h.ce, by rw [World.frozen?_setCell]; exact h.fe,
    h.v.block (hb V (by omega)), h.oe.block (fun g e => hb g (by have := (h.oe.lt g e).1; omega)), h.oo.block (fun g e => hb g (by have := (h.oo.lt g e).1; omega)), h.op.block (fun g e => hb g (by have := (h.op.lt g e).1; omega)), h.zl, h.mv.set (.inr (.inr (.inr (.inl rfl)))) _⟩
theorem RQ.sevE {u : Value} {l : List ByteArray} (h : RQ w3 W R V N M E s n m ue le uo lo up lp a) (d : Ds R V N M E w3.heap.size) (hs : Sev KS W wm R E 0 s u l a') (hl : l.length ≤ 1000) : RQ w3 wm R V N M E s n m u l uo lo up lp a' := by
  obtain ⟨d1, d2, d3, d4, d5⟩ := d
  have hm := hs.mv
  exact ⟨hs.rd, hm.cell (fun e => by omega) h.cn, mvf hm h.cn (fun e => by omega) h.fn, hm.cell (fun e => by omega) h.cm, mvf hm h.cm (fun e => by omega) h.fm, hs.c, hs.f,
    h.v.block (hm.block V h.v.lt (fun e => by omega)), hs.own.mono h.mv.size, h.oo.mvq hm (fun k hk e => by omega), h.op.mvq hm (fun k hk e => by omega), ⟨hl, h.zl.2⟩, h.mv.trans (hm.mono (fun k e => by unfold RP; omega))⟩
theorem RQ.sevO {u : Value} {l : List Int} (h : RQ w3 W R V N M E s n m ue le uo lo up lp a) (d : Ds R V N M E w3.heap.size) (hs : Sev KI W wm R V 1 s u l a') (hl : l.length ≤ 1000) : RQ w3 wm R V N M E s n m ue le u l up lp a' := by
  obtain ⟨d1, d2, d3, d4, d5⟩ := d
  have hm := hs.mv
  exact ⟨hs.rd, hm.cell (fun e => by omega) h.cn, mvf hm h.cn (fun e => by omega) h.fn, hm.cell (fun e => by omega) h.cm, mvf hm h.cm (fun e => by omega) h.fm, hm.cell (fun e => by omega) h.ce, mvf hm h.ce (fun e => by omega) h.fe,
    ⟨(hs.oth 0 (by decide)).trans h.v.c0, hs.c, (hs.oth 2 (by decide)).trans h.v.c2, fun j hj => (hs.frz j).trans (h.v.f j hj)⟩, h.oe.mvq hm (fun k hk e => by omega), hs.own.mono h.mv.size, h.op.mvq hm (fun k hk e => by omega), ⟨h.zl.1, hl, h.zl.2.2⟩, h.mv.trans (hm.mono (fun k e => by unfold RP; omega))⟩
theorem RQ.sevP {u : Value} {l : List Int} (h : RQ w3 W R V N M E s n m ue le uo lo up lp a) (d : Ds R V N M E w3.heap.size) (hs : Sev KI W wm R V 2 s u l a') (hl : l.length ≤ 1000) : RQ w3 wm R V N M E s n m ue le uo lo u l a' := by
  obtain ⟨d1, d2, d3, d4, d5⟩ := d
  have hm := hs.mv
  exact ⟨hs.rd, hm.cell (fun e => by omega) h.cn, mvf hm h.cn (fun e => by omega) h.fn, hm.cell (fun e => by omega) h.cm, mvf hm h.cm (fun e => by omega) h.fm, hm.cell (fun e => by omega) h.ce, mvf hm h.ce (fun e => by omega) h.fe,
    ⟨(hs.oth 0 (by decide)).trans h.v.c0, (hs.oth 1 (by decide)).trans h.v.c1, hs.c, fun j hj => (hs.frz j).trans (h.v.f j hj)⟩, h.oe.mvq hm (fun k hk e => by omega), h.oo.mvq hm (fun k hk e => by omega), hs.own.mono h.mv.size, ⟨h.zl.1, h.zl.2.1, hl⟩, h.mv.trans (hm.mono (fun k e => by unfold RP; omega))⟩
end
theorem RQ.start (w : World) (s : ByteArray) (T0 T1 T2 T3 : TypeId) :
    ∃ w6, w6 = (((((w.alloc (.cells #[.slice none 0 0, .slice none 0 0, .slice none 0 0] T0)).alloc (.cells #[.string s, .int .i64 0] T1)).alloc (.cells #[.slice none 0 0, .slice none 0 0, .slice none 0 0] T0)).alloc (.cells #[.int .i64 0] T2)).alloc (.cells #[.int .i64 0] T2)).alloc (.cells #[.slice none 0 0] T3) ∧
      RQ w6 w6 (w.heap.size + 1) (w.heap.size + 1 + 1) (w.heap.size + 1 + 1 + 1) (w.heap.size + 1 + 1 + 1 + 1) (w.heap.size + 1 + 1 + 1 + 1 + 1) s 0 0 (.slice none 0 0) [] (.slice none 0 0) [] (.slice none 0 0) [] 0 ∧ VrP w6 w.heap.size (.slice none 0 0) (.slice none 0 0) (.slice none 0 0) ∧ Below w.heap.size w w6 ∧
      Ds (w.heap.size + 1) (w.heap.size + 1 + 1) (w.heap.size + 1 + 1 + 1) (w.heap.size + 1 + 1 + 1 + 1) (w.heap.size + 1 + 1 + 1 + 1 + 1) w6.heap.size := by
  obtain ⟨w1, h1⟩ : ∃ w1, w1 = w.alloc (.cells #[.slice none 0 0, .slice none 0 0, .slice none 0 0] T0) := ⟨_, rfl⟩
  obtain ⟨w2, h2⟩ : ∃ w2, w2 = w1.alloc (.cells #[.string s, .int .i64 0] T1) := ⟨_, rfl⟩
  obtain ⟨w3, h3⟩ : ∃ w3, w3 = w2.alloc (.cells #[.slice none 0 0, .slice none 0 0, .slice none 0 0] T0) := ⟨_, rfl⟩
  obtain ⟨w4, h4⟩ : ∃ w4, w4 = w3.alloc (.cells #[.int .i64 0] T2) := ⟨_, rfl⟩
  obtain ⟨w5, h5⟩ : ∃ w5, w5 = w4.alloc (.cells #[.int .i64 0] T2) := ⟨_, rfl⟩
  obtain ⟨w6, h6⟩ : ∃ w6, w6 = w5.alloc (.cells #[.slice none 0 0] T3) := ⟨_, rfl⟩
  have z1 : w1.heap.size = w.heap.size + 1 := by rw [h1]; simp
  have z2 : w2.heap.size = w1.heap.size + 1 := by rw [h2]; simp
  have z3 : w3.heap.size = w2.heap.size + 1 := by rw [h3]; simp
  have z4 : w4.heap.size = w3.heap.size + 1 := by rw [h4]; simp
  have z5 : w5.heap.size = w4.heap.size + 1 := by rw [h5]; simp
  have z6 : w6.heap.size = w5.heap.size + 1 := by rw [h6]; simp
  have b1 : Below w.heap.size w w1 := by rw [h1]; exact balloc (Below.refl _ _) _
  have b2 : Below w1.heap.size w1 w2 := by rw [h2]; exact balloc (Below.refl _ _) _
  have b3 : Below w2.heap.size w2 w3 := by rw [h3]; exact balloc (Below.refl _ _) _
  have b4 : Below w3.heap.size w3 w4 := by rw [h4]; exact balloc (Below.refl _ _) _
  have b5 : Below w4.heap.size w4 w5 := by rw [h5]; exact balloc (Below.refl _ _) _
  have b6 : Below w5.heap.size w5 w6 := by rw [h6]; exact balloc (Below.refl _ _) _
  have v0 : VrP w1 w.heap.size (.slice none 0 0) (.slice none 0 0) (.slice none 0 0) := by rw [h1]; exact VrP.new _ _ _ _ _
  have r0 : RdP w2 w1.heap.size s 0 := by rw [h2]; exact RdP.new _ _ _
  have v3 : VrP w3 w2.heap.size (.slice none 0 0) (.slice none 0 0) (.slice none 0 0) := by rw [h3]; exact VrP.new _ _ _ _ _
  have c4 : w4.cell? ⟨w3.heap.size, 0, none⟩ = some (.int .i64 0) ∧ w4.frozen? ⟨w3.heap.size, 0, none⟩ = false := by rw [h4]; exact ⟨by simp, by simp⟩
  have c5 : w5.cell? ⟨w4.heap.size, 0, none⟩ = some (.int .i64 0) ∧ w5.frozen? ⟨w4.heap.size, 0, none⟩ = false := by rw [h5]; exact ⟨by simp, by simp⟩
  have c6 : w6.cell? ⟨w5.heap.size, 0, none⟩ = some (.slice none 0 0) ∧ w6.frozen? ⟨w5.heap.size, 0, none⟩ = false := by rw [h6]; exact ⟨by simp, by simp⟩
  rw [← h1, ← h2, ← h3, ← h4, ← h5, ← h6]
  rw [z5, z4, z3, z2, z1] at c6
  rw [z4, z3, z2, z1] at c5
  rw [z3, z2, z1] at c4
  rw [z2, z1] at v3
  rw [z1] at r0
  have b46 : Below w4.heap.size w4 w6 := bstep b5 b6
  have b36 : Below w3.heap.size w3 w6 := bstep b4 b46
  have b26 : Below w2.heap.size w2 w6 := bstep b3 b36
  have b16 : Below w1.heap.size w1 w6 := bstep b2 b26
  have kf : ∀ {W : World} {b : Nat} {x : Value}, Below W.heap.size W w6 → W.cell? ⟨b, 0, none⟩ = some x ∧ W.frozen? ⟨b, 0, none⟩ = false → w6.cell? ⟨b, 0, none⟩ = some x ∧ w6.frozen? ⟨b, 0, none⟩ = false := fun hb h =>
    ⟨kc hb h.1, by rw [World.frozen?_of_block (hb.block _ (lt_of_cellN h.1))]; exact h.2⟩
  have d4 := kf b46 c4
  have d5 := kf b6 c5
  exact ⟨w6, rfl, ⟨r0.keep b26, d4.1, d4.2, d5.1, d5.2, c6.1, c6.2, v3.keep b36, OwnR.nil _ _ _, OwnR.nil _ _ _, OwnR.nil _ _ _, ⟨by simp, by simp, by simp⟩, Mv.refl _ _⟩, v0.keep b16, bstep b1 b16, by unfold Ds; omega⟩
/-- What stands behind the reading of the parts. -/
def CutR (w3 : World) (R V N M E : Nat) (s : ByteArray) (r : Option (Rw × Nat)) (s9 : Value) (wx : World) : Prop :=
  ∃ (n m : Int) (ue : Value) (le : List ByteArray) (uo : Value) (lo : List Int) (up : Value) (lp : List Int) (a : Int), s9 = .bool r.isSome ∧ RQ w3 wx R V N M E s n m ue le uo lo up lp a ∧ ∀ c e, r = some (c, e) → c = ⟨wbas (Km.chainL [] (le.map fun x => x.data.toList)), lo, lp⟩ ∧ a = (e : Int) ∧ ∀ x ∈ le, x.size ≤ s.size
theorem cutR_no {w3 wx : World} {R V N M E : Nat} {s : ByteArray} {n m : Int} {ue : Value} {le : List ByteArray} {uo : Value} {lo : List Int} {up : Value} {lp : List Int} {a : Int} {r : Option (Rw × Nat)} (hr : r = none) (h : RQ w3 wx R V N M E s n m ue le uo lo up lp a) : CutR w3 R V N M E s r (.bool false) wx :=
  ⟨n, m, ue, le, uo, lo, up, lp, a, by rw [hr]; rfl, h, fun c e h => by rw [hr] at h; cases h⟩
def gotR (r : Option Rw) : Rw := match r with | none => ⟨[], [], []⟩ | some c => c
theorem rwAt_none (w : World) : RwAt w (.slice none 0 0) (.slice none 0 0) (.slice none 0 0) ⟨[], [], []⟩ :=
  ⟨RowAt.of_own kr_ok (OwnR.nil KR w 0), RowAt.of_own ki_ok (OwnR.nil KI w 0), RowAt.of_own ki_ok (OwnR.nil KI w 0), fun r hr => by simp at hr⟩

abbrev World.put3r (w : World) (b : Nat) (u0 u1 u2 : Value) : World := ((w.setCell ⟨b, 0, none⟩ u0).setCell ⟨b, 1, none⟩ u1).setCell ⟨b, 2, none⟩ u2
theorem put3r_below {w w' : World} (hb : Below w.heap.size w w') (u0 u1 u2 : Value) : Below w.heap.size w (World.put3r w' w.heap.size u0 u1 u2) :=
  ((hb.setCell (p := ⟨w.heap.size, 0, none⟩) (Nat.le_refl _) _).setCell (p := ⟨w.heap.size, 1, none⟩) (Nat.le_refl _) _).setCell (p := ⟨w.heap.size, 2, none⟩) (Nat.le_refl _) _
theorem put3r_row {w' : World} {b base base2 : Nat} {v0 v1 v2 : Value} {rs : List (ByteArray × ByteArray)} {lo lp : List Int} (h0 : OwnR KR w' base v0 rs) (h1 : OwnR KI w' base2 v1 lo) (h2 : OwnR KI w' base2 v2 lp) (hb : b < base) (hb2 : b < base2) (hz : Szs rs) (u0 u1 u2 : Value) : RwAt (World.put3r w' b u0 u1 u2) v0 v1 v2 ⟨rs, lo, lp⟩ :=
  ⟨RowAt.of_own kr_ok (((h0.put7 (h0.lo hb)).put7 (h0.lo hb)).put7 (h0.lo hb)), RowAt.of_own ki_ok (((h1.put7 (h1.lo hb2)).put7 (h1.lo hb2)).put7 (h1.lo hb2)), RowAt.of_own ki_ok (((h2.put7 (h2.lo hb2)).put7 (h2.lo hb2)).put7 (h2.lo hb2)), hz⟩

set_option maxRecDepth 100000 in
set_option maxHeartbeats 6400000 in
theorem readRow_any (s : ByteArray) (w : World) (hs : s.size ≤ 1099511627776) :
    Calls Try.prog 35 #[.string s] w fun e w' => ∃ u0 u1 u2, e = .returned (.tuple #[.agg #[u0, u1, u2], .bool (readRW s.data.toList).isSome]) ∧ RwAt w' u0 u1 u2 (gotR (readRW s.data.toList)) ∧ Below w.heap.size w w' := by
  have hmf : ∀ (fn : Fn) (first cap : Array Value) (w : World), (Instr.makeFunc fn first cap).run Try.prog w = .ok (.func fn first cap) w := fun _ _ _ _ => rfl
  have hs63 : s.size ≤ 9223372036854775807 := by omega
  obtain ⟨w6, hw6, hQ0, hv6, hb6, hds⟩ := RQ.start w s 25 88 3 89
  go_enter Try.func35, Try.ntmps35
  go_upto_region 5 with fail
  rw [← hw6]
  have hrest : ∀ wx, Mv (RP (w.heap.size + 1) (w.heap.size + 1 + 1) (w.heap.size + 1 + 1 + 1) (w.heap.size + 1 + 1 + 1 + 1) (w.heap.size + 1 + 1 + 1 + 1 + 1)) w6 wx → VrP wx w.heap.size (.slice none 0 0) (.slice none 0 0) (.slice none 0 0) ∧ Below w.heap.size w wx := fun wx hm =>
    ⟨hv6.block (hm.block _ hv6.lt (by unfold RP; omega)), hb6.trans (hm.below (fun k hk => by unfold RP; omega) hb6.size)⟩
  have hlow : w.heap.size < w.heap.size + 1 := by omega
  clear hw6 hv6 hb6
  generalize hE : w.heap.size + 1 + 1 + 1 + 1 + 1 = E at *
  generalize hM : w.heap.size + 1 + 1 + 1 + 1 = M at *
  generalize hN : w.heap.size + 1 + 1 + 1 = N at *
  generalize hV : w.heap.size + 1 + 1 = V at *
  generalize hR : w.heap.size + 1 = R at *
  have HREST := Lib.hid hrest
  have HDS := Lib.hid hds
  have HLOW : Hid (w.heap.size < R) := Lib.hid hlow
  clear hrest hlow hE hM hN hV hR
  have dE : E ≠ R := by unfold Ds at hds; omega
  have dV : V ≠ R := by unfold Ds at hds; omega
  have dN : N ≠ R := by unfold Ds at hds; omega
  have dM : M ≠ R := by unfold Ds at hds; omega
  clear hds
  go_cut [9] (fun s9 wx => CutR w6 R V N M E s (rowW s.data.toList) s9 wx)
  case first =>
    have hc1 := one_number R N 0 s 0 _ w6 hs63 hQ0.rd dN hQ0.cn hQ0.fn
    cases r1 : rdI s.data.toList 0 with
    | none =>
      have hW : rowW s.data.toList = none := by rw [rowW_eq2];  rw [r1]
      rw [r1] at hc1
      dsimp only [Option.isSome] at hc1
      have HSp := Lib.hid hQ0
      have HW := Lib.hid hW
      clear r1 hW hQ0
      go_wp2_with fail
      refine hc1.mono ?_
      rintro e w' ⟨wm, x1, m, rfl, rfl, hr, hx, hm⟩
      have hSn := Lib.hid ((HSp.out.mvd HDS.out hm hr).setN HDS.out x1)
      generalize (wm.setCell ⟨N, 0, none⟩ (.int .i64 x1)) = wx at *
      clear hr hx hm hc1
      go_wp2
      go_meet
      exact cutR_no HW.out hSn.out
    | some y1 =>
      obtain ⟨z1, e1⟩ := y1
      rw [r1] at hc1
      dsimp only [Option.isSome] at hc1
      have R1 := Lib.hid r1
      have HSp := Lib.hid hQ0
      clear r1 hQ0
      go_wp2_with fail
      refine hc1.mono ?_
      rintro e w' ⟨wm, x1, m1, rfl, rfl, hr, hx, hm⟩
      obtain ⟨hxe, hme⟩ := hx _ _ rfl
      subst hme
      subst hxe
      have hS1 := ((HSp.out.mvd HDS.out hm hr).setN HDS.out x1)
      clear hr hx hm hc1 HSp
      revert hS1
      generalize (wm.setCell ⟨N, 0, none⟩ (.int .i64 x1)) = w7
      intro hS1
      obtain ⟨q1, rfl, hq631, _⟩ := rdI_some R1.out
      have e1w : wrap64 ((q1 : Int) - 1) = (q1 : Int) - 1 := by unfold wrap64; omega
      have hc2 := several_strs 60 (enters_of Try.func60 (by kernel_rfl) rfl) (F2 s) R E 0 m1 s ((q1 : Int) - 1) w7 (by omega) (part_text R s hs63) hS1.rd dE (lt_of_cellN hS1.ce) hS1.ce hS1.fe
      cases r2 : goN (F2 s) ((q1 : Int) - 1).toNat [] m1 with
      | none =>
        have hW : rowW s.data.toList = none := by rw [rowW_eq2]; rw [R1.out]; simp only; rw [r2]
        rw [r2] at hc2
        dsimp only [Option.isSome] at hc2
        have k0 := hS1.cn
        have HSp := Lib.hid hS1
        have HW := Lib.hid hW
        clear r2 hW hS1
        go_wp2_with fail
        refine hc2.mono ?_
        rintro e w' ⟨u2, l2, m, rfl, hsv, hl, hx⟩
        have hSn := Lib.hid (HSp.out.sevE HDS.out hsv hl)
        clear hsv hl hx hc2 k0
        go_wp2
        go_meet
        exact cutR_no HW.out hSn.out
      | some y2 =>
        obtain ⟨z2, e2⟩ := y2
        rw [r2] at hc2
        dsimp only [Option.isSome] at hc2
        have k0 := hS1.cn
        have R2 := Lib.hid r2
        have HSp := Lib.hid hS1
        clear r2 hS1
        go_wp2_with fail
        refine hc2.mono ?_
        rintro e w8 ⟨u2, l2, m2, rfl, hsv, hl, hx⟩
        obtain ⟨hxe, hme⟩ := hx _ _ rfl
        subst hme
        subst hxe
        have hS2 := (HSp.out.sevE HDS.out hsv hl)
        clear hsv hl hx hc2 HSp k0
        have hc3 := several_ints 58 (enters_of Try.func58 (by kernel_rfl) rfl) (rdI s.data.toList) R V 1 m2 s (q1 : Int) w8 (by omega) (part_num R s hs63) hS2.rd dV hS2.v.lt hS2.v.c1 (hS2.v.f 1 (by decide))
        cases r3 : goN (rdI s.data.toList) (q1 : Int).toNat [] m2 with
        | none =>
          have hW : rowW s.data.toList = none := by rw [rowW_eq2]; rw [R1.out]; simp only; rw [R2.out]; simp only; rw [r3]
          rw [r3] at hc3
          dsimp only [Option.isSome] at hc3
          have k0 := hS2.cn
          have HSp := Lib.hid hS2
          have HW := Lib.hid hW
          clear r3 hW hS2
          go_wp2_with fail
          refine hc3.mono ?_
          rintro e w' ⟨u3, l3, m, rfl, hsv, hl, hx⟩
          have hSn := Lib.hid (HSp.out.sevO HDS.out hsv hl)
          clear hsv hl hx hc3 k0
          go_wp2
          go_meet
          exact cutR_no HW.out hSn.out
        | some y3 =>
          obtain ⟨z3, e3⟩ := y3
          rw [r3] at hc3
          dsimp only [Option.isSome] at hc3
          have k0 := hS2.cn
          have R3 := Lib.hid r3
          have HSp := Lib.hid hS2
          clear r3 hS2
          go_wp2_with fail
          refine hc3.mono ?_
          rintro e w9 ⟨u3, l3, m3, rfl, hsv, hl, hx⟩
          obtain ⟨hxe, hme⟩ := hx _ _ rfl
          subst hme
          subst hxe
          have hS3 := (HSp.out.sevO HDS.out hsv hl)
          clear hsv hl hx hc3 HSp k0
          have hc4 := one_number R M 0 s (m3 : Int) _ w9 hs63 hS3.rd dM hS3.cm hS3.fm
          cases r4 : rdI s.data.toList (m3 : Int) with
          | none =>
            have hW : rowW s.data.toList = none := by rw [rowW_eq2]; rw [R1.out]; simp only; rw [R2.out]; simp only; rw [R3.out]; simp only; rw [r4]
            rw [r4] at hc4
            dsimp only [Option.isSome] at hc4
            have HSp := Lib.hid hS3
            have HW := Lib.hid hW
            clear r4 hW hS3
            go_wp2_with fail
            refine hc4.mono ?_
            rintro e w' ⟨wm, x4, m, rfl, rfl, hr, hx, hm⟩
            have hSn := Lib.hid ((HSp.out.mvd HDS.out hm hr).setM HDS.out x4)
            generalize (wm.setCell ⟨M, 0, none⟩ (.int .i64 x4)) = wx at *
            clear hr hx hm hc4
            go_wp2
            go_meet
            exact cutR_no HW.out hSn.out
          | some y4 =>
            obtain ⟨z4, e4⟩ := y4
            rw [r4] at hc4
            dsimp only [Option.isSome] at hc4
            have R4 := Lib.hid r4
            have HSp := Lib.hid hS3
            clear r4 hS3
            go_wp2_with fail
            refine hc4.mono ?_
            rintro e w' ⟨wm, x4, m4, rfl, rfl, hr, hx, hm⟩
            obtain ⟨hxe, hme⟩ := hx _ _ rfl
            subst hme
            subst hxe
            have hS4 := ((HSp.out.mvd HDS.out hm hr).setM HDS.out x4)
            clear hr hx hm hc4 HSp
            revert hS4
            generalize (wm.setCell ⟨M, 0, none⟩ (.int .i64 x4)) = w10
            intro hS4
            obtain ⟨q4, rfl, hq634, _⟩ := rdI_some R4.out
            have hc5 := several_ints 62 (enters_of Try.func62 (by kernel_rfl) rfl) (rdPa s.data.toList) R V 2 m4 s (q4 : Int) w10 (by omega) (part_par R s hs63) hS4.rd dV hS4.v.lt hS4.v.c2 (hS4.v.f 2 (by decide))
            cases r5 : goN (rdPa s.data.toList) (q4 : Int).toNat [] m4 with
            | none =>
              have hW : rowW s.data.toList = none := by rw [rowW_eq2]; rw [R1.out]; simp only; rw [R2.out]; simp only; rw [R3.out]; simp only; rw [R4.out]; simp only; rw [r5]
              rw [r5] at hc5
              dsimp only [Option.isSome] at hc5
              have k0 := hS4.cm
              have HSp := Lib.hid hS4
              have HW := Lib.hid hW
              clear r5 hW hS4
              go_wp2_with fail
              refine hc5.mono ?_
              rintro e w' ⟨u5, l5, m, rfl, hsv, hl, hx⟩
              have hSn := Lib.hid (HSp.out.sevP HDS.out hsv hl)
              clear hsv hl hx hc5 k0
              go_wp2
              go_meet
              exact cutR_no HW.out hSn.out
            | some y5 =>
              obtain ⟨z5, e5⟩ := y5
              rw [r5] at hc5
              dsimp only [Option.isSome] at hc5
              have k0 := hS4.cm
              have R5 := Lib.hid r5
              have HSp := Lib.hid hS4
              clear r5 hS4
              go_wp2_with fail
              refine hc5.mono ?_
              rintro e w11 ⟨u5, l5, m5, rfl, hsv, hl, hx⟩
              obtain ⟨hxe, hme⟩ := hx _ _ rfl
              subst hme
              subst hxe
              have hS5 := (HSp.out.sevP HDS.out hsv hl)
              clear hsv hl hx hc5 HSp k0
              have hW : rowW s.data.toList = some (⟨wbas (Km.chainL [] (l2.map fun x => x.data.toList)), l3, l5⟩, m5) := by rw [rowW_eq2]; rw [R1.out]; simp only; rw [R2.out]; simp only; rw [R3.out]; simp only; rw [R4.out]; simp only; rw [R5.out]
              have HW := Lib.hid hW
              have HS := Lib.hid hS5
              have HSM := Lib.hid (F2_small R2.out)
              clear hW hS5
              go_wp2
              go_meet
              exact ⟨(q1 : Int), (q4 : Int), u2, l2, u3, l3, u5, l5, m5, by rw [HW.out]; rfl, HS.out, fun c e h => by rw [HW.out] at h; cases h; exact ⟨rfl, rfl, HSM.out⟩⟩
  case rest =>
    obtain ⟨n, m, ue, le, uo, lo, up, lp, a, rfl, hQ, hv⟩ := hcut
    obtain ⟨hb2, hbw⟩ := HREST.out wc hQ.mv
    obtain ⟨ea, ec, rfl⟩ := hQ.oe.shape
    obtain ⟨oa, oc, rfl⟩ := hQ.oo.shape
    obtain ⟨pa, pc, rfl⟩ := hQ.op.shape
    have hsp := split_wire (.slice ea le.length ec) (le.map fun x => x.data.toList) wc (by rw [List.length_map]; exact hQ.zl.1) (by rw [map_us]; exact RowAt.of_own ks_ok hQ.oe)
    have HB2 := Lib.hid hb2
    have HBW := Lib.hid hbw
    have HQ := Lib.hid hQ
    have HV := Lib.hid hv
    have ce := hQ.ce
    have hmz := hQ.mv.size
    have d1 : R < V ∧ V < w6.heap.size := by have := HDS.out; unfold Ds at this; omega
    clear hQ0 HREST hb2 hbw hQ hv
    go_wp2_with fail
    refine hsp.mono ?_
    rintro e' wd ⟨u, rfl, hou, hbd⟩
    have hlen : (wbas (Km.chainL [] (le.map fun x => x.data.toList))).length = (wbas (Km.chainL [] (le.map fun x => x.data.toList))).length := rfl
    obtain ⟨ra, rc, rfl⟩ := hou.shape
    have HV2 := Lib.hid HV.out
    clear HV hlen hsp ce
    generalize wbas (Km.chainL [] (le.map fun x => x.data.toList)) = rs at *
    obtain ⟨c0, c1, c2, hf⟩ := HQ.out.v.keep hbd
    have q0 := hf 0 (by decide)
    have hV2 := Lib.hid ((HQ.out.v.keep hbd).put0 (.slice ra rs.length rc))
    have hR2 := Lib.hid ((HQ.out.rd.keep hbd).other (show V ≠ R by omega) (o := 0) (.slice ra rs.length rc))
    have ho0 := Lib.hid (hou.put7 (B := V) (o := 0) (x := .slice ra rs.length rc) (hou.lo (by omega)))
    have hoo := HQ.out.oo.below hbd
    have hop := HQ.out.op.below hbd
    have ho1 := Lib.hid (hoo.put7 (B := V) (o := 0) (x := .slice ra rs.length rc) (hoo.lo (by omega)))
    have ho2 := Lib.hid (hop.put7 (B := V) (o := 0) (x := .slice ra rs.length rc) (hop.lo (by omega)))
    have hB3 := Lib.hid ((HB2.out.keep hbd).block (Below.heap_setCell wd ⟨V, 0, none⟩ (.slice ra rs.length rc) w.heap.size (by have := HLOW.out; show w.heap.size ≠ V; omega)))
    have hW3 := Lib.hid ((bstep HBW.out hbd).setCell (p := ⟨V, 0, none⟩) (by have := HLOW.out; show w.heap.size ≤ V; omega) (.slice ra rs.length rc))
    clear hf hou hbd hoo hop HQ HB2 HBW
    go_upto_region 7 with fail
    clear c0 c1 c2 q0
    generalize wd.setCell ⟨V, 0, none⟩ (.slice ra rs.length rc) = we at *
    have hfin : readRW s.data.toList = finRw s.data.toList (rowW s.data.toList) := rfl
    cases hr : rowW s.data.toList with
    | none =>
      have HGZ : Hid (readRW s.data.toList = none) := Lib.hid (by rw [hfin, hr]; rfl)
      clear hfin hr HV2
      dsimp only [Option.isSome]
      obtain ⟨b0, b1, b2, hf⟩ := hB3.out
      have q0 := hf 0 (by decide)
      have q1 := hf 1 (by decide)
      have q2 := hf 2 (by decide)
      clear hf
      go_wp2
      obtain ⟨r0, r1, r2, _⟩ := ((hB3.out.put0 (.slice none 0 0)).put1 (.slice none 0 0)).put2 (.slice none 0 0)
      refine bodyPost_ret (v := .tuple #[.agg #[.slice none 0 0, .slice none 0 0, .slice none 0 0], .bool false]) (by simp [results, Try.results35, go_sem, r0, r1, r2]) rfl (by rw [HGZ.out]; exact ⟨_, _, _, rfl, rwAt_none _, put3r_below hW3.out _ _ _⟩)
    | some y =>
      obtain ⟨c, e⟩ := y
      obtain ⟨hc, rfl, hsm⟩ := HV2.out c e hr
      have hdone := done_any R s e we hR2.out
      have hR8 : RwAt we (.slice ra rs.length rc) (.slice oa lo.length oc) (.slice pa lp.length pc) ⟨rs, lo, lp⟩ := ⟨RowAt.of_own kr_ok ho0.out, RowAt.of_own ki_ok ho1.out, RowAt.of_own ki_ok ho2.out, by
        obtain ⟨_, _, _, _, _, _, ends, _, p2, _, _, _, p6⟩ := rowW_parts hr
        have e9 : c.rs = rs := by rw [hc]
        rw [← e9, p6]
        exact wbas_szs6 (fun u hu => by
          rcases goN_mem _ _ _ _ _ p2 u hu with h1 | ⟨b, e', h1⟩
          · simp at h1
          · have := (rdt_end h1).2.2
            have e8 : s.data.toList.length = s.size := rfl
            omega)⟩
      have hsz : s.data.toList.length = s.size := rfl
      have HFI : Hid (readRW s.data.toList = if e = s.size ∧ okRw ⟨rs, lo, lp⟩ = true then some ⟨rs, lo, lp⟩ else none) := Lib.hid (by rw [hfin, hr, hc]; rfl)
      have HR8 := Lib.hid hR8
      have HR8s : Hid (Szs rs) := Lib.hid hR8.sz
      clear hfin hr HV2 hc hsm hR8 hsz
      dsimp only [Option.isSome]
      by_cases he : (e : Int) = s.size
      · rw [decide_eq_true he] at hdone
        have HE : Hid (e = s.size) := Lib.hid (by omega)
        clear he
        go_wp2_with fail
        refine hdone.mono ?_
        rintro e' w4 ⟨rfl, hb4⟩
        have hen := encodable_any ⟨rs, lo, lp⟩ _ _ _ _ (HR8.out.below hb4)
        obtain ⟨c0, c1, c2, _⟩ := hV2.out.keep hb4
        have hV4 := Lib.hid (hV2.out.keep hb4)
        have hB4 := Lib.hid (hB3.out.keep hb4)
        have ho04 := Lib.hid (ho0.out.below hb4)
        have ho14 := Lib.hid (ho1.out.below hb4)
        have ho24 := Lib.hid (ho2.out.below hb4)
        have hW4 := Lib.hid (bstep hW3.out hb4)
        clear hdone hb4 HR8 hB3 hW3 hR2 ho0 ho1 ho2 hV2
        go_wp2_with fail
        refine hen.mono ?_
        rintro e' w5 ⟨rfl, hb5⟩
        have hV5 := Lib.hid (hV4.out.keep hb5)
        have hB5 := Lib.hid (hB4.out.keep hb5)
        have ho05 := Lib.hid (ho04.out.below hb5)
        have ho15 := Lib.hid (ho14.out.below hb5)
        have ho25 := Lib.hid (ho24.out.below hb5)
        have hW5 := Lib.hid (bstep hW4.out hb5)
        clear hen hb5 c0 c1 c2 hV4 hB4 ho04 ho14 ho24 hW4
        cases hkk : okRw ⟨rs, lo, lp⟩ with
        | false =>
          have HGZ : Hid (readRW s.data.toList = none) := Lib.hid (by rw [HFI.out, if_neg (fun h => by rw [hkk] at h; cases h.2)])
          clear hkk
          obtain ⟨b0, b1, b2, hf⟩ := hB5.out
          have q0 := hf 0 (by decide)
          have q1 := hf 1 (by decide)
          have q2 := hf 2 (by decide)
          clear hf
          go_wp2
          obtain ⟨r0, r1, r2, _⟩ := ((hB5.out.put0 (.slice none 0 0)).put1 (.slice none 0 0)).put2 (.slice none 0 0)
          refine bodyPost_ret (v := .tuple #[.agg #[.slice none 0 0, .slice none 0 0, .slice none 0 0], .bool false]) (by simp [results, Try.results35, go_sem, r0, r1, r2]) rfl (by rw [HGZ.out]; exact ⟨_, _, _, rfl, rwAt_none _, put3r_below hW5.out _ _ _⟩)
        | true =>
          have HGZ : Hid (readRW s.data.toList = some ⟨rs, lo, lp⟩) := Lib.hid (by rw [HFI.out, if_pos ⟨HE.out, hkk⟩])
          clear hkk
          obtain ⟨c0, c1, c2, _⟩ := hV5.out
          obtain ⟨b0, b1, b2, hf⟩ := hB5.out
          have q0 := hf 0 (by decide)
          have q1 := hf 1 (by decide)
          have q2 := hf 2 (by decide)
          have hneV : V ≠ w.heap.size := by have := HLOW.out; omega
          clear hf
          go_wp2
          obtain ⟨r0, r1, r2, _⟩ := ((hB5.out.put0 (.slice ra rs.length rc)).put1 (.slice oa lo.length oc)).put2 (.slice pa lp.length pc)
          refine bodyPost_ret (v := .tuple #[.agg #[.slice ra rs.length rc, .slice oa lo.length oc, .slice pa lp.length pc], .bool true]) (by simp [results, Try.results35, go_sem, r0, r1, r2]) rfl (by rw [HGZ.out]; exact ⟨_, _, _, rfl, put3r_row ho05.out ho15.out ho25.out (by have := HLOW.out; omega) (by have := HLOW.out; omega) HR8s.out _ _ _, put3r_below hW5.out _ _ _⟩)
      · rw [decide_eq_false he] at hdone
        have HGZ : Hid (readRW s.data.toList = none) := Lib.hid (by rw [HFI.out, if_neg (fun h => he (by rw [h.1]))])
        clear he
        go_wp2_with fail
        refine hdone.mono ?_
        rintro e' w4 ⟨rfl, hb4⟩
        have hB4 := Lib.hid (hB3.out.keep hb4)
        have hW4 := Lib.hid (bstep hW3.out hb4)
        clear hdone hb4 HR8 hB3 hW3 hR2 ho0 ho1 ho2 hV2
        obtain ⟨b0, b1, b2, hf⟩ := hB4.out
        have q0 := hf 0 (by decide)
        have q1 := hf 1 (by decide)
        have q2 := hf 2 (by decide)
        clear hf
        go_wp2
        obtain ⟨r0, r1, r2, _⟩ := ((hB4.out.put0 (.slice none 0 0)).put1 (.slice none 0 0)).put2 (.slice none 0 0)
        refine bodyPost_ret (v := .tuple #[.agg #[.slice none 0 0, .slice none 0 0, .slice none 0 0], .bool false]) (by simp [results, Try.results35, go_sem, r0, r1, r2]) rfl (by rw [HGZ.out]; exact ⟨_, _, _, rfl, rwAt_none _, put3r_below hW4.out _ _ _⟩)
end Go.Proofs.Ytllagelopdedfaa
