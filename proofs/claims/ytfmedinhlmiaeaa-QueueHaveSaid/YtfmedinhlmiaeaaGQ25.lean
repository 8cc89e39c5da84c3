/- Rows of writes, what is asked, and two pasts, among the arguments of layer 14's laws, opened. -/
import Derived.Test.YtfmedinhlmiaeaaGQ24
import Derived.Deep.Strs
namespace Go.Proofs.Ytfmedinhlmiaeaa
open Go.ChangeShapes Go.WideShapes Go.ChangeAt Go.RowKit Go.Joins Go.Deep
set_option linter.unusedVariables false

section
variable {H : Type} {enc : TypeId × Value → H} {P : Program} {w : World} {base : Nat} {spare : Nat → Bool} {held : Bool}

/-- A slice of ints in a cell. -/
theorem trod_ints {t e : TypeId} {fuel : Nat} {c : Value} {x : DataW H × List MemPlace} (ht : P.underlying t = some (.slice e)) (he : P.underlying e = some (.int .i64)) (hc : P.cellsOf e = 1) (h : DataW.trod enc P w base spare held fuel t [c] = some x) :
    ∃ (a : Option Addr) (l : List Int) (cap : Nat), c = .slice a l.length cap ∧ l.length ≤ 9223372036854775807 ∧ IntsIn w a l := by
  rcases open_ints ht he hc h with ⟨hcs, _⟩ | ⟨x, len, cap, zs, hcs, _, hl, hm, hz, _, hcell, hwz⟩
  · simp at hcs
    exact ⟨none, [], 0, hcs, by simp, fun i h => absurd h (by simp)⟩
  · simp at hcs
    have hle : len ≤ zs.length := by rw [hz]; split <;> omega
    unfold maxLen at hm
    obtain ⟨b, off, spot⟩ := x
    refine ⟨some ⟨b, off, spot⟩, zs.take len, cap, by rw [hcs]; simp; omega, by simp; omega, fun i hi => ?_⟩
    have hi' : i < zs.length := by simp at hi; omega
    have hcl := hcell i hi'
    have hspot : spot = none := by simpa [Addr.add] using World.cell?_spot (hcell 0 (by omega))
    subst hspot
    rw [Addr.add_lit] at hcl
    refine ⟨b, off, rfl, World.block_lt_of_cell? w _ hcl, ?_⟩
    have e : (zs.take len)[i] = zs[i] := by simp
    rw [e]
    simpa [List.getD_eq_getElem?_getD, hi'] using hcl
/-- Cells that read as a write. -/
theorem trod_write {t e s : TypeId} {f0 f1 f2 : Field} {fuel : Nat} {cs : List Value} {x : DataW H × List MemPlace} (he : P.underlying e = some (.struct #[f0, f1, f2])) (hone : oneCellFields P #[f0, f1, f2] = true) (hC : P.cellsOf e = 3)
    (h0 : P.underlying f0.type = some (.int .i64)) (h1 : P.underlying f1.type = some (.int .i64)) (h2 : P.underlying f2.type = some (.slice s)) (hs : P.underlying s = some (.int .i64)) (hsc : P.cellsOf s = 1)
    (h : DataW.trod enc P w base spare held fuel e cs = some x) :
    ∃ (r : Wr) (a : Option Addr) (cap : Nat), cs = [.int .i64 r.key, .int .i64 r.site, .slice a r.saw.length cap] ∧ r.saw.length ≤ 9223372036854775807 ∧ IntsIn w a r.saw := by
  obtain ⟨y0, y1, y2, n', hx, hcl, k0, k1, k2⟩ := trod_struct3 he h
  obtain ⟨o0, j0⟩ := hone_of hone 0 f0 rfl
  obtain ⟨o1, j1⟩ := hone_of hone 1 f1 rfl
  obtain ⟨o2, j2⟩ := hone_of hone 2 f2 rfl
  rw [hC] at hcl
  match cs, hcl with
  | [c0, c1, c2], _ =>
    rw [o0, j0] at k0
    rw [o1, j1] at k1
    rw [o2, j2] at k2
    obtain ⟨k, e0, _, _⟩ := DataW.trod_int h0 k0
    obtain ⟨st, e1, _, _⟩ := DataW.trod_int h1 k1
    simp at e0 e1
    subst e0 e1
    obtain ⟨a, l, cap, e2, hl, hi⟩ := trod_ints h2 hs hsc (by simpa using k2)
    subst e2
    exact ⟨⟨k, st, l⟩, a, cap, rfl, hl, hi⟩
/-- A row of writes. -/
theorem open_writes {t e s : TypeId} {f0 f1 f2 : Field} {fuel : Nat} {v : Value} {x : DataW H × List MemPlace} (ht : P.underlying t = some (.slice e)) (he : P.underlying e = some (.struct #[f0, f1, f2])) (hone : oneCellFields P #[f0, f1, f2] = true) (hC : P.cellsOf e = 3)
    (h0 : P.underlying f0.type = some (.int .i64)) (h1 : P.underlying f1.type = some (.int .i64)) (h2 : P.underlying f2.type = some (.slice s)) (hs : P.underlying s = some (.int .i64)) (hsc : P.cellsOf s = 1)
    (h : DataW.trod enc P w base spare held fuel t v.cells.toList = some x) (hv : ∃ a n c, v = .slice a n c) :
    ∃ (a : Option Addr) (ws : List Wr) (cap : Nat), v = .slice a ws.length cap ∧ ws.length ≤ 9223372036854775807 ∧ WrIn w a ws := by
  obtain ⟨a, len, cap, rfl⟩ := hv
  rcases open_slice ht h with ⟨hcs, _⟩ | ⟨x, l, c, m, n, D, Pl, hcs, _, hl, hm, hmm, _, hi⟩
  · simp [Value.cells] at hcs
    obtain ⟨rfl, rfl, rfl⟩ := hcs
    exact ⟨none, [], 0, rfl, by simp, fun i h => absurd h (by simp)⟩
  · simp [Value.cells] at hcs
    obtain ⟨rfl, rfl, rfl⟩ := hcs
    have hlm : len ≤ m := by rw [hmm]; split <;> omega
    unfold maxLen at hm
    have all : ∀ i, ∃ z : Wr × Option Addr × Nat, i < len → w.cell? (x.add (i * 3)) = some (.int .i64 z.1.key) ∧ w.cell? (x.add (i * 3 + 1)) = some (.int .i64 z.1.site) ∧ w.cell? (x.add (i * 3 + 2)) = some (.slice z.2.1 z.1.saw.length z.2.2) ∧ z.1.saw.length ≤ 9223372036854775807 ∧ IntsIn w z.2.1 z.1.saw := by
      intro i
      by_cases hil : i < len
      · obtain ⟨cs', hc, ht'⟩ := hi i (by omega)
        rw [hC] at hc
        obtain ⟨r, a, q, rfl, hrl, hin⟩ := trod_write (t := t) he hone hC h0 h1 h2 hs hsc ht'
        obtain ⟨_, hcl', hat⟩ := World.cells?_some hc
        refine ⟨(r, a, q), fun _ => ⟨?_, ?_, ?_, hrl, hin⟩⟩
        · have := hat 0 (by omega)
          simpa [Go.Deep.add_add] using this
        · have := hat 1 (by omega)
          simpa [Go.Deep.add_add] using this
        · have := hat 2 (by omega)
          simpa [Go.Deep.add_add] using this
      · exact ⟨(⟨0, 0, []⟩, none, 0), fun hh => absurd hh hil⟩
    obtain ⟨F, hF⟩ : ∃ F : Nat → Wr × Option Addr × Nat, ∀ i, i < len → w.cell? (x.add (i * 3)) = some (.int .i64 (F i).1.key) ∧ w.cell? (x.add (i * 3 + 1)) = some (.int .i64 (F i).1.site) ∧ w.cell? (x.add (i * 3 + 2)) = some (.slice (F i).2.1 (F i).1.saw.length (F i).2.2) ∧ (F i).1.saw.length ≤ 9223372036854775807 ∧ IntsIn w (F i).2.1 (F i).1.saw :=
      ⟨fun i => (all i).choose, fun i => (all i).choose_spec⟩
    obtain ⟨b, off, spot⟩ := x
    refine ⟨some ⟨b, off, spot⟩, (List.range len).map (fun i => (F i).1), cap, by simp, by simp; omega, ?_⟩
    intro i hi
    have hi' : i < len := by simpa using hi
    have hspot : spot = none := by
      have := (hF 0 (by omega)).1
      simpa [Addr.add] using World.cell?_spot this
    subst hspot
    obtain ⟨q0, q1, q2, q3, q4⟩ := hF i hi'
    rw [Addr.add_lit] at q0 q1 q2
    simp only [List.getElem_map, List.getElem_range]
    exact ⟨b, off, (F i).2.1, (F i).2.2, rfl, World.block_lt_of_cell? w _ q0, q0, by rw [Nat.add_assoc]; exact q1, by rw [Nat.add_assoc]; exact q2, q3, q4⟩


/-- A version among cells. -/
theorem trod_version {t e : TypeId} {fuel : Nat} {F0 F1 F2 F3 F4 f0 f1 g0 g1 : Field} {cs : List Value} {x : DataW H × List MemPlace} (ht : P.underlying t = some (.struct #[F0, F1, F2, F3, F4]))
    (hF : F0.offset = 0 ∧ F1.offset = 1 ∧ F2.offset = 2 ∧ F3.offset = 3 ∧ F4.offset = 5 ∧ P.cellsOf F0.type = 1 ∧ P.cellsOf F1.type = 1 ∧ P.cellsOf F2.type = 1 ∧ P.cellsOf F3.type = 2 ∧ P.cellsOf F4.type = 1) (hT : P.cellsOf t = 6)
    (i0 : P.underlying F0.type = some .string) (i1 : P.underlying F1.type = some .string) (i2 : P.underlying F2.type = some .bool)
    (i3 : P.underlying F3.type = some (.struct #[g0, g1])) (hg : g0.offset = 0 ∧ g1.offset = 1 ∧ P.cellsOf g0.type = 1 ∧ P.cellsOf g1.type = 1)
    (i4 : P.underlying F4.type = some (.slice e)) (he : P.underlying e = some (.struct #[f0, f1])) (hf : f0.offset = 0 ∧ f1.offset = 1 ∧ P.cellsOf f0.type = 1 ∧ P.cellsOf f1.type = 2)
    (hC : P.cellsOf e = 3) (h0 : P.underlying f0.type = some .string) (h1 : P.underlying f1.type = some (.struct #[g0, g1]))
    (h2 : P.underlying g0.type = some (.int .i64)) (h3 : P.underlying g1.type = some (.int .i64)) (hsz : cs.length = 6) (hf' : DataW.trod enc P w base spare held fuel t cs = some x) :
    ∃ (x : Wv) (u : Value), cs = (wvs x u).toList ∧ x.key.size ≤ 9223372036854775807 ∧ x.val.size ≤ 9223372036854775807 ∧ Szd x.past ∧ DepAt w u x.past := by
  obtain ⟨y0, y1, y2, y3, y4, n', hcl, k0, k1, k2, k3, k4⟩ := trod_struct5 ht hf'
  obtain ⟨q0, q1, q2, q3, q4, c0, c1, c2, c3, c4⟩ := hF
  rw [q0, c0] at k0
  rw [q1, c1] at k1
  rw [q2, c2] at k2
  rw [q3, c3] at k3
  rw [q4, c4] at k4
  match cs, hsz with
  | [d0, d1, d2, d3, d4, d5], _ =>
    obtain ⟨key, e1, _, z1⟩ := DataW.trod_string i0 k0
    obtain ⟨val, e2, _, z2⟩ := DataW.trod_string i1 k1
    obtain ⟨gone, e3, _⟩ := DataW.trod_bool i2 k2
    obtain ⟨w0, w1, n2, _, _, m0, m1⟩ := trod_struct2 i3 k3
    rw [hg.1, hg.2.2.1] at m0
    rw [hg.2.1, hg.2.2.2] at m1
    obtain ⟨n, e4, _, _⟩ := DataW.trod_int h2 m0
    obtain ⟨s, e5, _, _⟩ := DataW.trod_int h3 m1
    simp at e1 e2 e3 e4 e5
    subst e1 e2 e3 e4 e5
    have k5 : DataW.trod enc P w base spare held n' F4.type [d5] = some y4 := by simpa using k4
    have hs : ∃ a n c, d5 = .slice a n c := by
      rcases open_slice i4 k5 with ⟨hcs, _⟩ | ⟨x, l, c, m, n, D, Pl, hcs, _, _⟩
      · simp at hcs
        exact ⟨none, 0, 0, hcs⟩
      · simp at hcs
        exact ⟨_, _, _, hcs⟩
    obtain ⟨a, len, cap, rfl⟩ := hs
    obtain ⟨past, hd, hz, _⟩ := open_deps (v := .slice a len cap) i4 he hf hC h0 h1 hg h2 h3 (by simpa [Value.cells] using k5) ⟨_, _, _, rfl⟩
    unfold maxLen at z1 z2
    exact ⟨⟨key, val, gone, (n, s), past⟩, .slice a len cap, rfl, z1, z2, hz, hd⟩

/-- What is asked: two numbers and a version. -/
theorem open_ask14 {r : Reach} {b0 : Nat} {t tv e : TypeId} {A0 A1 A2 F0 F1 F2 F3 F4 f0 f1 g0 g1 : Field} {v : Value} {d : DataW H} {p : List MemPlace} (ht : P.underlying t = some (.struct #[A0, A1, A2]))
    (hA : A0.offset = 0 ∧ A1.offset = 1 ∧ A2.offset = 2 ∧ P.cellsOf A0.type = 1 ∧ P.cellsOf A1.type = 1 ∧ P.cellsOf A2.type = 6) (hTA : P.cellsOf t = 8)
    (j0 : P.underlying A0.type = some (.int .i64)) (j1 : P.underlying A1.type = some (.int .i64)) (j2 : P.underlying A2.type = some (.struct #[F0, F1, F2, F3, F4]))
    (hF : F0.offset = 0 ∧ F1.offset = 1 ∧ F2.offset = 2 ∧ F3.offset = 3 ∧ F4.offset = 5 ∧ P.cellsOf F0.type = 1 ∧ P.cellsOf F1.type = 1 ∧ P.cellsOf F2.type = 1 ∧ P.cellsOf F3.type = 2 ∧ P.cellsOf F4.type = 1)
    (i0 : P.underlying F0.type = some .string) (i1 : P.underlying F1.type = some .string) (i2 : P.underlying F2.type = some .bool)
    (i3 : P.underlying F3.type = some (.struct #[g0, g1])) (hg : g0.offset = 0 ∧ g1.offset = 1 ∧ P.cellsOf g0.type = 1 ∧ P.cellsOf g1.type = 1)
    (i4 : P.underlying F4.type = some (.slice e)) (he : P.underlying e = some (.struct #[f0, f1])) (hf : f0.offset = 0 ∧ f1.offset = 1 ∧ P.cellsOf f0.type = 1 ∧ P.cellsOf f1.type = 2)
    (hC : P.cellsOf e = 3) (h0 : P.underlying f0.type = some .string) (h1 : P.underlying f1.type = some (.struct #[g0, g1]))
    (h2 : P.underlying g0.type = some (.int .i64)) (h3 : P.underlying g1.type = some (.int .i64)) (hv : Value.okWide P w r b0 t v) (h : DataW.Trod enc P w base spare held t v d p) :
    ∃ (n m : Int) (x : Wv) (u : Value), v = .agg #[.int .i64 n, .int .i64 m, .string x.key, .string x.val, .bool x.gone, .int .i64 x.st.1, .int .i64 x.st.2, u] ∧ x.key.size ≤ 9223372036854775807 ∧ x.val.size ≤ 9223372036854775807 ∧ Szd x.past ∧ DepAt w u x.past := by
  obtain ⟨cs, rfl, hsz⟩ := okWide_struct ht hv
  obtain ⟨fuel, hf'⟩ := h
  obtain ⟨y0, y1, y2, n', hx, hcl, k0, k1, k2⟩ := trod_struct3 ht hf'
  obtain ⟨o0, o1, o2, c0, c1, c2⟩ := hA
  rw [o0, c0] at k0
  rw [o1, c1] at k1
  rw [o2, c2] at k2
  have e0 : (Value.agg cs).cells.toList = cs.toList := rfl
  rw [e0] at k0 k1 k2
  rw [hTA] at hsz
  obtain ⟨l⟩ := cs
  match l, hsz with
  | [d0, d1, d2, d3, d4, d5, d6, d7], _ =>
    obtain ⟨n, e1, _, _⟩ := DataW.trod_int j0 k0
    obtain ⟨m, e2, _, _⟩ := DataW.trod_int j1 k1
    simp at e1 e2
    subst e1 e2
    obtain ⟨x, u, e3, r1, r2, r3, r4⟩ := trod_version (cs := [d2, d3, d4, d5, d6, d7]) j2 hF (by rw [c2]) i0 i1 i2 i3 hg i4 he hf hC h0 h1 h2 h3 rfl (by simpa using k2)
    simp at e3
    obtain ⟨rfl, rfl, rfl, rfl, rfl, rfl⟩ := e3
    exact ⟨n, m, x, _, rfl, r1, r2, r3, r4⟩
/-- Two pasts. -/
theorem open_deps2 {r : Reach} {b0 : Nat} {t ts e : TypeId} {f0 f1 g0 g1 : Field} {v : Value} {d : DataW H} {p : List MemPlace} (ht : P.underlying t = some (.array 2 ts)) (hc : P.cellsOf t = 2) (hce : P.cellsOf ts = 1)
    (i4 : P.underlying ts = some (.slice e)) (he : P.underlying e = some (.struct #[f0, f1])) (hf : f0.offset = 0 ∧ f1.offset = 1 ∧ P.cellsOf f0.type = 1 ∧ P.cellsOf f1.type = 2)
    (hC : P.cellsOf e = 3) (h0 : P.underlying f0.type = some .string) (h1 : P.underlying f1.type = some (.struct #[g0, g1])) (hg : g0.offset = 0 ∧ g1.offset = 1 ∧ P.cellsOf g0.type = 1 ∧ P.cellsOf g1.type = 1)
    (h2 : P.underlying g0.type = some (.int .i64)) (h3 : P.underlying g1.type = some (.int .i64))
    (hv : Value.okWide P w r b0 t v) (h : DataW.Trod enc P w base spare held t v d p) :
    ∃ (u0 u1 : Value) (l0 l1 : List De), v = .agg #[u0, u1] ∧ DepAt w u0 l0 ∧ Szd l0 ∧ DepAt w u1 l1 ∧ Szd l1 := by
  obtain ⟨cs, rfl, hl, hx⟩ := open_arr ht hc hce hv h
  match cs, hl with
  | [c0, c1], _ =>
    obtain ⟨fu0, y0, k0⟩ := hx 0 (by simp)
    obtain ⟨fu1, y1, k1⟩ := hx 1 (by simp)
    have sh : ∀ {fu : Nat} {c : Value} {y : DataW H × List MemPlace}, DataW.trod enc P w base spare held fu ts [c] = some y → ∃ a n cp, c = .slice a n cp := by
      intro fu c y k
      rcases open_slice i4 k with ⟨hcs, _⟩ | ⟨x, l, c', m, n, D, Pl, hcs, _, _⟩
      · simp at hcs
        exact ⟨none, 0, 0, hcs⟩
      · simp at hcs
        exact ⟨_, _, _, hcs⟩
    obtain ⟨a0, n0, p0, e0⟩ := sh k0
    obtain ⟨a1, n1, p1, e1⟩ := sh k1
    simp at e0 e1
    subst e0 e1
    obtain ⟨l0, q0, z0, _⟩ := open_deps (v := .slice a0 n0 p0) i4 he hf hC h0 h1 hg h2 h3 (by simpa [Value.cells] using k0) ⟨_, _, _, rfl⟩
    obtain ⟨l1, q1, z1, _⟩ := open_deps (v := .slice a1 n1 p1) i4 he hf hC h0 h1 hg h2 h3 (by simpa [Value.cells] using k1) ⟨_, _, _, rfl⟩
    exact ⟨_, _, l0, l1, rfl, q0, z0, q1, z1⟩
end
end Go.Proofs.Ytfmedinhlmiaeaa
