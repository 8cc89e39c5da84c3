/- Texts of this proof, one behind the other: Open4, Open6, WireBackWalk. -/
import Derived.Test.YtkaehjehpclgcaaGW19
import Derived.Deep.Strs
import Derived.Lib.SlBytesRow
import Derived.Lib.ConvBytes
/- Dependencies, rows of them, a dependency with ranges, and three ints among the arguments, opened. -/
namespace Go.Proofs.Ytkaehjehpclgcaa
open Go.ChangeShapes Go.WideShapes Go.ChangeAt Go.RowKit Go.Joins Go.Deep
set_option linter.unusedVariables false

section
variable {H : Type} {enc : TypeId × Value → H} {P : Program} {w : World} {base : Nat} {spare : Nat → Bool} {held : Bool}

/-- Cells that read as a text and a struct of two ints. -/
theorem trod_dep {e : TypeId} {f0 f1 g0 g1 : Field} {fuel : Nat} {cs : List Value} {x : DataW H × List MemPlace} (he : P.underlying e = some (.struct #[f0, f1])) (hf : f0.offset = 0 ∧ f1.offset = 1 ∧ P.cellsOf f0.type = 1 ∧ P.cellsOf f1.type = 2)
    (hC : P.cellsOf e = 3) (h0 : P.underlying f0.type = some .string) (h1 : P.underlying f1.type = some (.struct #[g0, g1])) (hg : g0.offset = 0 ∧ g1.offset = 1 ∧ P.cellsOf g0.type = 1 ∧ P.cellsOf g1.type = 1)
    (h2 : P.underlying g0.type = some (.int .i64)) (h3 : P.underlying g1.type = some (.int .i64)) (h : DataW.trod enc P w base spare held fuel e cs = some x) :
    ∃ (k : ByteArray) (n s : Int), cs = [.string k, .int .i64 n, .int .i64 s] ∧ k.size ≤ maxLen ∧ In64 (n, s) := by
  obtain ⟨y0, y1, n', hx, hcl, k0, k1⟩ := trod_struct2 he h
  obtain ⟨a1, a2, a3, a4⟩ := hf
  obtain ⟨b1, b2, b3, b4⟩ := hg
  rw [hC] at hcl
  match cs, hcl with
  | [c0, c1, c2], _ =>
    rw [a1, a3] at k0
    rw [a2, a4] at k1
    obtain ⟨z0, z1, n2, hx2, hcl2, m0, m1⟩ := trod_struct2 h1 k1
    rw [b1, b3] at m0
    rw [b2, b4] at m1
    obtain ⟨k, e0, _, z0⟩ := DataW.trod_string h0 k0
    obtain ⟨n, e1, _, z1⟩ := DataW.trod_int h2 m0
    obtain ⟨s, e2, _, z2⟩ := DataW.trod_int h3 m1
    simp at e0 e1 e2
    subst e0 e1 e2
    exact ⟨k, n, s, rfl, z0, bounds_i64 z1, bounds_i64 z2⟩

/-- A dependency, by value. -/
theorem open_dep {r : Reach} {b0 : Nat} {e : TypeId} {f0 f1 g0 g1 : Field} {v : Value} {d : DataW H} {p : List MemPlace} (he : P.underlying e = some (.struct #[f0, f1])) (hf : f0.offset = 0 ∧ f1.offset = 1 ∧ P.cellsOf f0.type = 1 ∧ P.cellsOf f1.type = 2)
    (hC : P.cellsOf e = 3) (h0 : P.underlying f0.type = some .string) (h1 : P.underlying f1.type = some (.struct #[g0, g1])) (hg : g0.offset = 0 ∧ g1.offset = 1 ∧ P.cellsOf g0.type = 1 ∧ P.cellsOf g1.type = 1)
    (h2 : P.underlying g0.type = some (.int .i64)) (h3 : P.underlying g1.type = some (.int .i64)) (hv : Value.okWide P w r b0 e v) (h : DataW.Trod enc P w base spare held e v d p) :
    ∃ (k : ByteArray) (n s : Int), v = .agg #[.string k, .int .i64 n, .int .i64 s] ∧ k.size ≤ maxLen ∧ In64 (n, s) := by
  obtain ⟨cs, rfl, hsz⟩ := okWide_struct he hv
  obtain ⟨fuel, hf'⟩ := h
  obtain ⟨k, n, s, e1, hk, hb⟩ := trod_dep he hf hC h0 h1 hg h2 h3 hf'
  have e2 : cs = #[.string k, .int .i64 n, .int .i64 s] := by
    apply Array.ext'
    simpa [Value.cells] using e1
  subst e2
  exact ⟨k, n, s, rfl, hk, hb⟩

/-- A row of dependencies. -/
theorem open_deps {t e : TypeId} {f0 f1 g0 g1 : Field} {fuel : Nat} {v : Value} {x : DataW H × List MemPlace} (ht : P.underlying t = some (.slice e)) (he : P.underlying e = some (.struct #[f0, f1])) (hf : f0.offset = 0 ∧ f1.offset = 1 ∧ P.cellsOf f0.type = 1 ∧ P.cellsOf f1.type = 2)
    (hC : P.cellsOf e = 3) (h0 : P.underlying f0.type = some .string) (h1 : P.underlying f1.type = some (.struct #[g0, g1])) (hg : g0.offset = 0 ∧ g1.offset = 1 ∧ P.cellsOf g0.type = 1 ∧ P.cellsOf g1.type = 1)
    (h2 : P.underlying g0.type = some (.int .i64)) (h3 : P.underlying g1.type = some (.int .i64))
    (h : DataW.trod enc P w base spare held fuel t v.cells.toList = some x) (hv : ∃ a n c, v = .slice a n c) :
    ∃ l : List De, DepAt w v l ∧ Szd l ∧ ∀ d ∈ l, In64 d.2 := by
  obtain ⟨a, len, cap, rfl⟩ := hv
  rcases open_slice ht h with ⟨hcs, _⟩ | ⟨x, l, c, m, n, D, Pl, hcs, _, hl, hm, hmm, _, hi⟩
  · simp [Value.cells] at hcs
    obtain ⟨rfl, rfl, rfl⟩ := hcs
    exact ⟨[], DepAt.nil w, by simp [Szd], by simp⟩
  · simp [Value.cells] at hcs
    obtain ⟨rfl, rfl, rfl⟩ := hcs
    have hlm : len ≤ m := by rw [hmm]; split <;> omega
    have all : ∀ i, ∃ d : De, i < len → (d.1.size ≤ maxLen ∧ In64 d.2) ∧ w.cell? (x.add (i * 3)) = some (.string d.1) ∧ w.cell? (x.add (i * 3 + 1)) = some (.int .i64 d.2.1) ∧ w.cell? (x.add (i * 3 + 2)) = some (.int .i64 d.2.2) := by
      intro i
      by_cases hil : i < len
      · obtain ⟨cs', hc, ht'⟩ := hi i (by omega)
        rw [hC] at hc
        obtain ⟨k, n, s, rfl, hk, hb⟩ := trod_dep he hf hC h0 h1 hg h2 h3 ht'
        obtain ⟨_, hcl', hat⟩ := World.cells?_some hc
        refine ⟨(k, n, s), fun _ => ⟨⟨hk, hb⟩, ?_, ?_, ?_⟩⟩
        · have := hat 0 (by omega)
          simpa [Go.Deep.add_add] using this
        · have := hat 1 (by omega)
          simpa [Go.Deep.add_add] using this
        · have := hat 2 (by omega)
          simpa [Go.Deep.add_add] using this
      · exact ⟨(ByteArray.empty, 0, 0), fun hh => absurd hh hil⟩
    obtain ⟨F, hF⟩ : ∃ F : Nat → De, ∀ i, i < len → ((F i).1.size ≤ maxLen ∧ In64 (F i).2) ∧ w.cell? (x.add (i * 3)) = some (.string (F i).1) ∧ w.cell? (x.add (i * 3 + 1)) = some (.int .i64 (F i).2.1) ∧ w.cell? (x.add (i * 3 + 2)) = some (.int .i64 (F i).2.2) :=
      ⟨fun i => (all i).choose, fun i => (all i).choose_spec⟩
    obtain ⟨b, off, spot⟩ := x
    refine ⟨(List.range len).map F, ⟨some ⟨b, off, spot⟩, cap, by simp, by simpa using hl, hm, by simp, ?_⟩, ?_, ?_⟩
    · intro i hi
      have hi' : i < len := by simpa using hi
      have hspot : spot = none := by
        have := (hF 0 (by omega)).2.1
        simpa [Addr.add] using World.cell?_spot this
      subst hspot
      have q0 := (hF i hi').2.1
      have q1 := (hF i hi').2.2.1
      have q2 := (hF i hi').2.2.2
      rw [Addr.add_lit] at q0 q1 q2
      refine ⟨b, off, rfl, World.block_lt_of_cell? w _ q0, ?_, ?_, ?_⟩
      · simp only [List.getElem_map, List.getElem_range]
        exact q0
      · simp only [List.getElem_map, List.getElem_range]
        rw [Nat.add_assoc]
        exact q1
      · simp only [List.getElem_map, List.getElem_range]
        rw [Nat.add_assoc]
        exact q2
    · intro d hd
      simp at hd
      obtain ⟨i, hi, rfl⟩ := hd
      have := (hF i hi).1.1
      unfold maxLen at this
      exact this
    · intro d hd
      simp at hd
      obtain ⟨i, hi, rfl⟩ := hd
      exact (hF i hi).1.2

/-- A struct of a dependency and a row of ranges, by value. -/
theorem open_ask {r : Reach} {b0 : Nat} {t : TypeId} {f0 f1 g0 g1 : Field} {F G : Field} {R : TypeId} {r0 r1 : Field} {v : Value} {d : DataW H} {p : List MemPlace} (ht : P.underlying t = some (.struct #[F, G])) (hF : F.offset = 0 ∧ G.offset = 3 ∧ P.cellsOf G.type = 1) (hT : P.cellsOf t = 4)
    (he : P.underlying F.type = some (.struct #[f0, f1])) (hf : f0.offset = 0 ∧ f1.offset = 1 ∧ P.cellsOf f0.type = 1 ∧ P.cellsOf f1.type = 2)
    (hC : P.cellsOf F.type = 3) (h0 : P.underlying f0.type = some .string) (h1 : P.underlying f1.type = some (.struct #[g0, g1])) (hg : g0.offset = 0 ∧ g1.offset = 1 ∧ P.cellsOf g0.type = 1 ∧ P.cellsOf g1.type = 1)
    (h2 : P.underlying g0.type = some (.int .i64)) (h3 : P.underlying g1.type = some (.int .i64))
    (hG : P.underlying G.type = some (.slice R)) (hR : P.underlying R = some (.struct #[r0, r1])) (hone : oneCellFields P #[r0, r1] = true) (hRC : P.cellsOf R = 2) (hr0 : P.underlying r0.type = some .string) (hr1 : P.underlying r1.type = some .string)
    (hv : Value.okWide P w r b0 t v) (h : DataW.Trod enc P w base spare held t v d p) :
    ∃ (k : ByteArray) (n s : Int) (a : Option Addr) (rs : List (ByteArray × ByteArray)) (cap : Nat), v = .agg #[.string k, .int .i64 n, .int .i64 s, .slice a rs.length cap] ∧ k.size ≤ maxLen ∧ In64 (n, s) ∧
      rs.length ≤ 9223372036854775807 ∧ (∀ r ∈ rs, r.1.size ≤ maxLen ∧ r.2.size ≤ maxLen) ∧ RngIn w a rs ∧ rs.length ≤ cap := by
  obtain ⟨cs, rfl, hsz⟩ := okWide_struct ht hv
  obtain ⟨fuel, hf'⟩ := h
  obtain ⟨y0, y1, n', hx, hcl, k0, k1⟩ := trod_struct2 ht hf'
  rw [hF.1, hC] at k0
  rw [hF.2.1, hF.2.2] at k1
  have e0 : (Value.agg cs).cells.toList = cs.toList := rfl
  rw [e0] at k0 k1
  obtain ⟨k, n, s, e1, hk, hb⟩ := trod_dep he hf hC h0 h1 hg h2 h3 k0
  rw [hT] at hsz
  obtain ⟨l⟩ := cs
  match l, hsz with
  | [c0, c1, c2, c3], _ =>
    simp at e1
    obtain ⟨rfl, rfl, rfl⟩ := e1
    have k2 : DataW.trod enc P w base spare held n' G.type [c3] = some y1 := by simpa using k1
    have hs : ∃ a n c, c3 = .slice a n c ∧ n ≤ c := by
      rcases open_slice hG k2 with ⟨hcs, _⟩ | ⟨x, l, c, m, n, D, Pl, hcs, _, hl, _⟩
      · simp at hcs
        exact ⟨none, 0, 0, hcs, Nat.le_refl _⟩
      · simp at hcs
        exact ⟨_, _, _, hcs, hl⟩
    obtain ⟨a, len, cap, rfl, hlc⟩ := hs
    obtain ⟨a', rs, cap', e4, q1, q2, q3⟩ := open_ranges (v := .slice a len cap) hG hR hone hRC hr0 hr1 (by simpa [Value.cells] using k2) ⟨_, _, _, rfl⟩
    cases e4
    exact ⟨k, n, s, a, rs, cap, rfl, hk, hb, q1, q2, q3, hlc⟩

/-- An array of three ints. -/
theorem open_ints3 {r : Reach} {b0 : Nat} {t e : TypeId} {v : Value} {d : DataW H} {p : List MemPlace}
    (ht : P.underlying t = some (.array 3 e)) (he : P.underlying e = some (.int .i64)) (hc : P.cellsOf t = 3) (hce : P.cellsOf e = 1)
    (hv : Value.okWide P w r b0 t v) (h : DataW.Trod enc P w base spare held t v d p) :
    ∃ q0 q1 q2 : Int, v = .agg #[.int .i64 q0, .int .i64 q1, .int .i64 q2] ∧ (-9223372036854775808 ≤ q0 ∧ q0 ≤ 9223372036854775807) ∧ (-9223372036854775808 ≤ q1 ∧ q1 ≤ 9223372036854775807) ∧ (-9223372036854775808 ≤ q2 ∧ q2 ≤ 9223372036854775807) := by
  obtain ⟨cs, rfl, hl, hx⟩ := open_arr ht hc hce hv h
  match cs, hl with
  | [c0, c1, c2], _ =>
    obtain ⟨_, _, k0⟩ := hx 0 (by simp)
    obtain ⟨_, _, k1⟩ := hx 1 (by simp)
    obtain ⟨_, _, k2⟩ := hx 2 (by simp)
    obtain ⟨n0, e0, _, w0⟩ := DataW.trod_int he k0
    obtain ⟨n1, e1, _, w1⟩ := DataW.trod_int he k1
    obtain ⟨n2, e2, _, w2⟩ := DataW.trod_int he k2
    simp at e0 e1 e2
    subst e0 e1 e2
    exact ⟨n0, n1, n2, rfl, bounds_i64 w0, bounds_i64 w1, bounds_i64 w2⟩
end
end Go.Proofs.Ytkaehjehpclgcaa
/- A version, a row by plain numbers, an array of two ints, among the arguments, opened. -/
namespace Go.Proofs.Ytkaehjehpclgcaa
open Go.ChangeShapes Go.WideShapes Go.ChangeAt Go.RowKit Go.Joins Go.Deep
set_option linter.unusedVariables false

section
variable {H : Type} {enc : TypeId × Value → H} {P : Program} {w : World} {base : Nat} {spare : Nat → Bool} {held : Bool}

theorem trod_struct5 {t : TypeId} {f0 f1 f2 f3 f4 : Field} {fuel : Nat} {cs : List Value} {x : DataW H × List MemPlace} (ht : P.underlying t = some (.struct #[f0, f1, f2, f3, f4])) (h : DataW.trod enc P w base spare held fuel t cs = some x) :
    ∃ y0 y1 y2 y3 y4 n, cs.length = P.cellsOf t ∧ DataW.trod enc P w base spare held n f0.type ((cs.drop f0.offset).take (P.cellsOf f0.type)) = some y0 ∧
      DataW.trod enc P w base spare held n f1.type ((cs.drop f1.offset).take (P.cellsOf f1.type)) = some y1 ∧ DataW.trod enc P w base spare held n f2.type ((cs.drop f2.offset).take (P.cellsOf f2.type)) = some y2 ∧
      DataW.trod enc P w base spare held n f3.type ((cs.drop f3.offset).take (P.cellsOf f3.type)) = some y3 ∧ DataW.trod enc P w base spare held n f4.type ((cs.drop f4.offset).take (P.cellsOf f4.type)) = some y4 := by
  obtain ⟨xs, n, _, rfl, hl, hlen, hf⟩ := DataW.trod_struct ht h
  match xs, hlen with
  | [y0, y1, y2, y3, y4], _ => exact ⟨y0, y1, y2, y3, y4, n, hl, by simpa using hf 0 f0 rfl, by simpa using hf 1 f1 rfl, by simpa using hf 2 f2 rfl, by simpa using hf 3 f3 rfl, by simpa using hf 4 f4 rfl⟩

/-- A version, by value. -/
theorem open_version {r : Reach} {b0 : Nat} {t e : TypeId} {F0 F1 F2 F3 F4 f0 f1 g0 g1 : Field} {v : Value} {d : DataW H} {p : List MemPlace} (ht : P.underlying t = some (.struct #[F0, F1, F2, F3, F4]))
    (hF : F0.offset = 0 ∧ F1.offset = 1 ∧ F2.offset = 2 ∧ F3.offset = 3 ∧ F4.offset = 5 ∧ P.cellsOf F0.type = 1 ∧ P.cellsOf F1.type = 1 ∧ P.cellsOf F2.type = 1 ∧ P.cellsOf F3.type = 2 ∧ P.cellsOf F4.type = 1) (hT : P.cellsOf t = 6)
    (i0 : P.underlying F0.type = some .string) (i1 : P.underlying F1.type = some .string) (i2 : P.underlying F2.type = some .bool)
    (i3 : P.underlying F3.type = some (.struct #[g0, g1])) (hg : g0.offset = 0 ∧ g1.offset = 1 ∧ P.cellsOf g0.type = 1 ∧ P.cellsOf g1.type = 1)
    (i4 : P.underlying F4.type = some (.slice e)) (he : P.underlying e = some (.struct #[f0, f1])) (hf : f0.offset = 0 ∧ f1.offset = 1 ∧ P.cellsOf f0.type = 1 ∧ P.cellsOf f1.type = 2)
    (hC : P.cellsOf e = 3) (h0 : P.underlying f0.type = some .string) (h1 : P.underlying f1.type = some (.struct #[g0, g1]))
    (h2 : P.underlying g0.type = some (.int .i64)) (h3 : P.underlying g1.type = some (.int .i64)) (hv : Value.okWide P w r b0 t v) (h : DataW.Trod enc P w base spare held t v d p) :
    ∃ (x : Wv) (u : Value), v = .agg (wvs x u) ∧ x.key.size ≤ 9223372036854775807 ∧ x.val.size ≤ 9223372036854775807 ∧ Szd x.past ∧ DepAt w u x.past := by
  obtain ⟨cs, rfl, hsz⟩ := okWide_struct ht hv
  obtain ⟨fuel, hf'⟩ := h
  obtain ⟨y0, y1, y2, y3, y4, n', hcl, k0, k1, k2, k3, k4⟩ := trod_struct5 ht hf'
  obtain ⟨q0, q1, q2, q3, q4, c0, c1, c2, c3, c4⟩ := hF
  rw [q0, c0] at k0
  rw [q1, c1] at k1
  rw [q2, c2] at k2
  rw [q3, c3] at k3
  rw [q4, c4] at k4
  have e0 : (Value.agg cs).cells.toList = cs.toList := rfl
  rw [e0] at k0 k1 k2 k3 k4
  rw [hT] at hsz
  obtain ⟨l⟩ := cs
  match l, hsz with
  | [d0, d1, d2, d3, d4, d5], _ =>
    obtain ⟨key, e1, _, z1⟩ := DataW.trod_string i0 k0
    obtain ⟨val, e2, _, z2⟩ := DataW.trod_string i1 k1
    obtain ⟨gone, e3, _⟩ := DataW.trod_bool i2 k2
    obtain ⟨w0, w1, n2, _, _, m0, m1⟩ := trod_struct2 i3 k3
    rw [hg.1, hg.2.2.1] at m0
    rw [hg.2.1, hg.2.2.2] at m1
    obtain ⟨n, e4, _, _⟩ := DataW.trod_int h2 m0
    obtain ⟨s, e5, _, _⟩ := DataW.trod_int h3 m1
    simp at e1 e2 e3 e4 e5
    subst e1 e2 e3 e4 e5
    have k5 : DataW.trod enc P w base spare held n' F4.type [d5] = some y4 := by simpa using k4
    have hs : ∃ a n c, d5 = .slice a n c := by
      rcases open_slice i4 k5 with ⟨hcs, _⟩ | ⟨x, l, c, m, n, D, Pl, hcs, _, _⟩
      · simp at hcs
        exact ⟨none, 0, 0, hcs⟩
      · simp at hcs
        exact ⟨_, _, _, hcs⟩
    obtain ⟨a, len, cap, rfl⟩ := hs
    obtain ⟨past, hd, hz, _⟩ := open_deps (v := .slice a len cap) i4 he hf hC h0 h1 hg h2 h3 (by simpa [Value.cells] using k5) ⟨_, _, _, rfl⟩
    unfold maxLen at z1 z2
    exact ⟨⟨key, val, gone, (n, s), past⟩, .slice a len cap, rfl, z1, z2, hz, hd⟩

/-- A slice of ints in a cell. -/
theorem trod_ints6 {t e : TypeId} {fuel : Nat} {c : Value} {x : DataW H × List MemPlace} (ht : P.underlying t = some (.slice e)) (he : P.underlying e = some (.int .i64)) (hc : P.cellsOf e = 1) (h : DataW.trod enc P w base spare held fuel t [c] = some x) :
    ∃ (l : List Int), RowAt KI w c l ∧ ∀ z ∈ l, -9223372036854775808 ≤ z ∧ z ≤ 9223372036854775807 := by
  rcases open_ints ht he hc h with ⟨hcs, _⟩ | ⟨x, len, cap, zs, hcs, _, hl, hm, hz, _, hcell, hwz⟩
  · simp at hcs
    subst hcs
    exact ⟨[], ⟨none, 0, rfl, by simp, by simp, by simp, fun i h => absurd h (by simp)⟩, by simp⟩
  · simp at hcs
    subst hcs
    have hle : len ≤ zs.length := by rw [hz]; split <;> omega
    obtain ⟨b, off, spot⟩ := x
    refine ⟨zs.take len, ⟨some ⟨b, off, spot⟩, cap, by simp; omega, by simp; omega, hm, by simp, fun i hi => ?_⟩, fun z hzz => ?_⟩
    · have hi' : i < zs.length := by simp at hi; omega
      have hcl := hcell i hi'
      have hspot : spot = none := by simpa [Addr.add] using World.cell?_spot (hcell 0 (by omega))
      subst hspot
      rw [Addr.add_lit] at hcl
      refine ⟨b, off, rfl, World.block_lt_of_cell? w _ hcl, fun j u hu => ?_⟩
      have e : (zs.take len)[i] = zs[i] := by simp
      have hj : j < 1 := by have := (List.getElem?_eq_some_iff.1 hu).1; simpa [KI] using this
      obtain rfl : j = 0 := by omega
      simp [KI] at hu ⊢
      rw [← hu]
      simpa [List.getD_eq_getElem?_getD, hi'] using hcl
    · exact bounds_i64 (hwz z (List.mem_of_mem_take hzz))

/-- A row by plain numbers. -/
theorem open_spec {r : Reach} {b0 : Nat} {t e : TypeId} {F0 F1 F2 : Field} {v : Value} {d : DataW H} {p : List MemPlace} (ht : P.underlying t = some (.struct #[F0, F1, F2])) (hone : oneCellFields P #[F0, F1, F2] = true) (hT : P.cellsOf t = 3)
    (i0 : P.underlying F0.type = some (.slice e)) (i1 : P.underlying F1.type = some (.slice e)) (i2 : P.underlying F2.type = some (.slice e)) (he : P.underlying e = some (.int .i64)) (hc : P.cellsOf e = 1)
    (hv : Value.okWide P w r b0 t v) (h : DataW.Trod enc P w base spare held t v d p) :
    ∃ (u0 u1 u2 : Value) (l0 l1 l2 : List Int), v = .agg #[u0, u1, u2] ∧ (RowAt KI w u0 l0 ∧ ∀ z ∈ l0, -9223372036854775808 ≤ z ∧ z ≤ 9223372036854775807) ∧ (RowAt KI w u1 l1 ∧ ∀ z ∈ l1, -9223372036854775808 ≤ z ∧ z ≤ 9223372036854775807) ∧ (RowAt KI w u2 l2 ∧ ∀ z ∈ l2, -9223372036854775808 ≤ z ∧ z ≤ 9223372036854775807) := by
  obtain ⟨v0, v1, v2, y0, y1, y2, n, rfl, _, _, k0, k1, k2⟩ := open_agg3 ht hone hT hv h
  obtain ⟨l0, a0⟩ := trod_ints6 i0 he hc k0
  obtain ⟨l1, a1⟩ := trod_ints6 i1 he hc k1
  obtain ⟨l2, a2⟩ := trod_ints6 i2 he hc k2
  exact ⟨v0, v1, v2, l0, l1, l2, rfl, a0, a1, a2⟩

/-- An array of two ints. -/
theorem open_ints2 {r : Reach} {b0 : Nat} {t e : TypeId} {v : Value} {d : DataW H} {p : List MemPlace}
    (ht : P.underlying t = some (.array 2 e)) (he : P.underlying e = some (.int .i64)) (hc : P.cellsOf t = 2) (hce : P.cellsOf e = 1)
    (hv : Value.okWide P w r b0 t v) (h : DataW.Trod enc P w base spare held t v d p) :
    ∃ q0 q1 : Int, v = .agg #[.int .i64 q0, .int .i64 q1] ∧ (-9223372036854775808 ≤ q0 ∧ q0 ≤ 9223372036854775807) ∧ (-9223372036854775808 ≤ q1 ∧ q1 ≤ 9223372036854775807) := by
  obtain ⟨cs, rfl, hl, hx⟩ := open_arr ht hc hce hv h
  match cs, hl with
  | [c0, c1], _ =>
    obtain ⟨_, _, k0⟩ := hx 0 (by simp)
    obtain ⟨_, _, k1⟩ := hx 1 (by simp)
    obtain ⟨n0, e0, _, w0⟩ := DataW.trod_int he k0
    obtain ⟨n1, e1, _, w1⟩ := DataW.trod_int he k1
    simp at e0 e1
    subst e0 e1
    exact ⟨n0, n1, rfl, bounds_i64 w0, bounds_i64 w1⟩
end
end Go.Proofs.Ytkaehjehpclgcaa
/- WireBack, walked: a version that was written is read, and nothing else. -/
namespace Go.Proofs.Ytkaehjehpclgcaa
open Go.RowKit
set_option linter.unusedVariables false
set_option linter.unusedSimpArgs false

theorem wbV_len {v : Wv} (h : okW v = true) : (wbV v).length ≤ 5000 := by
  obtain ⟨T1, G, T2, U, P, hB⟩ := bytesW h
  have e := congrArg List.length hB.eq
  simp only [List.length_append] at e
  have h1 := hB.s1
  have h2 := hB.s2
  have h3 := hB.s3
  have h4 := hB.s4
  have h5 := hB.s5
  have k1 : T1.data.toList.length = T1.size := rfl
  have k2 : G.data.toList.length = G.size := rfl
  have k3 : T2.data.toList.length = T2.size := rfl
  have k4 : U.data.toList.length = U.size := rfl
  have k5 : P.data.toList.length = P.size := rfl
  obtain ⟨o1, o2, o3, o4, o5, o6, o7⟩ := okW_parts h
  have hp := chkD_parts o5
  have l5 := Vm.enc_len10 (n := v.past.length) (by omega)
  have l6 := pbody_len v.past (srt_sizes hp.2)
  have l7 : v.past.length * 62 ≤ 24 * 62 := Nat.mul_le_mul_right _ hp.1
  have hP : P.size ≤ 2000 := by
    rw [hB.t5]
    show (Array.size _) ≤ 2000
    rw [List.size_toArray]
    unfold pbV
    rw [if_pos o5, List.length_append]
    omega
  omega

set_option maxRecDepth 100000 in
set_option maxHeartbeats 3200000 in
theorem walkWireBack (w : World) (v1 : Wv) (u1 : Value) (hk1 : v1.key.size ≤ 9223372036854775807) (hv1 : v1.val.size ≤ 9223372036854775807) (hz1 : Szd v1.past) (hd1 : DepAt w u1 v1.past) (c : Int) (hwf : (Lit.int .u8 c).wf = true) :
    Calls Try.prog 5 #[.agg (wvs v1 u1), .int .u8 c] w fun e w' => e = .returned (.bool true) ∧ Below w.heap.size w w' := by
  have hc : 0 ≤ c ∧ c ≤ 255 := by
    simp [Lit.wf, IntKind.min, IntKind.max, IntKind.signed, IntKind.bits] at hwf
    omega
  have hi1 : WvIn w v1 u1 := ⟨hk1, hv1, hz1, hd1⟩
  have hb1 : Below w.heap.size w (w.alloc (.cells (wvs v1 u1) 26)) := balloc (Below.refl _ w) _
  have hA := VwP.new w v1 u1 26
  have hsz : (w.alloc (.cells (wvs v1 u1) 26)).heap.size = w.heap.size + 1 := by simp
  have hf1 := fun W (h : WvIn W v1 u1) => wfew_any v1 u1 W h.key h.val h.szd h.at_
  have hok1 : ∀ W u, DepAt W u (fewW v1).past → WvOk W (fewW v1) u := fun W u h => fewW_ok h
  generalize fewW v1 = f1 at hf1 hok1
  have HOK1 := Lib.hid hok1
  have HI1 := Lib.hid hi1
  have hp1 := hd1
  obtain ⟨pa1, pc1, hu1, _⟩ := hp1
  obtain ⟨cb, hcb⟩ : ∃ cb : UInt8, c = (cb.toNat : Int) := ⟨UInt8.ofNat c.toNat, by rw [UInt8.toNat_ofNat']; omega⟩
  have HCB := Lib.hid hcb
  clear hok1 hi1 hk1 hv1 hz1 hd1 hcb hc hwf
  subst hu1
  dsimp only [wvs] at *
  go_enter Try.func5, Try.ntmps5
  go_upto_region 1 with fail
  generalize w.alloc (.cells #[.string v1.key, .string v1.val, .bool v1.gone, .int .i64 v1.st.1, .int .i64 v1.st.2, (.slice pa1 v1.past.length pc1)] 26) = w2 at *
  have HA := Lib.hid hA
  have HBW := Lib.hid hb1
  have HSZ := Lib.hid hsz
  clear hA hb1 hsz
  go_wp2_with fail
  refine (wawake_any _).mono ?_
  rintro e w3 ⟨rfl, hb3⟩
  have hA3 := HA.out.keep hb3
  have HBW3 := Lib.hid (bstep HBW.out hb3)
  have HSZ3 : Hid (w.heap.size < w3.heap.size) := Lib.hid (by have := hb3.size; have := HSZ.out; omega)
  have HA3 := Lib.hid hA3
  obtain ⟨x0, x1, x2, x3, x4, x5, _⟩ := hA3
  clear HA HBW HSZ hb3
  go_wp2_with fail
  refine (hf1 _ (HI1.out.below HBW3.out)).mono ?_
  rintro e w4 ⟨u1', rfl, hd4, hn4, hb4⟩
  have hA4 := HA3.out.keep hb4
  have HA5 := Lib.hid (hA4.putw f1 u1')
  have HO5 := Lib.hid (HOK1.out _ _ (hd4.putw (b := w.heap.size) (x := f1) (z := u1') (fun g e => by have := hn4 g e; have := HSZ3.out; omega)))
  have hbw4 := bstep HBW3.out hb4
  have HBW5 := Lib.hid (below_putw hbw4 (Nat.le_refl _) f1 u1')
  obtain ⟨pa1', pc1', hu1', _⟩ := id hd4
  clear x0 x1 x2 x3 x4 x5
  obtain ⟨x0, x1, x2, x3, x4, x5, _⟩ := id hA4
  have q0 := hA4.f 0 (by decide)
  have q1 := hA4.f 1 (by decide)
  have q2 := hA4.f 2 (by decide)
  have q3 := hA4.f 3 (by decide)
  have q4 := hA4.f 4 (by decide)
  have q5 := hA4.f 5 (by decide)
  clear hA4 hd4 hn4 hb4 hbw4 HA3 HBW3 hf1
  subst hu1'
  go_upto_region 3 with fail
  dsimp only [World.putw] at HA5 HO5 HBW5
  generalize ((((((w4.setCell ⟨w.heap.size, 0, none⟩ (.string f1.key)).setCell ⟨w.heap.size, 1, none⟩ (.string f1.val)).setCell ⟨w.heap.size, 2, none⟩ (.bool f1.gone)).setCell ⟨w.heap.size, 3, none⟩ (.int .i64 f1.st.1)).setCell ⟨w.heap.size, 4, none⟩ (.int .i64 f1.st.2)).setCell ⟨w.heap.size, 5, none⟩ (.slice pa1' f1.past.length pc1')) = w5 at *
  clear x0 x1 x2 x3 x4 x5 q0 q1 q2 q3 q4 q5
  obtain ⟨x0, x1, x2, x3, x4, x5, _⟩ := HA5.out
  go_wp2_with fail
  obtain ⟨S, hS⟩ : ∃ S : ByteArray, S = ⟨(wbV f1).toArray⟩ := ⟨_, rfl⟩
  have hwb := wbytes_any f1 (.slice pa1' f1.past.length pc1') _ HO5.out
  rw [← hS] at hwb
  have hSl : S.data.toList = wbV f1 := by rw [hS]
  refine hwb.mono ?_
  rintro e w6 ⟨rfl, hb6⟩
  have HA6 := Lib.hid (HA5.out.keep hb6)
  have HO6 := Lib.hid (HO5.out.below hb6)
  have HBW6 := Lib.hid (bstep HBW5.out hb6)
  have hck := fun W (h : WvOk W f1 (.slice pa1' f1.past.length pc1')) => wcheck_any f1 (.slice pa1' f1.past.length pc1') W h
  have hsame := fun W u (h : DepAt W u f1.past) (k : WvOk W f1 (.slice pa1' f1.past.length pc1')) => wsame_any f1 f1 (.slice pa1' f1.past.length pc1') u W k (HOK1.out W u h)
  rw [sameW_self] at hsame
  clear x0 x1 x2 x3 x4 x5 HA5 HO5 HBW5 hb6 hwb hS
  obtain ⟨x0, x1, x2, x3, x4, x5, _⟩ := HA6.out
  cases hk : okW f1 with
  | false =>
    rw [hk] at hck
    rw [wbV_no hk] at hSl
    have hS0 : S = ⟨#[]⟩ := ba_zero (by show S.data.toList.length = 0; rw [hSl]; rfl)
    subst hS0
    clear hk hSl
    go_wp2_with fail
    refine (hck _ HO6.out).mono ?_
    rintro e w7 ⟨rfl, hb7⟩
    go_wp2
    go_ret
    exact ⟨rfl, bstep HBW6.out hb7⟩
  | true =>
    rw [hk] at hck
    have hlen : S.size ≤ 5000 := by show S.data.toList.length ≤ 5000; rw [hSl]; exact wbV_len hk
    have hpos : 1 ≤ S.size := by show 1 ≤ S.data.toList.length; rw [hSl, wbV_ok hk]; exact wb0_pos f1
    have hr0 := fun W => wread_any S W (by omega)
    have hr1 := fun W => wread_any (S ++ ⟨#[cb]⟩) W (by rw [ByteArray.size_append]; show S.size + 1 ≤ _; omega)
    have hr2 := fun W => wread_any (S.extract 0 (S.size - 1)) W (by simp; omega)
    rw [hSl, readW_back hk] at hr0
    rw [show (S ++ ⟨#[cb]⟩ : ByteArray).data.toList = wbV f1 ++ [cb] by simp [hSl], readW_more hk cb] at hr1
    rw [show (S.extract 0 (S.size - 1)).data.toList = (wbV f1).take ((wbV f1).length - 1) by rw [Lib.extract_data, hSl, show S.size = (wbV f1).length by rw [← hSl]; rfl]; simp, readW_less hk] at hr2
    dsimp only [gotW, wvs, wz, Option.isSome] at hr0 hr1 hr2
    have hcv : ∀ W b off, W.cell? ⟨b, off, none⟩ = some (.int .u8 c) → (convert 33 9 (.slice (some ⟨b, off, none⟩) 1 1)).run Try.prog W = .ok (.string ⟨#[cb]⟩) W := fun W b off h => kconv_one W b off cb c HCB.out h
    clear hk hSl
    have n1 : ¬ 9223372036854775807 < S.size + 1 := by omega
    have n0 : ((S.size : Int) == 0) = false := by rw [beq_eq_false_iff_ne]; omega
    have n0' : decide ((S.size : Int) = 0) = false := decide_eq_false (by omega)
    have n0n : ¬ S.size = 0 := by omega
    go_wp2_with fail
    refine (hck _ HO6.out).mono ?_
    rintro e w7 ⟨rfl, hb7⟩
    have HA7 := Lib.hid (HA6.out.keep hb7)
    have HO7 := Lib.hid (HO6.out.below hb7)
    have HBW7 := Lib.hid (bstep HBW6.out hb7)
    clear x0 x1 x2 x3 x4 x5 HA6 HO6 HBW6 hb7
    go_wp2_with fail
    refine (hr0 _).mono ?_
    rintro e w8 ⟨u8, rfl, hd8, hb8⟩
    have HA8 := Lib.hid (HA7.out.keep hb8)
    have HO8 := Lib.hid (HO7.out.below hb8)
    have HBW8 := Lib.hid (bstep HBW7.out hb8)
    obtain ⟨pa8, pc8, rfl, _⟩ := id hd8
    have hN := VwP.new w8 f1 (.slice pa8 f1.past.length pc8) 26
    have hbn := balloc (Below.refl _ w8) (.cells (wvs f1 (.slice pa8 f1.past.length pc8)) 26)
    have HA9 := Lib.hid (HA8.out.keep hbn)
    have HO9 := Lib.hid (HO8.out.below hbn)
    have HD9 := Lib.hid (hd8.below hbn)
    have HBW9 := Lib.hid (bstep HBW8.out hbn)
    clear HA7 HO7 HBW7 hb8 hr0 hd8 HA8 HO8 HBW8
    go_upto_region 7 with fail
    dsimp only [wvs] at hN hbn HA9 HO9 HD9 HBW9
    generalize hw9 : w8.alloc (.cells #[.string f1.key, .string f1.val, .bool f1.gone, .int .i64 f1.st.1, .int .i64 f1.st.2, (.slice pa8 f1.past.length pc8)] 26) = w9 at *
    have hN9 := hN.lt
    have HN9 := Lib.hid hN
    clear hN hbn hw9
    generalize w8.heap.size = B8 at *
    have hbc := balloc (Below.refl _ w9) (.cells #[.int .u8 c] 5)
    have hcc : (w9.alloc (.cells #[.int .u8 c] 5)).cell? ⟨w9.heap.size, 0, none⟩ = some (.int .u8 c) := by simp
    have hcv9 := hcv _ _ _ hcc
    have HBC := Lib.hid hbc
    clear hbc hcc hcv
    go_wp2_with fail
    refine (hr1 _).mono ?_
    rintro e wa ⟨ua, rfl, hda, hba⟩
    have hb10 := bstep HBC.out hba
    obtain ⟨paa, pca, rfl, _⟩ := id hda
    have HZ : Hid (wz.past.length = 0) := Lib.hid rfl
    have hbn := balloc hb10 (.cells #[.string ⟨#[]⟩, .string ⟨#[]⟩, .bool false, .int .i64 0, .int .i64 0, .slice paa ([] : List De).length pca] 26)
    have HAa := Lib.hid (HA9.out.keep hbn)
    have HNa := Lib.hid (HN9.out.keep hbn)
    have HOa := Lib.hid (HO9.out.below hbn)
    have HDa := Lib.hid (HD9.out.below hbn)
    have HBWa := Lib.hid (bstep HBW9.out hbn)
    clear hda hba hb10 hr1 HA9 HN9 HO9 HD9 HBW9 HBC hcv9
    go_upto_region 8 with fail
    generalize wa.alloc (.cells #[.string ⟨#[]⟩, .string ⟨#[]⟩, .bool false, .int .i64 0, .int .i64 0, .slice paa ([] : List De).length pca] 26) = wb at *
    clear hbn
    have s1 : (1 : Int) ≤ (S.size : Int) := by omega
    have s2 : (0 : Int) ≤ (S.size : Int) - 1 := by omega
    have s3 : ((S.size : Int) - 1).toNat = S.size - 1 := by omega
    have s4 : (S.size : Int) - 1 ≤ (S.size : Int) := by omega
    go_wp2_with fail
    refine (hr2 _).mono ?_
    rintro e wc ⟨uc, rfl, hdc, hbc⟩
    obtain ⟨pac, pcc, rfl, _⟩ := id hdc
    have hbn := balloc hbc (.cells #[.string ⟨#[]⟩, .string ⟨#[]⟩, .bool false, .int .i64 0, .int .i64 0, .slice pac ([] : List De).length pcc] 26)
    have hAd := HAa.out.keep hbn
    have hNd := HNa.out.keep hbn
    have HOd := Lib.hid (HOa.out.below hbn)
    have HDd := Lib.hid (HDa.out.below hbn)
    have HBWd := Lib.hid (bstep HBWa.out hbn)
    obtain ⟨x0, x1, x2, x3, x4, x5, _⟩ := hAd
    obtain ⟨y0, y1, y2, y3, y4, y5, _⟩ := hNd
    clear hdc hbc hr2 HAa HNa HOa HDa HBWa hbn
    go_upto_region 11 with fail
    generalize wc.alloc (.cells #[.string ⟨#[]⟩, .string ⟨#[]⟩, .bool false, .int .i64 0, .int .i64 0, .slice pac ([] : List De).length pcc] 26) = wd at *
    go_wp2_with fail
    refine (hsame _ _ HDd.out HOd.out).mono ?_
    rintro e we ⟨rfl, hbe⟩
    go_wp2
    go_ret
    exact ⟨rfl, bstep HBWd.out hbe⟩
end Go.Proofs.Ytkaehjehpclgcaa
