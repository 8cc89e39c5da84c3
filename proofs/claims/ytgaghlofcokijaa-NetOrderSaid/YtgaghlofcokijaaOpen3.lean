/- Structs of two ints, and rows of such structs, among the arguments, opened. -/
import Derived.Test.YtgaghlofcokijaaOpen2
import Derived.Test.YtgaghlofcokijaaStampMax
namespace Go.Proofs.Ytgaghlofcokijaa
open Go.ChangeShapes Go.WideShapes Go.ChangeAt Go.RowKit Go.Joins Go.Deep
set_option linter.unusedVariables false

/-- The two numbers fit into an int each. -/
abbrev In64 (p : Int × Int) : Prop := (-9223372036854775808 ≤ p.1 ∧ p.1 ≤ 9223372036854775807) ∧ (-9223372036854775808 ≤ p.2 ∧ p.2 ≤ 9223372036854775807)

section
variable {H : Type} {enc : TypeId × Value → H} {P : Program} {w : World} {base : Nat} {spare : Nat → Bool} {held : Bool}

/-- A struct of two ints, by value. -/
theorem open_pair {r : Reach} {b0 : Nat} {t : TypeId} {f0 f1 : Field} {v : Value} {d : DataW H} {p : List MemPlace} (hs : P.underlying t = some (.struct #[f0, f1])) (hone : oneCellFields P #[f0, f1] = true) (hC : P.cellsOf t = 2)
    (h0 : P.underlying f0.type = some (.int .i64)) (h1 : P.underlying f1.type = some (.int .i64)) (hv : Value.okWide P w r b0 t v) (h : DataW.Trod enc P w base spare held t v d p) :
    ∃ x y : Int, v = .agg #[.int .i64 x, .int .i64 y] ∧ In64 (x, y) := by
  obtain ⟨v0, v1, y0, y1, n, rfl, _, _, k0, k1⟩ := open_agg2 hs hone hC hv h
  obtain ⟨x, hs1, _, hs2⟩ := DataW.trod_int h0 k0
  obtain ⟨y, hs1', _, hs2'⟩ := DataW.trod_int h1 k1
  cases hs1
  cases hs1'
  exact ⟨x, y, rfl, bounds_i64 hs2, bounds_i64 hs2'⟩

/-- A row of structs of two ints. -/
theorem open_pairs {t e : TypeId} {f0 f1 : Field} {fuel : Nat} {v : Value} {x : DataW H × List MemPlace} (ht : P.underlying t = some (.slice e)) (he : P.underlying e = some (.struct #[f0, f1]))
    (hone : oneCellFields P #[f0, f1] = true) (hC : P.cellsOf e = 2) (h0 : P.underlying f0.type = some (.int .i64)) (h1 : P.underlying f1.type = some (.int .i64))
    (h : DataW.trod enc P w base spare held fuel t v.cells.toList = some x) (hv : ∃ a n c, v = .slice a n c) :
    ∃ (a : Option Addr) (l : List (Int × Int)) (cap : Nat), v = .slice a l.length cap ∧ l.length ≤ cap ∧ cap ≤ maxLen ∧ (a = none → cap = 0) ∧ (∀ r ∈ l, In64 r) ∧ StIn w a l := by
  obtain ⟨a, len, cap, rfl⟩ := hv
  rcases open_slice ht h with ⟨hcs, _⟩ | ⟨x, l, c, m, n, D, Pl, hcs, _, hl, hm, hmm, _, hi⟩
  · simp [Value.cells] at hcs
    obtain ⟨rfl, rfl, rfl⟩ := hcs
    exact ⟨none, [], 0, rfl, by simp, by simp, by simp, by simp, fun i h => absurd h (by simp)⟩
  · simp [Value.cells] at hcs
    obtain ⟨rfl, rfl, rfl⟩ := hcs
    have hlm : len ≤ m := by rw [hmm]; split <;> omega
    have all : ∀ i, ∃ p : Int × Int, i < len → In64 p ∧ w.cell? (x.add (i * 2)) = some (.int .i64 p.1) ∧ w.cell? (x.add (i * 2 + 1)) = some (.int .i64 p.2) := by
      intro i
      by_cases hil : i < len
      · obtain ⟨cs', hc, ht'⟩ := hi i (by omega)
        rw [hC] at hc
        obtain ⟨y0, y1, n', hx, hcl, k0, k1⟩ := trod_struct2 he ht'
        obtain ⟨o0, j0⟩ := hone_of hone 0 f0 rfl
        obtain ⟨o1, j1⟩ := hone_of hone 1 f1 rfl
        obtain ⟨_, hcl', hat⟩ := World.cells?_some hc
        match cs', hcl' with
        | [c0, c1], _ =>
          rw [o0, j0] at k0
          rw [o1, j1] at k1
          obtain ⟨s, e1, _, z1⟩ := DataW.trod_int h0 k0
          obtain ⟨s', e2, _, z2⟩ := DataW.trod_int h1 k1
          simp at e1 e2
          subst e1 e2
          refine ⟨(s, s'), fun _ => ⟨⟨bounds_i64 z1, bounds_i64 z2⟩, ?_, ?_⟩⟩
          · have := hat 0 (by omega)
            simpa [Go.Deep.add_add] using this
          · have := hat 1 (by omega)
            simpa [Go.Deep.add_add] using this
      · exact ⟨(0, 0), fun hh => absurd hh hil⟩
    obtain ⟨F, hF⟩ : ∃ F : Nat → Int × Int, ∀ i, i < len → In64 (F i) ∧ w.cell? (x.add (i * 2)) = some (.int .i64 (F i).1) ∧ w.cell? (x.add (i * 2 + 1)) = some (.int .i64 (F i).2) :=
      ⟨fun i => (all i).choose, fun i => (all i).choose_spec⟩
    obtain ⟨b, off, spot⟩ := x
    refine ⟨some ⟨b, off, spot⟩, (List.range len).map F, cap, by simp, by simpa using hl, hm, by simp, ?_, ?_⟩
    · intro r hr
      simp at hr
      obtain ⟨i, hi, rfl⟩ := hr
      exact (hF i hi).1
    · intro i hi
      have hi' : i < len := by simpa using hi
      have hspot : spot = none := by
        have := (hF 0 (by omega)).2.1
        simpa [Addr.add] using World.cell?_spot this
      subst hspot
      have g0 := (hF i hi').2.1
      have g1 := (hF i hi').2.2
      rw [Addr.add_lit] at g0 g1
      refine ⟨b, off, rfl, ?_, ?_⟩
      · simp only [List.getElem_map, List.getElem_range]
        exact g0
      · simp only [List.getElem_map, List.getElem_range]
        rw [Nat.add_assoc]
        exact g1
end

theorem StIn.take {w : World} {a : Option Addr} {l : List (Int × Int)} (h : StIn w a l) (k : Nat) : StIn w a (l.take k) := by
  intro i hi
  have hi' : i < l.length := by simp at hi; omega
  obtain ⟨b, off, e, h0, h1⟩ := h i hi'
  exact ⟨b, off, e, by simpa using h0, by simpa using h1⟩
end Go.Proofs.Ytgaghlofcokijaa
