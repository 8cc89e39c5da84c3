/- Rows of the steps of a net, among the arguments, opened. -/
import Derived.Test.YtgaghlofcokijaaKinds
import Derived.Deep.Strs
import Derived.Lib.SmallJoins
namespace Go.Proofs.Ytgaghlofcokijaa
open Go.ChangeShapes Go.WideShapes Go.ChangeAt Go.RowKit Go.Joins Go.Deep
set_option linter.unusedVariables false

/-- A step: five numbers and a text. -/
structure O11 where
  k : Int
  a : Int
  b : Int
  at' : Int
  how : Int
  tx : ByteArray
def I64 (n : Int) : Prop := -9223372036854775808 ≤ n ∧ n ≤ 9223372036854775807
def O11.In (o : O11) : Prop := I64 o.k ∧ I64 o.a ∧ I64 o.b ∧ I64 o.at' ∧ I64 o.how
def KOp11 : RK O11 where
  T := 29
  S := 22
  sz := 6
  bt := 56
  z := .agg #[.int .i64 0, .int .i64 0, .int .i64 0, .int .i64 0, .int .i64 0, .string ⟨#[]⟩]
  enc x := [.int .i64 x.k, .int .i64 x.a, .int .i64 x.b, .int .i64 x.at', .int .i64 x.how, .string x.tx]
theorem RowIn.op11 {w : World} {a : Option Addr} {l : List O11} (h : RowIn KOp11 w a l) (i : Nat) (hi : i < l.length) : ∃ b off, a = some ⟨b, off, none⟩ ∧ b < w.heap.size ∧ w.cell? ⟨b, off + i * 6, none⟩ = some (.int .i64 l[i].k) ∧ w.cell? ⟨b, off + i * 6 + 1, none⟩ = some (.int .i64 l[i].a) ∧ w.cell? ⟨b, off + i * 6 + 2, none⟩ = some (.int .i64 l[i].b) ∧ w.cell? ⟨b, off + i * 6 + 3, none⟩ = some (.int .i64 l[i].at') ∧ w.cell? ⟨b, off + i * 6 + 4, none⟩ = some (.int .i64 l[i].how) ∧ w.cell? ⟨b, off + i * 6 + 5, none⟩ = some (.string l[i].tx) := by
  obtain ⟨b, off, e, hl, hc⟩ := h i hi
  exact ⟨b, off, e, hl, hc 0 _ rfl, hc 1 _ rfl, hc 2 _ rfl, hc 3 _ rfl, hc 4 _ rfl, hc 5 _ rfl⟩

section
variable {H : Type} {enc : TypeId × Value → H} {P : Program} {w : World} {base : Nat} {spare : Nat → Bool} {held : Bool}
theorem trod_struct6 {t : TypeId} {f0 f1 f2 f3 f4 f5 : Field} {fuel : Nat} {cs : List Value} {x : DataW H × List MemPlace} (ht : P.underlying t = some (.struct #[f0, f1, f2, f3, f4, f5])) (h : DataW.trod enc P w base spare held fuel t cs = some x) :
    ∃ y0 y1 y2 y3 y4 y5 n, cs.length = P.cellsOf t ∧ DataW.trod enc P w base spare held n f0.type ((cs.drop f0.offset).take (P.cellsOf f0.type)) = some y0 ∧
      DataW.trod enc P w base spare held n f1.type ((cs.drop f1.offset).take (P.cellsOf f1.type)) = some y1 ∧ DataW.trod enc P w base spare held n f2.type ((cs.drop f2.offset).take (P.cellsOf f2.type)) = some y2 ∧
      DataW.trod enc P w base spare held n f3.type ((cs.drop f3.offset).take (P.cellsOf f3.type)) = some y3 ∧ DataW.trod enc P w base spare held n f4.type ((cs.drop f4.offset).take (P.cellsOf f4.type)) = some y4 ∧
      DataW.trod enc P w base spare held n f5.type ((cs.drop f5.offset).take (P.cellsOf f5.type)) = some y5 := by
  obtain ⟨xs, n, _, rfl, hl, hlen, hf⟩ := DataW.trod_struct ht h
  match xs, hlen with
  | [y0, y1, y2, y3, y4, y5], _ => exact ⟨y0, y1, y2, y3, y4, y5, n, hl, by simpa using hf 0 f0 rfl, by simpa using hf 1 f1 rfl, by simpa using hf 2 f2 rfl, by simpa using hf 3 f3 rfl, by simpa using hf 4 f4 rfl, by simpa using hf 5 f5 rfl⟩

/-- A row of steps. -/
theorem open_ops11 {t e : TypeId} {f0 f1 f2 f3 f4 f5 : Field} {fuel : Nat} {v : Value} {x : DataW H × List MemPlace} (ht : P.underlying t = some (.slice e)) (he : P.underlying e = some (.struct #[f0, f1, f2, f3, f4, f5])) (hone : oneCellFields P #[f0, f1, f2, f3, f4, f5] = true) (hC : P.cellsOf e = 6)
    (h0 : P.underlying f0.type = some (.int .i64)) (h1 : P.underlying f1.type = some (.int .i64)) (h2 : P.underlying f2.type = some (.int .i64)) (h3 : P.underlying f3.type = some (.int .i64)) (h4 : P.underlying f4.type = some (.int .i64)) (h5 : P.underlying f5.type = some .string)
    (h : DataW.trod enc P w base spare held fuel t v.cells.toList = some x) (hv : ∃ a n c, v = .slice a n c) :
    ∃ (a : Option Addr) (l : List O11) (cap : Nat), v = .slice a l.length cap ∧ l.length ≤ 9223372036854775807 ∧ (∀ o ∈ l, o.In) ∧ RowIn KOp11 w a l := by
  obtain ⟨a, len, cap, rfl⟩ := hv
  rcases open_slice ht h with ⟨hcs, _⟩ | ⟨x, l, c, m, n, D, Pl, hcs, _, hl, hm, hmm, _, hi⟩
  · simp [Value.cells] at hcs
    obtain ⟨rfl, rfl, rfl⟩ := hcs
    exact ⟨none, [], 0, rfl, by simp, by simp, fun i h => absurd h (by simp)⟩
  · simp [Value.cells] at hcs
    obtain ⟨rfl, rfl, rfl⟩ := hcs
    have hlm : len ≤ m := by rw [hmm]; split <;> omega
    unfold maxLen at hm
    have all : ∀ i, ∃ z : O11, i < len → z.In ∧ w.cell? (x.add (i * 6)) = some (.int .i64 z.k) ∧ w.cell? (x.add (i * 6 + 1)) = some (.int .i64 z.a) ∧ w.cell? (x.add (i * 6 + 2)) = some (.int .i64 z.b) ∧ w.cell? (x.add (i * 6 + 3)) = some (.int .i64 z.at') ∧ w.cell? (x.add (i * 6 + 4)) = some (.int .i64 z.how) ∧ w.cell? (x.add (i * 6 + 5)) = some (.string z.tx) := by
      intro i
      by_cases hil : i < len
      · obtain ⟨cs', hc, ht'⟩ := hi i (by omega)
        rw [hC] at hc
        obtain ⟨y0, y1, y2, y3, y4, y5, n', hcl, k0, k1, k2, k3, k4, k5⟩ := trod_struct6 he ht'
        obtain ⟨o0, j0⟩ := hone_of hone 0 f0 rfl
        obtain ⟨o1, j1⟩ := hone_of hone 1 f1 rfl
        obtain ⟨o2, j2⟩ := hone_of hone 2 f2 rfl
        obtain ⟨o3, j3⟩ := hone_of hone 3 f3 rfl
        obtain ⟨o4, j4⟩ := hone_of hone 4 f4 rfl
        obtain ⟨o5, j5⟩ := hone_of hone 5 f5 rfl
        obtain ⟨_, hcl', hat⟩ := World.cells?_some hc
        match cs', hcl' with
        | [c0, c1, c2, c3, c4, c5], _ =>
          rw [o0, j0] at k0
          rw [o1, j1] at k1
          rw [o2, j2] at k2
          rw [o3, j3] at k3
          rw [o4, j4] at k4
          rw [o5, j5] at k5
          obtain ⟨s0, e0, _, z0⟩ := DataW.trod_int h0 k0
          obtain ⟨s1, e1, _, z1⟩ := DataW.trod_int h1 k1
          obtain ⟨s2, e2, _, z2⟩ := DataW.trod_int h2 k2
          obtain ⟨s3, e3, _, z3⟩ := DataW.trod_int h3 k3
          obtain ⟨s4, e4, _, z4⟩ := DataW.trod_int h4 k4
          obtain ⟨s5, e5, _, _⟩ := DataW.trod_string h5 k5
          simp at e0 e1 e2 e3 e4 e5
          subst e0 e1 e2 e3 e4 e5
          refine ⟨⟨s0, s1, s2, s3, s4, s5⟩, fun _ => ⟨⟨bounds_i64 z0, bounds_i64 z1, bounds_i64 z2, bounds_i64 z3, bounds_i64 z4⟩, ?_, ?_, ?_, ?_, ?_, ?_⟩⟩
          · have := hat 0 (by omega)
            simpa [Go.Deep.add_add] using this
          · have := hat 1 (by omega)
            simpa [Go.Deep.add_add] using this
          · have := hat 2 (by omega)
            simpa [Go.Deep.add_add] using this
          · have := hat 3 (by omega)
            simpa [Go.Deep.add_add] using this
          · have := hat 4 (by omega)
            simpa [Go.Deep.add_add] using this
          · have := hat 5 (by omega)
            simpa [Go.Deep.add_add] using this
      · exact ⟨⟨0, 0, 0, 0, 0, ⟨#[]⟩⟩, fun hh => absurd hh hil⟩
    obtain ⟨F, hF⟩ : ∃ F : Nat → O11, ∀ i, i < len → (F i).In ∧ w.cell? (x.add (i * 6)) = some (.int .i64 (F i).k) ∧ w.cell? (x.add (i * 6 + 1)) = some (.int .i64 (F i).a) ∧ w.cell? (x.add (i * 6 + 2)) = some (.int .i64 (F i).b) ∧ w.cell? (x.add (i * 6 + 3)) = some (.int .i64 (F i).at') ∧ w.cell? (x.add (i * 6 + 4)) = some (.int .i64 (F i).how) ∧ w.cell? (x.add (i * 6 + 5)) = some (.string (F i).tx) :=
      ⟨fun i => (all i).choose, fun i => (all i).choose_spec⟩
    obtain ⟨b, off, spot⟩ := x
    refine ⟨some ⟨b, off, spot⟩, (List.range len).map F, cap, by simp, by simp; omega, ?_, ?_⟩
    · intro o ho
      simp at ho
      obtain ⟨i, hi', rfl⟩ := ho
      exact (hF i hi').1
    · intro i hi'
      have hil : i < len := by simpa using hi'
      have hspot : spot = none := by
        have := (hF 0 (by omega)).2.1
        simpa [Addr.add] using World.cell?_spot this
      subst hspot
      obtain ⟨_, q0, q1, q2, q3, q4, q5⟩ := hF i hil
      rw [Addr.add_lit] at q0 q1 q2 q3 q4 q5
      refine ⟨b, off, rfl, World.block_lt_of_cell? w _ q0, fun j u hu => ?_⟩
      simp only [List.getElem_map, List.getElem_range] at hu
      have hj : j < 6 := (List.getElem?_eq_some_iff.1 hu).1
      have hs : KOp11.sz = 6 := rfl
      rw [hs, Nat.add_assoc]
      rcases (show j = 0 ∨ j = 1 ∨ j = 2 ∨ j = 3 ∨ j = 4 ∨ j = 5 by omega) with rfl | rfl | rfl | rfl | rfl | rfl
      · cases hu; exact q0
      · cases hu; exact q1
      · cases hu; exact q2
      · cases hu; exact q3
      · cases hu; exact q4
      · cases hu; exact q5
end
end Go.Proofs.Ytgaghlofcokijaa
