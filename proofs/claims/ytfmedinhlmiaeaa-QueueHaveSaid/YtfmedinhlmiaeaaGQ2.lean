/- Texts of this proof, one behind the other: Open, Open2, Open3, StampNums, StampRows. -/
import Derived.Test.YtfmedinhlmiaeaaGQ1
import Derived.WalkKit
import Derived.ProofKit
import Derived.OpenShut
import Derived.Lib.SmallJoins
import Derived.Deep.Slices
import Derived.Deep.Fields
import Derived.ChangeSame
import Derived.OwnWalk
import Derived.Laws.AppendOwnNone
/- Arrays among the arguments, opened. Plain lemmas: they speak of no one program. -/
namespace Go.Proofs.Ytfmedinhlmiaeaa
open Go.ChangeShapes Go.WideShapes Go.ChangeAt Go.RowKit

theorem okWide_array {P : Program} {w : World} {r : Reach} {base n : Nat} {t e : TypeId} {v : Value} (ht : P.underlying t = some (.array n e)) (h : Value.okWide P w r base t v) : ∃ cs, v = .agg cs ∧ cs.size = P.cellsOf t := by
  simp only [Value.okWide, ht] at h
  obtain ⟨cs, h1, h2, _⟩ := h
  exact ⟨cs, h1, h2⟩

/-- An array of strings, opened. -/
theorem open_strs {H : Type} {enc : TypeId × Value → H} {P : Program} {w : World} {r : Reach} {base b0 n : Nat} {spare : Nat → Bool} {held : Bool} {t e : TypeId} {v : Value} {d : DataW H} {p : List MemPlace}
    (ht : P.underlying t = some (.array n e)) (he : P.underlying e = some .string) (hc : P.cellsOf t = n) (hce : P.cellsOf e = 1)
    (hv : Value.okWide P w r b0 t v) (h : DataW.Trod enc P w base spare held t v d p) :
    ∃ ss : List ByteArray, v = .agg (ss.map Value.string).toArray ∧ ss.length = n ∧ ∀ s ∈ ss, s.size ≤ maxLen := by
  obtain ⟨cs, rfl, hsz⟩ := okWide_array ht hv
  obtain ⟨fuel, hf⟩ := h
  obtain ⟨xs, m, _, _, hcl, hxl, hx⟩ := DataW.trod_array ht hf
  have key : ∀ i (hi : i < cs.size), ∃ s : ByteArray, cs[i] = .string s ∧ s.size ≤ maxLen := by
    intro i hi
    have hin : i < n := by omega
    have h1 := hx i hin
    rw [hce, Nat.mul_one] at h1
    have h2 : xs[i]? = some (xs[i]'(by omega)) := by simp
    rw [h2] at h1
    have h3 : ((Value.agg cs).cells.toList.drop i).take 1 = [cs[i]] := by
      have e : (Value.agg cs).cells = cs := rfl
      rw [e, List.drop_eq_getElem_cons (by simpa using hi)]
      simp
    obtain ⟨s, hs1, _, hs3⟩ := DataW.trod_string he h1
    rw [h3] at hs1
    simp at hs1
    exact ⟨s, hs1, hs3⟩
  refine ⟨cs.toList.map fun v => match v with | .string s => s | _ => ByteArray.empty, ?_, by simp; omega, ?_⟩
  · congr 1
    apply Array.ext'
    apply List.ext_getElem
    · simp
    · intro i h1 h2
      obtain ⟨s, hs, _⟩ := key i (by simpa using h1)
      simp [hs]
  · intro s hs
    simp at hs
    obtain ⟨v, hv, rfl⟩ := hs
    obtain ⟨i, hi, rfl⟩ := Array.mem_iff_getElem.1 hv
    obtain ⟨s, hs, hl⟩ := key i hi
    simp [hs, hl]

/-- A slice of strings that came in: its elements. -/
def StrsIn (w : World) (a : Option Addr) (len : Nat) (ss : List ByteArray) : Prop :=
  ss.length = len ∧ len ≤ 9223372036854775807 ∧ (∀ s ∈ ss, s.size ≤ maxLen) ∧ ∀ i (h : i < ss.length), ∃ b off, a = some ⟨b, off, none⟩ ∧ w.cell? ⟨b, off + i, none⟩ = some (.string ss[i])
theorem StrsIn.nil (w : World) : StrsIn w none 0 [] := ⟨rfl, by omega, by simp, fun i h => absurd h (by simp)⟩
theorem StrsIn.mk {w : World} {x : Addr} {len cap : Nat} {c : Bool} {ss : List ByteArray} (hl : len ≤ cap) (hm : cap ≤ maxLen) (hz : ss.length = if c = true then cap else len)
    (hcell : ∀ i, i < ss.length → w.cell? (x.add i) = some (.string (ss.getD i ByteArray.empty))) (hws : ∀ s ∈ ss, s.size ≤ maxLen) : StrsIn w (some x) len (ss.take len) := by
  have hle : len ≤ ss.length := by rw [hz]; split <;> omega
  unfold maxLen at hm
  refine ⟨by simp; omega, by omega, fun s hs => hws s (List.mem_of_mem_take hs), fun i hi => ?_⟩
  have hi' : i < ss.length := by simp at hi; omega
  obtain ⟨b, off, spot⟩ := x
  have hc := hcell i hi'
  have hspot : spot = none := by simpa [Addr.add] using World.cell?_spot (hcell 0 (by omega))
  subst hspot
  refine ⟨b, off, rfl, ?_⟩
  have e : (ss.take len)[i] = ss[i] := by simp
  rw [e]
  rw [Addr.add_lit] at hc
  simpa [List.getD_eq_getElem?_getD, hi'] using hc

/-- A slice of integers that came in: nil, or a row of 'cap' cells, the numbers zs; the first 'len' are its elements. -/
def IsRow (k : IntKind) (w : World) (a : Option Addr) (len cap : Nat) (zs : List Int) : Prop :=
  (a = none ∧ len = 0 ∧ cap = 0 ∧ zs = []) ∨
  ∃ x, a = some x ∧ len ≤ cap ∧ cap ≤ maxLen ∧ zs.length = cap ∧ (∀ i, i < zs.length → w.cell? (x.add i) = some (.int k (zs.getD i 0))) ∧ ∀ n ∈ zs, (Lit.int k n).wf = true

end Go.Proofs.Ytfmedinhlmiaeaa
/- Structs of two texts, arrays and rows of such structs among the arguments, opened. Plain lemmas: they speak of no one program. -/
namespace Go.Proofs.Ytfmedinhlmiaeaa
open Go.ChangeShapes Go.WideShapes Go.ChangeAt Go.RowKit Go.Joins Go.Deep
set_option linter.unusedVariables false

section
variable {H : Type} {enc : TypeId × Value → H} {P : Program} {w : World} {base : Nat} {spare : Nat → Bool} {held : Bool}

/-- A struct of two texts, by value. -/
theorem open_two {r : Reach} {b0 : Nat} {t : TypeId} {f0 f1 : Field} {v : Value} {d : DataW H} {p : List MemPlace} (hs : P.underlying t = some (.struct #[f0, f1])) (hone : oneCellFields P #[f0, f1] = true) (hC : P.cellsOf t = 2)
    (h0 : P.underlying f0.type = some .string) (h1 : P.underlying f1.type = some .string) (hv : Value.okWide P w r b0 t v) (h : DataW.Trod enc P w base spare held t v d p) :
    ∃ f g : ByteArray, v = .agg #[.string f, .string g] ∧ f.size ≤ maxLen ∧ g.size ≤ maxLen := by
  obtain ⟨v0, v1, y0, y1, n, rfl, _, _, k0, k1⟩ := open_agg2 hs hone hC hv h
  obtain ⟨s, hs1, _, hs2⟩ := DataW.trod_string h0 k0
  obtain ⟨s', hs1', _, hs2'⟩ := DataW.trod_string h1 k1
  cases hs1
  cases hs1'
  exact ⟨s, s', rfl, hs2, hs2'⟩

/-- An array of one-cell elements. -/
theorem open_arr {r : Reach} {b0 n : Nat} {t e : TypeId} {v : Value} {d : DataW H} {p : List MemPlace}
    (ht : P.underlying t = some (.array n e)) (hc : P.cellsOf t = n) (hce : P.cellsOf e = 1)
    (hv : Value.okWide P w r b0 t v) (h : DataW.Trod enc P w base spare held t v d p) :
    ∃ cs : List Value, v = .agg cs.toArray ∧ cs.length = n ∧ ∀ i (hi : i < cs.length), ∃ m y, DataW.trod enc P w base spare held m e [cs[i]] = some y := by
  obtain ⟨cs, rfl, hsz⟩ := okWide_array ht hv
  obtain ⟨fuel, hf⟩ := h
  obtain ⟨xs, m, _, _, hcl, hxl, hx⟩ := DataW.trod_array ht hf
  refine ⟨cs.toList, by simp, by simp; omega, fun i hi => ?_⟩
  have hi' : i < cs.size := by simpa using hi
  have hin : i < n := by omega
  have h1 := hx i hin
  rw [hce, Nat.mul_one] at h1
  have h2 : xs[i]? = some (xs[i]'(by omega)) := by simp
  rw [h2] at h1
  have h3 : ((Value.agg cs).cells.toList.drop i).take 1 = [cs[i]] := by
    have e : (Value.agg cs).cells = cs := rfl
    rw [e, List.drop_eq_getElem_cons (by simpa using hi)]
    simp
  rw [h3] at h1
  exact ⟨_, _, by simpa using h1⟩

/-- An array of four ints. -/
theorem open_ints4 {r : Reach} {b0 : Nat} {t e : TypeId} {v : Value} {d : DataW H} {p : List MemPlace}
    (ht : P.underlying t = some (.array 4 e)) (he : P.underlying e = some (.int .i64)) (hc : P.cellsOf t = 4) (hce : P.cellsOf e = 1)
    (hv : Value.okWide P w r b0 t v) (h : DataW.Trod enc P w base spare held t v d p) :
    ∃ q0 q1 q2 q3 : Int, v = .agg #[.int .i64 q0, .int .i64 q1, .int .i64 q2, .int .i64 q3] ∧ (-9223372036854775808 ≤ q0 ∧ q0 ≤ 9223372036854775807) ∧ (-9223372036854775808 ≤ q1 ∧ q1 ≤ 9223372036854775807) ∧ (-9223372036854775808 ≤ q2 ∧ q2 ≤ 9223372036854775807) ∧ (-9223372036854775808 ≤ q3 ∧ q3 ≤ 9223372036854775807) := by
  obtain ⟨cs, rfl, hl, hx⟩ := open_arr ht hc hce hv h
  match cs, hl with
  | [c0, c1, c2, c3], _ =>
    obtain ⟨_, _, k0⟩ := hx 0 (by simp)
    obtain ⟨_, _, k1⟩ := hx 1 (by simp)
    obtain ⟨_, _, k2⟩ := hx 2 (by simp)
    obtain ⟨_, _, k3⟩ := hx 3 (by simp)
    obtain ⟨n0, e0, _, w0⟩ := DataW.trod_int he k0
    obtain ⟨n1, e1, _, w1⟩ := DataW.trod_int he k1
    obtain ⟨n2, e2, _, w2⟩ := DataW.trod_int he k2
    obtain ⟨n3, e3, _, w3⟩ := DataW.trod_int he k3
    simp at e0 e1 e2 e3
    subst e0 e1 e2 e3
    exact ⟨n0, n1, n2, n3, rfl, bounds_i64 w0, bounds_i64 w1, bounds_i64 w2, bounds_i64 w3⟩

/-- An array of two bools. -/
theorem open_bools2 {r : Reach} {b0 : Nat} {t e : TypeId} {v : Value} {d : DataW H} {p : List MemPlace}
    (ht : P.underlying t = some (.array 2 e)) (he : P.underlying e = some .bool) (hc : P.cellsOf t = 2) (hce : P.cellsOf e = 1)
    (hv : Value.okWide P w r b0 t v) (h : DataW.Trod enc P w base spare held t v d p) :
    ∃ o0 o1 : Bool, v = .agg #[.bool o0, .bool o1] := by
  obtain ⟨cs, rfl, hl, hx⟩ := open_arr ht hc hce hv h
  match cs, hl with
  | [c0, c1], _ =>
    obtain ⟨_, _, k0⟩ := hx 0 (by simp)
    obtain ⟨_, _, k1⟩ := hx 1 (by simp)
    obtain ⟨n0, e0, _⟩ := DataW.trod_bool he k0
    obtain ⟨n1, e1, _⟩ := DataW.trod_bool he k1
    simp at e0 e1
    subst e0 e1
    exact ⟨n0, n1, rfl⟩
end

theorem three_of {α : Type} (l : List α) (h : l.length = 3) : ∃ a b c, l = [a, b, c] := by
  match l, h with
  | [a, b, c], _ => exact ⟨a, b, c, rfl⟩

/-- A row of structs of two texts, in memory. -/
def RngIn (w : World) (a : Option Addr) (rs : List (ByteArray × ByteArray)) : Prop :=
  ∀ i (h : i < rs.length), ∃ b off, a = some ⟨b, off, none⟩ ∧ b < w.heap.size ∧ w.cell? ⟨b, off + i * 2, none⟩ = some (.string rs[i].1) ∧ w.cell? ⟨b, off + i * 2 + 1, none⟩ = some (.string rs[i].2)

section
variable {H : Type} {enc : TypeId × Value → H} {P : Program} {w : World} {base : Nat} {spare : Nat → Bool} {held : Bool}
theorem open_ranges {t e : TypeId} {f0 f1 : Field} {fuel : Nat} {v : Value} {x : DataW H × List MemPlace} (ht : P.underlying t = some (.slice e)) (he : P.underlying e = some (.struct #[f0, f1]))
    (hone : oneCellFields P #[f0, f1] = true) (hC : P.cellsOf e = 2) (h0 : P.underlying f0.type = some .string) (h1 : P.underlying f1.type = some .string)
    (h : DataW.trod enc P w base spare held fuel t v.cells.toList = some x) (hv : ∃ a n c, v = .slice a n c) :
    ∃ (a : Option Addr) (rs : List (ByteArray × ByteArray)) (cap : Nat), v = .slice a rs.length cap ∧ rs.length ≤ 9223372036854775807 ∧ (∀ r ∈ rs, r.1.size ≤ maxLen ∧ r.2.size ≤ maxLen) ∧ RngIn w a rs := by
  obtain ⟨a, len, cap, rfl⟩ := hv
  rcases open_slice ht h with ⟨hcs, _⟩ | ⟨x, l, c, m, n, D, Pl, hcs, _, hl, hm, hmm, _, hi⟩
  · simp [Value.cells] at hcs
    obtain ⟨rfl, rfl, rfl⟩ := hcs
    exact ⟨none, [], 0, rfl, by simp, by simp, fun i h => absurd h (by simp)⟩
  · simp [Value.cells] at hcs
    obtain ⟨rfl, rfl, rfl⟩ := hcs
    have hlm : len ≤ m := by rw [hmm]; split <;> omega
    have key : ∀ i, i < len → ∃ f g : ByteArray, f.size ≤ maxLen ∧ g.size ≤ maxLen ∧ w.cell? (x.add (i * 2)) = some (.string f) ∧ w.cell? (x.add (i * 2 + 1)) = some (.string g) := by
      intro i hil
      obtain ⟨cs', hc, ht'⟩ := hi i (by omega)
      rw [hC] at hc
      obtain ⟨y0, y1, n', hx, hcl, k0, k1⟩ := trod_struct2 he ht'
      obtain ⟨o0, j0⟩ := hone_of hone 0 f0 rfl
      obtain ⟨o1, j1⟩ := hone_of hone 1 f1 rfl
      obtain ⟨_, hcl', hat⟩ := World.cells?_some hc
      match cs', hcl' with
      | [c0, c1], _ =>
        rw [o0, j0] at k0
        rw [o1, j1] at k1
        obtain ⟨s, e1, _, z1⟩ := DataW.trod_string h0 k0
        obtain ⟨s', e2, _, z2⟩ := DataW.trod_string h1 k1
        simp at e1 e2
        subst e1 e2
        refine ⟨s, s', z1, z2, ?_, ?_⟩
        · have := hat 0 (by omega)
          simpa [Go.Deep.add_add] using this
        · have := hat 1 (by omega)
          simpa [Go.Deep.add_add] using this
    have all : ∀ i, ∃ p : ByteArray × ByteArray, i < len → p.1.size ≤ maxLen ∧ p.2.size ≤ maxLen ∧ w.cell? (x.add (i * 2)) = some (.string p.1) ∧ w.cell? (x.add (i * 2 + 1)) = some (.string p.2) := by
      intro i
      by_cases hil : i < len
      · obtain ⟨f, g, k1, k2, k3, k4⟩ := key i hil
        exact ⟨(f, g), fun _ => ⟨k1, k2, k3, k4⟩⟩
      · exact ⟨(ByteArray.empty, ByteArray.empty), fun hh => absurd hh hil⟩
    obtain ⟨F, hF⟩ : ∃ F : Nat → ByteArray × ByteArray, ∀ i, i < len → (F i).1.size ≤ maxLen ∧ (F i).2.size ≤ maxLen ∧ w.cell? (x.add (i * 2)) = some (.string (F i).1) ∧ w.cell? (x.add (i * 2 + 1)) = some (.string (F i).2) :=
      ⟨fun i => (all i).choose, fun i => (all i).choose_spec⟩
    obtain ⟨b, off, spot⟩ := x
    refine ⟨some ⟨b, off, spot⟩, (List.range len).map F, cap, by simp, by unfold maxLen at hm; simp; omega, ?_, ?_⟩
    · intro r hr
      simp at hr
      obtain ⟨i, hi, rfl⟩ := hr
      exact ⟨(hF i hi).1, (hF i hi).2.1⟩
    · intro i hi
      have hi' : i < len := by simpa using hi
      have hspot : spot = none := by
        have := (hF 0 (by omega)).2.2.1
        simpa [Addr.add] using World.cell?_spot this
      subst hspot
      have g0 := (hF i hi').2.2.1
      have g1 := (hF i hi').2.2.2
      rw [Addr.add_lit] at g0 g1
      refine ⟨b, off, rfl, ?_, ?_, ?_⟩
      · have g2 := g0
        unfold World.cell? at g2
        split at g2
        · rename_i hb
          exact (Array.getElem?_eq_some_iff.1 hb).1
        · cases g2
      · simp only [List.getElem_map, List.getElem_range]
        exact g0
      · simp only [List.getElem_map, List.getElem_range]
        rw [Nat.add_assoc]
        exact g1
end
end Go.Proofs.Ytfmedinhlmiaeaa
/- Structs of two ints, and rows of such structs, among the arguments, opened. -/
namespace Go.Proofs.Ytfmedinhlmiaeaa
open Go.ChangeShapes Go.WideShapes Go.ChangeAt Go.RowKit Go.Joins Go.Deep
set_option linter.unusedVariables false

/-- The two numbers fit into an int each. -/
abbrev In64 (p : Int × Int) : Prop := (-9223372036854775808 ≤ p.1 ∧ p.1 ≤ 9223372036854775807) ∧ (-9223372036854775808 ≤ p.2 ∧ p.2 ≤ 9223372036854775807)

section
variable {H : Type} {enc : TypeId × Value → H} {P : Program} {w : World} {base : Nat} {spare : Nat → Bool} {held : Bool}

/-- A struct of two ints, by value. -/
theorem open_pair {r : Reach} {b0 : Nat} {t : TypeId} {f0 f1 : Field} {v : Value} {d : DataW H} {p : List MemPlace} (hs : P.underlying t = some (.struct #[f0, f1])) (hone : oneCellFields P #[f0, f1] = true) (hC : P.cellsOf t = 2)
    (h0 : P.underlying f0.type = some (.int .i64)) (h1 : P.underlying f1.type = some (.int .i64)) (hv : Value.okWide P w r b0 t v) (h : DataW.Trod enc P w base spare held t v d p) :
    ∃ x y : Int, v = .agg #[.int .i64 x, .int .i64 y] ∧ In64 (x, y) := by
  obtain ⟨v0, v1, y0, y1, n, rfl, _, _, k0, k1⟩ := open_agg2 hs hone hC hv h
  obtain ⟨x, hs1, _, hs2⟩ := DataW.trod_int h0 k0
  obtain ⟨y, hs1', _, hs2'⟩ := DataW.trod_int h1 k1
  cases hs1
  cases hs1'
  exact ⟨x, y, rfl, bounds_i64 hs2, bounds_i64 hs2'⟩

/-- A row of structs of two ints. -/
theorem open_pairs {t e : TypeId} {f0 f1 : Field} {fuel : Nat} {v : Value} {x : DataW H × List MemPlace} (ht : P.underlying t = some (.slice e)) (he : P.underlying e = some (.struct #[f0, f1]))
    (hone : oneCellFields P #[f0, f1] = true) (hC : P.cellsOf e = 2) (h0 : P.underlying f0.type = some (.int .i64)) (h1 : P.underlying f1.type = some (.int .i64))
    (h : DataW.trod enc P w base spare held fuel t v.cells.toList = some x) (hv : ∃ a n c, v = .slice a n c) :
    ∃ (a : Option Addr) (l : List (Int × Int)) (cap : Nat), v = .slice a l.length cap ∧ l.length ≤ cap ∧ cap ≤ maxLen ∧ (a = none → cap = 0) ∧ (∀ r ∈ l, In64 r) ∧ StIn w a l := by
  obtain ⟨a, len, cap, rfl⟩ := hv
  rcases open_slice ht h with ⟨hcs, _⟩ | ⟨x, l, c, m, n, D, Pl, hcs, _, hl, hm, hmm, _, hi⟩
  · simp [Value.cells] at hcs
    obtain ⟨rfl, rfl, rfl⟩ := hcs
    exact ⟨none, [], 0, rfl, by simp, by simp, by simp, by simp, fun i h => absurd h (by simp)⟩
  · simp [Value.cells] at hcs
    obtain ⟨rfl, rfl, rfl⟩ := hcs
    have hlm : len ≤ m := by rw [hmm]; split <;> omega
    have all : ∀ i, ∃ p : Int × Int, i < len → In64 p ∧ w.cell? (x.add (i * 2)) = some (.int .i64 p.1) ∧ w.cell? (x.add (i * 2 + 1)) = some (.int .i64 p.2) := by
      intro i
      by_cases hil : i < len
      · obtain ⟨cs', hc, ht'⟩ := hi i (by omega)
        rw [hC] at hc
        obtain ⟨y0, y1, n', hx, hcl, k0, k1⟩ := trod_struct2 he ht'
        obtain ⟨o0, j0⟩ := hone_of hone 0 f0 rfl
        obtain ⟨o1, j1⟩ := hone_of hone 1 f1 rfl
        obtain ⟨_, hcl', hat⟩ := World.cells?_some hc
        match cs', hcl' with
        | [c0, c1], _ =>
          rw [o0, j0] at k0
          rw [o1, j1] at k1
          obtain ⟨s, e1, _, z1⟩ := DataW.trod_int h0 k0
          obtain ⟨s', e2, _, z2⟩ := DataW.trod_int h1 k1
          simp at e1 e2
          subst e1 e2
          refine ⟨(s, s'), fun _ => ⟨⟨bounds_i64 z1, bounds_i64 z2⟩, ?_, ?_⟩⟩
          · have := hat 0 (by omega)
            simpa [Go.Deep.add_add] using this
          · have := hat 1 (by omega)
            simpa [Go.Deep.add_add] using this
      · exact ⟨(0, 0), fun hh => absurd hh hil⟩
    obtain ⟨F, hF⟩ : ∃ F : Nat → Int × Int, ∀ i, i < len → In64 (F i) ∧ w.cell? (x.add (i * 2)) = some (.int .i64 (F i).1) ∧ w.cell? (x.add (i * 2 + 1)) = some (.int .i64 (F i).2) :=
      ⟨fun i => (all i).choose, fun i => (all i).choose_spec⟩
    obtain ⟨b, off, spot⟩ := x
    refine ⟨some ⟨b, off, spot⟩, (List.range len).map F, cap, by simp, by simpa using hl, hm, by simp, ?_, ?_⟩
    · intro r hr
      simp at hr
      obtain ⟨i, hi, rfl⟩ := hr
      exact (hF i hi).1
    · intro i hi
      have hi' : i < len := by simpa using hi
      have hspot : spot = none := by
        have := (hF 0 (by omega)).2.1
        simpa [Addr.add] using World.cell?_spot this
      subst hspot
      have g0 := (hF i hi').2.1
      have g1 := (hF i hi').2.2
      rw [Addr.add_lit] at g0 g1
      refine ⟨b, off, rfl, ?_, ?_⟩
      · simp only [List.getElem_map, List.getElem_range]
        exact g0
      · simp only [List.getElem_map, List.getElem_range]
        rw [Nat.add_assoc]
        exact g1
end

theorem StIn.take {w : World} {a : Option Addr} {l : List (Int × Int)} (h : StIn w a l) (k : Nat) : StIn w a (l.take k) := by
  intro i hi
  have hi' : i < l.length := by simp at hi; omega
  obtain ⟨b, off, e, h0, h1⟩ := h i hi'
  exact ⟨b, off, e, by simpa using h0, by simpa using h1⟩
end Go.Proofs.Ytfmedinhlmiaeaa
/- Small numbers that the laws of stamps make of any: sites, and numbers from 1 to 1000; cells that are kept. -/
namespace Go.Proofs.Ytfmedinhlmiaeaa
open Go.RowKit
set_option linter.unusedVariables false

theorem tmod_lt (x k : Int) (hk : 0 < k) : -k < x.tmod k ∧ x.tmod k < k := ⟨Int.lt_tmod_of_pos x hk, Int.tmod_lt_of_pos x hk⟩
theorem site6 (a : Int) : ∃ x : Int, (wrap64 (a.tmod 6 + 6)).tmod 6 = x ∧ 0 ≤ x ∧ x < 6 := by
  obtain ⟨h1, h2⟩ := tmod_lt a 6 (by omega)
  have e : wrap64 (a.tmod 6 + 6) = a.tmod 6 + 6 := by unfold wrap64; omega
  rw [e, Int.tmod_eq_emod_of_nonneg (by omega)]
  exact ⟨_, rfl, by omega, by omega⟩
theorem num1000 (n : Int) : ∃ x : Int, wrap64 (1 + (wrap64 (n.tmod 1000 + 1000)).tmod 1000) = x ∧ 1 ≤ x ∧ x ≤ 1000 := by
  obtain ⟨h1, h2⟩ := tmod_lt n 1000 (by omega)
  have e : wrap64 (n.tmod 1000 + 1000) = n.tmod 1000 + 1000 := by unfold wrap64; omega
  rw [e, Int.tmod_eq_emod_of_nonneg (by omega)]
  refine ⟨_, rfl, ?_, ?_⟩ <;> unfold wrap64 <;> omega

theorem less_b (n s m t : Int) (b : Bool) (w : World) (hb : Sm.less (n, s) (m, t) = b) :
    Calls Try.prog 52 #[.agg #[.int .i64 n, .int .i64 s], .agg #[.int .i64 m, .int .i64 t]] w fun e w' => e = .returned (.bool b) ∧ Below w.heap.size w w' := by
  rw [← hb]
  exact less_any n s m t w
theorem check_b (n s : Int) (b : Bool) (w : World) (hb : Sm.ok n s = b) :
    Calls Try.prog 55 #[.agg #[.int .i64 n, .int .i64 s]] w fun e w' => e = .returned (.bool b) ∧ Below w.heap.size w w' := by
  rw [← hb]
  exact scheck_any n s w

/-- Three boxed pairs behind a call that only makes memory. -/
theorem boxes3 {w w' : World} {x0 x1 y0 y1 z0 z1 : Value} {T : TypeId}
    (hb : Below (((w.alloc (.cells #[x0, x1] T)).alloc (.cells #[y0, y1] T)).alloc (.cells #[z0, z1] T)).heap.size (((w.alloc (.cells #[x0, x1] T)).alloc (.cells #[y0, y1] T)).alloc (.cells #[z0, z1] T)) w') :
    (w'.cell? ⟨w.heap.size, 0, none⟩ = some x0 ∧ w'.cell? ⟨w.heap.size, 1, none⟩ = some x1) ∧ (w'.cell? ⟨w.heap.size + 1, 0, none⟩ = some y0 ∧ w'.cell? ⟨w.heap.size + 1, 1, none⟩ = some y1) ∧
      (w'.cell? ⟨w.heap.size + 1 + 1, 0, none⟩ = some z0 ∧ w'.cell? ⟨w.heap.size + 1 + 1, 1, none⟩ = some z1) ∧ Below w.heap.size w w' := by
  have s : ((w.alloc (.cells #[x0, x1] T)).alloc (.cells #[y0, y1] T)).heap.size = w.heap.size + 1 + 1 := by simp
  refine ⟨⟨kc hb ?_, kc hb ?_⟩, ⟨kc hb ?_, kc hb ?_⟩, ⟨kc hb ?_, kc hb ?_⟩, (balloc (balloc (balloc (Below.refl _ w) _) _) _).trans (hb.mono (by simp; omega))⟩
  · rw [World.cell?_alloc_past _ _ _ (by rw [s]; omega)]; simp
  · rw [World.cell?_alloc_past _ _ _ (by rw [s]; omega)]; simp
  · rw [World.cell?_alloc_past _ _ _ (by rw [s]; omega)]; simp
  · rw [World.cell?_alloc_past _ _ _ (by rw [s]; omega)]; simp
  · rw [World.cell?_alloc_at _ _ _ _ s.symm]; rfl
  · rw [World.cell?_alloc_at _ _ _ _ s.symm]; rfl
end Go.Proofs.Ytfmedinhlmiaeaa
/- Rows of stamps that a call makes. -/
namespace Go.Proofs.Ytfmedinhlmiaeaa
open Go.RowKit
set_option linter.unusedVariables false

def stV (l : List (Int × Int)) : List Value := l.flatMap fun p => [.int .i64 p.1, .int .i64 p.2]
theorem stV_len (l : List (Int × Int)) : (stV l).length = l.length * 2 := by
  induction l with
  | nil => rfl
  | cons r t ih => simp [stV] at ih ⊢; omega
theorem stV_get (l : List (Int × Int)) (i : Nat) (h : i < l.length) : (stV l)[i * 2]? = some (.int .i64 l[i].1) ∧ (stV l)[i * 2 + 1]? = some (.int .i64 l[i].2) := by
  induction l generalizing i with
  | nil => simp at h
  | cons r t ih =>
    have e : stV (r :: t) = .int .i64 r.1 :: .int .i64 r.2 :: stV t := by simp [stV]
    rw [e]
    cases i with
    | zero => simp
    | succ i =>
      have := ih i (by simpa using h)
      rw [show (i + 1) * 2 = i * 2 + 1 + 1 by omega]
      simpa using this
theorem stV_snoc (l : List (Int × Int)) (p : Int × Int) : stV (l ++ [p]) = stV l ++ [.int .i64 p.1, .int .i64 p.2] := by simp [stV]
theorem stV_append (l m : List (Int × Int)) : stV (l ++ m) = stV l ++ stV m := by simp [stV]
theorem stV_one (l : List (Int × Int)) : ∀ u ∈ stV l, u.oneCell' = true := by
  intro u hu
  simp only [stV, List.mem_flatMap] at hu
  obtain ⟨p, _, hp⟩ := hu
  simp at hp
  rcases hp with rfl | rfl <;> rfl

theorem info_st : (Try.prog.info? 25).map (fun i => (i.zero, i.size, i.bytes)) = some (some (.agg #[.int .i64 0, .int .i64 0]), 2, 16) := by kernel_rfl

/-- A row of the call's own reads as these stamps. -/
theorem st_of_own {w : World} {base : Nat} {e : TypeId} {v : Value} {l : List (Int × Int)} (h : w.ownsRow base e 2 v l.length (stV l)) : ∃ a cap, v = .slice a l.length cap ∧ StIn w a l := by
  rcases h.2 with ⟨rfl, h0⟩ | ⟨g, cap, cur, rfl, hb, hg, hn, hm, hs, ht⟩
  · obtain rfl : l = [] := List.length_eq_zero_iff.1 h0
    exact ⟨none, 0, rfl, fun i h => absurd h (by simp)⟩
  · refine ⟨some ⟨g, 0, none⟩, cap, rfl, fun i hi => ⟨g, 0, rfl, ?_, ?_⟩⟩
    · have h1 := (stV_get l i hi).1
      rw [← ht, List.getElem?_take, if_pos (by omega), Array.getElem?_toList] at h1
      simp [World.cell?, hg, h1]
    · have h1 := (stV_get l i hi).2
      rw [← ht, List.getElem?_take, if_pos (by omega), Array.getElem?_toList] at h1
      simp [World.cell?, hg, h1]
theorem ownT_shape {w1 : World} {base e n : Nat} {v' : Value} {xs : List Value} (h : w1.ownsRow base e 2 v' n xs) : ∃ a k c, v' = .slice a k c := by
  rcases h.2 with ⟨rfl, _⟩ | ⟨g, cap, cur, rfl, _⟩
  · exact ⟨_, _, _, rfl⟩
  · exact ⟨_, _, _, rfl⟩

/-- The cells of a row, one by one. -/
theorem StIn.news {w : World} {x : Addr} {l : List (Int × Int)} (h : StIn w (some x) l) : ∀ j u, (stV l)[j]? = some u → w.cell? (x.add j) = some u := by
  intro j u hj
  have hlt : j < (stV l).length := (List.getElem?_eq_some_iff.1 hj).1
  rw [stV_len] at hlt
  obtain ⟨b', off', e, h0, h1⟩ := h (j / 2) (by omega)
  cases e
  obtain ⟨k0, k1⟩ := stV_get l (j / 2) (by omega)
  rw [Addr.add_lit]
  rcases Nat.mod_two_eq_zero_or_one j with hm | hm
  · have ej : j = j / 2 * 2 := by omega
    rw [ej] at hj ⊢
    rw [k0] at hj
    cases hj
    exact h0
  · have ej : j = j / 2 * 2 + 1 := by omega
    rw [ej] at hj ⊢
    rw [k1] at hj
    cases hj
    rw [← Nat.add_assoc]
    exact h1

end Go.Proofs.Ytfmedinhlmiaeaa
