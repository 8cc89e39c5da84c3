/- Structs of two texts, arrays and rows of such structs among the arguments, opened. Plain lemmas: they speak of no one program. -/
import Derived.Test.YtgaghlofcokijaaOpen
import Derived.Deep.Slices
import Derived.Deep.Fields
import Derived.ChangeSame
namespace Go.Proofs.Ytgaghlofcokijaa
open Go.ChangeShapes Go.WideShapes Go.ChangeAt Go.RowKit Go.Joins Go.Deep
set_option linter.unusedVariables false

section
variable {H : Type} {enc : TypeId × Value → H} {P : Program} {w : World} {base : Nat} {spare : Nat → Bool} {held : Bool}

/-- A struct of two texts, by value. -/
theorem open_two {r : Reach} {b0 : Nat} {t : TypeId} {f0 f1 : Field} {v : Value} {d : DataW H} {p : List MemPlace} (hs : P.underlying t = some (.struct #[f0, f1])) (hone : oneCellFields P #[f0, f1] = true) (hC : P.cellsOf t = 2)
    (h0 : P.underlying f0.type = some .string) (h1 : P.underlying f1.type = some .string) (hv : Value.okWide P w r b0 t v) (h : DataW.Trod enc P w base spare held t v d p) :
    ∃ f g : ByteArray, v = .agg #[.string f, .string g] ∧ f.size ≤ maxLen ∧ g.size ≤ maxLen := by
  obtain ⟨v0, v1, y0, y1, n, rfl, _, _, k0, k1⟩ := open_agg2 hs hone hC hv h
  obtain ⟨s, hs1, _, hs2⟩ := DataW.trod_string h0 k0
  obtain ⟨s', hs1', _, hs2'⟩ := DataW.trod_string h1 k1
  cases hs1
  cases hs1'
  exact ⟨s, s', rfl, hs2, hs2'⟩

/-- An array of one-cell elements. -/
theorem open_arr {r : Reach} {b0 n : Nat} {t e : TypeId} {v : Value} {d : DataW H} {p : List MemPlace}
    (ht : P.underlying t = some (.array n e)) (hc : P.cellsOf t = n) (hce : P.cellsOf e = 1)
    (hv : Value.okWide P w r b0 t v) (h : DataW.Trod enc P w base spare held t v d p) :
    ∃ cs : List Value, v = .agg cs.toArray ∧ cs.length = n ∧ ∀ i (hi : i < cs.length), ∃ m y, DataW.trod enc P w base spare held m e [cs[i]] = some y := by
  obtain ⟨cs, rfl, hsz⟩ := okWide_array ht hv
  obtain ⟨fuel, hf⟩ := h
  obtain ⟨xs, m, _, _, hcl, hxl, hx⟩ := DataW.trod_array ht hf
  refine ⟨cs.toList, by simp, by simp; omega, fun i hi => ?_⟩
  have hi' : i < cs.size := by simpa using hi
  have hin : i < n := by omega
  have h1 := hx i hin
  rw [hce, Nat.mul_one] at h1
  have h2 : xs[i]? = some (xs[i]'(by omega)) := by simp
  rw [h2] at h1
  have h3 : ((Value.agg cs).cells.toList.drop i).take 1 = [cs[i]] := by
    have e : (Value.agg cs).cells = cs := rfl
    rw [e, List.drop_eq_getElem_cons (by simpa using hi)]
    simp
  rw [h3] at h1
  exact ⟨_, _, by simpa using h1⟩

/-- An array of four ints. -/
theorem open_ints4 {r : Reach} {b0 : Nat} {t e : TypeId} {v : Value} {d : DataW H} {p : List MemPlace}
    (ht : P.underlying t = some (.array 4 e)) (he : P.underlying e = some (.int .i64)) (hc : P.cellsOf t = 4) (hce : P.cellsOf e = 1)
    (hv : Value.okWide P w r b0 t v) (h : DataW.Trod enc P w base spare held t v d p) :
    ∃ q0 q1 q2 q3 : Int, v = .agg #[.int .i64 q0, .int .i64 q1, .int .i64 q2, .int .i64 q3] ∧ (-9223372036854775808 ≤ q0 ∧ q0 ≤ 9223372036854775807) ∧ (-9223372036854775808 ≤ q1 ∧ q1 ≤ 9223372036854775807) ∧ (-9223372036854775808 ≤ q2 ∧ q2 ≤ 9223372036854775807) ∧ (-9223372036854775808 ≤ q3 ∧ q3 ≤ 9223372036854775807) := by
  obtain ⟨cs, rfl, hl, hx⟩ := open_arr ht hc hce hv h
  match cs, hl with
  | [c0, c1, c2, c3], _ =>
    obtain ⟨_, _, k0⟩ := hx 0 (by simp)
    obtain ⟨_, _, k1⟩ := hx 1 (by simp)
    obtain ⟨_, _, k2⟩ := hx 2 (by simp)
    obtain ⟨_, _, k3⟩ := hx 3 (by simp)
    obtain ⟨n0, e0, _, w0⟩ := DataW.trod_int he k0
    obtain ⟨n1, e1, _, w1⟩ := DataW.trod_int he k1
    obtain ⟨n2, e2, _, w2⟩ := DataW.trod_int he k2
    obtain ⟨n3, e3, _, w3⟩ := DataW.trod_int he k3
    simp at e0 e1 e2 e3
    subst e0 e1 e2 e3
    exact ⟨n0, n1, n2, n3, rfl, bounds_i64 w0, bounds_i64 w1, bounds_i64 w2, bounds_i64 w3⟩

/-- An array of two bools. -/
theorem open_bools2 {r : Reach} {b0 : Nat} {t e : TypeId} {v : Value} {d : DataW H} {p : List MemPlace}
    (ht : P.underlying t = some (.array 2 e)) (he : P.underlying e = some .bool) (hc : P.cellsOf t = 2) (hce : P.cellsOf e = 1)
    (hv : Value.okWide P w r b0 t v) (h : DataW.Trod enc P w base spare held t v d p) :
    ∃ o0 o1 : Bool, v = .agg #[.bool o0, .bool o1] := by
  obtain ⟨cs, rfl, hl, hx⟩ := open_arr ht hc hce hv h
  match cs, hl with
  | [c0, c1], _ =>
    obtain ⟨_, _, k0⟩ := hx 0 (by simp)
    obtain ⟨_, _, k1⟩ := hx 1 (by simp)
    obtain ⟨n0, e0, _⟩ := DataW.trod_bool he k0
    obtain ⟨n1, e1, _⟩ := DataW.trod_bool he k1
    simp at e0 e1
    subst e0 e1
    exact ⟨n0, n1, rfl⟩
end

theorem three_of {α : Type} (l : List α) (h : l.length = 3) : ∃ a b c, l = [a, b, c] := by
  match l, h with
  | [a, b, c], _ => exact ⟨a, b, c, rfl⟩

/-- A row of structs of two texts, in memory. -/
def RngIn (w : World) (a : Option Addr) (rs : List (ByteArray × ByteArray)) : Prop :=
  ∀ i (h : i < rs.length), ∃ b off, a = some ⟨b, off, none⟩ ∧ b < w.heap.size ∧ w.cell? ⟨b, off + i * 2, none⟩ = some (.string rs[i].1) ∧ w.cell? ⟨b, off + i * 2 + 1, none⟩ = some (.string rs[i].2)

section
variable {H : Type} {enc : TypeId × Value → H} {P : Program} {w : World} {base : Nat} {spare : Nat → Bool} {held : Bool}
theorem open_ranges {t e : TypeId} {f0 f1 : Field} {fuel : Nat} {v : Value} {x : DataW H × List MemPlace} (ht : P.underlying t = some (.slice e)) (he : P.underlying e = some (.struct #[f0, f1]))
    (hone : oneCellFields P #[f0, f1] = true) (hC : P.cellsOf e = 2) (h0 : P.underlying f0.type = some .string) (h1 : P.underlying f1.type = some .string)
    (h : DataW.trod enc P w base spare held fuel t v.cells.toList = some x) (hv : ∃ a n c, v = .slice a n c) :
    ∃ (a : Option Addr) (rs : List (ByteArray × ByteArray)) (cap : Nat), v = .slice a rs.length cap ∧ rs.length ≤ 9223372036854775807 ∧ (∀ r ∈ rs, r.1.size ≤ maxLen ∧ r.2.size ≤ maxLen) ∧ RngIn w a rs := by
  obtain ⟨a, len, cap, rfl⟩ := hv
  rcases open_slice ht h with ⟨hcs, _⟩ | ⟨x, l, c, m, n, D, Pl, hcs, _, hl, hm, hmm, _, hi⟩
  · simp [Value.cells] at hcs
    obtain ⟨rfl, rfl, rfl⟩ := hcs
    exact ⟨none, [], 0, rfl, by simp, by simp, fun i h => absurd h (by simp)⟩
  · simp [Value.cells] at hcs
    obtain ⟨rfl, rfl, rfl⟩ := hcs
    have hlm : len ≤ m := by rw [hmm]; split <;> omega
    have key : ∀ i, i < len → ∃ f g : ByteArray, f.size ≤ maxLen ∧ g.size ≤ maxLen ∧ w.cell? (x.add (i * 2)) = some (.string f) ∧ w.cell? (x.add (i * 2 + 1)) = some (.string g) := by
      intro i hil
      obtain ⟨cs', hc, ht'⟩ := hi i (by omega)
      rw [hC] at hc
      obtain ⟨y0, y1, n', hx, hcl, k0, k1⟩ := trod_struct2 he ht'
      obtain ⟨o0, j0⟩ := hone_of hone 0 f0 rfl
      obtain ⟨o1, j1⟩ := hone_of hone 1 f1 rfl
      obtain ⟨_, hcl', hat⟩ := World.cells?_some hc
      match cs', hcl' with
      | [c0, c1], _ =>
        rw [o0, j0] at k0
        rw [o1, j1] at k1
        obtain ⟨s, e1, _, z1⟩ := DataW.trod_string h0 k0
        obtain ⟨s', e2, _, z2⟩ := DataW.trod_string h1 k1
        simp at e1 e2
        subst e1 e2
        refine ⟨s, s', z1, z2, ?_, ?_⟩
        · have := hat 0 (by omega)
          simpa [Go.Deep.add_add] using this
        · have := hat 1 (by omega)
          simpa [Go.Deep.add_add] using this
    have all : ∀ i, ∃ p : ByteArray × ByteArray, i < len → p.1.size ≤ maxLen ∧ p.2.size ≤ maxLen ∧ w.cell? (x.add (i * 2)) = some (.string p.1) ∧ w.cell? (x.add (i * 2 + 1)) = some (.string p.2) := by
      intro i
      by_cases hil : i < len
      · obtain ⟨f, g, k1, k2, k3, k4⟩ := key i hil
        exact ⟨(f, g), fun _ => ⟨k1, k2, k3, k4⟩⟩
      · exact ⟨(ByteArray.empty, ByteArray.empty), fun hh => absurd hh hil⟩
    obtain ⟨F, hF⟩ : ∃ F : Nat → ByteArray × ByteArray, ∀ i, i < len → (F i).1.size ≤ maxLen ∧ (F i).2.size ≤ maxLen ∧ w.cell? (x.add (i * 2)) = some (.string (F i).1) ∧ w.cell? (x.add (i * 2 + 1)) = some (.string (F i).2) :=
      ⟨fun i => (all i).choose, fun i => (all i).choose_spec⟩
    obtain ⟨b, off, spot⟩ := x
    refine ⟨some ⟨b, off, spot⟩, (List.range len).map F, cap, by simp, by unfold maxLen at hm; simp; omega, ?_, ?_⟩
    · intro r hr
      simp at hr
      obtain ⟨i, hi, rfl⟩ := hr
      exact ⟨(hF i hi).1, (hF i hi).2.1⟩
    · intro i hi
      have hi' : i < len := by simpa using hi
      have hspot : spot = none := by
        have := (hF 0 (by omega)).2.2.1
        simpa [Addr.add] using World.cell?_spot this
      subst hspot
      have g0 := (hF i hi').2.2.1
      have g1 := (hF i hi').2.2.2
      rw [Addr.add_lit] at g0 g1
      refine ⟨b, off, rfl, ?_, ?_, ?_⟩
      · have g2 := g0
        unfold World.cell? at g2
        split at g2
        · rename_i hb
          exact (Array.getElem?_eq_some_iff.1 hb).1
        · cases g2
      · simp only [List.getElem_map, List.getElem_range]
        exact g0
      · simp only [List.getElem_map, List.getElem_range]
        rw [Nat.add_assoc]
        exact g1
end
end Go.Proofs.Ytgaghlofcokijaa
