/- Rows of ints and of ranges in a cell, an array of two ints, rows of the partition table, and such rows by plain numbers, among the arguments, opened. -/
import Derived.Test.YtjfmgplhcinkfaaGS28
import Derived.Test.YtjfmgplhcinkfaaRowAt
import Derived.Deep.Strs
namespace Go.Proofs.Ytjfmgplhcinkfaa
open Go.ChangeShapes Go.WideShapes Go.ChangeAt Go.RowKit Go.Joins Go.Deep
set_option linter.unusedVariables false

section
variable {H : Type} {enc : TypeId × Value → H} {P : Program} {w : World} {base : Nat} {spare : Nat → Bool} {held : Bool}

/-- A slice of ints in a cell. -/
theorem trod_ints6 {t e : TypeId} {fuel : Nat} {c : Value} {x : DataW H × List MemPlace} (ht : P.underlying t = some (.slice e)) (he : P.underlying e = some (.int .i64)) (hc : P.cellsOf e = 1) (h : DataW.trod enc P w base spare held fuel t [c] = some x) :
    ∃ (l : List Int), RowAt KI w c l ∧ ∀ z ∈ l, -9223372036854775808 ≤ z ∧ z ≤ 9223372036854775807 := by
  rcases open_ints ht he hc h with ⟨hcs, _⟩ | ⟨x, len, cap, zs, hcs, _, hl, hm, hz, _, hcell, hwz⟩
  · simp at hcs
    subst hcs
    exact ⟨[], ⟨none, 0, rfl, by simp, by simp, by simp, fun i h => absurd h (by simp)⟩, by simp⟩
  · simp at hcs
    subst hcs
    have hle : len ≤ zs.length := by rw [hz]; split <;> omega
    obtain ⟨b, off, spot⟩ := x
    refine ⟨zs.take len, ⟨some ⟨b, off, spot⟩, cap, by simp; omega, by simp; omega, hm, by simp, fun i hi => ?_⟩, fun z hzz => ?_⟩
    · have hi' : i < zs.length := by simp at hi; omega
      have hcl := hcell i hi'
      have hspot : spot = none := by simpa [Addr.add] using World.cell?_spot (hcell 0 (by omega))
      subst hspot
      rw [Addr.add_lit] at hcl
      refine ⟨b, off, rfl, World.block_lt_of_cell? w _ hcl, fun j u hu => ?_⟩
      have e : (zs.take len)[i] = zs[i] := by simp
      have hj : j < 1 := by have := (List.getElem?_eq_some_iff.1 hu).1; simpa [KI] using this
      obtain rfl : j = 0 := by omega
      simp [KI] at hu ⊢
      rw [← hu]
      simpa [List.getD_eq_getElem?_getD, hi'] using hcl
    · exact bounds_i64 (hwz z (List.mem_of_mem_take hzz))

/-- An array of two ints. -/
theorem open_ints2 {r : Reach} {b0 : Nat} {t e : TypeId} {v : Value} {d : DataW H} {p : List MemPlace}
    (ht : P.underlying t = some (.array 2 e)) (he : P.underlying e = some (.int .i64)) (hc : P.cellsOf t = 2) (hce : P.cellsOf e = 1)
    (hv : Value.okWide P w r b0 t v) (h : DataW.Trod enc P w base spare held t v d p) :
    ∃ q0 q1 : Int, v = .agg #[.int .i64 q0, .int .i64 q1] ∧ (-9223372036854775808 ≤ q0 ∧ q0 ≤ 9223372036854775807) ∧ (-9223372036854775808 ≤ q1 ∧ q1 ≤ 9223372036854775807) := by
  obtain ⟨cs, rfl, hl, hx⟩ := open_arr ht hc hce hv h
  match cs, hl with
  | [c0, c1], _ =>
    obtain ⟨_, _, k0⟩ := hx 0 (by simp)
    obtain ⟨_, _, k1⟩ := hx 1 (by simp)
    obtain ⟨n0, e0, _, w0⟩ := DataW.trod_int he k0
    obtain ⟨n1, e1, _, w1⟩ := DataW.trod_int he k1
    simp at e0 e1
    subst e0 e1
    exact ⟨n0, n1, rfl, bounds_i64 w0, bounds_i64 w1⟩

theorem RngIn.row {w : World} {a : Option Addr} {l : List (ByteArray × ByteArray)} (h : RngIn w a l) : RowIn KR w a l := by
  intro i hi
  obtain ⟨b, off, e, hl, h0, h1⟩ := h i hi
  refine ⟨b, off, e, hl, fun j u hu => ?_⟩
  have hj : j < 2 := (List.getElem?_eq_some_iff.1 hu).1
  rcases (show j = 0 ∨ j = 1 by omega) with rfl | rfl
  · simp [KR] at hu ⊢
    rw [← hu]
    exact h0
  · simp [KR] at hu ⊢
    rw [← hu]
    exact h1
/-- A slice of ranges in a cell. -/
theorem trod_rngs7 {t e : TypeId} {f0 f1 : Field} {fuel : Nat} {c : Value} {x : DataW H × List MemPlace} (ht : P.underlying t = some (.slice e)) (he : P.underlying e = some (.struct #[f0, f1]))
    (hone : oneCellFields P #[f0, f1] = true) (hC : P.cellsOf e = 2) (h0 : P.underlying f0.type = some .string) (h1 : P.underlying f1.type = some .string) (h : DataW.trod enc P w base spare held fuel t [c] = some x) :
    ∃ (l : List (ByteArray × ByteArray)), RowAt KR w c l ∧ ∀ r ∈ l, r.1.size ≤ maxLen ∧ r.2.size ≤ maxLen := by
  have hs : ∃ a n cp, c = .slice a n cp ∧ n ≤ cp ∧ cp ≤ maxLen ∧ (a = none → cp = 0) := by
    rcases open_slice ht h with ⟨hcs, _⟩ | ⟨x, l, cc, m, n, D, Pl, hcs, _, hl, hm, _⟩
    · simp at hcs
      exact ⟨none, 0, 0, hcs, by omega, by unfold maxLen; omega, fun _ => rfl⟩
    · simp at hcs
      exact ⟨_, _, _, hcs, hl, hm, by simp⟩
  obtain ⟨a, n, cp, rfl, q1, q2, q3⟩ := hs
  obtain ⟨a', rs, cp', e, hl, hz, hr⟩ := open_ranges (v := .slice a n cp) ht he hone hC h0 h1 (by simpa [Value.cells] using h) ⟨_, _, _, rfl⟩
  cases e
  exact ⟨rs, ⟨_, _, rfl, q1, q2, q3, hr.row⟩, hz⟩

/-- A row of the partition table, by value. -/
theorem open_row7 {r : Reach} {b0 : Nat} {t e e1 : TypeId} {F0 F1 F2 f0 f1 : Field} {v : Value} {d : DataW H} {p : List MemPlace} (ht : P.underlying t = some (.struct #[F0, F1, F2])) (hone : oneCellFields P #[F0, F1, F2] = true) (hT : P.cellsOf t = 3)
    (i0 : P.underlying F0.type = some (.slice e1)) (i1 : P.underlying F1.type = some (.slice e)) (i2 : P.underlying F2.type = some (.slice e)) (he : P.underlying e = some (.int .i64)) (hc : P.cellsOf e = 1)
    (he1 : P.underlying e1 = some (.struct #[f0, f1])) (hone1 : oneCellFields P #[f0, f1] = true) (hC : P.cellsOf e1 = 2) (h0 : P.underlying f0.type = some .string) (h1 : P.underlying f1.type = some .string)
    (hv : Value.okWide P w r b0 t v) (h : DataW.Trod enc P w base spare held t v d p) :
    ∃ (u0 u1 u2 : Value) (l0 : List (ByteArray × ByteArray)) (l1 l2 : List Int), v = .agg #[u0, u1, u2] ∧ (RowAt KR w u0 l0 ∧ ∀ r ∈ l0, r.1.size ≤ maxLen ∧ r.2.size ≤ maxLen) ∧ (RowAt KI w u1 l1 ∧ ∀ z ∈ l1, -9223372036854775808 ≤ z ∧ z ≤ 9223372036854775807) ∧ (RowAt KI w u2 l2 ∧ ∀ z ∈ l2, -9223372036854775808 ≤ z ∧ z ≤ 9223372036854775807) := by
  obtain ⟨v0, v1, v2, y0, y1, y2, n, rfl, _, _, k0, k1, k2⟩ := open_agg3 ht hone hT hv h
  obtain ⟨l0, a0⟩ := trod_rngs7 i0 he1 hone1 hC h0 h1 k0
  obtain ⟨l1, a1⟩ := trod_ints6 i1 he hc k1
  obtain ⟨l2, a2⟩ := trod_ints6 i2 he hc k2
  exact ⟨v0, v1, v2, l0, l1, l2, rfl, a0, a1, a2⟩

/-- A row by two rows of plain numbers and one number. -/
theorem open_spec7 {r : Reach} {b0 : Nat} {t e : TypeId} {F0 F1 F2 : Field} {v : Value} {d : DataW H} {p : List MemPlace} (ht : P.underlying t = some (.struct #[F0, F1, F2])) (hone : oneCellFields P #[F0, F1, F2] = true) (hT : P.cellsOf t = 3)
    (i0 : P.underlying F0.type = some (.slice e)) (i1 : P.underlying F1.type = some (.slice e)) (i2 : P.underlying F2.type = some (.int .i64)) (he : P.underlying e = some (.int .i64)) (hc : P.cellsOf e = 1)
    (hv : Value.okWide P w r b0 t v) (h : DataW.Trod enc P w base spare held t v d p) :
    ∃ (u0 u1 : Value) (n : Int) (l0 l1 : List Int), v = .agg #[u0, u1, .int .i64 n] ∧ (RowAt KI w u0 l0 ∧ ∀ z ∈ l0, -9223372036854775808 ≤ z ∧ z ≤ 9223372036854775807) ∧ (RowAt KI w u1 l1 ∧ ∀ z ∈ l1, -9223372036854775808 ≤ z ∧ z ≤ 9223372036854775807) ∧ (-9223372036854775808 ≤ n ∧ n ≤ 9223372036854775807) := by
  obtain ⟨v0, v1, v2, y0, y1, y2, n, rfl, _, _, k0, k1, k2⟩ := open_agg3 ht hone hT hv h
  obtain ⟨l0, a0⟩ := trod_ints6 i0 he hc k0
  obtain ⟨l1, a1⟩ := trod_ints6 i1 he hc k1
  obtain ⟨m, em, _, wm⟩ := DataW.trod_int i2 k2
  simp at em
  subst em
  exact ⟨v0, v1, m, l0, l1, rfl, a0, a1, bounds_i64 wm⟩
end
end Go.Proofs.Ytjfmgplhcinkfaa
