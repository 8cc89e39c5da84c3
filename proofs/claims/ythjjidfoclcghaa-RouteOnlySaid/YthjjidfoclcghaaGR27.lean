/- Texts of this proof, one behind the other: Open7, Open6, TabLaw. -/
import Derived.Test.YthjjidfoclcghaaGR26
import Derived.Deep.Strs
/- Rows of ints and of ranges in a cell, an array of two ints, rows of the partition table, and such rows by plain numbers, among the arguments, opened. -/
namespace Go.Proofs.Ythjjidfoclcghaa
open Go.ChangeShapes Go.WideShapes Go.ChangeAt Go.RowKit Go.Joins Go.Deep
set_option linter.unusedVariables false

section
variable {H : Type} {enc : TypeId × Value → H} {P : Program} {w : World} {base : Nat} {spare : Nat → Bool} {held : Bool}

/-- A slice of ints in a cell. -/
theorem trod_ints6 {t e : TypeId} {fuel : Nat} {c : Value} {x : DataW H × List MemPlace} (ht : P.underlying t = some (.slice e)) (he : P.underlying e = some (.int .i64)) (hc : P.cellsOf e = 1) (h : DataW.trod enc P w base spare held fuel t [c] = some x) :
    ∃ (l : List Int), RowAt KI w c l ∧ ∀ z ∈ l, -9223372036854775808 ≤ z ∧ z ≤ 9223372036854775807 := by
  rcases open_ints ht he hc h with ⟨hcs, _⟩ | ⟨x, len, cap, zs, hcs, _, hl, hm, hz, _, hcell, hwz⟩
  · simp at hcs
    subst hcs
    exact ⟨[], ⟨none, 0, rfl, by simp, by simp, by simp, fun i h => absurd h (by simp)⟩, by simp⟩
  · simp at hcs
    subst hcs
    have hle : len ≤ zs.length := by rw [hz]; split <;> omega
    obtain ⟨b, off, spot⟩ := x
    refine ⟨zs.take len, ⟨some ⟨b, off, spot⟩, cap, by simp; omega, by simp; omega, hm, by simp, fun i hi => ?_⟩, fun z hzz => ?_⟩
    · have hi' : i < zs.length := by simp at hi; omega
      have hcl := hcell i hi'
      have hspot : spot = none := by simpa [Addr.add] using World.cell?_spot (hcell 0 (by omega))
      subst hspot
      rw [Addr.add_lit] at hcl
      refine ⟨b, off, rfl, World.block_lt_of_cell? w _ hcl, fun j u hu => ?_⟩
      have e : (zs.take len)[i] = zs[i] := by simp
      have hj : j < 1 := by have := (List.getElem?_eq_some_iff.1 hu).1; simpa [KI] using this
      obtain rfl : j = 0 := by omega
      simp [KI] at hu ⊢
      rw [← hu]
      simpa [List.getD_eq_getElem?_getD, hi'] using hcl
    · exact bounds_i64 (hwz z (List.mem_of_mem_take hzz))

/-- An array of two ints. -/
theorem open_ints2 {r : Reach} {b0 : Nat} {t e : TypeId} {v : Value} {d : DataW H} {p : List MemPlace}
    (ht : P.underlying t = some (.array 2 e)) (he : P.underlying e = some (.int .i64)) (hc : P.cellsOf t = 2) (hce : P.cellsOf e = 1)
    (hv : Value.okWide P w r b0 t v) (h : DataW.Trod enc P w base spare held t v d p) :
    ∃ q0 q1 : Int, v = .agg #[.int .i64 q0, .int .i64 q1] ∧ (-9223372036854775808 ≤ q0 ∧ q0 ≤ 9223372036854775807) ∧ (-9223372036854775808 ≤ q1 ∧ q1 ≤ 9223372036854775807) := by
  obtain ⟨cs, rfl, hl, hx⟩ := open_arr ht hc hce hv h
  match cs, hl with
  | [c0, c1], _ =>
    obtain ⟨_, _, k0⟩ := hx 0 (by simp)
    obtain ⟨_, _, k1⟩ := hx 1 (by simp)
    obtain ⟨n0, e0, _, w0⟩ := DataW.trod_int he k0
    obtain ⟨n1, e1, _, w1⟩ := DataW.trod_int he k1
    simp at e0 e1
    subst e0 e1
    exact ⟨n0, n1, rfl, bounds_i64 w0, bounds_i64 w1⟩

theorem RngIn.row {w : World} {a : Option Addr} {l : List (ByteArray × ByteArray)} (h : RngIn w a l) : RowIn KR w a l := by
  intro i hi
  obtain ⟨b, off, e, hl, h0, h1⟩ := h i hi
  refine ⟨b, off, e, hl, fun j u hu => ?_⟩
  have hj : j < 2 := (List.getElem?_eq_some_iff.1 hu).1
  rcases (show j = 0 ∨ j = 1 by omega) with rfl | rfl
  · simp [KR] at hu ⊢
    rw [← hu]
    exact h0
  · simp [KR] at hu ⊢
    rw [← hu]
    exact h1
/-- A slice of ranges in a cell. -/
theorem trod_rngs7 {t e : TypeId} {f0 f1 : Field} {fuel : Nat} {c : Value} {x : DataW H × List MemPlace} (ht : P.underlying t = some (.slice e)) (he : P.underlying e = some (.struct #[f0, f1]))
    (hone : oneCellFields P #[f0, f1] = true) (hC : P.cellsOf e = 2) (h0 : P.underlying f0.type = some .string) (h1 : P.underlying f1.type = some .string) (h : DataW.trod enc P w base spare held fuel t [c] = some x) :
    ∃ (l : List (ByteArray × ByteArray)), RowAt KR w c l ∧ ∀ r ∈ l, r.1.size ≤ maxLen ∧ r.2.size ≤ maxLen := by
  have hs : ∃ a n cp, c = .slice a n cp ∧ n ≤ cp ∧ cp ≤ maxLen ∧ (a = none → cp = 0) := by
    rcases open_slice ht h with ⟨hcs, _⟩ | ⟨x, l, cc, m, n, D, Pl, hcs, _, hl, hm, _⟩
    · simp at hcs
      exact ⟨none, 0, 0, hcs, by omega, by unfold maxLen; omega, fun _ => rfl⟩
    · simp at hcs
      exact ⟨_, _, _, hcs, hl, hm, by simp⟩
  obtain ⟨a, n, cp, rfl, q1, q2, q3⟩ := hs
  obtain ⟨a', rs, cp', e, hl, hz, hr⟩ := open_ranges (v := .slice a n cp) ht he hone hC h0 h1 (by simpa [Value.cells] using h) ⟨_, _, _, rfl⟩
  cases e
  exact ⟨rs, ⟨_, _, rfl, q1, q2, q3, hr.row⟩, hz⟩

/-- A row of the partition table, by value. -/
theorem open_row7 {r : Reach} {b0 : Nat} {t e e1 : TypeId} {F0 F1 F2 f0 f1 : Field} {v : Value} {d : DataW H} {p : List MemPlace} (ht : P.underlying t = some (.struct #[F0, F1, F2])) (hone : oneCellFields P #[F0, F1, F2] = true) (hT : P.cellsOf t = 3)
    (i0 : P.underlying F0.type = some (.slice e1)) (i1 : P.underlying F1.type = some (.slice e)) (i2 : P.underlying F2.type = some (.slice e)) (he : P.underlying e = some (.int .i64)) (hc : P.cellsOf e = 1)
    (he1 : P.underlying e1 = some (.struct #[f0, f1])) (hone1 : oneCellFields P #[f0, f1] = true) (hC : P.cellsOf e1 = 2) (h0 : P.underlying f0.type = some .string) (h1 : P.underlying f1.type = some .string)
    (hv : Value.okWide P w r b0 t v) (h : DataW.Trod enc P w base spare held t v d p) :
    ∃ (u0 u1 u2 : Value) (l0 : List (ByteArray × ByteArray)) (l1 l2 : List Int), v = .agg #[u0, u1, u2] ∧ (RowAt KR w u0 l0 ∧ ∀ r ∈ l0, r.1.size ≤ maxLen ∧ r.2.size ≤ maxLen) ∧ (RowAt KI w u1 l1 ∧ ∀ z ∈ l1, -9223372036854775808 ≤ z ∧ z ≤ 9223372036854775807) ∧ (RowAt KI w u2 l2 ∧ ∀ z ∈ l2, -9223372036854775808 ≤ z ∧ z ≤ 9223372036854775807) := by
  obtain ⟨v0, v1, v2, y0, y1, y2, n, rfl, _, _, k0, k1, k2⟩ := open_agg3 ht hone hT hv h
  obtain ⟨l0, a0⟩ := trod_rngs7 i0 he1 hone1 hC h0 h1 k0
  obtain ⟨l1, a1⟩ := trod_ints6 i1 he hc k1
  obtain ⟨l2, a2⟩ := trod_ints6 i2 he hc k2
  exact ⟨v0, v1, v2, l0, l1, l2, rfl, a0, a1, a2⟩

/-- A row by two rows of plain numbers and one number. -/
theorem open_spec7 {r : Reach} {b0 : Nat} {t e : TypeId} {F0 F1 F2 : Field} {v : Value} {d : DataW H} {p : List MemPlace} (ht : P.underlying t = some (.struct #[F0, F1, F2])) (hone : oneCellFields P #[F0, F1, F2] = true) (hT : P.cellsOf t = 3)
    (i0 : P.underlying F0.type = some (.slice e)) (i1 : P.underlying F1.type = some (.slice e)) (i2 : P.underlying F2.type = some (.int .i64)) (he : P.underlying e = some (.int .i64)) (hc : P.cellsOf e = 1)
    (hv : Value.okWide P w r b0 t v) (h : DataW.Trod enc P w base spare held t v d p) :
    ∃ (u0 u1 : Value) (n : Int) (l0 l1 : List Int), v = .agg #[u0, u1, .int .i64 n] ∧ (RowAt KI w u0 l0 ∧ ∀ z ∈ l0, -9223372036854775808 ≤ z ∧ z ≤ 9223372036854775807) ∧ (RowAt KI w u1 l1 ∧ ∀ z ∈ l1, -9223372036854775808 ≤ z ∧ z ≤ 9223372036854775807) ∧ (-9223372036854775808 ≤ n ∧ n ≤ 9223372036854775807) := by
  obtain ⟨v0, v1, v2, y0, y1, y2, n, rfl, _, _, k0, k1, k2⟩ := open_agg3 ht hone hT hv h
  obtain ⟨l0, a0⟩ := trod_ints6 i0 he hc k0
  obtain ⟨l1, a1⟩ := trod_ints6 i1 he hc k1
  obtain ⟨m, em, _, wm⟩ := DataW.trod_int i2 k2
  simp at em
  subst em
  exact ⟨v0, v1, m, l0, l1, rfl, a0, a1, bounds_i64 wm⟩
end
end Go.Proofs.Ythjjidfoclcghaa
/- A version, a row by plain numbers, an array of two ints, among the arguments, opened. -/
namespace Go.Proofs.Ythjjidfoclcghaa
open Go.ChangeShapes Go.WideShapes Go.ChangeAt Go.RowKit Go.Joins Go.Deep
set_option linter.unusedVariables false

section
variable {H : Type} {enc : TypeId × Value → H} {P : Program} {w : World} {base : Nat} {spare : Nat → Bool} {held : Bool}

theorem trod_struct5 {t : TypeId} {f0 f1 f2 f3 f4 : Field} {fuel : Nat} {cs : List Value} {x : DataW H × List MemPlace} (ht : P.underlying t = some (.struct #[f0, f1, f2, f3, f4])) (h : DataW.trod enc P w base spare held fuel t cs = some x) :
    ∃ y0 y1 y2 y3 y4 n, cs.length = P.cellsOf t ∧ DataW.trod enc P w base spare held n f0.type ((cs.drop f0.offset).take (P.cellsOf f0.type)) = some y0 ∧
      DataW.trod enc P w base spare held n f1.type ((cs.drop f1.offset).take (P.cellsOf f1.type)) = some y1 ∧ DataW.trod enc P w base spare held n f2.type ((cs.drop f2.offset).take (P.cellsOf f2.type)) = some y2 ∧
      DataW.trod enc P w base spare held n f3.type ((cs.drop f3.offset).take (P.cellsOf f3.type)) = some y3 ∧ DataW.trod enc P w base spare held n f4.type ((cs.drop f4.offset).take (P.cellsOf f4.type)) = some y4 := by
  obtain ⟨xs, n, _, rfl, hl, hlen, hf⟩ := DataW.trod_struct ht h
  match xs, hlen with
  | [y0, y1, y2, y3, y4], _ => exact ⟨y0, y1, y2, y3, y4, n, hl, by simpa using hf 0 f0 rfl, by simpa using hf 1 f1 rfl, by simpa using hf 2 f2 rfl, by simpa using hf 3 f3 rfl, by simpa using hf 4 f4 rfl⟩

/-- A version, by value. -/
theorem open_version {r : Reach} {b0 : Nat} {t e : TypeId} {F0 F1 F2 F3 F4 f0 f1 g0 g1 : Field} {v : Value} {d : DataW H} {p : List MemPlace} (ht : P.underlying t = some (.struct #[F0, F1, F2, F3, F4]))
    (hF : F0.offset = 0 ∧ F1.offset = 1 ∧ F2.offset = 2 ∧ F3.offset = 3 ∧ F4.offset = 5 ∧ P.cellsOf F0.type = 1 ∧ P.cellsOf F1.type = 1 ∧ P.cellsOf F2.type = 1 ∧ P.cellsOf F3.type = 2 ∧ P.cellsOf F4.type = 1) (hT : P.cellsOf t = 6)
    (i0 : P.underlying F0.type = some .string) (i1 : P.underlying F1.type = some .string) (i2 : P.underlying F2.type = some .bool)
    (i3 : P.underlying F3.type = some (.struct #[g0, g1])) (hg : g0.offset = 0 ∧ g1.offset = 1 ∧ P.cellsOf g0.type = 1 ∧ P.cellsOf g1.type = 1)
    (i4 : P.underlying F4.type = some (.slice e)) (he : P.underlying e = some (.struct #[f0, f1])) (hf : f0.offset = 0 ∧ f1.offset = 1 ∧ P.cellsOf f0.type = 1 ∧ P.cellsOf f1.type = 2)
    (hC : P.cellsOf e = 3) (h0 : P.underlying f0.type = some .string) (h1 : P.underlying f1.type = some (.struct #[g0, g1]))
    (h2 : P.underlying g0.type = some (.int .i64)) (h3 : P.underlying g1.type = some (.int .i64)) (hv : Value.okWide P w r b0 t v) (h : DataW.Trod enc P w base spare held t v d p) :
    ∃ (x : Wv) (u : Value), v = .agg (wvs x u) ∧ x.key.size ≤ 9223372036854775807 ∧ x.val.size ≤ 9223372036854775807 ∧ Szd x.past ∧ DepAt w u x.past := by
  obtain ⟨cs, rfl, hsz⟩ := okWide_struct ht hv
  obtain ⟨fuel, hf'⟩ := h
  obtain ⟨y0, y1, y2, y3, y4, n', hcl, k0, k1, k2, k3, k4⟩ := trod_struct5 ht hf'
  obtain ⟨q0, q1, q2, q3, q4, c0, c1, c2, c3, c4⟩ := hF
  rw [q0, c0] at k0
  rw [q1, c1] at k1
  rw [q2, c2] at k2
  rw [q3, c3] at k3
  rw [q4, c4] at k4
  have e0 : (Value.agg cs).cells.toList = cs.toList := rfl
  rw [e0] at k0 k1 k2 k3 k4
  rw [hT] at hsz
  obtain ⟨l⟩ := cs
  match l, hsz with
  | [d0, d1, d2, d3, d4, d5], _ =>
    obtain ⟨key, e1, _, z1⟩ := DataW.trod_string i0 k0
    obtain ⟨val, e2, _, z2⟩ := DataW.trod_string i1 k1
    obtain ⟨gone, e3, _⟩ := DataW.trod_bool i2 k2
    obtain ⟨w0, w1, n2, _, _, m0, m1⟩ := trod_struct2 i3 k3
    rw [hg.1, hg.2.2.1] at m0
    rw [hg.2.1, hg.2.2.2] at m1
    obtain ⟨n, e4, _, _⟩ := DataW.trod_int h2 m0
    obtain ⟨s, e5, _, _⟩ := DataW.trod_int h3 m1
    simp at e1 e2 e3 e4 e5
    subst e1 e2 e3 e4 e5
    have k5 : DataW.trod enc P w base spare held n' F4.type [d5] = some y4 := by simpa using k4
    have hs : ∃ a n c, d5 = .slice a n c := by
      rcases open_slice i4 k5 with ⟨hcs, _⟩ | ⟨x, l, c, m, n, D, Pl, hcs, _, _⟩
      · simp at hcs
        exact ⟨none, 0, 0, hcs⟩
      · simp at hcs
        exact ⟨_, _, _, hcs⟩
    obtain ⟨a, len, cap, rfl⟩ := hs
    obtain ⟨past, hd, hz, _⟩ := open_deps (v := .slice a len cap) i4 he hf hC h0 h1 hg h2 h3 (by simpa [Value.cells] using k5) ⟨_, _, _, rfl⟩
    unfold maxLen at z1 z2
    exact ⟨⟨key, val, gone, (n, s), past⟩, .slice a len cap, rfl, z1, z2, hz, hd⟩

/-- A row by plain numbers. -/
theorem open_spec {r : Reach} {b0 : Nat} {t e : TypeId} {F0 F1 F2 : Field} {v : Value} {d : DataW H} {p : List MemPlace} (ht : P.underlying t = some (.struct #[F0, F1, F2])) (hone : oneCellFields P #[F0, F1, F2] = true) (hT : P.cellsOf t = 3)
    (i0 : P.underlying F0.type = some (.slice e)) (i1 : P.underlying F1.type = some (.slice e)) (i2 : P.underlying F2.type = some (.slice e)) (he : P.underlying e = some (.int .i64)) (hc : P.cellsOf e = 1)
    (hv : Value.okWide P w r b0 t v) (h : DataW.Trod enc P w base spare held t v d p) :
    ∃ (u0 u1 u2 : Value) (l0 l1 l2 : List Int), v = .agg #[u0, u1, u2] ∧ (RowAt KI w u0 l0 ∧ ∀ z ∈ l0, -9223372036854775808 ≤ z ∧ z ≤ 9223372036854775807) ∧ (RowAt KI w u1 l1 ∧ ∀ z ∈ l1, -9223372036854775808 ≤ z ∧ z ≤ 9223372036854775807) ∧ (RowAt KI w u2 l2 ∧ ∀ z ∈ l2, -9223372036854775808 ≤ z ∧ z ≤ 9223372036854775807) := by
  obtain ⟨v0, v1, v2, y0, y1, y2, n, rfl, _, _, k0, k1, k2⟩ := open_agg3 ht hone hT hv h
  obtain ⟨l0, a0⟩ := trod_ints6 i0 he hc k0
  obtain ⟨l1, a1⟩ := trod_ints6 i1 he hc k1
  obtain ⟨l2, a2⟩ := trod_ints6 i2 he hc k2
  exact ⟨v0, v1, v2, l0, l1, l2, rfl, a0, a1, a2⟩

end
end Go.Proofs.Ythjjidfoclcghaa
/- What the laws of the table ask: plain mathematics. -/
namespace Go.Proofs.Ythjjidfoclcghaa
open Go.RowKit
set_option linter.unusedVariables false
set_option linter.unusedSimpArgs false

namespace Km
theorem whGo_ge (key : List UInt8) : ∀ (rs : List (List UInt8 × List UInt8)) (b : Bool) (e : List UInt8), whGo b e rs = true → ∀ r ∈ rs, has r.1 r.2 key = true → Op.bytesLess key e = false
  | [], _, _, _, r, hr, _ => by simp at hr
  | h :: t, b, e, hw, r, hr, hh => by
    rw [whGo] at hw
    simp only [Bool.and_eq_true] at hw
    obtain ⟨⟨⟨h1, h2⟩, h3⟩, h4⟩ := hw
    have e1 : h.1 = e := by simpa using h2
    rcases List.mem_cons.1 hr with rfl | hr
    · unfold has at hh
      simp only [Bool.and_eq_true] at hh
      rw [e1] at hh
      simpa using hh.1
    · have hge := whGo_ge key t false h.2 h4 r hr hh
      have hne : h.2 ≠ [] := by
        intro e2
        rw [e2] at h4
        cases t with
        | nil => simp at hr
        | cons x t =>
          rw [whGo] at h4
          simp at h4
      unfold good at h1
      simp only [Bool.and_eq_true] at h1
      have hlt : Op.bytesLess e h.2 = true := by
        have := h1.2
        rw [e1] at this
        have h5 : h.2.isEmpty = false := by simpa using hne
        rw [h5] at this
        simpa using this
      cases hq : Op.bytesLess key e
      · rfl
      · have := bl_trans hq hlt
        rw [hge] at this
        cases this
theorem whGo_one (key : List UInt8) : ∀ (rs : List (List UInt8 × List UInt8)) (b : Bool) (e : List UInt8), whGo b e rs = true → rs.Pairwise (fun r r' => ¬ (has r.1 r.2 key = true ∧ has r'.1 r'.2 key = true))
  | [], _, _, _ => List.Pairwise.nil
  | h :: t, b, e, hw => by
    rw [whGo] at hw
    simp only [Bool.and_eq_true] at hw
    obtain ⟨⟨⟨h1, h2⟩, h3⟩, h4⟩ := hw
    refine List.pairwise_cons.2 ⟨fun r hr ⟨a1, a2⟩ => ?_, whGo_one key t false h.2 h4⟩
    have hge := whGo_ge key t false h.2 h4 r hr a2
    have hne : h.2 ≠ [] := by
      intro e2
      rw [e2] at h4
      cases t with
      | nil => simp at hr
      | cons x t =>
        rw [whGo] at h4
        simp at h4
    unfold has at a1
    simp only [Bool.and_eq_true] at a1
    have h5 : h.2.isEmpty = false := by simpa using hne
    have := a1.2
    rw [h5, hge] at this
    simp at this
theorem whole_one {rs : List (List UInt8 × List UInt8)} (h : whole rs = true) (key : List UInt8) (i j : Nat) (hi : i < rs.length) (hj : j < rs.length) (h1 : has rs[i].1 rs[i].2 key = true) (h2 : has rs[j].1 rs[j].2 key = true) : i = j := by
  unfold whole at h
  simp only [Bool.and_eq_true] at h
  have hp := List.pairwise_iff_getElem.1 (whGo_one key rs true [] h.2)
  rcases Nat.lt_trichotomy i j with hlt | e | hlt
  · exact absurd ⟨h1, h2⟩ (hp i j hi hj hlt)
  · exact e
  · exact absurd ⟨h2, h1⟩ (hp j i hj hi hlt)
theorem fidx_has {rs : List (List UInt8 × List UInt8)} {key : List UInt8} {k : Nat} (h : fidx rs key = (k : Int)) : ∃ hk : k < rs.length, has rs[k].1 rs[k].2 key = true := by
  unfold fidx at h
  cases hq : rs.findIdx? (fun r => has r.1 r.2 key) with
  | none => rw [hq] at h; simp at h
  | some i =>
    rw [hq] at h
    obtain rfl : i = k := by have h2 : (i : Int) = (k : Int) := h
                             omega
    rw [List.findIdx?_eq_some_iff_getElem] at hq
    exact ⟨hq.1, hq.2.1⟩
theorem fidx_ge (rs : List (List UInt8 × List UInt8)) (key : List UInt8) : decide (0 ≤ fidx rs key) = rs.any (fun r => has r.1 r.2 key) := by
  unfold fidx
  cases h : rs.findIdx? (fun r => has r.1 r.2 key) with
  | none =>
    rw [List.findIdx?_eq_none_iff] at h
    have : rs.any (fun r => has r.1 r.2 key) = false := by rw [List.any_eq_false]; intro x hx; simp [h x hx]
    rw [this]
    rfl
  | some i =>
    rw [List.findIdx?_eq_some_iff_getElem] at h
    obtain ⟨hi, hh, _⟩ := h
    have : rs.any (fun r => has r.1 r.2 key) = true := List.any_eq_true.2 ⟨rs[i], List.getElem_mem hi, hh⟩
    rw [this]
    simp
end Km
theorem TOk.has_iff {c : Rw} (h : TOk c) {key : List UInt8} {k : Nat} (hf : Km.fidx (tls c.rs) key = (k : Int)) (i : Nat) (hi : i < c.rs.length) : Km.has c.rs[i].1.data.toList c.rs[i].2.data.toList key = decide (i = k) := by
  obtain ⟨hk, hh⟩ := Km.fidx_has hf
  have e : (tls c.rs)[i]'(by rw [tls_len]; exact hi) = (c.rs[i].1.data.toList, c.rs[i].2.data.toList) := tls_get c.rs i hi
  by_cases hik : i = k
  · subst hik
    rw [decide_eq_true rfl]
    rw [e] at hh
    exact hh
  · rw [decide_eq_false hik]
    cases hq : Km.has c.rs[i].1.data.toList c.rs[i].2.data.toList key with
    | false => rfl
    | true => exact absurd (Km.whole_one h.wh key i k (by rw [tls_len]; exact hi) hk (by rw [e]; exact hq) hh) hik
/-- A key lies in a site's ranges just if the site owns it. -/
theorem own_iff {c : Rw} (h : TOk c) (key : List UInt8) (s : Int) : decide (0 ≤ Km.fidx (tls (rngsN c s)) key) = bitN (ownN c key) s := by
  obtain ⟨k, hk, hf⟩ := h.find key
  obtain ⟨ho, _, _⟩ := ownN_at h hk hf
  have hk' : k < c.ow.length := by rw [h.ol]; exact hk
  rw [Km.fidx_ge]
  unfold rngsN
  rw [if_pos ((tOk_iff c).2 h), Bool.eq_iff_iff, List.any_eq_true]
  unfold tls
  constructor
  · rintro ⟨x, hx, hh⟩
    simp only [List.map_map, List.mem_map, List.mem_filter] at hx
    obtain ⟨⟨r, o⟩, ⟨hz, hb⟩, rfl⟩ := hx
    obtain ⟨i, hi, he⟩ := List.getElem_of_mem hz
    have hi1 : i < c.rs.length := by simp at hi; omega
    have hi2 : i < c.ow.length := by simp at hi; omega
    rw [List.getElem_zip] at he
    have e1 : c.rs[i] = r := congrArg Prod.fst he
    have e2 : c.ow[i] = o := congrArg Prod.snd he
    have h3 := h.has_iff hf i hi1
    simp only [Function.comp] at hh
    rw [e1] at h3
    rw [h3] at hh
    have hik : i = k := by simpa using hh
    subst hik
    dsimp only at hb
    rw [← e2, ← ho, Int.toNat_natCast] at hb
    exact hb
  · intro hb
    refine ⟨(c.rs[k].1.data.toList, c.rs[k].2.data.toList), ?_, by have := h.has_iff hf k hk; simpa using this⟩
    simp only [List.map_map, List.mem_map, List.mem_filter]
    refine ⟨(c.rs[k], c.ow[k]), ⟨?_, by dsimp only; rw [← ho, Int.toNat_natCast]; exact hb⟩, rfl⟩
    have hz : k < (c.rs.zip c.ow).length := by simp; omega
    have : (c.rs.zip c.ow)[k] = (c.rs[k], c.ow[k]) := List.getElem_zip
    rw [← this]
    exact List.getElem_mem hz
theorem first_law : ∀ n : Nat, n < 7 → ∀ m : Nat, m < 2 ^ n → 1 ≤ m → 0 ≤ firstN m ∧ firstN m < n ∧ bitN m (firstN m) = true ∧ 0 < cntB m 6 := by decide +kernel
theorem first_below : ∀ m : Nat, m < 64 → ∀ s : Nat, s < 6 → (s : Int) < firstN m → bitN m s = false := by decide +kernel
theorem cnt_six {m : Nat} (h : m < 64) : manyN m = cntB m 6 := cntB_stop (Nat.div_eq_of_lt h) 63 (by omega)
theorem cnt_bit (m k : Nat) : cntB m (k + 1) = cntB m k + if bitN m (k : Int) then 1 else 0 := by
  rw [cntB, bitN_nat]
  have := Nat.mod_lt (m / 2 ^ k) (show 0 < 2 by omega)
  by_cases h : m / 2 ^ k % 2 = 1
  · simp [h]
  · simp [h]; omega
theorem own_pow {c : Rw} (h : TOk c) (key : List UInt8) : ownN c key < 2 ^ c.pa.length ∧ 1 ≤ ownN c key := by
  obtain ⟨k, hk, hf⟩ := h.find key
  obtain ⟨ho, _, h1⟩ := ownN_at h hk hf
  have hk' : k < c.ow.length := by rw [h.ol]; exact hk
  have := (h.ob _ (List.getElem_mem hk')).2
  omega
end Go.Proofs.Ythjjidfoclcghaa
