/- Texts of this proof, one behind the other: Open12, ChLaw2. -/
import Derived.Test.YtfkeeehfpbnibaaGC22
/- Rows of versions, a version with a stamp and pins, among the arguments, opened. -/
namespace Go.Proofs.Ytfkeeehfpbnibaa
open Go.ChangeShapes Go.WideShapes Go.ChangeAt Go.RowKit Go.Joins Go.Deep
set_option linter.unusedVariables false

theorem StIn.rowT {w : World} {a : Option Addr} {l : List (Int × Int)} (h : StIn w a l) : RowIn KT w a l := by
  intro i hi
  obtain ⟨b, off, rfl, h0, h1⟩ := h i hi
  refine ⟨b, off, rfl, lt_of_cellN h0, fun j u hu => ?_⟩
  have hj : j < 2 := (List.getElem?_eq_some_iff.1 hu).1
  rw [show KT.sz = 2 from rfl]
  rcases (show j = 0 ∨ j = 1 by omega) with rfl | rfl
  · cases hu; exact h0
  · cases hu; exact h1

section
variable {H : Type} {enc : TypeId × Value → H} {P : Program} {w : World} {base : Nat} {spare : Nat → Bool} {held : Bool}

/-- A row of versions; of their pasts nothing is said but that they are slices. -/
theorem open_versions {t t0 e : TypeId} {fuel : Nat} {F0 F1 F2 F3 F4 g0 g1 : Field} {v : Value} {x : DataW H × List MemPlace} (ht : P.underlying t = some (.slice t0)) (ht0 : P.underlying t0 = some (.struct #[F0, F1, F2, F3, F4]))
    (hF : F0.offset = 0 ∧ F1.offset = 1 ∧ F2.offset = 2 ∧ F3.offset = 3 ∧ F4.offset = 5 ∧ P.cellsOf F0.type = 1 ∧ P.cellsOf F1.type = 1 ∧ P.cellsOf F2.type = 1 ∧ P.cellsOf F3.type = 2 ∧ P.cellsOf F4.type = 1) (hT : P.cellsOf t0 = 6)
    (i0 : P.underlying F0.type = some .string) (i1 : P.underlying F1.type = some .string) (i2 : P.underlying F2.type = some .bool)
    (i3 : P.underlying F3.type = some (.struct #[g0, g1])) (hg : g0.offset = 0 ∧ g1.offset = 1 ∧ P.cellsOf g0.type = 1 ∧ P.cellsOf g1.type = 1)
    (i4 : P.underlying F4.type = some (.slice e)) (h2 : P.underlying g0.type = some (.int .i64)) (h3 : P.underlying g1.type = some (.int .i64))
    (h : DataW.trod enc P w base spare held fuel t v.cells.toList = some x) (hv : ∃ a n c, v = .slice a n c) :
    ∃ (a : Option Addr) (l : List Vw) (cap : Nat), v = .slice a l.length cap ∧ l.length ≤ 9223372036854775807 ∧ (∀ y ∈ l, (y.1.key.size ≤ 9223372036854775807 ∧ y.1.val.size ≤ 9223372036854775807) ∧ In64 y.1.st) ∧ RowIn KW w a l := by
  obtain ⟨a, len, cap, rfl⟩ := hv
  rcases open_slice ht h with ⟨hcs, _⟩ | ⟨x, l, c, m, n, D, Pl, hcs, _, hl, hm, hmm, _, hi⟩
  · simp [Value.cells] at hcs
    obtain ⟨rfl, rfl, rfl⟩ := hcs
    exact ⟨none, [], 0, rfl, by simp, by simp, fun i h => absurd h (by simp)⟩
  · simp [Value.cells] at hcs
    obtain ⟨rfl, rfl, rfl⟩ := hcs
    have hlm : len ≤ m := by rw [hmm]; split <;> omega
    unfold maxLen at hm
    have all : ∀ i, ∃ y : Vw, i < len → ((y.1.key.size ≤ 9223372036854775807 ∧ y.1.val.size ≤ 9223372036854775807) ∧ In64 y.1.st) ∧ w.cell? (x.add (i * 6)) = some (.string y.1.key) ∧ w.cell? (x.add (i * 6 + 1)) = some (.string y.1.val) ∧ w.cell? (x.add (i * 6 + 2)) = some (.bool y.1.gone) ∧ w.cell? (x.add (i * 6 + 3)) = some (.int .i64 y.1.st.1) ∧ w.cell? (x.add (i * 6 + 4)) = some (.int .i64 y.1.st.2) ∧ w.cell? (x.add (i * 6 + 5)) = some (pw y) := by
      intro i
      by_cases hil : i < len
      · obtain ⟨cs', hc, ht'⟩ := hi i (by omega)
        rw [hT] at hc
        obtain ⟨y0, y1, y2, y3, y4, n', hcl, k0, k1, k2, k3, k4⟩ := trod_struct5 ht0 ht'
        obtain ⟨q0, q1, q2, q3, q4, c0, c1, c2, c3, c4⟩ := hF
        obtain ⟨_, hcl', hat⟩ := World.cells?_some hc
        rw [q0, c0] at k0
        rw [q1, c1] at k1
        rw [q2, c2] at k2
        rw [q3, c3] at k3
        rw [q4, c4] at k4
        match cs', hcl' with
        | [d0, d1, d2, d3, d4, d5], _ =>
          obtain ⟨key, e1, _, z1⟩ := DataW.trod_string i0 k0
          obtain ⟨val, e2, _, z2⟩ := DataW.trod_string i1 k1
          obtain ⟨gone, e3, _⟩ := DataW.trod_bool i2 k2
          obtain ⟨w0, w1, n2, _, _, m0, m1⟩ := trod_struct2 i3 k3
          rw [hg.1, hg.2.2.1] at m0
          rw [hg.2.1, hg.2.2.2] at m1
          obtain ⟨n, e4, _, b4⟩ := DataW.trod_int h2 m0
          obtain ⟨s, e5, _, b5⟩ := DataW.trod_int h3 m1
          simp at e1 e2 e3 e4 e5
          subst e1 e2 e3 e4 e5
          have k5 : DataW.trod enc P w base spare held n' F4.type [d5] = some y4 := by simpa using k4
          have hs : ∃ a n c, d5 = .slice a n c := by
            rcases open_slice i4 k5 with ⟨hcs, _⟩ | ⟨x, l, c, m, n, D, Pl, hcs, _, _⟩
            · simp at hcs
              exact ⟨none, 0, 0, hcs⟩
            · simp at hcs
              exact ⟨_, _, _, hcs⟩
          obtain ⟨pa, pn, pcap, rfl⟩ := hs
          unfold maxLen at z1 z2
          refine ⟨(⟨key, val, gone, (n, s), List.replicate pn (⟨#[]⟩, 0, 0)⟩, pa, pcap), fun _ => ⟨⟨⟨z1, z2⟩, bounds_i64 b4, bounds_i64 b5⟩, ?_, ?_, ?_, ?_, ?_, ?_⟩⟩
          · simpa [Go.Deep.add_add] using hat 0 (by omega)
          · simpa [Go.Deep.add_add] using hat 1 (by omega)
          · simpa [Go.Deep.add_add] using hat 2 (by omega)
          · simpa [Go.Deep.add_add] using hat 3 (by omega)
          · simpa [Go.Deep.add_add] using hat 4 (by omega)
          · simpa [Go.Deep.add_add, pw] using hat 5 (by omega)
      · exact ⟨vw0, fun hh => absurd hh hil⟩
    obtain ⟨F, hF'⟩ : ∃ F : Nat → Vw, ∀ i, i < len → (((F i).1.key.size ≤ 9223372036854775807 ∧ (F i).1.val.size ≤ 9223372036854775807) ∧ In64 (F i).1.st) ∧ w.cell? (x.add (i * 6)) = some (.string (F i).1.key) ∧ w.cell? (x.add (i * 6 + 1)) = some (.string (F i).1.val) ∧ w.cell? (x.add (i * 6 + 2)) = some (.bool (F i).1.gone) ∧ w.cell? (x.add (i * 6 + 3)) = some (.int .i64 (F i).1.st.1) ∧ w.cell? (x.add (i * 6 + 4)) = some (.int .i64 (F i).1.st.2) ∧ w.cell? (x.add (i * 6 + 5)) = some (pw (F i)) :=
      ⟨fun i => (all i).choose, fun i => (all i).choose_spec⟩
    obtain ⟨b, off, spot⟩ := x
    refine ⟨some ⟨b, off, spot⟩, (List.range len).map F, cap, by simp, by simp; omega, ?_, ?_⟩
    · intro o ho
      simp at ho
      obtain ⟨i, hi', rfl⟩ := ho
      exact (hF' i hi').1
    · intro i hi'
      have hil : i < len := by simpa using hi'
      have hspot : spot = none := by
        have := (hF' 0 (by omega)).2.1
        simpa [Addr.add] using World.cell?_spot this
      subst hspot
      obtain ⟨_, q0, q1, q2, q3, q4, q5⟩ := hF' i hil
      rw [Addr.add_lit] at q0 q1 q2 q3 q4 q5
      refine ⟨b, off, rfl, World.block_lt_of_cell? w _ q0, fun j u hu => ?_⟩
      simp only [List.getElem_map, List.getElem_range] at hu
      have hj : j < 6 := (List.getElem?_eq_some_iff.1 hu).1
      have hs : KW.sz = 6 := rfl
      rw [hs, Nat.add_assoc]
      rcases (show j = 0 ∨ j = 1 ∨ j = 2 ∨ j = 3 ∨ j = 4 ∨ j = 5 by omega) with rfl | rfl | rfl | rfl | rfl | rfl
      · cases hu; exact q0
      · cases hu; exact q1
      · cases hu; exact q2
      · cases hu; exact q3
      · cases hu; exact q4
      · cases hu; exact q5

/-- A version, a stamp, pins. -/
theorem open_ask12 {r : Reach} {b0 : Nat} {t e : TypeId} {F0 F1 F2 g0 g1 : Field} {v : Value} {d : DataW H} {p : List MemPlace} (ht : P.underlying t = some (.struct #[F0, F1, F2]))
    (hF : F0.offset = 0 ∧ F1.offset = 6 ∧ F2.offset = 8 ∧ P.cellsOf F0.type = 6 ∧ P.cellsOf F1.type = 2 ∧ P.cellsOf F2.type = 1) (hT : P.cellsOf t = 9)
    (i1 : P.underlying F1.type = some (.struct #[g0, g1])) (hg : g0.offset = 0 ∧ g1.offset = 1 ∧ P.cellsOf g0.type = 1 ∧ P.cellsOf g1.type = 1) (h2 : P.underlying g0.type = some (.int .i64)) (h3 : P.underlying g1.type = some (.int .i64))
    (i2 : P.underlying F2.type = some (.slice e)) (he : P.underlying e = some (.struct #[g0, g1])) (hone : oneCellFields P #[g0, g1] = true) (hC : P.cellsOf e = 2)
    (hv : Value.okWide P w r b0 t v) (h : DataW.Trod enc P w base spare held t v d p) :
    ∃ (d0 d1 d2 d3 d4 d5 : Value) (n s : Int) (a : Option Addr) (l : List (Int × Int)) (cap : Nat), v = .agg #[d0, d1, d2, d3, d4, d5, .int .i64 n, .int .i64 s, .slice a l.length cap] ∧ In64 (n, s) ∧ l.length ≤ cap ∧ cap ≤ maxLen ∧ (a = none → cap = 0) ∧ (∀ r ∈ l, In64 r) ∧ StIn w a l := by
  obtain ⟨cs, rfl, hsz⟩ := okWide_struct ht hv
  obtain ⟨fuel, hf'⟩ := h
  obtain ⟨y0, y1, y2, n', hx, hcl, k0, k1, k2⟩ := trod_struct3 ht hf'
  obtain ⟨o0, o1, o2, c0, c1, c2⟩ := hF
  rw [o1, c1] at k1
  rw [o2, c2] at k2
  have e0 : (Value.agg cs).cells.toList = cs.toList := rfl
  rw [e0] at k1 k2
  rw [hT] at hsz
  obtain ⟨l⟩ := cs
  match l, hsz with
  | [d0, d1, d2, d3, d4, d5, d6, d7, d8], _ =>
    obtain ⟨w0, w1, n2, _, _, m0, m1⟩ := trod_struct2 i1 k1
    rw [hg.1, hg.2.2.1] at m0
    rw [hg.2.1, hg.2.2.2] at m1
    obtain ⟨n, e4, _, b4⟩ := DataW.trod_int h2 m0
    obtain ⟨s, e5, _, b5⟩ := DataW.trod_int h3 m1
    simp at e4 e5
    subst e4 e5
    have k5 : DataW.trod enc P w base spare held n' F2.type [d8] = some y2 := by simpa using k2
    have hs : ∃ a n c, d8 = .slice a n c := by
      rcases open_slice i2 k5 with ⟨hcs, _⟩ | ⟨x, l, c, m, n, D, Pl, hcs, _, _⟩
      · simp at hcs
        exact ⟨none, 0, 0, hcs⟩
      · simp at hcs
        exact ⟨_, _, _, hcs⟩
    obtain ⟨a, len, cap, rfl⟩ := hs
    obtain ⟨a', l, cap', e6, r1, r2, r3, r4, r5⟩ := open_pairs (v := .slice a len cap) i2 he hone hC h2 h3 (by simpa [Value.cells] using k5) ⟨_, _, _, rfl⟩
    cases e6
    exact ⟨d0, d1, d2, d3, d4, d5, n, s, a, l, cap, rfl, ⟨bounds_i64 b4, bounds_i64 b5⟩, r1, r2, r3, r4, r5⟩
end
end Go.Proofs.Ytfkeeehfpbnibaa
/- What the laws of chains say of them, as plain mathematics. -/
namespace Go.Proofs.Ytfkeeehfpbnibaa
open Go.RowKit Go.Shelf
set_option linter.unusedVariables false
set_option linter.unusedSimpArgs false

theorem Chn.okst {c : List Vw} (h : Chn c) : ∀ x ∈ c, Sm.ok x.1.st.1 x.1.st.2 = true := by
  intro x hx
  have := h.ok x hx
  unfold okW at this
  simp only [Bool.and_eq_true] at this
  exact this.1.2
theorem pins_all (c : List Vw) (s : Int × Int) : cleanL c s (c.map fun x => x.1.st) = c := by
  unfold cleanL
  rw [List.filter_eq_self]
  intro x hx
  unfold keepB
  have : x.1.st ∈ c.map fun x => x.1.st := List.mem_map.2 ⟨x, hx, rfl⟩
  simp [this]
theorem pins_none {c : List Vw} (h : Chn c) : cleanL c (0, 0) [] = c := by
  unfold cleanL
  rw [List.filter_eq_self]
  intro x hx
  unfold keepB
  rw [(ok_less (h.okst x hx)).1]
  simp
theorem last_split {c : List Vw} (h0 : 0 < c.length) : ∃ A, c = A ++ [c[c.length - 1]'(by omega)] := by
  have hg : c.getLast? = some (c[c.length - 1]'(by omega)) := by rw [List.getLast?_eq_getElem?, List.getElem?_eq_getElem (by omega)]
  exact List.getLast?_eq_some_iff.1 hg
theorem pins_one {c : List Vw} (h : Chn c) (h0 : 0 < c.length) : cleanL c (1099511627777, 0) [] = [c[c.length - 1]'(by omega)] := by
  obtain ⟨A, hA⟩ := last_split h0
  generalize c[c.length - 1]'(by omega) = y at hA ⊢
  have hlast : c.getLast? = some y := by rw [hA]; simp
  have hle : ∀ x ∈ c, Sm.less x.1.st (1099511627777, 0) = true := fun x hx => (ok_less (h.okst x hx)).2.1
  have hbel : lastP (notA (1099511627777, 0)) c = some y := lastP_of_split hA (by unfold notA; rw [less_asymm (hle y (by rw [hA]; simp))]; rfl) (by simp)
  have hk : ∀ x ∈ c, keepB c (1099511627777, 0) [] x = sameW x.1 y.1 := fun x hx => by
    unfold keepB
    rw [hlast, hbel, hle x hx]
    simp [isW]
  have hr := h.rise
  unfold cleanL
  rw [List.filter_congr hk]
  rw [hA] at hr ⊢
  rw [List.filter_append]
  rw [riseW, List.pairwise_append] at hr
  have h1 : A.filter (fun x => sameW x.1 y.1) = [] := List.filter_eq_nil_iff.2 (fun x hx => by
    intro e
    have e' := (sameW_iff _ _).1 e
    have := hr.2.2 x hx y (by simp)
    rw [e', Sm.less_self] at this
    cases this)
  rw [h1]
  simp [sameW_self]
/-- What is told at a stamp. -/
theorem below_none {c : List Vw} {s : Int × Int} (h : lastP (notA s) c = none) (i : Nat) (hi : i < c.length) : Sm.less s c[i].1.st = true := by
  have := lastP_none h _ (List.getElem_mem hi)
  simpa [notA] using this
theorem below_some {c : List Vw} (hc : Chn c) {s : Int × Int} {v : Vw} (h : lastP (notA s) c = some v) (i : Nat) (hi : i < c.length) (hf : Sm.less s c[i].1.st = false) : Sm.less v.1.st c[i].1.st = false := by
  obtain ⟨A, B, h1, h2, h3⟩ := lastP_split h
  have hr := hc.rise
  rw [h1, riseW, List.pairwise_append] at hr
  have hm := List.getElem_mem hi
  generalize c[i] = z at hm hf
  rw [h1, List.mem_append, List.mem_cons] at hm
  rcases hm with hm | rfl | hm
  · exact less_asymm (hr.2.2 z hm v (by simp))
  · exact Sm.less_self _
  · have := h3 z hm
    simp [notA, hf] at this
theorem below_fits {c : List Vw} {s : Int × Int} {v : Vw} (h : lastP (notA s) c = some v) : Sm.less s v.1.st = false := by
  have := (lastP_some h).2
  simpa [notA] using this
theorem below_head {c : List Vw} {y : Vw} (h : c.getLast? = some y) : lastP (notA y.1.st) c = some y := by
  obtain ⟨A, hA⟩ := List.getLast?_eq_some_iff.1 h
  exact lastP_of_split hA (by unfold notA; rw [Sm.less_self]; rfl) (by simp)
end Go.Proofs.Ytfkeeehfpbnibaa
