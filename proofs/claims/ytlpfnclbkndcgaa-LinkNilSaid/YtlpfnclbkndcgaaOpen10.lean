/- Packets, rows of steps, slices of bytes, among the arguments, opened. -/
import Derived.Test.YtlpfnclbkndcgaaKinds
import Derived.Deep.Strs
namespace Go.Proofs.Ytlpfnclbkndcgaa
open Go.ChangeShapes Go.WideShapes Go.ChangeAt Go.RowKit Go.Joins Go.Deep
set_option linter.unusedVariables false

/-- A row of bytes. -/
def KB : RK UInt8 where
  T := 5
  S := 50
  sz := 1
  bt := 1
  z := .int .u8 0
  enc x := [.int .u8 (x.toNat : Int)]
/-- A row of steps: a kind, a number, whether it is near, a text. -/
def KOp : RK (Int × Int × Bool × ByteArray) where
  T := 36
  S := 22
  sz := 4
  bt := 40
  z := .agg #[.int .i64 0, .int .i64 0, .bool false, .string ⟨#[]⟩]
  enc x := [.int .i64 x.1, .int .i64 x.2.1, .bool x.2.2.1, .string x.2.2.2]
theorem RowIn.byte {w : World} {a : Option Addr} {l : List UInt8} (h : RowIn KB w a l) (i : Nat) (hi : i < l.length) : ∃ b off, a = some ⟨b, off, none⟩ ∧ b < w.heap.size ∧ w.cell? ⟨b, off + i, none⟩ = some (.int .u8 (l[i].toNat : Int)) := by
  obtain ⟨b, off, e, hl, hc⟩ := h i hi
  have := hc 0 _ rfl
  rw [show KB.sz = 1 from rfl, Nat.mul_one, Nat.add_zero] at this
  exact ⟨b, off, e, hl, this⟩
theorem RowIn.op {w : World} {a : Option Addr} {l : List (Int × Int × Bool × ByteArray)} (h : RowIn KOp w a l) (i : Nat) (hi : i < l.length) : ∃ b off, a = some ⟨b, off, none⟩ ∧ b < w.heap.size ∧ w.cell? ⟨b, off + i * 4, none⟩ = some (.int .i64 l[i].1) ∧ w.cell? ⟨b, off + i * 4 + 1, none⟩ = some (.int .i64 l[i].2.1) ∧ w.cell? ⟨b, off + i * 4 + 2, none⟩ = some (.bool l[i].2.2.1) ∧ w.cell? ⟨b, off + i * 4 + 3, none⟩ = some (.string l[i].2.2.2) := by
  obtain ⟨b, off, e, hl, hc⟩ := h i hi
  exact ⟨b, off, e, hl, hc 0 _ rfl, hc 1 _ rfl, hc 2 _ rfl, hc 3 _ rfl⟩

section
variable {H : Type} {enc : TypeId × Value → H} {P : Program} {w : World} {base : Nat} {spare : Nat → Bool} {held : Bool}
theorem open_packet {r : Reach} {b0 : Nat} {t : TypeId} {f0 f1 : Field} {v : Value} {d : DataW H} {p : List MemPlace} (hs : P.underlying t = some (.struct #[f0, f1])) (hone : oneCellFields P #[f0, f1] = true) (hC : P.cellsOf t = 2)
    (h0 : P.underlying f0.type = some (.int .i64)) (h1 : P.underlying f1.type = some .string) (hv : Value.okWide P w r b0 t v) (h : DataW.Trod enc P w base spare held t v d p) :
    ∃ (n : Int) (g : ByteArray), v = .agg #[.int .i64 n, .string g] ∧ (Lit.int .i64 n).wf = true ∧ g.size ≤ maxLen := by
  obtain ⟨v0, v1, y0, y1, n, rfl, _, _, k0, k1⟩ := open_agg2 hs hone hC hv h
  obtain ⟨s, hs1, _, hs2⟩ := DataW.trod_int h0 k0
  obtain ⟨s', hs1', _, hs2'⟩ := DataW.trod_string h1 k1
  cases hs1
  cases hs1'
  exact ⟨s, s', rfl, hs2, hs2'⟩

/-- A row of steps. -/
theorem open_ops {t e : TypeId} {f0 f1 f2 f3 : Field} {fuel : Nat} {v : Value} {x : DataW H × List MemPlace} (ht : P.underlying t = some (.slice e)) (he : P.underlying e = some (.struct #[f0, f1, f2, f3])) (hone : oneCellFields P #[f0, f1, f2, f3] = true) (hC : P.cellsOf e = 4)
    (h0 : P.underlying f0.type = some (.int .i64)) (h1 : P.underlying f1.type = some (.int .i64)) (h2 : P.underlying f2.type = some .bool) (h3 : P.underlying f3.type = some .string)
    (h : DataW.trod enc P w base spare held fuel t v.cells.toList = some x) (hv : ∃ a n c, v = .slice a n c) :
    ∃ (a : Option Addr) (l : List (Int × Int × Bool × ByteArray)) (cap : Nat), v = .slice a l.length cap ∧ l.length ≤ 9223372036854775807 ∧ (∀ o ∈ l, (-9223372036854775808 ≤ o.1 ∧ o.1 ≤ 9223372036854775807) ∧ (-9223372036854775808 ≤ o.2.1 ∧ o.2.1 ≤ 9223372036854775807)) ∧ RowIn KOp w a l := by
  obtain ⟨a, len, cap, rfl⟩ := hv
  rcases open_slice ht h with ⟨hcs, _⟩ | ⟨x, l, c, m, n, D, Pl, hcs, _, hl, hm, hmm, _, hi⟩
  · simp [Value.cells] at hcs
    obtain ⟨rfl, rfl, rfl⟩ := hcs
    exact ⟨none, [], 0, rfl, by simp, by simp, fun i h => absurd h (by simp)⟩
  · simp [Value.cells] at hcs
    obtain ⟨rfl, rfl, rfl⟩ := hcs
    have hlm : len ≤ m := by rw [hmm]; split <;> omega
    unfold maxLen at hm
    have all : ∀ i, ∃ z : Int × Int × Bool × ByteArray, i < len → ((-9223372036854775808 ≤ z.1 ∧ z.1 ≤ 9223372036854775807) ∧ (-9223372036854775808 ≤ z.2.1 ∧ z.2.1 ≤ 9223372036854775807)) ∧ w.cell? (x.add (i * 4)) = some (.int .i64 z.1) ∧ w.cell? (x.add (i * 4 + 1)) = some (.int .i64 z.2.1) ∧ w.cell? (x.add (i * 4 + 2)) = some (.bool z.2.2.1) ∧ w.cell? (x.add (i * 4 + 3)) = some (.string z.2.2.2) := by
      intro i
      by_cases hil : i < len
      · obtain ⟨cs', hc, ht'⟩ := hi i (by omega)
        rw [hC] at hc
        obtain ⟨y0, y1, y2, y3, n', hx, hcl, k0, k1, k2, k3⟩ := trod_struct4 he ht'
        obtain ⟨o0, j0⟩ := hone_of hone 0 f0 rfl
        obtain ⟨o1, j1⟩ := hone_of hone 1 f1 rfl
        obtain ⟨o2, j2⟩ := hone_of hone 2 f2 rfl
        obtain ⟨o3, j3⟩ := hone_of hone 3 f3 rfl
        obtain ⟨_, hcl', hat⟩ := World.cells?_some hc
        match cs', hcl' with
        | [c0, c1, c2, c3], _ =>
          rw [o0, j0] at k0
          rw [o1, j1] at k1
          rw [o2, j2] at k2
          rw [o3, j3] at k3
          obtain ⟨s0, e0, _, z0⟩ := DataW.trod_int h0 k0
          obtain ⟨s1, e1, _, z1⟩ := DataW.trod_int h1 k1
          obtain ⟨s2, e2, _⟩ := DataW.trod_bool h2 k2
          obtain ⟨s3, e3, _, _⟩ := DataW.trod_string h3 k3
          simp at e0 e1 e2 e3
          subst e0 e1 e2 e3
          refine ⟨(s0, s1, s2, s3), fun _ => ⟨⟨bounds_i64 z0, bounds_i64 z1⟩, ?_, ?_, ?_, ?_⟩⟩
          · have := hat 0 (by omega)
            simpa [Go.Deep.add_add] using this
          · have := hat 1 (by omega)
            simpa [Go.Deep.add_add] using this
          · have := hat 2 (by omega)
            simpa [Go.Deep.add_add] using this
          · have := hat 3 (by omega)
            simpa [Go.Deep.add_add] using this
      · exact ⟨(0, 0, false, ⟨#[]⟩), fun hh => absurd hh hil⟩
    obtain ⟨F, hF⟩ : ∃ F : Nat → Int × Int × Bool × ByteArray, ∀ i, i < len → ((-9223372036854775808 ≤ (F i).1 ∧ (F i).1 ≤ 9223372036854775807) ∧ (-9223372036854775808 ≤ (F i).2.1 ∧ (F i).2.1 ≤ 9223372036854775807)) ∧ w.cell? (x.add (i * 4)) = some (.int .i64 (F i).1) ∧ w.cell? (x.add (i * 4 + 1)) = some (.int .i64 (F i).2.1) ∧ w.cell? (x.add (i * 4 + 2)) = some (.bool (F i).2.2.1) ∧ w.cell? (x.add (i * 4 + 3)) = some (.string (F i).2.2.2) :=
      ⟨fun i => (all i).choose, fun i => (all i).choose_spec⟩
    obtain ⟨b, off, spot⟩ := x
    refine ⟨some ⟨b, off, spot⟩, (List.range len).map F, cap, by simp, by simp; omega, ?_, ?_⟩
    · intro o ho
      simp at ho
      obtain ⟨i, hi', rfl⟩ := ho
      exact (hF i hi').1
    · intro i hi'
      have hil : i < len := by simpa using hi'
      have hspot : spot = none := by
        have := (hF 0 (by omega)).2.1
        simpa [Addr.add] using World.cell?_spot this
      subst hspot
      obtain ⟨_, q0, q1, q2, q3⟩ := hF i hil
      rw [Addr.add_lit] at q0 q1 q2 q3
      refine ⟨b, off, rfl, World.block_lt_of_cell? w _ q0, fun j u hu => ?_⟩
      simp only [List.getElem_map, List.getElem_range] at hu
      have hj : j < 4 := (List.getElem?_eq_some_iff.1 hu).1
      have hs : KOp.sz = 4 := rfl
      rw [hs, Nat.add_assoc]
      rcases (show j = 0 ∨ j = 1 ∨ j = 2 ∨ j = 3 by omega) with rfl | rfl | rfl | rfl
      · cases hu; exact q0
      · cases hu; exact q1
      · cases hu; exact q2
      · cases hu; exact q3
end

/-- A slice of bytes that came in, as a row. -/
theorem isRow_bytes {w : World} {a : Option Addr} {len cap : Nat} {zs : List Int} (h : IsRow .u8 w a len cap zs) : ∃ l : List UInt8, l.length = len ∧ len ≤ 9223372036854775807 ∧ RowIn KB w a l := by
  rcases h with ⟨rfl, rfl, rfl, rfl⟩ | ⟨x, rfl, hl, hm, hz, hcell, hwz⟩
  · exact ⟨[], rfl, by omega, fun i hi => absurd hi (by simp)⟩
  · unfold maxLen at hm
    have hlz : ((zs.take len).map (fun z => UInt8.ofNat z.toNat)).length = len := by rw [List.length_map, List.length_take]; omega
    refine ⟨(zs.take len).map (fun z => UInt8.ofNat z.toNat), hlz, by omega, fun i hi => ?_⟩
    rw [hlz] at hi
    obtain ⟨b, off, spot⟩ := x
    have hi' : i < zs.length := by omega
    have hspot : spot = none := by simpa [Addr.add] using World.cell?_spot (hcell 0 (by omega))
    subst hspot
    have hcl := hcell i hi'
    rw [Addr.add_lit] at hcl
    refine ⟨b, off, rfl, lt_of_cellN hcl, fun j u hu => ?_⟩
    have hj : j < 1 := (List.getElem?_eq_some_iff.1 hu).1
    obtain rfl : j = 0 := by omega
    have hb := hwz zs[i] (List.getElem_mem hi')
    have hb2 : 0 ≤ zs[i] ∧ zs[i] ≤ 255 := by
      simp [Lit.wf, IntKind.min, IntKind.max, IntKind.signed, IntKind.bits] at hb
      omega
    have e : ((UInt8.ofNat zs[i].toNat).toNat : Int) = zs[i] := by
      rw [UInt8.toNat_ofNat']
      omega
    have hu' : u = .int .u8 zs[i] := by
      simp [KB] at hu
      rw [← hu]
      simp at e
      simp [e]
    subst hu'
    rw [show KB.sz = 1 from rfl, Nat.mul_one, Nat.add_zero]
    simpa [List.getD_eq_getElem?_getD, hi'] using hcl
end Go.Proofs.Ytlpfnclbkndcgaa
