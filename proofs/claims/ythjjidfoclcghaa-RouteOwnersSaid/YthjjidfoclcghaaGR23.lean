/- Texts of this proof, one behind the other: Open4, VaryAdd, VaryJoin, StampBytes, PastBytesMath, VaryRead, VaryText, StampRead, StampBackMath. -/
import Derived.Test.YthjjidfoclcghaaGR22
import Derived.Test.YthjjidfoclcghaaProg
import Derived.WalkKit
import Derived.WalkLawsBesides
import Derived.Lib.Hide
import Derived.Laws.BitsAllLaws
import Derived.Lib.Strings
/- Dependencies, rows of them, a dependency with ranges, and three ints among the arguments, opened. -/
namespace Go.Proofs.Ythjjidfoclcghaa
open Go.ChangeShapes Go.WideShapes Go.ChangeAt Go.RowKit Go.Joins Go.Deep
set_option linter.unusedVariables false

section
variable {H : Type} {enc : TypeId × Value → H} {P : Program} {w : World} {base : Nat} {spare : Nat → Bool} {held : Bool}

/-- Cells that read as a text and a struct of two ints. -/
theorem trod_dep {e : TypeId} {f0 f1 g0 g1 : Field} {fuel : Nat} {cs : List Value} {x : DataW H × List MemPlace} (he : P.underlying e = some (.struct #[f0, f1])) (hf : f0.offset = 0 ∧ f1.offset = 1 ∧ P.cellsOf f0.type = 1 ∧ P.cellsOf f1.type = 2)
    (hC : P.cellsOf e = 3) (h0 : P.underlying f0.type = some .string) (h1 : P.underlying f1.type = some (.struct #[g0, g1])) (hg : g0.offset = 0 ∧ g1.offset = 1 ∧ P.cellsOf g0.type = 1 ∧ P.cellsOf g1.type = 1)
    (h2 : P.underlying g0.type = some (.int .i64)) (h3 : P.underlying g1.type = some (.int .i64)) (h : DataW.trod enc P w base spare held fuel e cs = some x) :
    ∃ (k : ByteArray) (n s : Int), cs = [.string k, .int .i64 n, .int .i64 s] ∧ k.size ≤ maxLen ∧ In64 (n, s) := by
  obtain ⟨y0, y1, n', hx, hcl, k0, k1⟩ := trod_struct2 he h
  obtain ⟨a1, a2, a3, a4⟩ := hf
  obtain ⟨b1, b2, b3, b4⟩ := hg
  rw [hC] at hcl
  match cs, hcl with
  | [c0, c1, c2], _ =>
    rw [a1, a3] at k0
    rw [a2, a4] at k1
    obtain ⟨z0, z1, n2, hx2, hcl2, m0, m1⟩ := trod_struct2 h1 k1
    rw [b1, b3] at m0
    rw [b2, b4] at m1
    obtain ⟨k, e0, _, z0⟩ := DataW.trod_string h0 k0
    obtain ⟨n, e1, _, z1⟩ := DataW.trod_int h2 m0
    obtain ⟨s, e2, _, z2⟩ := DataW.trod_int h3 m1
    simp at e0 e1 e2
    subst e0 e1 e2
    exact ⟨k, n, s, rfl, z0, bounds_i64 z1, bounds_i64 z2⟩

/-- A dependency, by value. -/
theorem open_dep {r : Reach} {b0 : Nat} {e : TypeId} {f0 f1 g0 g1 : Field} {v : Value} {d : DataW H} {p : List MemPlace} (he : P.underlying e = some (.struct #[f0, f1])) (hf : f0.offset = 0 ∧ f1.offset = 1 ∧ P.cellsOf f0.type = 1 ∧ P.cellsOf f1.type = 2)
    (hC : P.cellsOf e = 3) (h0 : P.underlying f0.type = some .string) (h1 : P.underlying f1.type = some (.struct #[g0, g1])) (hg : g0.offset = 0 ∧ g1.offset = 1 ∧ P.cellsOf g0.type = 1 ∧ P.cellsOf g1.type = 1)
    (h2 : P.underlying g0.type = some (.int .i64)) (h3 : P.underlying g1.type = some (.int .i64)) (hv : Value.okWide P w r b0 e v) (h : DataW.Trod enc P w base spare held e v d p) :
    ∃ (k : ByteArray) (n s : Int), v = .agg #[.string k, .int .i64 n, .int .i64 s] ∧ k.size ≤ maxLen ∧ In64 (n, s) := by
  obtain ⟨cs, rfl, hsz⟩ := okWide_struct he hv
  obtain ⟨fuel, hf'⟩ := h
  obtain ⟨k, n, s, e1, hk, hb⟩ := trod_dep he hf hC h0 h1 hg h2 h3 hf'
  have e2 : cs = #[.string k, .int .i64 n, .int .i64 s] := by
    apply Array.ext'
    simpa [Value.cells] using e1
  subst e2
  exact ⟨k, n, s, rfl, hk, hb⟩

/-- A row of dependencies. -/
theorem open_deps {t e : TypeId} {f0 f1 g0 g1 : Field} {fuel : Nat} {v : Value} {x : DataW H × List MemPlace} (ht : P.underlying t = some (.slice e)) (he : P.underlying e = some (.struct #[f0, f1])) (hf : f0.offset = 0 ∧ f1.offset = 1 ∧ P.cellsOf f0.type = 1 ∧ P.cellsOf f1.type = 2)
    (hC : P.cellsOf e = 3) (h0 : P.underlying f0.type = some .string) (h1 : P.underlying f1.type = some (.struct #[g0, g1])) (hg : g0.offset = 0 ∧ g1.offset = 1 ∧ P.cellsOf g0.type = 1 ∧ P.cellsOf g1.type = 1)
    (h2 : P.underlying g0.type = some (.int .i64)) (h3 : P.underlying g1.type = some (.int .i64))
    (h : DataW.trod enc P w base spare held fuel t v.cells.toList = some x) (hv : ∃ a n c, v = .slice a n c) :
    ∃ l : List De, DepAt w v l ∧ Szd l ∧ ∀ d ∈ l, In64 d.2 := by
  obtain ⟨a, len, cap, rfl⟩ := hv
  rcases open_slice ht h with ⟨hcs, _⟩ | ⟨x, l, c, m, n, D, Pl, hcs, _, hl, hm, hmm, _, hi⟩
  · simp [Value.cells] at hcs
    obtain ⟨rfl, rfl, rfl⟩ := hcs
    exact ⟨[], DepAt.nil w, by simp [Szd], by simp⟩
  · simp [Value.cells] at hcs
    obtain ⟨rfl, rfl, rfl⟩ := hcs
    have hlm : len ≤ m := by rw [hmm]; split <;> omega
    have all : ∀ i, ∃ d : De, i < len → (d.1.size ≤ maxLen ∧ In64 d.2) ∧ w.cell? (x.add (i * 3)) = some (.string d.1) ∧ w.cell? (x.add (i * 3 + 1)) = some (.int .i64 d.2.1) ∧ w.cell? (x.add (i * 3 + 2)) = some (.int .i64 d.2.2) := by
      intro i
      by_cases hil : i < len
      · obtain ⟨cs', hc, ht'⟩ := hi i (by omega)
        rw [hC] at hc
        obtain ⟨k, n, s, rfl, hk, hb⟩ := trod_dep he hf hC h0 h1 hg h2 h3 ht'
        obtain ⟨_, hcl', hat⟩ := World.cells?_some hc
        refine ⟨(k, n, s), fun _ => ⟨⟨hk, hb⟩, ?_, ?_, ?_⟩⟩
        · have := hat 0 (by omega)
          simpa [Go.Deep.add_add] using this
        · have := hat 1 (by omega)
          simpa [Go.Deep.add_add] using this
        · have := hat 2 (by omega)
          simpa [Go.Deep.add_add] using this
      · exact ⟨(ByteArray.empty, 0, 0), fun hh => absurd hh hil⟩
    obtain ⟨F, hF⟩ : ∃ F : Nat → De, ∀ i, i < len → ((F i).1.size ≤ maxLen ∧ In64 (F i).2) ∧ w.cell? (x.add (i * 3)) = some (.string (F i).1) ∧ w.cell? (x.add (i * 3 + 1)) = some (.int .i64 (F i).2.1) ∧ w.cell? (x.add (i * 3 + 2)) = some (.int .i64 (F i).2.2) :=
      ⟨fun i => (all i).choose, fun i => (all i).choose_spec⟩
    obtain ⟨b, off, spot⟩ := x
    refine ⟨(List.range len).map F, ⟨some ⟨b, off, spot⟩, cap, by simp, by simpa using hl, hm, by simp, ?_⟩, ?_, ?_⟩
    · intro i hi
      have hi' : i < len := by simpa using hi
      have hspot : spot = none := by
        have := (hF 0 (by omega)).2.1
        simpa [Addr.add] using World.cell?_spot this
      subst hspot
      have q0 := (hF i hi').2.1
      have q1 := (hF i hi').2.2.1
      have q2 := (hF i hi').2.2.2
      rw [Addr.add_lit] at q0 q1 q2
      refine ⟨b, off, rfl, World.block_lt_of_cell? w _ q0, ?_, ?_, ?_⟩
      · simp only [List.getElem_map, List.getElem_range]
        exact q0
      · simp only [List.getElem_map, List.getElem_range]
        rw [Nat.add_assoc]
        exact q1
      · simp only [List.getElem_map, List.getElem_range]
        rw [Nat.add_assoc]
        exact q2
    · intro d hd
      simp at hd
      obtain ⟨i, hi, rfl⟩ := hd
      have := (hF i hi).1.1
      unfold maxLen at this
      exact this
    · intro d hd
      simp at hd
      obtain ⟨i, hi, rfl⟩ := hd
      exact (hF i hi).1.2

/-- A struct of a dependency and a row of ranges, by value. -/
theorem open_ask {r : Reach} {b0 : Nat} {t : TypeId} {f0 f1 g0 g1 : Field} {F G : Field} {R : TypeId} {r0 r1 : Field} {v : Value} {d : DataW H} {p : List MemPlace} (ht : P.underlying t = some (.struct #[F, G])) (hF : F.offset = 0 ∧ G.offset = 3 ∧ P.cellsOf G.type = 1) (hT : P.cellsOf t = 4)
    (he : P.underlying F.type = some (.struct #[f0, f1])) (hf : f0.offset = 0 ∧ f1.offset = 1 ∧ P.cellsOf f0.type = 1 ∧ P.cellsOf f1.type = 2)
    (hC : P.cellsOf F.type = 3) (h0 : P.underlying f0.type = some .string) (h1 : P.underlying f1.type = some (.struct #[g0, g1])) (hg : g0.offset = 0 ∧ g1.offset = 1 ∧ P.cellsOf g0.type = 1 ∧ P.cellsOf g1.type = 1)
    (h2 : P.underlying g0.type = some (.int .i64)) (h3 : P.underlying g1.type = some (.int .i64))
    (hG : P.underlying G.type = some (.slice R)) (hR : P.underlying R = some (.struct #[r0, r1])) (hone : oneCellFields P #[r0, r1] = true) (hRC : P.cellsOf R = 2) (hr0 : P.underlying r0.type = some .string) (hr1 : P.underlying r1.type = some .string)
    (hv : Value.okWide P w r b0 t v) (h : DataW.Trod enc P w base spare held t v d p) :
    ∃ (k : ByteArray) (n s : Int) (a : Option Addr) (rs : List (ByteArray × ByteArray)) (cap : Nat), v = .agg #[.string k, .int .i64 n, .int .i64 s, .slice a rs.length cap] ∧ k.size ≤ maxLen ∧ In64 (n, s) ∧
      rs.length ≤ 9223372036854775807 ∧ (∀ r ∈ rs, r.1.size ≤ maxLen ∧ r.2.size ≤ maxLen) ∧ RngIn w a rs ∧ rs.length ≤ cap := by
  obtain ⟨cs, rfl, hsz⟩ := okWide_struct ht hv
  obtain ⟨fuel, hf'⟩ := h
  obtain ⟨y0, y1, n', hx, hcl, k0, k1⟩ := trod_struct2 ht hf'
  rw [hF.1, hC] at k0
  rw [hF.2.1, hF.2.2] at k1
  have e0 : (Value.agg cs).cells.toList = cs.toList := rfl
  rw [e0] at k0 k1
  obtain ⟨k, n, s, e1, hk, hb⟩ := trod_dep he hf hC h0 h1 hg h2 h3 k0
  rw [hT] at hsz
  obtain ⟨l⟩ := cs
  match l, hsz with
  | [c0, c1, c2, c3], _ =>
    simp at e1
    obtain ⟨rfl, rfl, rfl⟩ := e1
    have k2 : DataW.trod enc P w base spare held n' G.type [c3] = some y1 := by simpa using k1
    have hs : ∃ a n c, c3 = .slice a n c ∧ n ≤ c := by
      rcases open_slice hG k2 with ⟨hcs, _⟩ | ⟨x, l, c, m, n, D, Pl, hcs, _, hl, _⟩
      · simp at hcs
        exact ⟨none, 0, 0, hcs, Nat.le_refl _⟩
      · simp at hcs
        exact ⟨_, _, _, hcs, hl⟩
    obtain ⟨a, len, cap, rfl, hlc⟩ := hs
    obtain ⟨a', rs, cap', e4, q1, q2, q3⟩ := open_ranges (v := .slice a len cap) hG hR hone hRC hr0 hr1 (by simpa [Value.cells] using k2) ⟨_, _, _, rfl⟩
    cases e4
    exact ⟨k, n, s, a, rs, cap, rfl, hk, hb, q1, q2, q3, hlc⟩

/-- An array of three ints. -/
theorem open_ints3 {r : Reach} {b0 : Nat} {t e : TypeId} {v : Value} {d : DataW H} {p : List MemPlace}
    (ht : P.underlying t = some (.array 3 e)) (he : P.underlying e = some (.int .i64)) (hc : P.cellsOf t = 3) (hce : P.cellsOf e = 1)
    (hv : Value.okWide P w r b0 t v) (h : DataW.Trod enc P w base spare held t v d p) :
    ∃ q0 q1 q2 : Int, v = .agg #[.int .i64 q0, .int .i64 q1, .int .i64 q2] ∧ (-9223372036854775808 ≤ q0 ∧ q0 ≤ 9223372036854775807) ∧ (-9223372036854775808 ≤ q1 ∧ q1 ≤ 9223372036854775807) ∧ (-9223372036854775808 ≤ q2 ∧ q2 ≤ 9223372036854775807) := by
  obtain ⟨cs, rfl, hl, hx⟩ := open_arr ht hc hce hv h
  match cs, hl with
  | [c0, c1, c2], _ =>
    obtain ⟨_, _, k0⟩ := hx 0 (by simp)
    obtain ⟨_, _, k1⟩ := hx 1 (by simp)
    obtain ⟨_, _, k2⟩ := hx 2 (by simp)
    obtain ⟨n0, e0, _, w0⟩ := DataW.trod_int he k0
    obtain ⟨n1, e1, _, w1⟩ := DataW.trod_int he k1
    obtain ⟨n2, e2, _, w2⟩ := DataW.trod_int he k2
    simp at e0 e1 e2
    subst e0 e1 e2
    exact ⟨n0, n1, n2, rfl, bounds_i64 w0, bounds_i64 w1, bounds_i64 w2⟩
end
end Go.Proofs.Ythjjidfoclcghaa
/- What the closure of vary.Join does: it appends the bytes of one number to the captured row. -/
namespace Go.Proofs.Ythjjidfoclcghaa
open Go.RowKit

theorem info_u8 : (Try.prog.info? 5).map (fun i => (i.zero, i.size, i.bytes)) = some (some (.int .u8 0), 1, 1) := by kernel_rfl

def bytesV (l : List UInt8) : List Value := l.map fun c => .int .u8 (c.toNat : Int)

/-- The captured row of bytes: Bv is the variable's block, base: from where on the call's own blocks lie. -/
structure Buf (base Bv : Nat) (l : List UInt8) (w : World) : Prop where
  le : base ≤ Bv
  var : ∃ v, w.heap[Bv]? = some (.cells #[v] 53 (0, 0)) ∧ w.ownsRow base 5 1 v l.length (bytesV l)

theorem own_shape {w1 : World} {base e n : Nat} {v' : Value} {xs : List Value} (h : w1.ownsRow base e 1 v' n xs) : ∃ a k c, v' = .slice a k c := by
  rcases h.2 with ⟨rfl, _⟩ | ⟨g, cap, cur, rfl, _⟩
  · exact ⟨_, _, _, rfl⟩
  · exact ⟨_, _, _, rfl⟩

theorem buf_push {base Bv : Nat} {l : List UInt8} {c : UInt8} {wr w1 : World} {v v' : Value} {X : Obj} (hle : base ≤ Bv) (hbs : base ≤ wr.heap.size)
    (hv : wr.heap[Bv]? = some (.cells #[v] 53 (0, 0))) (ho : wr.ownsRow base 5 1 v l.length (bytesV l))
    (ho' : w1.ownsRow base 5 1 v' (l.length + 1) (bytesV l ++ [.int .u8 (c.toNat : Int)])) (hg : (wr.alloc X).grownBy w1 v.ownBlock) :
    w1.cell? ⟨Bv, 0, none⟩ = some v ∧ w1.frozen? ⟨Bv, 0, none⟩ = false ∧ Buf base Bv (l ++ [c]) (w1.setCell ⟨Bv, 0, none⟩ v') ∧ Below base wr (w1.setCell ⟨Bv, 0, none⟩ v') := by
  have hlt := lt_of_block hv
  have hne : some Bv ≠ v.ownBlock := by
    intro e
    rcases ho.2 with ⟨rfl, _⟩ | ⟨g, cap, cur, rfl, _, hh, _⟩
    · simp [Value.ownBlock] at e
    · simp [Value.ownBlock] at e
      subst e
      rw [hh] at hv
      simp at hv
  have hv1 : w1.heap[Bv]? = some (.cells #[v] 53 (0, 0)) := by
    rw [hg.block Bv (by simp; omega) hne, Below.heap_alloc _ _ _ hlt]
    exact hv
  have hne' : v'.ownBlock ≠ some Bv := by
    intro e
    rcases ho'.2 with ⟨rfl, _⟩ | ⟨g, cap, cur, rfl, _, hh, _⟩
    · simp [Value.ownBlock] at e
    · simp [Value.ownBlock] at e
      subst e
      rw [hh] at hv1
      simp at hv1
  refine ⟨cell_of_one hv1, free_of_one hv1, ⟨hle, _, one_setCell hv1, ?_⟩, ?_⟩
  · have := ownsRow_setCell_other ho' (a := ⟨Bv, 0, none⟩) hne' v'
    simpa [bytesV] using this
  · refine Below.setCell ?_ hle _
    refine ((Below.refl base wr).alloc hbs X).grown hg (by simp; omega) ?_
    intro k hk
    exact (ho.lt k hk).1

end Go.Proofs.Ythjjidfoclcghaa
/- What vary.Join answers. -/
namespace Go.Proofs.Ythjjidfoclcghaa
open Go.RowKit

theorem lt_of_cell? {w : World} {a : Addr} {v : Value} (h : w.cell? a = some v) : a.block < w.heap.size := by
  unfold World.cell? at h
  split at h
  · rename_i hb
    exact lt_of_block hb
  · cases h

/-- A row of numbers of 64 bits that is read: nil, or cells. -/
def U64s (w : World) (a : Option Addr) (zs : List Nat) : Prop :=
  (∀ z ∈ zs, z < 18446744073709551616) ∧ ∀ i (h : i < zs.length), ∃ b off, a = some ⟨b, off, none⟩ ∧ w.cell? ⟨b, off + i, none⟩ = some (.int .u64 (zs[i] : Int))

theorem buf_string {base Bv : Nat} {l : List UInt8} {w : World} (h : Buf base Bv l w) : ∃ v, w.cell? ⟨Bv, 0, none⟩ = some v ∧ (convert 53 9 v).run Try.prog w = .ok (.string ⟨l.toArray⟩) w := by
  obtain ⟨_, v, hv, ho⟩ := h
  refine ⟨v, cell_of_one hv, ?_⟩
  rcases ho.2 with ⟨rfl, h0⟩ | ⟨g, cap, cur, rfl, r⟩
  · obtain rfl : l = [] := List.length_eq_zero_iff.1 h0
    rw [run_convert_bytes_string w 53 9 5 none 0 0 Try.underlying53 Try.underlying5 Try.underlying9]
    rfl
  · have hcells : ∀ j (hj : j < l.length), w.cell? ((⟨g, 0, none⟩ : Addr).add j) = some (.int .u8 (l[j].toNat : Int)) := fun j hj => by
      rw [Addr.add_lit, Nat.zero_add, ho.cellAt j (by omega)]
      simp [bytesV, hj]
    exact run_convert_bytes_back (P := Try.prog) w 53 9 5 ⟨g, 0, none⟩ cap l Try.underlying53 Try.underlying5 Try.underlying9 hcells

/-- The bytes of all numbers, one behind the other. -/
def encs (zs : List Nat) : List UInt8 := zs.flatMap Vm.enc
theorem encs_len {zs : List Nat} (h : ∀ z ∈ zs, z < 18446744073709551616) : (encs zs).length ≤ 10 * zs.length := by
  induction zs with
  | nil => simp [encs]
  | cons z r ih =>
    have h1 := Vm.enc_len10 (h z (by simp))
    have h2 := ih (fun x hx => h x (by simp [hx]))
    simp [encs] at h2 ⊢
    omega
theorem encs_snoc (zs : List Nat) (k : Nat) (hk : k < zs.length) : encs (zs.take (k + 1)) = encs (zs.take k) ++ Vm.enc zs[k] := by
  unfold encs
  rw [List.take_succ_eq_append_getElem hk, List.flatMap_append, List.flatMap_singleton]

end Go.Proofs.Ythjjidfoclcghaa
/- What stamp.Bytes answers. -/
namespace Go.Proofs.Ythjjidfoclcghaa
open Go.RowKit
set_option linter.unusedVariables false

/-- The bytes of a stamp. -/
def sbytes (n s : Int) : List UInt8 := if Sm.ok n s = true then Vm.enc n.toNat ++ Vm.enc s.toNat else []

theorem Sm.ok_nat {n s : Int} (h : Sm.ok n s = true) : ∃ a b : Nat, n = a ∧ s = b ∧ 1 ≤ a ∧ a ≤ 1099511627776 ∧ b < 6 := by
  simp only [Sm.ok, decide_eq_true_eq] at h
  exact ⟨n.toNat, s.toNat, by omega, by omega, by omega, by omega, by omega⟩

end Go.Proofs.Ythjjidfoclcghaa
/- The bytes of a past: plain mathematics. -/
namespace Go.Proofs.Ythjjidfoclcghaa
open Go.RowKit
set_option linter.unusedVariables false

theorem enc_ne (n : Nat) : Vm.enc n ≠ [] := by
  rw [Vm.enc]
  split <;> simp
def dbytes (d : De) : List UInt8 := (Vm.enc d.1.size ++ d.1.data.toList) ++ sbytes d.2.1 d.2.2
def pbody (l : List De) : List UInt8 := l.flatMap dbytes
/-- The bytes of a past; none: it may not be. -/
def pbV (l : List De) : List UInt8 := if chkD l = true then Vm.enc l.length ++ pbody l else []
theorem pbody_take (l : List De) (k : Nat) (h : k < l.length) : pbody (l.take (k + 1)) = pbody (l.take k) ++ dbytes l[k] := by
  unfold pbody
  rw [List.take_succ_eq_append_getElem h, List.flatMap_append]
  simp
theorem pbody_cons (d : De) (l : List De) : pbody (d :: l) = dbytes d ++ pbody l := by simp [pbody]
theorem sbytes_len20 (n s : Int) : (sbytes n s).length ≤ 20 := by
  unfold sbytes
  split
  · rename_i h
    obtain ⟨a, b, rfl, rfl, h1, h2, h3⟩ := Sm.ok_nat h
    have e1 := Vm.enc_len10 (n := a) (by omega)
    have e2 := Vm.enc_len10 (n := b) (by omega)
    simp only [Int.toNat_natCast, List.length_append]
    omega
  · simp
theorem dbytes_len {d : De} (h : d.1.size ≤ 32) : (dbytes d).length ≤ 62 := by
  have e1 := Vm.enc_len10 (n := d.1.size) (by omega)
  have e2 := sbytes_len20 d.2.1 d.2.2
  have e3 : d.1.data.toList.length = d.1.size := rfl
  unfold dbytes
  simp only [List.length_append]
  omega
theorem pbody_len : ∀ (l : List De), (∀ d ∈ l, d.1.size ≤ 32) → (pbody l).length ≤ l.length * 62
  | [], _ => by simp [pbody]
  | d :: l, h => by
    have h1 := dbytes_len (h d (by simp))
    have h2 := pbody_len l (fun e he => h e (List.mem_cons_of_mem _ he))
    rw [pbody_cons, List.length_append, List.length_cons]
    omega
theorem srt_sizes {l : List De} (h : Srt l) : ∀ d ∈ l, d.1.size ≤ 32 := fun d hd => okD_size (h.1 d hd)
theorem chkD_parts {l : List De} (h : chkD l = true) : l.length ≤ 24 ∧ Srt l := by
  simp [chkD] at h
  exact h
end Go.Proofs.Ythjjidfoclcghaa
/- What vary.Read answers. -/
namespace Go.Proofs.Ythjjidfoclcghaa
open Go.RowKit

/-- The answer of vary.Read. -/
def rd (l : List UInt8) (at_ : Int) : Option (Nat × Nat) :=
  if at_ < 0 ∨ (l.length : Int) < at_ then none else (Vm.dec 0 (l.drop at_.toNat)).map fun x => (x.1, at_.toNat + x.2)
def rdV : Option (Nat × Nat) → Value
  | none => .tuple #[.int .u64 0, .int .i64 0, .bool false]
  | some (n, e) => .tuple #[.int .u64 (n : Int), .int .i64 (e : Int), .bool true]

theorem or_shift (k acc x : Nat) (c : Int) (hc : c = x) (hacc : acc < 2 ^ (7 * k)) (hx : x * 2 ^ (7 * k) < 18446744073709551616) (hk : 2 ^ (7 * k) ≤ 18446744073709551616) :
    bits .or .u64 (acc : Int) (IntKind.u64.wrap (c * 2 ^ (7 * k))) = ((acc + x * 2 ^ (7 * k) : Nat) : Int) := by
  subst hc
  have e : ((x : Int) * 2 ^ (7 * k)) = ((x * 2 ^ (7 * k) : Nat) : Int) := by simp
  rw [e, IntKind.wrap_u64, Int.emod_eq_of_lt (by omega) (by omega), u64_or_nat _ _ (by omega) hx]
  congr 1
  rw [Nat.mul_comm, Nat.or_comm, ← Nat.two_pow_add_eq_or_of_lt hacc, Nat.add_comm]

theorem pow7 {k : Nat} (h : k ≤ 9) : 2 ^ (7 * k) ≤ 9223372036854775808 := by
  have : (2 : Nat) ^ (7 * k) ≤ 2 ^ 63 := Nat.pow_le_pow_right (by omega) (by omega)
  simpa using this
theorem pow7' {k : Nat} (h : k ≤ 8) : 2 ^ (7 * k) ≤ 72057594037927936 := by
  have : (2 : Nat) ^ (7 * k) ≤ 2 ^ 56 := Nat.pow_le_pow_right (by omega) (by omega)
  simpa using this

theorem drop_at (t : ByteArray) (k : Nat) (h : k < t.size) : t.data.toList.drop k = t[k] :: t.data.toList.drop (k + 1) := by
  rw [List.drop_eq_getElem_cons (by simpa using h)]
  rfl

theorem or_shift9 (acc x : Nat) (hacc : acc < 2 ^ (7 * 9)) (hx : (x : Int) ≤ 1) : bits .or .u64 (acc : Int) ((x : Int) * 9223372036854775808) = ((acc + x * 2 ^ (7 * 9) : Nat) : Int) := by
  have hx' : x ≤ 1 := by omega
  have h := or_shift 9 acc x x rfl hacc (by simp; omega) (by simp)
  rw [IntKind.wrap_u64, Int.emod_eq_of_lt (by omega) (by simp; omega)] at h
  simpa using h
theorem or_zero (acc p : Nat) (h : acc < 18446744073709551616) : bits .or .u64 (acc : Int) 0 = ((acc + 0 * p : Nat) : Int) := by
  have := u64_or_nat acc 0 h (by omega)
  simpa using this
theorem ret_rd {x y : Int} {n e : Nat} (hx : x = (n : Int)) (hy : y = (e : Int)) : Ending.returned (.tuple #[.int .u64 x, .int .i64 y, .bool true]) = .returned (rdV (some (n, e))) := by
  subst hx hy; rfl

section
variable {D : Option (Nat × Nat)} {k acc : Nat} {b : UInt8} {r : List UInt8}
theorem way_none9 (he : D = Vm.more k acc (Vm.dec k (b :: r))) (hk : k = 9) (hb : 1 < (b.toNat : Int)) : D = none := by
  rw [he, Vm.dec, if_pos (by omega)]; rfl
theorem way_none0 (he : D = Vm.more k acc (Vm.dec k (b :: r))) (hk : 0 < k) (hb : b.toNat = 0) : D = none := by
  rw [he, Vm.dec, if_neg (by omega), if_neg (by omega), if_pos (by omega)]; rfl
theorem way_ret (he : D = Vm.more k acc (Vm.dec k (b :: r))) (hb : (b.toNat : Int) < 128) (h9 : k = 9 → (b.toNat : Int) ≤ 1) (h0 : ¬ (b.toNat = 0 ∧ 0 < k)) : D = some (acc + b.toNat * 2 ^ (7 * k), k + 1) := by
  rw [he, Vm.dec, if_neg (by omega), if_neg (by omega), if_neg h0]; rfl
theorem way_more (he : D = Vm.more k acc (Vm.dec k (b :: r))) (hb : 128 ≤ (b.toNat : Int)) (h9 : ¬ k = 9) : D = Vm.more (k + 1) (acc + (b.toNat - 128) * 2 ^ (7 * k)) (Vm.dec (k + 1) r) := by
  rw [he, Vm.dec, if_neg (by omega), if_pos (by omega)]
  cases Vm.dec (k + 1) r with
  | none => rfl
  | some x =>
    simp only [Vm.more, Option.map_some, Option.some.injEq, Prod.mk.injEq]
    refine ⟨?_, by omega⟩
    rw [show 7 * (k + 1) = 7 * k + 7 from by omega, Nat.pow_add, Nat.add_mul, Nat.add_assoc]
    congr 2
    rw [Nat.mul_comm 128, Nat.mul_assoc, Nat.mul_comm 128]
end

end Go.Proofs.Ythjjidfoclcghaa
/- What vary.ReadText answers. -/
namespace Go.Proofs.Ythjjidfoclcghaa
open Go.RowKit

/-- The answer of vary.ReadText. -/
def rdt (l : List UInt8) (at_ most : Int) : Option (List UInt8 × Nat) :=
  match rd l at_ with
  | none => none
  | some (n, e) => if most < (n : Int) ∨ l.length < e + n then none else some ((l.drop e).take n, e + n)
def rdtV : Option (List UInt8 × Nat) → Value
  | none => .tuple #[.string ⟨#[]⟩, .int .i64 0, .bool false]
  | some (t, e) => .tuple #[.string ⟨t.toArray⟩, .int .i64 (e : Int), .bool true]

theorem ret_rdt {x : ByteArray} {y : Int} {t : List UInt8} {e : Nat} (hx : x.data.toList = t) (hy : y = (e : Int)) : Ending.returned (.tuple #[.string x, .int .i64 y, .bool true]) = .returned (rdtV (some (t, e))) := by
  subst hx hy; rfl

theorem rd_some {l : List UInt8} {at_ : Int} {n e : Nat} (h : rd l at_ = some (n, e)) : n < 18446744073709551616 ∧ e ≤ l.length ∧ 0 ≤ at_ ∧ at_ < e := by
  rw [rd] at h
  by_cases c : at_ < 0 ∨ (l.length : Int) < at_
  · rw [if_pos c] at h; cases h
  · rw [if_neg c] at h
    cases hd : Vm.dec 0 (l.drop at_.toNat) with
    | none => rw [hd] at h; cases h
    | some x =>
      obtain ⟨m, k⟩ := x
      rw [hd] at h
      simp at h
      obtain ⟨rfl, rfl⟩ := h
      obtain ⟨h1, h2, h3⟩ := Vm.dec0_inv _ _ _ hd
      have hp := Vm.enc_pos m
      have hk : k = (Vm.enc m).length := by rw [← h3]; simp; simp at h2; omega
      simp at h2
      exact ⟨h1, by omega, by omega, by omega⟩

/-! What was written is read, wherever it stands. -/
theorem rd_back (a b : List UInt8) (n : Nat) (hn : n < 18446744073709551616) : rd (a ++ Vm.enc n ++ b) (a.length : Int) = some (n, a.length + (Vm.enc n).length) := by
  rw [rd, if_neg (by simp; omega), Int.toNat_natCast, List.append_assoc, List.drop_left, Vm.dec0_enc n b hn]
  rfl
theorem rdt_back (a b t : List UInt8) (most : Int) (ht : t.length < 18446744073709551616) (hm : (t.length : Int) ≤ most) :
    rdt (a ++ (Vm.enc t.length ++ t) ++ b) (a.length : Int) most = some (t, a.length + (Vm.enc t.length).length + t.length) := by
  have e : a ++ (Vm.enc t.length ++ t) ++ b = a ++ Vm.enc t.length ++ (t ++ b) := by simp
  rw [rdt, e, rd_back a (t ++ b) t.length ht]
  simp only
  rw [if_neg (by simp; omega)]
  congr 2
  have e2 : a.length + (Vm.enc t.length).length = (a ++ Vm.enc t.length).length := by simp
  rw [e2, List.drop_left, List.take_left]
theorem rdt_less (a b t : List UInt8) (most : Int) (ht : t.length < 18446744073709551616) (hm : most < (t.length : Int)) :
    rdt (a ++ (Vm.enc t.length ++ t) ++ b) (a.length : Int) most = none := by
  have e : a ++ (Vm.enc t.length ++ t) ++ b = a ++ Vm.enc t.length ++ (t ++ b) := by simp
  rw [rdt, e, rd_back a (t ++ b) t.length ht]
  simp only
  rw [if_pos (Or.inl hm)]

end Go.Proofs.Ythjjidfoclcghaa
/- What stamp.Read answers. -/
namespace Go.Proofs.Ythjjidfoclcghaa
open Go.RowKit
set_option linter.unusedVariables false

/-- The answer of stamp.Read, as a value. -/
def srV : Option ((Int × Int) × Nat) → Value
  | none => .tuple #[.agg #[.int .i64 0, .int .i64 0], .int .i64 0, .bool false]
  | some (p, e) => .tuple #[.agg #[.int .i64 p.1, .int .i64 p.2], .int .i64 (e : Int), .bool true]

theorem rd_bounds {l : List UInt8} {a : Int} {n e : Nat} (h : rd l a = some (n, e)) : n < 18446744073709551616 ∧ e ≤ l.length ∧ 0 ≤ a ∧ a < e := by
  unfold rd at h
  split at h
  · cases h
  · rename_i hc
    cases hd : Vm.dec 0 (l.drop a.toNat) with
    | none => rw [hd] at h; cases h
    | some x =>
      obtain ⟨y, k⟩ := x
      rw [hd] at h
      simp at h
      obtain ⟨rfl, rfl⟩ := h
      obtain ⟨h1, h2, h3⟩ := Vm.dec0_inv _ _ _ hd
      have h4 := Vm.enc_pos y
      rw [← h3] at h4
      simp at h2 h4
      exact ⟨h1, by omega, by omega, by omega⟩

theorem ok_wrap (n k : Nat) (hn : n < 18446744073709551616) (hk : k < 18446744073709551616) : Sm.ok (wrap64 n) (wrap64 k) = Sm.ok n k := by
  unfold wrap64
  exact decide_eq_decide.2 (by omega)

end Go.Proofs.Ythjjidfoclcghaa
/- What was written as a stamp's bytes is read, wherever it stands. -/
namespace Go.Proofs.Ythjjidfoclcghaa
open Go.RowKit
set_option linter.unusedVariables false

theorem rd_at (p r : List UInt8) (n : Nat) (hn : n < 18446744073709551616) : rd (p ++ (Vm.enc n ++ r)) (p.length : Int) = some (n, p.length + (Vm.enc n).length) := by
  unfold rd
  rw [if_neg (by simp; omega), Int.toNat_natCast, List.drop_left' rfl, Vm.dec0_enc n r hn]
  rfl
theorem sbytes_ok {n s : Int} (h : Sm.ok n s = true) : sbytes n s = Vm.enc n.toNat ++ Vm.enc s.toNat := by simp [sbytes, h]
theorem sbytes_len (n s : Int) : (sbytes n s).length ≤ 20 := by
  unfold sbytes
  split
  · rename_i h
    simp only [Sm.ok, decide_eq_true_eq] at h
    have h1 := Vm.enc_len10 (n := n.toNat) (by omega)
    have h2 := Vm.enc_len10 (n := s.toNat) (by omega)
    simp; omega
  · simp
theorem sbytes_pos {n s : Int} (h : Sm.ok n s = true) : 2 ≤ (sbytes n s).length := by
  rw [sbytes_ok h]
  have h1 := Vm.enc_pos n.toNat
  have h2 := Vm.enc_pos s.toNat
  simp; omega
theorem srd_at (p r : List UInt8) {n s : Int} (h : Sm.ok n s = true) : Sm.rdS (rd (p ++ (sbytes n s ++ r))) (p.length : Int) = some ((n, s), p.length + (sbytes n s).length) := by
  have hk := h
  simp only [Sm.ok, decide_eq_true_eq] at hk
  rw [sbytes_ok h]
  have e1 := rd_at p (Vm.enc s.toNat ++ r) n.toNat (by omega)
  have e2 := rd_at (p ++ Vm.enc n.toNat) r s.toNat (by omega)
  rw [List.length_append, List.append_assoc] at e2
  unfold Sm.rdS
  rw [List.append_assoc, e1]
  simp only
  rw [e2]
  simp only
  rw [Int.toNat_of_nonneg (by omega), Int.toNat_of_nonneg (by omega), if_pos h]
  simp
  omega

theorem bytes_data (x y z : ByteArray) : (x ++ y ++ z).data.toList = x.data.toList ++ (y.data.toList ++ z.data.toList) := by simp
theorem srd_bytes (x z : ByteArray) (l : List UInt8) {n s : Int} (h : Sm.ok n s = true) (hl : sbytes n s = l) : Sm.rdS (rd (x ++ ⟨l.toArray⟩ ++ z).data.toList) (x.size : Int) = some ((n, s), x.size + l.length) := by
  subst hl
  rw [bytes_data]
  have := srd_at x.data.toList z.data.toList h
  simpa using this
end Go.Proofs.Ythjjidfoclcghaa
