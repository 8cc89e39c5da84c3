/- Sessions: what a sender and a receiver hold in memory; packets. -/
import Derived.Test.YtgaghlofcokijaaLinkMath
import Derived.Test.YtgaghlofcokijaaMv
import Derived.Test.YtgaghlofcokijaaRoutePair
import Derived.Test.YtgaghlofcokijaaIntRow
import Derived.Laws.IdiomCopy
namespace Go.Proofs.Ytgaghlofcokijaa
open Go.RowKit
set_option linter.unusedVariables false
set_option linter.unusedSimpArgs false

def KPk : RK (Int × ByteArray) where
  T := 53
  S := 37
  sz := 2
  bt := 24
  z := .agg #[.int .i64 0, .string ⟨#[]⟩]
  enc x := [.int .i64 x.1, .string x.2]
theorem kpk_ok : KPk.Ok where
  len _ := rfl
  pos := by decide
  one x u hu := by
    simp [KPk] at hu
    rcases hu with rfl | rfl <;> rfl
  und := Try.underlying37
  inf := by kernel_rfl
  zc := rfl
  bb := by decide
theorem RowIn.pk {w : World} {a : Option Addr} {l : List (Int × ByteArray)} (h : RowIn KPk w a l) (i : Nat) (hi : i < l.length) : ∃ b off, a = some ⟨b, off, none⟩ ∧ b < w.heap.size ∧ w.cell? ⟨b, off + i * 2, none⟩ = some (.int .i64 l[i].1) ∧ w.cell? ⟨b, off + i * 2 + 1, none⟩ = some (.string l[i].2) := by
  obtain ⟨b, off, e, hl, hc⟩ := h i hi
  exact ⟨b, off, e, hl, hc 0 _ rfl, hc 1 _ rfl⟩
/-- A packet of those that are numbered from n on. -/
theorem RowIn.pkN {w : World} {a : Option Addr} {n : Nat} {op : List ByteArray} (h : RowIn KPk w a (Lk.pk n op)) (i : Nat) (hi : i < op.length) : ∃ b off, a = some ⟨b, off, none⟩ ∧ b < w.heap.size ∧ w.cell? ⟨b, off + i * 2, none⟩ = some (.int .i64 ((n + i : Nat) : Int)) ∧ w.cell? ⟨b, off + i * 2 + 1, none⟩ = some (.string op[i]) := by
  obtain ⟨b, off, e, hl, h0, h1⟩ := h.pk i (by rw [Lk.pk_len]; exact hi)
  rw [Lk.pk_get] at h0 h1
  exact ⟨b, off, e, hl, h0, h1⟩

/-- The places of a sender: the next number, how many are open, the eight packets. -/
structure SnP (w : World) (b : Nat) (nx cn : Int) (pc : Nat → Int) (pd : Nat → ByteArray) : Prop where
  c0 : w.cell? ⟨b, 0, none⟩ = some (.int .i64 nx)
  cc : w.cell? ⟨b, 17, none⟩ = some (.int .i64 cn)
  ci : ∀ i, i < 8 → w.cell? ⟨b, 1 + i * 2, none⟩ = some (.int .i64 (pc i))
  cd : ∀ i, i < 8 → w.cell? ⟨b, 1 + i * 2 + 1, none⟩ = some (.string (pd i))
  f : ∀ j, w.frozen? ⟨b, j, none⟩ = false
theorem SnP.lt {w : World} {b : Nat} {nx cn : Int} {pc : Nat → Int} {pd : Nat → ByteArray} (h : SnP w b nx cn pc pd) : b < w.heap.size := lt_of_cellN h.c0
theorem SnP.block {w w' : World} {b : Nat} {nx cn : Int} {pc : Nat → Int} {pd : Nat → ByteArray} (h : SnP w b nx cn pc pd) (hb : w'.heap[b]? = w.heap[b]?) : SnP w' b nx cn pc pd := by
  refine ⟨?_, ?_, fun i hi => ?_, fun i hi => ?_, fun j => ?_⟩
  · rw [World.cell?_of_block hb]; exact h.c0
  · rw [World.cell?_of_block hb]; exact h.cc
  · rw [World.cell?_of_block hb]; exact h.ci i hi
  · rw [World.cell?_of_block hb]; exact h.cd i hi
  · rw [World.frozen?_of_block hb]; exact h.f j
theorem SnP.new (w : World) (T : TypeId) : SnP (w.alloc (.cells #[.int .i64 0, .int .i64 0, .string ⟨#[]⟩, .int .i64 0, .string ⟨#[]⟩, .int .i64 0, .string ⟨#[]⟩, .int .i64 0, .string ⟨#[]⟩, .int .i64 0, .string ⟨#[]⟩, .int .i64 0, .string ⟨#[]⟩, .int .i64 0, .string ⟨#[]⟩, .int .i64 0, .string ⟨#[]⟩, .int .i64 0] T)) w.heap.size 0 0 (fun _ => 0) (fun _ => ⟨#[]⟩) := by
  refine ⟨by simp, by simp, fun i hi => ?_, fun i hi => ?_, fun j => by simp⟩
  · have : i = 0 ∨ i = 1 ∨ i = 2 ∨ i = 3 ∨ i = 4 ∨ i = 5 ∨ i = 6 ∨ i = 7 := by omega
    rcases this with rfl | rfl | rfl | rfl | rfl | rfl | rfl | rfl <;> simp
  · have : i = 0 ∨ i = 1 ∨ i = 2 ∨ i = 3 ∨ i = 4 ∨ i = 5 ∨ i = 6 ∨ i = 7 := by omega
    rcases this with rfl | rfl | rfl | rfl | rfl | rfl | rfl | rfl <;> simp
theorem SnP.setN {w : World} {b : Nat} {nx cn : Int} {pc : Nat → Int} {pd : Nat → ByteArray} (h : SnP w b nx cn pc pd) (x : Int) : SnP (w.setCell ⟨b, 0, none⟩ (.int .i64 x)) b x cn pc pd := by
  refine ⟨World.cell?_setCell_same _ _ _ h.c0, ?_, fun i hi => ?_, fun i hi => ?_, fun j => by simpa using h.f j⟩
  · rw [World.cell?_setCell_other _ _ _ _ (by simp)]; exact h.cc
  · rw [World.cell?_setCell_other _ _ _ _ (by simp <;> omega)]; exact h.ci i hi
  · rw [World.cell?_setCell_other _ _ _ _ (by simp)]; exact h.cd i hi
theorem SnP.setC {w : World} {b : Nat} {nx cn : Int} {pc : Nat → Int} {pd : Nat → ByteArray} (h : SnP w b nx cn pc pd) (x : Int) : SnP (w.setCell ⟨b, 17, none⟩ (.int .i64 x)) b nx x pc pd := by
  refine ⟨?_, World.cell?_setCell_same _ _ _ h.cc, fun i hi => ?_, fun i hi => ?_, fun j => by simpa using h.f j⟩
  · rw [World.cell?_setCell_other _ _ _ _ (by simp)]; exact h.c0
  · rw [World.cell?_setCell_other _ _ _ _ (by simp <;> omega)]; exact h.ci i hi
  · rw [World.cell?_setCell_other _ _ _ _ (by simp <;> omega)]; exact h.cd i hi
/-- One packet written. -/
theorem SnP.put {w : World} {b : Nat} {nx cn : Int} {pc : Nat → Int} {pd : Nat → ByteArray} (h : SnP w b nx cn pc pd) {k : Nat} (hk : k < 8) (x : Int) (d : ByteArray) :
    SnP ((w.setCell ⟨b, 1 + k * 2, none⟩ (.int .i64 x)).setCell ⟨b, 1 + k * 2 + 1, none⟩ (.string d)) b nx cn (fun i => if i = k then x else pc i) (fun i => if i = k then d else pd i) := by
  refine ⟨?_, ?_, fun i hi => ?_, fun i hi => ?_, fun j => by simpa using h.f j⟩
  · rw [World.cell?_setCell_other _ _ _ _ (by simp), World.cell?_setCell_other _ _ _ _ (by simp)]; exact h.c0
  · rw [World.cell?_setCell_other _ _ _ _ (by simp <;> omega), World.cell?_setCell_other _ _ _ _ (by simp <;> omega)]; exact h.cc
  · rw [World.cell?_setCell_other _ _ _ _ (by simp <;> omega)]
    by_cases e : i = k
    · subst e
      rw [if_pos rfl]
      exact World.cell?_setCell_same _ _ _ (h.ci i hi)
    · rw [if_neg e, World.cell?_setCell_other _ _ _ _ (by simp <;> omega)]
      exact h.ci i hi
  · by_cases e : i = k
    · subst e
      rw [if_pos rfl]
      refine World.cell?_setCell_same (u := .string (pd i)) _ _ _ ?_
      rw [World.cell?_setCell_other _ _ _ _ (by simp)]
      exact h.cd i hi
    · rw [if_neg e, World.cell?_setCell_other _ _ _ _ (by simp <;> omega), World.cell?_setCell_other _ _ _ _ (by simp <;> omega)]
      exact h.cd i hi

/-- A sender: so many are answered, these texts are open. -/
def SnAt (w : World) (b ans : Nat) (op : List ByteArray) : Prop := op.length ≤ 8 ∧ ∃ pc pd, SnP w b ((ans + op.length : Nat) : Int) (op.length : Int) pc pd ∧ ∀ i (h : i < op.length), pc i = ((ans + i : Nat) : Int) ∧ pd i = op[i]
theorem SnAt.lt {w : World} {b ans : Nat} {op : List ByteArray} (h : SnAt w b ans op) : b < w.heap.size := by
  obtain ⟨_, _, _, h, _⟩ := h
  exact h.lt
theorem SnAt.block {w w' : World} {b ans : Nat} {op : List ByteArray} (h : SnAt w b ans op) (hb : w'.heap[b]? = w.heap[b]?) : SnAt w' b ans op := by
  obtain ⟨h8, pc, pd, h, hh⟩ := h
  exact ⟨h8, pc, pd, h.block hb, hh⟩
theorem SnAt.keep {w w' : World} {b ans : Nat} {op : List ByteArray} (h : SnAt w b ans op) (hb : Below w.heap.size w w') : SnAt w' b ans op := h.block (hb.block b h.lt)
theorem SnAt.mv {P : Nat → Prop} {w w' : World} {b ans : Nat} {op : List ByteArray} (h : SnAt w b ans op) (hb : Mv P w w') (hp : ¬ P b) : SnAt w' b ans op := h.block (hb.block b h.lt hp)
theorem SnAt.new (w : World) (T : TypeId) : SnAt (w.alloc (.cells #[.int .i64 0, .int .i64 0, .string ⟨#[]⟩, .int .i64 0, .string ⟨#[]⟩, .int .i64 0, .string ⟨#[]⟩, .int .i64 0, .string ⟨#[]⟩, .int .i64 0, .string ⟨#[]⟩, .int .i64 0, .string ⟨#[]⟩, .int .i64 0, .string ⟨#[]⟩, .int .i64 0, .string ⟨#[]⟩, .int .i64 0] T)) w.heap.size 0 [] :=
  ⟨by simp, _, _, SnP.new w T, fun i h => absurd h (by simp)⟩

/-- One int in a block of its own: a receiver. -/
structure RcAt (w : World) (b : Nat) (k : Nat) : Prop where
  c : w.cell? ⟨b, 0, none⟩ = some (.int .i64 (k : Int))
  f : w.frozen? ⟨b, 0, none⟩ = false
theorem RcAt.lt {w : World} {b k : Nat} (h : RcAt w b k) : b < w.heap.size := lt_of_cellN h.c
theorem RcAt.block {w w' : World} {b k : Nat} (h : RcAt w b k) (hb : w'.heap[b]? = w.heap[b]?) : RcAt w' b k :=
  ⟨by rw [World.cell?_of_block hb]; exact h.c, by rw [World.frozen?_of_block hb]; exact h.f⟩
theorem RcAt.keep {w w' : World} {b k : Nat} (h : RcAt w b k) (hb : Below w.heap.size w w') : RcAt w' b k := h.block (hb.block b h.lt)
theorem RcAt.mv {P : Nat → Prop} {w w' : World} {b k : Nat} (h : RcAt w b k) (hb : Mv P w w') (hp : ¬ P b) : RcAt w' b k := h.block (hb.block b h.lt hp)
theorem RcAt.new (w : World) (T : TypeId) : RcAt (w.alloc (.cells #[.int .i64 0] T)) w.heap.size 0 := ⟨by simp, by simp⟩
theorem RcAt.set {w : World} {b k : Nat} (h : RcAt w b k) (k' : Nat) (x : Int) (e : x = (k' : Int)) : RcAt (w.setCell ⟨b, 0, none⟩ (.int .i64 x)) b k' := by
  subst e
  exact ⟨World.cell?_setCell_same _ _ _ h.c, by simpa using h.f⟩

/-- A packet's two cells. -/
structure PkV (w : World) (b : Nat) (n : Int) (d : ByteArray) : Prop where
  c0 : w.cell? ⟨b, 0, none⟩ = some (.int .i64 n)
  c1 : w.cell? ⟨b, 1, none⟩ = some (.string d)
  f0 : w.frozen? ⟨b, 0, none⟩ = false
  f1 : w.frozen? ⟨b, 1, none⟩ = false
theorem PkV.lt {w : World} {b : Nat} {n : Int} {d : ByteArray} (h : PkV w b n d) : b < w.heap.size := lt_of_cellN h.c0
theorem PkV.block {w w' : World} {b : Nat} {n : Int} {d : ByteArray} (h : PkV w b n d) (hb : w'.heap[b]? = w.heap[b]?) : PkV w' b n d := by
  refine ⟨?_, ?_, ?_, ?_⟩
  · rw [World.cell?_of_block hb]; exact h.c0
  · rw [World.cell?_of_block hb]; exact h.c1
  · rw [World.frozen?_of_block hb]; exact h.f0
  · rw [World.frozen?_of_block hb]; exact h.f1
theorem PkV.keep {w w' : World} {b : Nat} {n : Int} {d : ByteArray} (h : PkV w b n d) (hb : Below w.heap.size w w') : PkV w' b n d := h.block (hb.block b h.lt)
theorem PkV.mv {P : Nat → Prop} {w w' : World} {b : Nat} {n : Int} {d : ByteArray} (h : PkV w b n d) (hb : Mv P w w') (hp : ¬ P b) : PkV w' b n d := h.block (hb.block b h.lt hp)
theorem PkV.new (w : World) (n : Int) (d : ByteArray) (T : TypeId) : PkV (w.alloc (.cells #[.int .i64 n, .string d] T)) w.heap.size n d := ⟨by simp, by simp, by simp, by simp⟩
theorem PkV.put {w : World} {b : Nat} {n : Int} {d : ByteArray} (h : PkV w b n d) (m : Int) (c : ByteArray) : PkV ((w.setCell ⟨b, 0, none⟩ (.int .i64 m)).setCell ⟨b, 1, none⟩ (.string c)) b m c := by
  have c1 : (w.setCell ⟨b, 0, none⟩ (.int .i64 m)).cell? ⟨b, 1, none⟩ = some (.string d) := by
    rw [World.cell?_setCell_other _ _ _ _ (by simp)]; exact h.c1
  refine ⟨?_, World.cell?_setCell_same _ _ _ c1, by simpa using h.f0, by simpa using h.f1⟩
  rw [World.cell?_setCell_other _ _ _ _ (by simp)]
  exact World.cell?_setCell_same _ _ _ h.c0
theorem put2_block (w : World) (b : Nat) (x y : Value) (k : Nat) (h : k ≠ b) : ((w.setCell ⟨b, 0, none⟩ x).setCell ⟨b, 1, none⟩ y).heap[k]? = w.heap[k]? := by
  rw [Below.heap_setCell _ _ _ _ h, Below.heap_setCell _ _ _ _ h]
theorem put2_below (w : World) {n b : Nat} (h : n ≤ b) (x y : Value) : Below n w ((w.setCell ⟨b, 0, none⟩ x).setCell ⟨b, 1, none⟩ y) := ((Below.refl n w).setCell (p := ⟨b, 0, none⟩) h _).setCell (p := ⟨b, 1, none⟩) h _
theorem pkV_size (w : World) (x : Value) (y : Value) (T : TypeId) : w.heap.size < (w.alloc (.cells #[x, y] T)).heap.size := by simp
/-- Two packets compared. -/
theorem eq_pk (w : World) (n m : Int) (d c : ByteArray) : (binOp .eql 53 (.agg #[.int .i64 n, .string d]) (.agg #[.int .i64 m, .string c])).run Try.prog w = .ok (.bool (decide ((n, d) = (m, c)))) w := by
  rw [run_eql_struct, run_equalIn_agg w 9999 53 _ _ (by kernel_rfl) (by kernel_rfl)]
  unfold Program.fieldsOf
  rw [Try.underlying53]
  simp [go_sem, Try.underlying3, Try.underlying9]
  have hk : d.toList = c.toList ↔ d = c := by
    rw [Lib.toList_data, Lib.toList_data]
    exact ⟨fun h => ByteArray.ext (Array.toList_inj.1 h), fun h => by rw [h]⟩
  by_cases h1 : d = c <;> by_cases h2 : n = m <;> simp [hk, h1, h2]
theorem ne_pk (w : World) (n m : Int) (d c : ByteArray) : (binOp .neq 53 (.agg #[.int .i64 n, .string d]) (.agg #[.int .i64 m, .string c])).run Try.prog w = .ok (.bool (!decide ((n, d) = (m, c)))) w := by
  have h := eq_pk w n m d c
  rw [run_eql_struct] at h
  rw [run_neq_struct]
  generalize (Op.equalIn 10000 _ _ _).run _ _ = r at h
  cases r with
  | ok b w1 => simp at h ⊢; simp [h]
  | halt x w1 => simp at h
end Go.Proofs.Ytgaghlofcokijaa
