/- What Open gives. -/
import Derived.Test.YtgaghlofcokijaaLinkEnds
namespace Go.Proofs.Ytgaghlofcokijaa
open Go.RowKit
set_option linter.unusedVariables false
set_option linter.unusedSimpArgs false

/-- What Open gives: the packets that are open, in new memory. -/
def OpenedAt (w : World) (ans : Nat) (op : List ByteArray) (e : Ending) (w' : World) : Prop := ∃ g, e = .returned (.slice (some ⟨g, 0, none⟩) op.length op.length) ∧ w.heap.size ≤ g ∧ RowIn KPk w' (some ⟨g, 0, none⟩) (Lk.pk ans op) ∧ Below w.heap.size w w'

set_option maxRecDepth 100000 in
theorem open_nil (w : World) :
    Calls Try.prog 21 #[.pointer none] w fun e w' => e = .returned (.slice none 0 0) ∧ w' = w := by
  go_enter Try.func21, Try.ntmps21
  go_wp2
  go_ret
  exact ⟨rfl, rfl⟩

set_option maxRecDepth 100000 in
set_option maxHeartbeats 1600000 in
theorem open_raw (b k : Nat) (n : Int) (pc : Nat → Int) (pd : Nat → ByteArray) (w : World) (h : SnP w b n (k : Int) pc pd) (h8 : k ≤ 8) :
    Calls Try.prog 21 #[.pointer (some ⟨b, 0, none⟩)] w fun e w' => e = .returned (.slice (some ⟨w.heap.size, 0, none⟩) k k) ∧ (∀ i, i < 8 → w'.cell? ⟨w.heap.size, 0 + i * 2, none⟩ = some (.int .i64 (pc i)) ∧ w'.cell? ⟨w.heap.size, 0 + i * 2 + 1, none⟩ = some (.string (pd i))) ∧ w.heap.size < w'.heap.size ∧ Below w.heap.size w w' := by
  have c0 : w.cell? ⟨b, 1, none⟩ = some (.int .i64 (pc 0)) := h.ci 0 (by decide)
  have c1 : w.cell? ⟨b, 3, none⟩ = some (.int .i64 (pc 1)) := h.ci 1 (by decide)
  have c2 : w.cell? ⟨b, 5, none⟩ = some (.int .i64 (pc 2)) := h.ci 2 (by decide)
  have c3 : w.cell? ⟨b, 7, none⟩ = some (.int .i64 (pc 3)) := h.ci 3 (by decide)
  have c4 : w.cell? ⟨b, 9, none⟩ = some (.int .i64 (pc 4)) := h.ci 4 (by decide)
  have c5 : w.cell? ⟨b, 11, none⟩ = some (.int .i64 (pc 5)) := h.ci 5 (by decide)
  have c6 : w.cell? ⟨b, 13, none⟩ = some (.int .i64 (pc 6)) := h.ci 6 (by decide)
  have c7 : w.cell? ⟨b, 15, none⟩ = some (.int .i64 (pc 7)) := h.ci 7 (by decide)
  have d0 : w.cell? ⟨b, 2, none⟩ = some (.string (pd 0)) := h.cd 0 (by decide)
  have d1 : w.cell? ⟨b, 4, none⟩ = some (.string (pd 1)) := h.cd 1 (by decide)
  have d2 : w.cell? ⟨b, 6, none⟩ = some (.string (pd 2)) := h.cd 2 (by decide)
  have d3 : w.cell? ⟨b, 8, none⟩ = some (.string (pd 3)) := h.cd 3 (by decide)
  have d4 : w.cell? ⟨b, 10, none⟩ = some (.string (pd 4)) := h.cd 4 (by decide)
  have d5 : w.cell? ⟨b, 12, none⟩ = some (.string (pd 5)) := h.cd 5 (by decide)
  have d6 : w.cell? ⟨b, 14, none⟩ = some (.string (pd 6)) := h.cd 6 (by decide)
  have d7 : w.cell? ⟨b, 16, none⟩ = some (.string (pd 7)) := h.cd 7 (by decide)
  have HC := Lib.hid h.cc
  clear h
  go_enter Try.func21, Try.ntmps21
  go_upto_region 4 with fail
  have hba := balloc (Below.refl _ w) (.cells #[.int .i64 (pc 0), .string (pd 0), .int .i64 (pc 1), .string (pd 1), .int .i64 (pc 2), .string (pd 2), .int .i64 (pc 3), .string (pd 3), .int .i64 (pc 4), .string (pd 4), .int .i64 (pc 5), .string (pd 5), .int .i64 (pc 6), .string (pd 6), .int .i64 (pc 7), .string (pd 7)] 54)
  have hcc := kc hba HC.out
  have HX : Hid (∀ i, i < 8 → (w.alloc (.cells #[.int .i64 (pc 0), .string (pd 0), .int .i64 (pc 1), .string (pd 1), .int .i64 (pc 2), .string (pd 2), .int .i64 (pc 3), .string (pd 3), .int .i64 (pc 4), .string (pd 4), .int .i64 (pc 5), .string (pd 5), .int .i64 (pc 6), .string (pd 6), .int .i64 (pc 7), .string (pd 7)] 54)).cell? ⟨w.heap.size, 0 + i * 2, none⟩ = some (.int .i64 (pc i)) ∧ (w.alloc (.cells #[.int .i64 (pc 0), .string (pd 0), .int .i64 (pc 1), .string (pd 1), .int .i64 (pc 2), .string (pd 2), .int .i64 (pc 3), .string (pd 3), .int .i64 (pc 4), .string (pd 4), .int .i64 (pc 5), .string (pd 5), .int .i64 (pc 6), .string (pd 6), .int .i64 (pc 7), .string (pd 7)] 54)).cell? ⟨w.heap.size, 0 + i * 2 + 1, none⟩ = some (.string (pd i))) := Lib.hid (fun i hi => by
    have : i = 0 ∨ i = 1 ∨ i = 2 ∨ i = 3 ∨ i = 4 ∨ i = 5 ∨ i = 6 ∨ i = 7 := by omega
    rcases this with rfl | rfl | rfl | rfl | rfl | rfl | rfl | rfl <;> simp)
  have HZ : Hid (w.heap.size < (w.alloc (.cells #[.int .i64 (pc 0), .string (pd 0), .int .i64 (pc 1), .string (pd 1), .int .i64 (pc 2), .string (pd 2), .int .i64 (pc 3), .string (pd 3), .int .i64 (pc 4), .string (pd 4), .int .i64 (pc 5), .string (pd 5), .int .i64 (pc 6), .string (pd 6), .int .i64 (pc 7), .string (pd 7)] 54)).heap.size) := Lib.hid (by simp)
  have HB := Lib.hid hba
  clear hba HC c0 c1 c2 c3 c4 c5 c6 c7 d0 d1 d2 d3 d4 d5 d6 d7
  generalize w.alloc (.cells #[.int .i64 (pc 0), .string (pd 0), .int .i64 (pc 1), .string (pd 1), .int .i64 (pc 2), .string (pd 2), .int .i64 (pc 3), .string (pd 3), .int .i64 (pc 4), .string (pd 4), .int .i64 (pc 5), .string (pd 5), .int .i64 (pc 6), .string (pd 6), .int .i64 (pc 7), .string (pd 7)] 54) = w1 at *
  have hk8 : (k : Int) ≤ 8 := by omega
  go_quiet (fail)
  have hbd := bdrew10 w1 nq
  have HB2 := Lib.hid (bstep HB.out hbd)
  have HX2 : Hid (∀ i, i < 8 → (w1.drewN nq).cell? ⟨w.heap.size, 0 + i * 2, none⟩ = some (.int .i64 (pc i)) ∧ (w1.drewN nq).cell? ⟨w.heap.size, 0 + i * 2 + 1, none⟩ = some (.string (pd i))) := Lib.hid (fun i hi => ⟨kc hbd (HX.out i hi).1, kc hbd (HX.out i hi).2⟩)
  clear hbd
  go_wp2
  go_ret
  exact ⟨rfl, HX2.out, HZ.out, HB2.out⟩

theorem open_at (b ans : Nat) (op : List ByteArray) (w : World) (h : SnAt w b ans op) :
    Calls Try.prog 21 #[.pointer (some ⟨b, 0, none⟩)] w (OpenedAt w ans op) := by
  obtain ⟨h8, pc, pd, h, hh⟩ := h
  refine (open_raw b op.length _ pc pd w h h8).mono ?_
  rintro e w' ⟨rfl, hx, hz, hb⟩
  refine ⟨w.heap.size, rfl, Nat.le_refl _, fun i hi => ⟨_, _, rfl, hz, fun j u hu => ?_⟩, hb⟩
  have hi' : i < op.length := by rw [Lk.pk_len] at hi; exact hi
  rw [Lk.pk_get] at hu
  obtain ⟨x0, x1⟩ := hx i (by omega)
  obtain ⟨e0, e1⟩ := hh i hi'
  rw [e0] at x0
  rw [e1] at x1
  have hj : j < 2 := (List.getElem?_eq_some_iff.1 hu).1
  rcases (show j = 0 ∨ j = 1 by omega) with rfl | rfl
  · simp only [KPk, List.getElem?_cons_zero, Option.some.injEq] at hu
    subst hu
    exact x0
  · simp only [KPk, List.getElem?_cons_succ, List.getElem?_cons_zero, Option.some.injEq] at hu
    subst hu
    exact x1

theorem RowIn.pk0 {w : World} {g ans : Nat} {op : List ByteArray} (h : RowIn KPk w (some ⟨g, 0, none⟩) (Lk.pk ans op)) (hi : 0 < op.length) : w.cell? ⟨g, 0, none⟩ = some (.int .i64 (ans : Int)) := by
  obtain ⟨b, off, e, _, h0, _⟩ := h.pkN 0 hi
  cases e
  exact h0
end Go.Proofs.Ytgaghlofcokijaa
