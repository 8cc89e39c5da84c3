/- Rows of stamps in memory; what stamp.Max answers. -/
import Derived.Test.YtplpeokmhomojaaStampLess
namespace Go.Proofs.Ytplpeokmhomojaa
open Go.RowKit
set_option linter.unusedVariables false

/-- A row of stamps, in memory. -/
def StIn (w : World) (a : Option Addr) (l : List (Int × Int)) : Prop :=
  ∀ i (h : i < l.length), ∃ b off, a = some ⟨b, off, none⟩ ∧ w.cell? ⟨b, off + i * 2, none⟩ = some (.int .i64 l[i].1) ∧ w.cell? ⟨b, off + i * 2 + 1, none⟩ = some (.int .i64 l[i].2)
theorem StIn.below {w w' : World} {a : Option Addr} {l : List (Int × Int)} (h : StIn w a l) (hb : Below w.heap.size w w') : StIn w' a l := by
  intro i hi
  obtain ⟨b, off, rfl, h0, h1⟩ := h i hi
  exact ⟨b, off, rfl, kc hb h0, kc hb h1⟩

/-- A variable of a stamp's type: block b holds it, and may be written. -/
structure Var2 (w : World) (b : Nat) (p : Int × Int) : Prop where
  c0 : w.cell? ⟨b, 0, none⟩ = some (.int .i64 p.1)
  c1 : w.cell? ⟨b, 1, none⟩ = some (.int .i64 p.2)
  f0 : w.frozen? ⟨b, 0, none⟩ = false
  f1 : w.frozen? ⟨b, 1, none⟩ = false
theorem Var2.keep {w w' : World} {b : Nat} {p : Int × Int} (hb : Below w.heap.size w w') (h : Var2 w b p) : Var2 w' b p :=
  ⟨kc hb h.c0, kc hb h.c1, (hb.frozen (p := ⟨b, 0, none⟩) (lt_of_cellN h.c0)).trans h.f0, (hb.frozen (p := ⟨b, 1, none⟩) (lt_of_cellN h.c0)).trans h.f1⟩

theorem Var2.put {w : World} {b : Nat} {p : Int × Int} (h : Var2 w b p) (x y : Int) : Var2 ((w.setCell ⟨b, 0, none⟩ (.int .i64 x)).setCell ⟨b, 1, none⟩ (.int .i64 y)) b (x, y) := by
  have c1 : (w.setCell ⟨b, 0, none⟩ (.int .i64 x)).cell? ⟨b, 1, none⟩ = some (.int .i64 p.2) := by
    rw [World.cell?_setCell_other _ _ _ _ (by simp)]; exact h.c1
  refine ⟨?_, World.cell?_setCell_same _ _ _ c1, by simpa using h.f0, by simpa using h.f1⟩
  rw [World.cell?_setCell_other _ _ _ _ (by simp)]
  exact World.cell?_setCell_same _ _ _ h.c0
theorem Var2.other {w : World} {b : Nat} {p : Int × Int} (h : Var2 w b p) (b' : Nat) (hne : b' ≠ b) (x y : Value) : Var2 ((w.setCell ⟨b', 0, none⟩ x).setCell ⟨b', 1, none⟩ y) b p := by
  refine ⟨?_, ?_, by simpa using h.f0, by simpa using h.f1⟩
  · rw [World.cell?_setCell_other _ _ _ _ (fun e => hne (congrArg Addr.block e)), World.cell?_setCell_other _ _ _ _ (fun e => hne (congrArg Addr.block e))]; exact h.c0
  · rw [World.cell?_setCell_other _ _ _ _ (fun e => hne (congrArg Addr.block e)), World.cell?_setCell_other _ _ _ _ (fun e => hne (congrArg Addr.block e))]; exact h.c1
theorem below_put {w w' : World} {n b : Nat} (hb : Below n w w') (h : n ≤ b) (x y : Value) : Below n w ((w'.setCell ⟨b, 0, none⟩ x).setCell ⟨b, 1, none⟩ y) := (hb.setCell h _).setCell h _

set_option maxRecDepth 100000 in
set_option maxHeartbeats 1000000 in
theorem max_any (a : Option Addr) (cap : Nat) (l : List (Int × Int)) (w : World) (hl : l.length ≤ 9223372036854775807) (hr : StIn w a l) :
    Calls Try.prog 33 #[.slice a l.length cap] w fun e w' => e = .returned (sv (Sm.mx (0, 0) l)) ∧ Below w.heap.size w w' := by
  have HR := Lib.hid hr
  clear hr
  go_enter Try.func33, Try.ntmps33
  go_wp2
  go_loopw [8] (fun i wr => ∃ k : Nat, k ≤ l.length ∧ i = .int .i64 k ∧ Var2 wr w.heap.size (0, 0) ∧ Var2 wr (w.heap.size + 1) (Sm.mx (0, 0) (l.take k)) ∧ Below w.heap.size w wr) (fun i _ => l.length - (intOf i).toNat)
  case atStart => exact ⟨0, by omega, rfl, ⟨by simp, by simp, by simp, by simp⟩, ⟨by simp [Sm.mx], by simp [Sm.mx], by simp, by simp⟩, balloc (balloc (Below.refl _ w) _) _⟩
  case round =>
    obtain ⟨k, hk, rfl, hv0, hv1, hbel⟩ := hrel
    by_cases hlt : k < l.length
    · obtain ⟨b, off, rfl, hc0, hc1⟩ := HR.out k hlt
      have hd0 := (hbel.cell (p := ⟨b, off + k * 2, none⟩) (lt_of_cellN hc0)).trans hc0
      have hd1 := (hbel.cell (p := ⟨b, off + k * 2 + 1, none⟩) (lt_of_cellN hc0)).trans hc1
      have HM := Lib.hid (Sm.mx_take (0, 0) l k hlt)
      generalize hx : l[k] = x at *
      generalize hm : Sm.mx (0, 0) (l.take k) = m at *
      obtain ⟨x0, x1⟩ := x
      obtain ⟨m0, m1⟩ := m
      obtain ⟨a0, a1, a2, a3⟩ := hv1
      have HV0 := Lib.hid hv0
      clear hv0 hc0 hc1 hx hm
      simp only at hd0 hd1 a0 a1
      have hz : w.heap.size + 1 < wr.heap.size := lt_of_cellN a0
      go_wp2_with fail
      refine (later_any m0 m1 x0 x1 _).mono ?_
      rintro e w2 ⟨rfl, hb2⟩
      have hb3 := bstep (balloc (Below.refl _ wr) _) hb2
      have a0 := kc hb3 a0
      have a1 := kc hb3 a1
      have a2 := (hb3.frozen (p := ⟨w.heap.size + 1, 0, none⟩) hz).trans a2
      have a3 := (hb3.frozen (p := ⟨w.heap.size + 1, 1, none⟩) hz).trans a3
      have HV1 := Lib.hid (HV0.out.keep hb3)
      have hbel3 := bstep hbel hb3
      clear hb2 hb3 hd0 hd1 HV0 hbel hz
      generalize hm : Sm.later (m0, m1) (x0, x1) = z at *
      obtain ⟨z0, z1⟩ := z
      clear hm
      go_wp2
      go_roundw
      case rel =>
        refine ⟨k + 1, by omega, by go_num, HV1.out.other _ (by omega) _ _, ?_, below_put hbel3 (by omega) _ _⟩
        rw [HM.out]
        exact Var2.put (p := (m0, m1)) ⟨a0, a1, a2, a3⟩ z0 z1
      case measure => simp [intOf]; omega
    · obtain rfl : k = l.length := by omega
      rw [List.take_length] at hv1
      generalize hm : Sm.mx (0, 0) l = m at *
      obtain ⟨m0, m1⟩ := m
      obtain ⟨a0, a1, a2, a3⟩ := hv1
      obtain ⟨b0, b1, b2, b3⟩ := hv0
      simp only at a0 a1 b0 b1
      have HM := Lib.hid hm
      clear hm
      go_wp2
      have hv := Var2.put (p := (0, 0)) ⟨b0, b1, b2, b3⟩ m0 m1
      have r0 := hv.c0
      have r1 := hv.c1
      simp only at r0 r1
      refine bodyPost_ret (v := .agg #[.int .i64 m0, .int .i64 m1]) (by simp [results, Try.results33, go_sem, r0, r1]) rfl ⟨?_, below_put hbel (Nat.le_refl _) _ _⟩
      rw [HM.out]
end Go.Proofs.Ytplpeokmhomojaa
