/- What the document's own Max of stamps answers. -/
import Derived.Test.YtmfjoiajghmeoaaStampRef
namespace Go.Proofs.Ytmfjoiajghmeoaa
open Go.RowKit
set_option linter.unusedVariables false

theorem Sm.later_if (m x : Int × Int) : Sm.later m x = if Sm.less m x = true then x else m := by
  by_cases h : Sm.less m x = true
  · rw [if_pos h]
    unfold Sm.later
    rw [if_neg]
    rw [Sm.less_iff] at *
    omega
  · rw [if_neg h]
    exact (Sm.later_ne m x).2 (by simpa using h)

set_option maxRecDepth 100000 in
set_option maxHeartbeats 1000000 in
theorem refMax_any (a : Option Addr) (cap : Nat) (l : List (Int × Int)) (w : World) (hl : l.length ≤ 100) (hr : StIn w a l) :
    Calls Try.prog 22 #[.slice a l.length cap] w fun e w' => e = .returned (sv (Sm.mx (0, 0) l)) ∧ Below w.heap.size w w' := by
  have HR := Lib.hid hr
  clear hr
  go_enter Try.func22, Try.ntmps22
  go_wp2
  go_loopw [4] (fun i wr => ∃ k : Nat, k ≤ l.length ∧ i = .int .i64 k ∧ Var2 wr w.heap.size (0, 0) ∧ Var2 wr (w.heap.size + 1) (Sm.mx (0, 0) (l.take k)) ∧ Below w.heap.size w wr) (fun i _ => l.length - (intOf i).toNat)
  case atStart => exact ⟨0, by omega, rfl, ⟨by simp, by simp, by simp, by simp⟩, ⟨by simp [Sm.mx], by simp [Sm.mx], by simp, by simp⟩, balloc (balloc (Below.refl _ w) _) _⟩
  case round =>
    obtain ⟨k, hk, rfl, hv0, hv1, hbel⟩ := hrel
    by_cases hlt : k < l.length
    · obtain ⟨b, off, rfl, hc0, hc1⟩ := HR.out k hlt
      have hd0 := (hbel.cell (p := ⟨b, off + k * 2, none⟩) (lt_of_cellN hc0)).trans hc0
      have hd1 := (hbel.cell (p := ⟨b, off + k * 2 + 1, none⟩) (lt_of_cellN hc0)).trans hc1
      have hmt := Sm.mx_take (0, 0) l k hlt
      rw [Sm.later_if] at hmt
      generalize hx : l[k] = x at *
      generalize hm : Sm.mx (0, 0) (l.take k) = m at *
      obtain ⟨x0, x1⟩ := x
      obtain ⟨m0, m1⟩ := m
      have HV0 := Lib.hid hv0
      have HV1 := Lib.hid hv1
      have HM := Lib.hid hmt
      obtain ⟨a0, a1, a2, a3⟩ := hv1
      simp only at hd0 hd1 a0 a1
      clear hv0 hc0 hc1 hx hm hmt a2 a3
      have g0 := And.intro a0 (And.intro a1 (And.intro hd0 hd1))
      have i1 : (0 : Int) ≤ (k : Int) := by omega
      have i2 : (k : Int) < (l.length : Int) := by omega
      go_wp2_with fail
      go_region_held3 (fun w' => w'.cell? ⟨w.heap.size + 1, 0, none⟩ = some (.int .i64 m0) ∧ w'.cell? ⟨w.heap.size + 1, 1, none⟩ = some (.int .i64 m1) ∧ w'.cell? ⟨b, off + k * 2, none⟩ = some (.int .i64 x0) ∧ w'.cell? ⟨b, off + k * 2 + 1, none⟩ = some (.int .i64 x1))
        (first | exact g0 | exact g1)
        (first
          | (go_at_call 16; ((with_reducible refine (refLess_any m0 m1 x0 x1 _).mono ?_); rintro e wa ⟨rfl, ha⟩; have g1 := keep22 ha g0)))
      have hb3 := bstep (Below.refl _ wr).drew ha
      have HW0 := Lib.hid (HV0.out.keep hb3)
      have HW1 := Lib.hid (HV1.out.keep hb3)
      have hbel3 := bstep hbel hb3
      obtain ⟨e0, e1, e2, e3⟩ := HW1.out
      obtain ⟨_, _, e4, e5⟩ := g1
      simp only at e0 e1
      clear ha hb3 hd0 hd1 HV0 HV1 hbel g0 a0 a1
      cases hL : Sm.less (m0, m1) (x0, x1) with
      | true =>
        have HL := Lib.hid hL
        clear hL
        go_wp2
        go_roundw
        case rel =>
          refine ⟨k + 1, by omega, by go_num, HW0.out.other _ (by omega) _ _, ?_, below_put hbel3 (by omega) _ _⟩
          rw [HM.out, if_pos HL.out]
          exact HW1.out.put x0 x1
        case measure => simp [intOf]; omega
      | false =>
        have HL := Lib.hid hL
        clear hL
        go_wp2
        go_roundw
        case rel =>
          refine ⟨k + 1, by omega, by go_num, HW0.out, ?_, hbel3⟩
          rw [HM.out, if_neg (by rw [HL.out]; simp)]
          exact HW1.out
        case measure => simp [intOf]; omega
    · obtain rfl : k = l.length := by omega
      rw [List.take_length] at hv1
      generalize hm : Sm.mx (0, 0) l = m at *
      obtain ⟨m0, m1⟩ := m
      obtain ⟨a0, a1, a2, a3⟩ := hv1
      obtain ⟨b0, b1, b2, b3⟩ := hv0
      simp only at a0 a1 b0 b1
      have HM := Lib.hid hm
      clear hm
      go_wp2
      have hv := Var2.put (p := (0, 0)) ⟨b0, b1, b2, b3⟩ m0 m1
      have r0 := hv.c0
      have r1 := hv.c1
      simp only at r0 r1
      refine bodyPost_ret (v := .agg #[.int .i64 m0, .int .i64 m1]) (by simp [results, Try.results22, go_sem, r0, r1]) rfl ⟨?_, below_put hbel (Nat.le_refl _) _ _⟩
      rw [HM.out]
end Go.Proofs.Ytmfjoiajghmeoaa
