/- What the small methods of both ends answer; receivers. -/
import Derived.Test.YtgaghlofcokijaaLinkMem
import Derived.Deep.QuietTactic
import Derived.BigQuiet
import Derived.IntWalk
import Derived.Deep.DeepCutAuto
import Derived.WalkSmall
namespace Go.Proofs.Ytgaghlofcokijaa
open Go.RowKit
set_option linter.unusedVariables false
set_option linter.unusedSimpArgs false

theorem bdrew10 (w : World) (n : Nat) : Below w.heap.size w (w.drewN n) := ⟨rfl, rfl, rfl, Nat.le_refl _, fun _ _ => rfl⟩

set_option maxRecDepth 100000 in
theorem number_at (b : Nat) (n : Int) (w : World) (h : w.cell? ⟨b, 0, none⟩ = some (.int .i64 n)) :
    Calls Try.prog 28 #[.pointer (some ⟨b, 0, none⟩)] w fun e w' => e = .returned (.int .i64 n) ∧ w' = w := by
  go_enter Try.func28, Try.ntmps28
  go_wp2
  go_ret
  exact ⟨rfl, rfl⟩

set_option maxRecDepth 100000 in
theorem advance_at (b : Nat) (n : Int) (w : World) (h : w.cell? ⟨b, 0, none⟩ = some (.int .i64 n)) (hf : w.frozen? ⟨b, 0, none⟩ = false) (hn : 0 ≤ n) (hn2 : n ≤ 1000000) :
    Calls Try.prog 29 #[.pointer (some ⟨b, 0, none⟩)] w fun e w' => e = .returned (.tuple #[]) ∧ w' = w.setCell ⟨b, 0, none⟩ (.int .i64 (n + 1)) := by
  go_enter Try.func29, Try.ntmps29
  go_wp2
  go_end0
  exact ⟨rfl, rfl⟩

set_option maxRecDepth 100000 in
theorem waits_at (b k : Nat) (w : World) (h : RcAt w b k) :
    Calls Try.prog 31 #[.pointer (some ⟨b, 0, none⟩)] w fun e w' => e = .returned (.int .i64 (k : Int)) ∧ w' = w := by
  have hc := h.c
  clear h
  generalize (k : Int) = n at *
  go_enter Try.func31, Try.ntmps31
  go_wp2_with fail
  refine (number_at b n w hc).mono ?_
  rintro e w2 ⟨rfl, rfl⟩
  go_wp2
  go_ret
  exact ⟨rfl, rfl⟩

/-- What a Take leaves. -/
def TookAt (w : World) (b k : Nat) (n : Int) (d : ByteArray) (e : Ending) (w' : World) : Prop := e = .returned (.tuple #[.string (Lk.tk k n d).1, .bool (Lk.tk k n d).2]) ∧ RcAt w' b (Lk.tn k n) ∧ Mv (fun j => j = b) w w'

set_option maxRecDepth 100000 in
set_option maxHeartbeats 1000000 in
theorem take_at (b k : Nat) (n : Int) (d : ByteArray) (w : World) (h : RcAt w b k) (hk : k ≤ 1000000) :
    Calls Try.prog 27 #[.pointer (some ⟨b, 0, none⟩), .agg #[.int .i64 n, .string d]] w (TookAt w b k n d) := by
  have hlt := h.lt
  have hba := balloc (Below.refl _ w) (.cells #[.int .i64 n, .string d] 53)
  have H2 := Lib.hid (h.keep hba)
  have hc := h.c
  have hp := PkV.new w n d 53
  obtain ⟨p0, p1⟩ := hp
  have hc2 := H2.out.c
  have HM := Lib.hid (Mv.of_below (P := fun j => j = b) hba)
  unfold TookAt
  clear h hba
  by_cases e : n = (k : Int)
  · subst e
    have e1 : Lk.tk k (k : Int) d = (d, true) := by unfold Lk.tk; rw [if_pos rfl]
    have e2 : Lk.tn k (k : Int) = k + 1 := by unfold Lk.tn; rw [if_pos rfl]
    rw [e1, e2]
    clear e1 e2
    go_enter Try.func27, Try.ntmps27
    go_upto_region 1 with fail
    generalize w.alloc (.cells #[.int .i64 (k : Int), .string d] 53) = w1 at *
    go_quiet ((go_at_call 28; exact Calls.quiet_of_same (number_at b (k : Int) _ hc2)))
    have hbd := bdrew10 w1 nq
    have H3 := Lib.hid (H2.out.keep hbd)
    have HM3 := Lib.hid (HM.out.step hbd)
    have hc3 := H3.out.c
    have p13 := kc hbd p1
    clear hbd hc2 p0 p1 H2 HM
    generalize w1.drewN nq = w2 at *
    have hadv := advance_at b (k : Int) w2 hc3 H3.out.f (by omega) (by omega)
    go_wp2_with fail
    refine hadv.mono ?_
    rintro e w2 ⟨rfl, rfl⟩
    have p1' : (w2.setCell ⟨b, 0, none⟩ (.int .i64 ((k : Int) + 1))).cell? ⟨w.heap.size, 1, none⟩ = some (.string d) := by
      rw [World.cell?_setCell_other _ _ _ _ (by simp <;> omega)]
      exact p13
    go_wp2
    go_ret2
    exact ⟨rfl, H3.out.set (k + 1) _ (by omega), HM3.out.set rfl _⟩
  · have e1 : Lk.tk k n d = (⟨#[]⟩, false) := by unfold Lk.tk; rw [if_neg e]
    have e2 : Lk.tn k n = k := by unfold Lk.tn; rw [if_neg e]
    rw [e1, e2]
    clear e1 e2
    go_enter Try.func27, Try.ntmps27
    go_upto_region 1 with fail
    generalize w.alloc (.cells #[.int .i64 n, .string d] 53) = w1 at *
    go_quiet ((go_at_call 28; exact Calls.quiet_of_same (number_at b (k : Int) _ hc2)))
    have hbd := bdrew10 w1 nq
    have H3 := Lib.hid (H2.out.keep hbd)
    have HM3 := Lib.hid (HM.out.step hbd)
    clear hbd hc2 p0 p1 H2 HM
    generalize w1.drewN nq = w2 at *
    go_wp2
    go_ret2
    exact ⟨rfl, H3.out, HM3.out⟩

set_option maxRecDepth 100000 in
set_option maxHeartbeats 1000000 in
theorem take_nil (n : Int) (d : ByteArray) (w : World) :
    Calls Try.prog 27 #[.pointer none, .agg #[.int .i64 n, .string d]] w fun e w' => e = .returned (.tuple #[.string ⟨#[]⟩, .bool false]) ∧ Below w.heap.size w w' := by
  have HB := Lib.hid (balloc (Below.refl _ w) (.cells #[.int .i64 n, .string d] 53))
  go_enter Try.func27, Try.ntmps27
  go_upto_region 1 with fail
  generalize w.alloc (.cells #[.int .i64 n, .string d] 53) = w1 at *
  go_quiet (fail)
  have HB2 := Lib.hid (bstep HB.out (bdrew10 w1 nq))
  generalize w1.drewN nq = w2 at *
  go_wp2
  go_ret2
  exact ⟨rfl, HB2.out⟩
set_option maxRecDepth 100000 in
theorem waits_nil (w : World) :
    Calls Try.prog 31 #[.pointer none] w fun e w' => e = .returned (.int .i64 0) ∧ w' = w := by
  go_enter Try.func31, Try.ntmps31
  go_wp2
  go_ret
  exact ⟨rfl, rfl⟩
end Go.Proofs.Ytgaghlofcokijaa
