/- A receiver within a greater block. -/
import Derived.Test.YtgaghlofcokijaaLinkEnds
namespace Go.Proofs.Ytgaghlofcokijaa
open Go.RowKit
set_option linter.unusedVariables false
set_option linter.unusedSimpArgs false

set_option maxRecDepth 100000 in
theorem numberO_at (b o : Nat) (n : Int) (w : World) (h : w.cell? ⟨b, o, none⟩ = some (.int .i64 n)) :
    Calls Try.prog 28 #[.pointer (some ⟨b, o, none⟩)] w fun e w' => e = .returned (.int .i64 n) ∧ w' = w := by
  go_enter Try.func28, Try.ntmps28
  go_wp2
  go_ret
  exact ⟨rfl, rfl⟩

set_option maxRecDepth 100000 in
theorem advanceO_at (b o : Nat) (n : Int) (w : World) (h : w.cell? ⟨b, o, none⟩ = some (.int .i64 n)) (hf : w.frozen? ⟨b, o, none⟩ = false) (hn : 0 ≤ n) (hn2 : n ≤ 1000000) :
    Calls Try.prog 29 #[.pointer (some ⟨b, o, none⟩)] w fun e w' => e = .returned (.tuple #[]) ∧ w' = w.setCell ⟨b, o, none⟩ (.int .i64 (n + 1)) := by
  go_enter Try.func29, Try.ntmps29
  go_wp2
  go_end0
  exact ⟨rfl, rfl⟩

set_option maxRecDepth 100000 in
theorem waitsO_at (b o k : Nat) (w : World) (h : w.cell? ⟨b, o, none⟩ = some (.int .i64 (k : Int))) :
    Calls Try.prog 31 #[.pointer (some ⟨b, o, none⟩)] w fun e w' => e = .returned (.int .i64 (k : Int)) ∧ w' = w := by
  have hc := h
  clear h
  generalize (k : Int) = n at *
  go_enter Try.func31, Try.ntmps31
  go_wp2_with fail
  refine (numberO_at b o n w hc).mono ?_
  rintro e w2 ⟨rfl, rfl⟩
  go_wp2
  go_ret
  exact ⟨rfl, rfl⟩

/-- What a Take leaves: w1 is the world with new memory; where the packet is taken, the counter's one cell is written. -/
def TookO (w : World) (b o k : Nat) (n : Int) (d : ByteArray) (e : Ending) (w' : World) : Prop :=
  e = .returned (.tuple #[.string (Lk.tk k n d).1, .bool (Lk.tk k n d).2]) ∧ ∃ w1, Below w.heap.size w w1 ∧ w' = if n = (k : Int) then w1.setCell ⟨b, o, none⟩ (.int .i64 ((k : Int) + 1)) else w1

set_option maxRecDepth 100000 in
set_option maxHeartbeats 1000000 in
theorem takeO_at (b o k : Nat) (n : Int) (d : ByteArray) (w : World) (h : w.cell? ⟨b, o, none⟩ = some (.int .i64 (k : Int))) (hf : w.frozen? ⟨b, o, none⟩ = false) (hk : k ≤ 1000000) :
    Calls Try.prog 27 #[.pointer (some ⟨b, o, none⟩), .agg #[.int .i64 n, .string d]] w (TookO w b o k n d) := by
  have hlt := lt_of_cellN h
  have hba := balloc (Below.refl _ w) (.cells #[.int .i64 n, .string d] 53)
  have hc2 := kc hba h
  have HF : Hid ((w.alloc (.cells #[.int .i64 n, .string d] 53)).frozen? ⟨b, o, none⟩ = false) := Lib.hid ((World.frozen?_of_block (hba.block b hlt)).trans hf)
  have hp := PkV.new w n d 53
  obtain ⟨p0, p1⟩ := hp
  have HB := Lib.hid hba
  unfold TookO
  clear h hba hf
  by_cases e : n = (k : Int)
  · subst e
    have e1 : Lk.tk k (k : Int) d = (d, true) := by unfold Lk.tk; rw [if_pos rfl]
    rw [e1]
    clear e1
    go_enter Try.func27, Try.ntmps27
    go_upto_region 1 with fail
    generalize w.alloc (.cells #[.int .i64 (k : Int), .string d] 53) = w1 at *
    go_quiet ((go_at_call 28; exact Calls.quiet_of_same (numberO_at b o (k : Int) _ hc2)))
    have hbd := bdrew10 w1 nq
    have hc3 := kc hbd hc2
    have hf3 : (w1.drewN nq).frozen? ⟨b, o, none⟩ = false := (World.frozen?_of_block (hbd.block b (lt_of_cellN hc2))).trans HF.out
    have p13 := kc hbd p1
    have HB3 := Lib.hid (bstep HB.out hbd)
    clear hbd hc2 p0 p1 HF HB
    generalize w1.drewN nq = w2 at *
    have hadv := advanceO_at b o (k : Int) w2 hc3 hf3 (by omega) (by omega)
    clear hc3 hf3
    go_wp2_with fail
    refine hadv.mono ?_
    rintro e w3 ⟨rfl, rfl⟩
    have p1' : (w2.setCell ⟨b, o, none⟩ (.int .i64 ((k : Int) + 1))).cell? ⟨w.heap.size, 1, none⟩ = some (.string d) := by
      rw [World.cell?_setCell_other _ _ _ _ (by simp <;> omega)]
      exact p13
    go_wp2
    go_ret2
    exact ⟨rfl, _, HB3.out, rfl⟩
  · have e1 : Lk.tk k n d = (⟨#[]⟩, false) := by unfold Lk.tk; rw [if_neg e]
    rw [e1]
    clear e1
    have HE := Lib.hid e
    go_enter Try.func27, Try.ntmps27
    go_upto_region 1 with fail
    generalize w.alloc (.cells #[.int .i64 n, .string d] 53) = w1 at *
    go_quiet ((go_at_call 28; exact Calls.quiet_of_same (numberO_at b o (k : Int) _ hc2)))
    have HB3 := Lib.hid (bstep HB.out (bdrew10 w1 nq))
    clear hc2 p0 p1 HF HB
    generalize w1.drewN nq = w2 at *
    go_wp2
    go_ret2
    exact ⟨rfl, HB3.out⟩
end Go.Proofs.Ytgaghlofcokijaa
