/- A session in memory, and what its small methods do. -/
import Derived.Test.YtgaghlofcokijaaNetRow
import Derived.Test.YtgaghlofcokijaaNetEnds
import Derived.Test.YtgaghlofcokijaaNetMv
import Derived.StillTailTactics
import Derived.Deep.RegionLaw
import Derived.Deep.RegionHeld3
import Derived.Deep.DeepCutAuto
namespace Go.Proofs.Ytgaghlofcokijaa
open Go.RowKit
set_option linter.unusedVariables false
set_option linter.unusedSimpArgs false

/-- Block b is a session; v: the slice of the packets on their way. -/
structure SesAt (w : World) (b : Nat) (s : Ses) (v : Value) : Prop where
  sn : SnAt w b s.m (s.all.drop s.m)
  rc : w.cell? ⟨b, 18, none⟩ = some (.int .i64 (s.m : Int))
  fl : w.cell? ⟨b, 19, none⟩ = some v
  row : OwnQ w v s.way
  ne : v.ownBlock ≠ some b
theorem SesAt.lt {w : World} {b : Nat} {s : Ses} {v : Value} (h : SesAt w b s v) : b < w.heap.size := lt_of_cellN h.rc
theorem SesAt.fr {w : World} {b : Nat} {s : Ses} {v : Value} (h : SesAt w b s v) (j : Nat) : w.frozen? ⟨b, j, none⟩ = false := by
  obtain ⟨_, _, _, hh, _⟩ := h.sn
  exact hh.f j
theorem SesAt.block {w w' : World} {b : Nat} {s : Ses} {v : Value} (h : SesAt w b s v) (h1 : w'.heap[b]? = w.heap[b]?) (h2 : ∀ g, v.ownBlock = some g → w'.heap[g]? = w.heap[g]?) : SesAt w' b s v :=
  ⟨h.sn.block h1, by rw [World.cell?_of_block h1]; exact h.rc, by rw [World.cell?_of_block h1]; exact h.fl, h.row.block h2, h.ne⟩
theorem SesAt.below {w w' : World} {b : Nat} {s : Ses} {v : Value} (h : SesAt w b s v) (hb : Below w.heap.size w w') : SesAt w' b s v := h.block (hb.block b h.lt) fun g e => hb.block g (h.row.lt g e)
theorem SesAt.mv {P : Nat → Prop} {w w' : World} {b : Nat} {s : Ses} {v : Value} (h : SesAt w b s v) (hm : Mv P w w') (h1 : ¬ P b) (h2 : ∀ g, v.ownBlock = some g → ¬ P g) : SesAt w' b s v := h.block (hm.block b h.lt h1) fun g e => hm.block g (h.row.lt g e) (h2 g e)
/-- What a method of a session may write. -/
def SesP (b : Nat) (v : Value) (j : Nat) : Prop := j = b ∨ v.ownBlock = some j
/-- What a method of a session leaves. -/
def SesTo (w : World) (b : Nat) (v : Value) (w' : World) (s' : Ses) : Prop :=
  ∃ v', SesAt w' b s' v' ∧ Mv (SesP b v) w w' ∧ (∀ g, v'.ownBlock = some g → v.ownBlock = some g ∨ w.heap.size ≤ g)
theorem SesTo.refl {w : World} {b : Nat} {s : Ses} {v : Value} (h : SesAt w b s v) : SesTo w b v w s := ⟨v, h, Mv.refl _ _, fun g e => .inl e⟩
theorem SesTo.below {w w1 w2 : World} {b : Nat} {s : Ses} {v : Value} (h : SesTo w b v w1 s) (k : Below w1.heap.size w1 w2) : SesTo w b v w2 s := by
  obtain ⟨v', h1, h2, h3⟩ := h
  exact ⟨v', h1.below k, h2.step k, h3⟩
theorem SesTo.trans {w w1 w2 : World} {b : Nat} {v v1 : Value} {s2 : Ses} (h2 : Mv (SesP b v) w w1) (h3 : ∀ g, v1.ownBlock = some g → v.ownBlock = some g ∨ w.heap.size ≤ g) (k : SesTo w1 b v1 w2 s2) : SesTo w b v w2 s2 := by
  obtain ⟨v2, k1, k2, k3⟩ := k
  refine ⟨v2, k1, ⟨k2.os.trans h2.os, k2.tape.trans h2.tape, k2.output.trans h2.output, Nat.le_trans h2.size k2.size, fun i hi hp => ?_⟩, fun g e => ?_⟩
  · refine (k2.block i (Nat.lt_of_lt_of_le hi h2.size) ?_).trans (h2.block i hi hp)
    rintro (e | e)
    · exact hp (.inl e)
    · rcases h3 i e with e | e
      · exact hp (.inr e)
      · omega
  · rcases k3 g e with e | e
    · exact h3 g e
    · exact .inr (Nat.le_trans h2.size e)

set_option maxRecDepth 100000 in
theorem has_none (a : Int) (w : World) :
    Calls Try.prog 23 #[.pointer none, .int .i64 a] w fun e w' => e = .returned (.bool false) ∧ w' = w := by
  go_enter Try.func23, Try.ntmps23
  go_wp2
  go_ret
  exact ⟨rfl, rfl⟩

set_option maxRecDepth 100000 in
theorem has_at (b : Nat) (s : Ses) (v : Value) (a : Int) (w : World) (h : SesAt w b s v) :
    Calls Try.prog 23 #[.pointer (some ⟨b, 0, none⟩), .int .i64 a] w fun e w' => e = .returned (.bool (decide (0 ≤ a ∧ a.toNat < s.way.length))) ∧ w' = w := by
  have hf := h.fl
  obtain ⟨p, c, rfl⟩ := h.row.shape
  clear h
  generalize s.way.length = n at *
  by_cases h0 : 0 ≤ a
  · by_cases h1 : a < (n : Int)
    · have e : decide (0 ≤ a ∧ a.toNat < n) = true := by simp; omega
      rw [e]
      clear e
      go_enter Try.func23, Try.ntmps23
      go_wp2
      go_ret
      exact ⟨rfl, rfl⟩
    · have e : decide (0 ≤ a ∧ a.toNat < n) = false := by simp; omega
      rw [e]
      clear e
      go_enter Try.func23, Try.ntmps23
      go_wp2
      go_ret
      exact ⟨rfl, rfl⟩
  · have e : decide (0 ≤ a ∧ a.toNat < n) = false := by simp; omega
    rw [e]
    clear e
    go_enter Try.func23, Try.ntmps23
    go_wp2
    go_ret
    exact ⟨rfl, rfl⟩
end Go.Proofs.Ytgaghlofcokijaa
