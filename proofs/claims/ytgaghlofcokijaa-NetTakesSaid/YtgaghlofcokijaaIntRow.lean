/- Rows of ints of one's own: made, written to, read; remainders. -/
import Derived.Test.YtgaghlofcokijaaAppI
namespace Go.Proofs.Ytgaghlofcokijaa
open Go.RowKit
set_option linter.unusedVariables false
set_option linter.unusedSimpArgs false

theorem tmod_bdT (x m : Int) (hm : 0 < m) : -m < x.tmod m ∧ x.tmod m < m := by
  have h1 := Int.natAbs_tmod x m
  have h2 := Nat.mod_lt x.natAbs (show 0 < m.natAbs by omega)
  omega
theorem and7T (n : Int) : bits .and .i64 n 7 = n % 8 := by
  have e : bits .and .i64 n 7 = IntKind.i64.wrap ((BitVec.ofInt 64 n &&& BitVec.ofInt 64 7).toNat : Nat) := rfl
  have h : (BitVec.ofInt 64 n).toNat = _ := BitVec.toNat_ofInt n
  have l : (BitVec.ofInt 64 n &&& BitVec.ofInt 64 7).toNat = (BitVec.ofInt 64 n).toNat % 8 := by
    rw [BitVec.toNat_and, show (BitVec.ofInt 64 7).toNat = 2 ^ 3 - 1 by decide, Nat.and_two_pow_sub_one_eq_mod]
  rw [e, l, IntKind.wrap_i64]
  omega
/-- One int of a row of the call's own written anew. -/
theorem OwnR.setT {w : World} {base g cap n : Nat} {l : List Int} (h : OwnR KI w base (.slice (some ⟨g, 0, none⟩) n cap) l) (i : Nat) (x : Int) :
    OwnR KI (w.setCell ⟨g, i, none⟩ (.int .i64 x)) base (.slice (some ⟨g, 0, none⟩) n cap) (l.set i x) := by
  obtain rfl := h.len
  have h3 := (h.stored i (.int .i64 x)).1
  unfold OwnR
  rw [List.length_set]
  have e : rV KI (l.set i x) = (rV KI l).set i (.int .i64 x) := by
    clear h h3
    unfold rV
    induction l generalizing i with
    | nil => simp
    | cons a l ih =>
      cases i with
      | zero => simp [KI]
      | succ i => simpa [KI] using ih i
  rw [e]
  exact h3
theorem OwnR.cellT {w : World} {base g cap n : Nat} {l : List Int} (h : OwnR KI w base (.slice (some ⟨g, 0, none⟩) n cap) l) (i : Nat) (hi : i < l.length) : w.cell? ⟨g, i, none⟩ = some (.int .i64 l[i]) := by
  obtain ⟨g', cap', e, _, _, _, _, hc⟩ := h.cell ki_ok i hi
  cases e
  have := hc 0 _ rfl
  rw [show KI.sz = 1 from rfl, Nat.mul_one, Nat.add_zero, Nat.zero_add] at this
  exact this
theorem OwnR.frozenT {w : World} {base g cap n : Nat} {l : List Int} (h : OwnR KI w base (.slice (some ⟨g, 0, none⟩) n cap) l) (j : Nat) : w.frozen? ⟨g, j, none⟩ = false := by
  obtain rfl := h.len
  exact World.ownsRow.frozenAt h j
theorem OwnR.blockT {w : World} {base g cap n : Nat} {l : List Int} (h : OwnR KI w base (.slice (some ⟨g, 0, none⟩) n cap) l) : base ≤ g ∧ g < w.heap.size := by
  rcases h.2 with ⟨e, h0⟩ | ⟨g', cap', cur, e, hb, hg, _⟩
  · cases e
  · cases e
    exact ⟨hb, (Array.getElem?_eq_some_iff.1 hg).1⟩
theorem OwnR.someT {w : World} {base : Nat} {v : Value} {l : List Int} (h : OwnR KI w base v l) (hl : 0 < l.length) : ∃ g cap, v = .slice (some ⟨g, 0, none⟩) l.length cap := by
  obtain ⟨g, cap, e, _⟩ := h.cell ki_ok 0 hl
  exact ⟨g, cap, e⟩
theorem own_litT (w : World) (base n : Nat) (l : List Int) (cs : Array Value) (hcs : cs.toList = rV KI l) (hn : l.length = n) (hb : base ≤ w.heap.size) (hm : n ≤ 1000) : OwnR KI (w.alloc (.cells cs 3)) base (.slice (some ⟨w.heap.size, 0, none⟩) n n) l := by
  subst hn
  have hl := rV_len ki_ok l
  refine ⟨by rw [hl], .inr ⟨w.heap.size, l.length, cs, rfl, hb, heap_alloc_new w _, Nat.le_refl _, by unfold maxLen; omega, ?_, ?_⟩⟩
  · rw [← hl, ← hcs]; simp
  · rw [hcs, ← hl, List.take_length]
theorem make_intsT (n : Nat) (w : World) (hn : n ≤ 1000) : ∃ w1, (Instr.makeSlice 40 (.int .i64 (n : Int)) (.int .i64 (n : Int))).run Try.prog w = .ok (.slice (some ⟨w.heap.size, 0, none⟩) n n) w1 ∧ Below w.heap.size w w1 ∧ OwnR KI w1 w.heap.size (.slice (some ⟨w.heap.size, 0, none⟩) n n) (List.replicate n 0) := by
  obtain ⟨i0, hi, hz0, hz1, hz2⟩ := info_parts ki_ok.inf
  have hz1' : i0.size = 1 := hz1
  have hz2' : i0.bytes = 8 := hz2
  have h := run_make (P := Try.prog) (w := w) 40 3 i0 _ Try.underlying40 hi hz0 .i64 .i64 (n : Int) (n : Int) (by omega) (Int.le_refl _) (by rw [hz2']; omega) (by omega)
  rw [Int.toNat_natCast, hz1', Nat.mul_one] at h
  refine ⟨_, h, balloc (Below.refl _ _) _, ?_⟩
  have e : ∀ n : Nat, (madeCells KI.z.cells n).toList = rV KI (List.replicate n 0) := by
    intro n
    apply List.ext_getElem
    · rw [rV_len ki_ok]
      simp [madeCells, KI]
    · intro i h1 h2
      have h3 : i < n := by simpa [madeCells] using h1
      have h4 := rV_get ki_ok (List.replicate n (0 : Int)) i (by simpa using h3) 0 ki_ok.pos
      rw [show KI.sz = 1 from rfl, Nat.mul_one, Nat.add_zero] at h4
      have h5 : (rV KI (List.replicate n (0 : Int)))[i] = .int .i64 0 := by
        rw [List.getElem?_eq_getElem h2] at h4
        simpa [KI] using h4
      rw [h5]
      simp [madeCells, KI, Value.cells, Nat.mod_one]
  exact own_litT w w.heap.size n (List.replicate n 0) _ (e n) (by simp) (Nat.le_refl _) hn
end Go.Proofs.Ytgaghlofcokijaa
