/- Rows of the call's own, written: one element, a part cleared, a part cut off. -/
import Derived.Test.YtplpeokmhomojaaPastPush
import Derived.Lib.SliceRun
namespace Go.Proofs.Ytplpeokmhomojaa
open Go.RowKit
set_option linter.unusedVariables false

theorem OwnD.at {w : World} {base g n cap : Nat} {l : List De} (h : OwnD w base (.slice (some ⟨g, 0, none⟩) n cap) l) (i : Nat) (hi : i < l.length) :
    w.cell? ⟨g, i * 3, none⟩ = some (.string l[i].1) ∧ w.cell? ⟨g, i * 3 + 1, none⟩ = some (.int .i64 l[i].2.1) ∧ w.cell? ⟨g, i * 3 + 2, none⟩ = some (.int .i64 l[i].2.2) := by
  obtain ⟨a, c, e, _, _, _, hr⟩ := DepAt.of_own h
  obtain ⟨b, off, e', _, h0, h1, h2⟩ := hr i hi
  cases e
  cases e'
  simp only [Nat.zero_add] at h0 h1 h2
  exact ⟨h0, h1, h2⟩
theorem OwnD.fr {w : World} {base g cap : Nat} {l : List De} (h : OwnD w base (.slice (some ⟨g, 0, none⟩) l.length cap) l) (j : Nat) : w.frozen? ⟨g, j, none⟩ = false := h.frozenAt j
theorem OwnD.blk {w : World} {base g n cap : Nat} {l : List De} (h : OwnD w base (.slice (some ⟨g, 0, none⟩) n cap) l) : base ≤ g ∧ g < w.heap.size := h.lt g rfl
theorem OwnD.cap {w : World} {base g n cap : Nat} {l : List De} (h : OwnD w base (.slice (some ⟨g, 0, none⟩) n cap) l) : n = l.length ∧ l.length ≤ cap ∧ cap ≤ maxLen := by
  rcases h.2 with ⟨h', _⟩ | ⟨g', cap', cur, h', hb, hg, hnc, hcm, hcs, htake⟩
  · simp at h'
  · simp only [Value.slice.injEq] at h'
    obtain ⟨_, rfl, rfl⟩ := h'
    exact ⟨rfl, hnc, hcm⟩
/-- One element written. -/
theorem OwnD.set {w : World} {base g cap : Nat} {l : List De} (h : OwnD w base (.slice (some ⟨g, 0, none⟩) l.length cap) l) (i : Nat) (hi : i < l.length) (x : ByteArray) (y z : Int) :
    OwnD (((w.setCell ⟨g, i * 3, none⟩ (.string x)).setCell ⟨g, i * 3 + 1, none⟩ (.int .i64 y)).setCell ⟨g, i * 3 + 2, none⟩ (.int .i64 z)) base (.slice (some ⟨g, 0, none⟩) l.length cap) (l.set i (x, y, z)) := by
  have h3 := (((h.stored (i * 3) (.string x)).1.stored (i * 3 + 1) (.int .i64 y)).1.stored (i * 3 + 2) (.int .i64 z)).1
  unfold OwnD
  rw [← dV_set l i (x, y, z) hi, List.length_set]
  exact h3
theorem below_set {base g j0 j1 j2 : Nat} {w w' : World} (hb : Below base w w') (hg : base ≤ g) (x y z : Value) : Below base w (((w'.setCell ⟨g, j0, none⟩ x).setCell ⟨g, j1, none⟩ y).setCell ⟨g, j2, none⟩ z) := ((hb.setCell hg _).setCell hg _).setCell hg _

theorem own_setCells {base e n cap g : Nat} : ∀ (vs : List Value) (w : World) (o : Nat) (xs : List Value), w.ownsRow base e 3 (.slice (some ⟨g, 0, none⟩) n cap) n xs →
    ∃ xs', (w.setCells g o vs).ownsRow base e 3 (.slice (some ⟨g, 0, none⟩) n cap) n xs' ∧ xs'.take o = xs.take o
  | [], w, o, xs, h => ⟨xs, h, rfl⟩
  | v :: vs, w, o, xs, h => by
    obtain ⟨xs', h1, h2⟩ := own_setCells vs _ (o + 1) _ (h.stored o v).1
    refine ⟨xs', h1, ?_⟩
    have : xs'.take o = (xs'.take (o + 1)).take o := by rw [List.take_take, Nat.min_eq_left (by omega)]
    rw [this, h2, List.take_take, Nat.min_eq_left (by omega), List.take_set_of_le (Nat.le_refl _)]
theorem below_setCells {base g : Nat} {w0 : World} (hg : base ≤ g) : ∀ (vs : List Value) (w : World) (o : Nat), Below base w0 w → Below base w0 (w.setCells g o vs)
  | [], w, o, h => h
  | v :: vs, w, o, h => below_setCells hg vs _ (o + 1) (h.setCell hg v)
/-- A part of a row. -/
theorem own_cut {base e n cap g k : Nat} {w : World} {xs : List Value} (h : w.ownsRow base e 3 (.slice (some ⟨g, 0, none⟩) n cap) n xs) (hk : k ≤ n) : w.ownsRow base e 3 (.slice (some ⟨g, 0, none⟩) k cap) k (xs.take (k * 3)) := by
  rcases h.2 with ⟨h', _⟩ | ⟨g', cap', cur, h', hb, hg, hnc, hcm, hcs, htake⟩
  · simp at h'
  · simp only [Value.slice.injEq, Option.some.injEq, Addr.mk.injEq, and_true, true_and] at h'
    obtain ⟨rfl, rfl⟩ := h'
    refine ⟨by rw [List.length_take, h.1]; omega, .inr ⟨g, cap, cur, rfl, hb, hg, by omega, hcm, hcs, ?_⟩⟩
    rw [← htake, List.take_take, Nat.min_eq_left (by omega)]

theorem run_clear_dep (w : World) (b o n c : Nat) (hn : 0 < n) (hc : ∀ j, j < n * 3 → (w.cell? ⟨b, o + j, none⟩).isSome = true) (hf : ∀ j, j < n * 3 → w.frozen? ⟨b, o + j, none⟩ = false) :
    ∃ vs, ∀ ty, (Builtin.clear_ #[22] ty #[.slice (some ⟨b, o, none⟩) n c]).run Try.prog w = .ok (.tuple #[]) (w.setCells b o vs) := by
  refine ⟨(Builtin.zeroCells #[.string ⟨#[]⟩, .int .i64 0, .int .i64 0] n).toList, fun ty => ?_⟩
  have hlen : (Builtin.zeroCells #[.string ⟨#[]⟩, .int .i64 0, .int .i64 0] n).toList.length = n * 3 := by simp [Builtin.zeroCells]
  have hv : ∀ w, (zeroValue 26).run Try.prog w = .ok (.agg #[.string ⟨#[]⟩, .int .i64 0, .int .i64 0]) w := Try.zeroValue26
  have hst := run_storeCells_cells (P := Try.prog) b o (Builtin.zeroCells #[.string ⟨#[]⟩, .int .i64 0, .int .i64 0] n).toList 0 w (by rw [hlen]; simpa using hc) (by rw [hlen]; simpa using hf) (by
    intro v hv'
    simp [Builtin.zeroCells] at hv'
    obtain ⟨j, hj, rfl⟩ := hv'
    have : j % 3 = 0 ∨ j % 3 = 1 ∨ j % 3 = 2 := by omega
    rcases this with h | h | h <;> simp [h] <;> rfl)
  simp only [Nat.add_zero] at hst
  obtain ⟨m, rfl⟩ : ∃ m, n = m + 1 := ⟨n - 1, by omega⟩
  simp [Builtin.clear_, run_underlying Try.underlying22, hv, hst, Value.cells]
end Go.Proofs.Ytplpeokmhomojaa
