/- slices.Backward over dependencies. -/
import Derived.Test.YtplpeokmhomojaaPastGet
import Derived.Test.YtplpeokmhomojaaPastCheck
import Derived.RangeFuncNested
import Derived.RangeFuncBound
import Derived.RangeFuncCalls
import Derived.RangeFuncLeaves
import Derived.Shelf.Abstract
import Derived.Shelf.RegionOpen
import Derived.WalkKit
import Derived.OwnWalkIn
import Derived.TacticsInMore
import Derived.LoopNIn
import Derived.LoopIn
import Derived.Maps.OwnIn
import Derived.Maps.AppendAt
namespace Go.Proofs.Ytplpeokmhomojaa
open Go.RowKit Go.Shelf
set_option linter.unusedVariables false
set_option linter.unusedSimpArgs false
attribute [local go_sem] Oper.semAt_some

/-- What is handed to a round: the place, the dependency; its key is no longer than a text can be. -/
abbrev BackA := { x : Int × De // x.2.1.size ≤ maxLen }
def bkA (l : List De) (hz : Szd l) (j : Nat) (h : j < l.length) : BackA := ⟨((j : Int), l[j]), by have := hz l[j] (List.getElem_mem h); unfold maxLen; omega⟩
/-- The last k, from behind. -/
def bkL (l : List De) (hz : Szd l) : Nat → List BackA
  | 0 => []
  | k + 1 => if h : k < l.length then bkL l hz k ++ [bkA l hz (l.length - 1 - k) (by omega)] else bkL l hz k
theorem bkL_succ (l : List De) (hz : Szd l) (k : Nat) (h : k < l.length) : bkL l hz (k + 1) = bkL l hz k ++ [bkA l hz (l.length - 1 - k) (by omega)] := by rw [bkL, dif_pos h]
theorem bkL_len (l : List De) (hz : Szd l) (k : Nat) (h : k ≤ l.length) : (bkL l hz k).length = k := by
  induction k with
  | zero => rfl
  | succ k ih => rw [bkL_succ l hz k (by omega), List.length_append, ih (by omega)]; rfl

/-- Below n0 all but block mb lies as it lay. -/
def KB (mb n0 : Nat) (A B : World) : Prop := ∀ k, k < n0 → k ≠ mb → B.heap[k]? = A.heap[k]?
theorem KB.refl (mb n0 : Nat) (A : World) : KB mb n0 A A := fun _ _ _ => rfl
theorem KB.trans {mb n0 : Nat} {A B C : World} (h : KB mb n0 A B) (k : KB mb n0 B C) : KB mb n0 A C := fun i h1 h2 => (k i h1 h2).trans (h i h1 h2)
theorem KB.cell {mb n0 : Nat} {A B : World} (h : KB mb n0 A B) {b o : Nat} (h1 : b < n0) (h2 : b ≠ mb) : B.cell? ⟨b, o, none⟩ = A.cell? ⟨b, o, none⟩ := World.cell?_of_block (h b h1 h2)

set_option maxRecDepth 100000 in
set_option maxHeartbeats 2000000 in
theorem back1_in (F : Fence) (n : Nat) (h8 : F.fn 81) (hro : F.round = none) (hn : 1 ≤ n) (lp Bs n0 mb cap : Nat) (a : Option Addr) (l : List De) (hz : Szd l) (hl : l.length ≤ 1000000) (J Jx : List BackA → World → Prop)
    (hY : ∀ pre x W, J pre W → pre.length < l.length → YieldAt F (n - 1) Try.prog lp #[.int .i64 x.1.1, .agg #[.string x.1.2.1, .int .i64 x.1.2.2.1, .int .i64 x.1.2.2.2]] W fun e W' =>
      (e = .returned (.bool true) ∧ J (pre ++ [x]) W' ∧ KB mb n0 W W') ∨ (e = .returned (.bool false) ∧ Jx (pre ++ [x]) W'))
    (W : World) (hBn : Bs < n0) (hBm : Bs ≠ mb) (hBs : W.cell? ⟨Bs, 0, none⟩ = some (.slice a l.length cap)) (hlow : ∀ b off, a = some ⟨b, off, none⟩ → 0 < l.length → b < n0 ∧ b ≠ mb) (hr : DepIn W a l) (h0 : J [] W) :
    CallsIn F n Try.prog 81 #[.func (.yield lp) #[] #[], .pointer (some ⟨Bs, 0, none⟩)] W fun e W' => (∃ v, e = .returned v) ∧
      ((∃ ys, ys = bkL l hz l.length ∧ J ys W') ∨ (∃ pre, True ∧ Jx pre W')) := by
  have HR := Lib.hid hr
  clear hr
  refine callsIn_of_wp Try.func81 rfl h8 ?_ hro
  simp only [Try.ntmps81, List.size_toArray, List.length_cons, List.length_nil, Nat.reduceAdd, Nat.reduceSub, Array.replicate_succ, Array.replicate_zero, List.push_toArray, List.append_toArray, List.nil_append, List.cons_append]
  have hw0 : IntKind.i64.wrap ((l.length : Int) - 1) = (l.length : Int) - 1 := IntWalk.i64_in _ (by omega)
  gi_wp2
  gi_loopw [3] (fun i wr => ∃ k : Nat, k ≤ l.length ∧ i = .int .i64 ((l.length : Int) - 1 - k) ∧ J (bkL l hz k) wr ∧ KB mb n0 W wr) (fun i _ => (intOf i + 1).toNat)
  case atStart => exact ⟨0, Nat.zero_le _, by simp, h0, KB.refl _ _ _⟩
  case round =>
    obtain ⟨k, hk, rfl, hJs, hnx⟩ := hrel
    have hBs' := (hnx.cell (o := 0) hBn hBm).trans hBs
    by_cases hlt : k < l.length
    · obtain ⟨q, hq⟩ : ∃ q, q = l.length - 1 - k := ⟨_, rfl⟩
      have hqi : (l.length : Int) - 1 - (k : Int) = (q : Int) := by omega
      have hql : q < l.length := by omega
      have HQ := Lib.hid hq
      clear hq
      obtain ⟨b, off, rfl, hbl, c0, c1, c2⟩ := HR.out q hql
      obtain ⟨hbn, hbm⟩ := hlow b off rfl (by omega)
      replace c0 := (hnx.cell hbn hbm).trans c0
      replace c1 := (hnx.cell hbn hbm).trans c1
      replace c2 := (hnx.cell hbn hbm).trans c2
      have HS : Hid (bkL l hz (k + 1) = bkL l hz k ++ [bkA l hz q hql]) := Lib.hid (by rw [bkL_succ l hz k hlt]; congr 2; simp [HQ.out])
      have hx : (bkA l hz q hql).1 = ((q : Int), l[q]) := rfl
      obtain ⟨fn, tmps, assign, body, hy, hR⟩ := hY _ (bkA l hz q hql) wr hJs (by rw [bkL_len l hz k hk]; exact hlt)
      rw [hx] at hy
      generalize bkA l hz q hql = xx at HS hR
      generalize l[q] = d at c0 c1 c2 hy
      obtain ⟨x, y, z⟩ := d
      dsimp only at hy c0 c1 c2
      rw [hqi]
      have hq1 : (0 : Int) ≤ (q : Int) := by omega
      have hq2 : (q : Int) < (l.length : Int) := by omega
      have hq3 : IntKind.i64.wrap ((q : Int) - 1) = (q : Int) - 1 := IntWalk.i64_in _ (by omega)
      have HQI := Lib.hid hqi
      clear hqi hx
      gi_wp2
      refine hR.mono ?_
      rintro e W3 (⟨rfl, hJ3, hk3⟩ | ⟨rfl, hJx3⟩)
      · gi_wp2
        go_roundw
        case rel => exact ⟨k + 1, by omega, by have := HQI.out; simp; omega, by rw [HS.out]; exact hJ3, hnx.trans hk3⟩
        case measure => simp [intOf]
      · gi_wp2
        refine bodyPost_ret (results_none rfl _ _ _) rfl ?_
        exact ⟨⟨_, rfl⟩, .inr ⟨_, trivial, hJx3⟩⟩
    · obtain rfl : k = l.length := by omega
      have hneg : (l.length : Int) - 1 - (l.length : Int) = -1 := by omega
      rw [hneg]
      clear hneg
      gi_wp2
      go_end0
      exact ⟨⟨_, rfl⟩, .inl ⟨_, rfl, hJs⟩⟩

set_option maxHeartbeats 1000000 in
theorem backward_in (F : Fence) (n : Nat) (h5 : F.fn 49) (hro : F.round = none) (a : Option Addr) (len cap : Nat) (w : World) :
    CallsIn F n Try.prog 49 #[.slice a len cap] w fun e w' => e = .returned (.func (.func 81) #[] #[.pointer (some ⟨w.heap.size, 0, none⟩)]) ∧ w' = w.alloc (.cells #[.slice a len cap] 22) := by
  refine callsIn_of_wp Try.func49 rfl h5 ?_ hro
  simp only [Try.ntmps49, List.size_toArray, List.length_cons, List.length_nil, Nat.reduceAdd, Nat.reduceSub, Array.replicate_succ, Array.replicate_zero, List.push_toArray, List.append_toArray, List.nil_append, List.cons_append]
  gi_wp2
  go_ret
  exact ⟨rfl, rfl⟩

theorem back_stops (F : Fence) (n : Nat) (h8 : F.fn 81) (hro : F.round = none) (hn : 1 ≤ n) (Bs n0 mb cap : Nat) (a : Option Addr) (l : List De) (hz : Szd l) (hl : l.length ≤ 1000000) (w : World) (hB0 : Bs < w.heap.size) (hBn : Bs < n0) (hBm : Bs ≠ mb) (hc : w.cell? ⟨Bs, 0, none⟩ = some (.slice a l.length cap)) (hlow : ∀ b off, a = some ⟨b, off, none⟩ → 0 < l.length → b < n0 ∧ b ≠ mb) (hr : DepIn w a l) :
    SeqStopsK F n Try.prog 81 #[.pointer (some ⟨Bs, 0, none⟩)] (fun x : BackA => #[.int .i64 x.1.1, .agg #[.string x.1.2.1, .int .i64 x.1.2.2.1, .int .i64 x.1.2.2.2]]) (KB mb n0) (fun ys => ys = bkL l hz l.length) (fun _ => True) l.length w := fun lp J Jx W hW _ _ hY h0 =>
  back1_in F n h8 hro hn lp Bs n0 mb cap a l hz hl J Jx hY W hBn hBm ((hW.cell (p := ⟨Bs, 0, none⟩) hB0).trans hc) hlow (hr.below hW) h0
end Go.Proofs.Ytplpeokmhomojaa
