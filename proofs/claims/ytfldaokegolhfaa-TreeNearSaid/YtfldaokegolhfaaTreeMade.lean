/- What the laws' own made answers: some tree. -/
import Derived.Test.YtfldaokegolhfaaIntRow
import Derived.Test.YtfldaokegolhfaaTreeMath2
import Derived.Deep.DeepCutAuto
namespace Go.Proofs.Ytfldaokegolhfaa
open Go.RowKit
set_option linter.unusedVariables false
set_option linter.unusedSimpArgs false

namespace Tm
theorem madeK_cong {n t : Nat} {x y : Nat → Nat} : ∀ k, (∀ i, i < k → x i = y i) → madeK n t x k = madeK n t y k
  | 0, _ => rfl
  | k + 1, h => by
    rw [madeK, madeK, madeK_cong k (fun i hi => h i (by omega))]
    unfold qM
    rw [h k (by omega)]
/-- A row behind so many, its numbers right. -/
def Mk (n t k : Nat) (pl : List Int) : Prop := ∃ x : Nat → Nat, (∀ i, 0 < i → i < k → x i < i) ∧ pl = madeK n t x k
theorem Mk.zero (n t : Nat) : Mk n t 0 (List.replicate n 0) := ⟨fun _ => 0, fun i _ h => by omega, rfl⟩
theorem Mk.root {n t : Nat} {pl : List Int} (h : Mk n t 0 pl) : Mk n t 1 (pl.set (sg n t 0) (-1)) := by
  obtain ⟨x, h1, rfl⟩ := h
  exact ⟨x, fun i h0 h2 => by omega, rfl⟩
theorem Mk.succ {n t k : Nat} {pl : List Int} (h : Mk n t (k + 1) pl) {y : Nat} (hy : y < k + 1) : Mk n t (k + 2) (pl.set (sg n t (k + 1)) (sg n t y : Int)) := by
  obtain ⟨x, h1, rfl⟩ := h
  refine ⟨fun i => if i = k + 1 then y else x i, fun i h0 h2 => ?_, ?_⟩
  · by_cases e : i = k + 1
    · simp [e]; omega
    · simp only [if_neg e]
      exact h1 i h0 (by omega)
  · show _ = (madeK n t _ (k + 1)).set _ _
    rw [madeK_cong (k + 1) (y := x) (fun i hi => if_neg (by omega))]
    unfold qM
    rw [if_neg (by omega)]
    simp
theorem Mk.len {n t k : Nat} {pl : List Int} (h : Mk n t k pl) : pl.length = n := by
  obtain ⟨x, _, rfl⟩ := h
  exact madeK_len n t x k
theorem Mk.tr {n t : Nat} {pl : List Int} (h : Mk n t n pl) (h1 : 1 ≤ n) (h6 : n ≤ 6) : Tr pl := by
  obtain ⟨x, hx, rfl⟩ := h
  exact made_tr h1 h6 hx
theorem Mk.first {n : Nat} {pl : List Int} (h : Mk n 0 n pl) (h1 : 1 ≤ n) : par pl 0 = -1 := by
  obtain ⟨x, hx, rfl⟩ := h
  have := madeK_get n 0 x h1 n (Nat.le_refl _) 0 (by omega)
  have e : sg n 0 0 = 0 := by unfold sg; simp
  rw [e] at this
  unfold par
  rw [this]
  rfl
end Tm

/-- What made leaves. -/
def MadeT (turn : Int) (m : Nat) (w : World) (e : Ending) (w' : World) : Prop := ∃ p g, e = .returned (.slice (some ⟨g, 0, none⟩) p.length p.length) ∧ Tm.Tr p ∧ p.length = min m 5 + 1 ∧ (turn = 0 → Tm.par p 0 = -1) ∧ OwnR KI w' w.heap.size (.slice (some ⟨g, 0, none⟩) p.length p.length) p ∧ Below w.heap.size w w'

set_option maxRecDepth 100000 in
set_option maxHeartbeats 3200000 in
theorem madeT_any (l : List Int) (a : Option Addr) (cap : Nat) (turn : Int) (w : World) (hl : l.length ≤ 9223372036854775807) (hr : RowIn KI w a l) :
    Calls Try.prog 22 #[.slice a l.length cap, .int .i64 turn] w (MadeT turn l.length w) := by
  have hand := and7T turn
  obtain ⟨t, ht⟩ : ∃ t : Nat, turn % 8 = (t : Int) := ⟨(turn % 8).toNat, by omega⟩
  have ht8 : t < 8 := by omega
  have HT0 : Hid (turn = 0 → t = 0) := Lib.hid (fun e => by subst e; omega)
  rw [ht] at hand
  have HR := Lib.hid hr
  clear hr ht
  go_enter Try.func22, Try.ntmps22
  go_wp2
  go_loopw [5, 6] (fun n i wr => ∃ k : Nat, k ≤ l.length ∧ k ≤ 5 ∧ i = .int .i64 k ∧ n = .int .i64 ((k + 1 : Nat) : Int) ∧ w = wr) (fun _ i _ => 5 - (intOf i).toNat)
  case atStart => exact ⟨0, by omega, by omega, rfl, rfl, rfl⟩
  case round =>
    obtain ⟨k, hk, hk5, rfl, rfl, rfl⟩ := hrel
    by_cases hgo : k < l.length ∧ k < 5
    · obtain ⟨h1, h2⟩ := hgo
      have h1i : (k : Int) < (l.length : Int) := by omega
      have h2i : (k : Int) < 5 := by omega
      go_wp2
      go_roundw
      case rel => exact ⟨k + 1, by omega, by omega, by go_num, by go_num, by first | rfl | trivial⟩
      case measure => simp [intOf]; omega
    · have HN : Hid (min l.length 5 + 1 = k + 1) := Lib.hid (by omega)
      obtain ⟨n, hn⟩ : ∃ n, n = k + 1 := ⟨_, rfl⟩
      have hn1 : 1 ≤ n := by omega
      have hn6 : n ≤ 6 := by omega
      have hnl : n ≤ l.length + 1 := by omega
      have hkn : k = n - 1 := by omega
      obtain ⟨w1, hmk, hb1, ho1⟩ := make_intsT n w (by omega)
      rw [← hn] at HN ⊢
      have HB1 := Lib.hid hb1
      have HO1 := Lib.hid ho1
      have HK := Lib.hid hn
      have hg1 := ho1.blockT.2
      clear hb1 ho1 hn hkn
      rcases (show (decide (k < l.length) = false ∧ decide ((k : Int) < (l.length : Int)) = false) ∨ (decide (k < l.length) = true ∧ decide ((k : Int) < (l.length : Int)) = true ∧ decide ((k : Int) < 5) = false) by simp; omega) with ⟨q1, q2⟩ | ⟨q1, q2, q3⟩
      all_goals
        clear hgo
        go_wp2
        go_loopw [8] (fun i wr => ∃ (k : Nat) (pl : List Int), k ≤ n ∧ i = .int .i64 k ∧ Hid (Tm.Mk n t k pl) ∧ OwnR KI wr w.heap.size (.slice (some ⟨w.heap.size, 0, none⟩) n n) pl ∧ Below w.heap.size w wr) (fun i _ => n - (intOf i).toNat)
        case atStart => exact ⟨0, List.replicate n 0, by omega, rfl, Lib.hid (Tm.Mk.zero n t), HO1.out, HB1.out⟩
        case round =>
          obtain ⟨k, pl, hk, rfl, HM, ho, hbel⟩ := hrel
          have HO := Lib.hid ho
          have HPL := Lib.hid HM.out.len
          by_cases hlt : k < n
          · obtain ⟨j, hj⟩ : ∃ j, j = Tm.sg n t k := ⟨_, rfl⟩
            have hjn : j < n := by rw [hj]; exact Tm.sg_lt (by omega)
            have hcell := ho.cellT j (by rw [HPL.out]; exact hjn)
            have hfr := ho.frozenT j
            generalize pl[j]'(by rw [HPL.out]; exact hjn) = old at hcell
            clear ho
            cases k with
            | zero =>
              have hmod : (t : Int) % (n : Int) = (j : Int) := by rw [hj]; unfold Tm.sg; simp
              have HJ := Lib.hid hj
              clear hj
              go_wp2
              go_roundw
              case rel => exact ⟨1, pl.set j (-1), by omega, by go_num, Lib.hid (by rw [HJ.out]; exact HM.out.root), HO.out.setT j (-1), hbel.setCell (p := ⟨w.heap.size, j, none⟩) (Nat.le_refl _) _⟩
              case measure => simp [intOf]; omega
            | succ m =>
              have hmod : ((m : Int) + 1 + (t : Int)) % (n : Int) = (j : Int) := by rw [hj]; unfold Tm.sg; simp
              have HJ := Lib.hid hj
              clear hj
              have hml : m < l.length := by omega
              obtain ⟨b, off, rfl, hbl, c0⟩ := (HR.out.below hbel).int m hml
              generalize l[m] = z at c0
              obtain ⟨hy1, hy2⟩ := tmod_bdT z ((m : Int) + 1) (by omega)
              generalize hy : z.tmod ((m : Int) + 1) = y at hy1 hy2
              go_upto_region 13 with fail
              have ho1 := Int.emod_nonneg (y + ((m : Int) + 1)) (b := (m : Int) + 1) (by omega)
              have ho2 := Int.emod_lt_of_pos (y + ((m : Int) + 1)) (b := (m : Int) + 1) (by omega)
              generalize (y + ((m : Int) + 1)) % ((m : Int) + 1) = o at *
              obtain ⟨xv, rfl⟩ : ∃ xv : Nat, o = (xv : Int) := ⟨o.toNat, by omega⟩
              have hxv : xv < m + 1 := by omega
              obtain ⟨q, hq⟩ : ∃ q, q = Tm.sg n t xv := ⟨_, rfl⟩
              have hmod2 : ((xv : Int) + (t : Int)) % (n : Int) = (q : Int) := by rw [hq]; unfold Tm.sg; simp
              have HQ := Lib.hid hq
              clear hq hy hy1 hy2 ho1 ho2
              go_wp2
              go_roundw
              case rel => exact ⟨m + 2, pl.set j (q : Int), by omega, by go_num, Lib.hid (by rw [HJ.out, HQ.out]; exact HM.out.succ hxv), HO.out.setT j (q : Int), hbel.setCell (p := ⟨w.heap.size, j, none⟩) (Nat.le_refl _) _⟩
              case measure => simp [intOf]; omega
          · obtain rfl : k = n := by omega
            clear ho
            go_wp2
            go_ret
            exact ⟨pl, w.heap.size, by rw [HPL.out]; rfl, HM.out.tr hn1 hn6, by rw [HPL.out, HN.out], fun e => by have := HT0.out e; subst this; exact HM.out.first hn1, by rw [HPL.out]; exact HO.out, hbel⟩
end Go.Proofs.Ytfldaokegolhfaa
