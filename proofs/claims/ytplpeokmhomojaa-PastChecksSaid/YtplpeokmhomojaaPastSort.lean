/- What slices.SortFunc answers of dependencies in a row of the caller's own, by past.latestFirst. -/
import Derived.Test.YtplpeokmhomojaaPastLess
import Derived.Test.YtplpeokmhomojaaPastOwn
import Derived.Shelf.SlSortCmp.NoneTotal
namespace Go.Proofs.Ytplpeokmhomojaa
open Go.RowKit Go.Sort
set_option linter.unusedVariables false
set_option linter.unusedSimpArgs false

theorem cmpB_lt : ∀ (a b : List UInt8), decide (Lib.compareBytes a b < 0) = Op.bytesLess a b
  | [], [] => by simp [Lib.compareBytes, Op.bytesLess]
  | [], _ :: _ => by simp [Lib.compareBytes, Op.bytesLess]
  | _ :: _, [] => by simp [Lib.compareBytes, Op.bytesLess]
  | a :: ra, b :: rb => by
    have ih := cmpB_lt ra rb
    unfold Lib.compareBytes Op.bytesLess
    by_cases h1 : a < b
    · simp [h1]
    · by_cases h2 : b < a
      · have hne : ¬ a = b := fun e => by subst e; exact h1 h2
        simp [h1, h2, hne]
      · have e : a = b := by
          rw [← UInt8.toNat_inj]
          rw [UInt8.lt_iff_toNat_lt] at h1 h2
          omega
        subst e
        simp [h1]
        simpa using ih

/-- The order of the sort: by keys; of one key the later first. -/
def ltD (x y : De) : Bool := if x.1 = y.1 then Sm.less y.2 x.2 else klt x.1 y.1
theorem ltD_eq (x y : De) : ltOf cfD x y = ltD x y := by
  unfold ltOf cfD ltD
  by_cases h : x.1 = y.1
  · rw [if_pos h, if_pos h]
    cases h1 : Sm.less y.2 x.2 with
    | true => simp
    | false => cases h2 : Sm.less x.2 y.2 <;> simp
  · rw [if_neg h, if_neg h]
    exact cmpB_lt _ _
theorem swoD : SWO (ltOf cfD) where
  irrefl x := by rw [ltD_eq]; simp [ltD, Sm.less_self]
  trans x y z h1 h2 := by
    rw [ltD_eq] at *
    unfold ltD at *
    by_cases a : x.1 = y.1
    · rw [if_pos a] at h1
      by_cases b : y.1 = z.1
      · rw [if_pos b] at h2
        rw [if_pos (a.trans b)]
        exact Sm.less_trans h2 h1
      · rw [if_neg b] at h2
        rw [if_neg (fun e => b (a.symm.trans e)), a]
        exact h2
    · rw [if_neg a] at h1
      by_cases b : y.1 = z.1
      · rw [if_neg (fun e => a (e.trans b.symm)), ← b]
        exact h1
      · rw [if_neg b] at h2
        have h3 := klt_trans h1 h2
        rw [if_neg (klt_ne h3)]
        exact h3
  ntrans x y z h1 h2 := by
    rw [ltD_eq] at *
    unfold ltD at *
    by_cases a : x.1 = y.1
    · rw [if_pos a] at h1
      by_cases b : y.1 = z.1
      · rw [if_pos b] at h2
        rw [if_pos (a.trans b)]
        exact Sm.le_trans h1 h2
      · rw [if_neg b] at h2
        rw [if_neg (fun e => b (a.symm.trans e)), a]
        exact h2
    · rw [if_neg a] at h1
      by_cases b : y.1 = z.1
      · rw [if_neg (fun e => a (e.trans b.symm)), ← b]
        exact h1
      · rw [if_neg b] at h2
        have h4 : klt y.1 x.1 = true := by
          cases h : klt y.1 x.1 with
          | true => rfl
          | false => exact absurd (klt_tri h1 h) a
        have h5 : klt z.1 y.1 = true := by
          cases h : klt z.1 y.1 with
          | true => rfl
          | false => exact absurd (klt_tri h2 h) b
        have h6 := klt_trans h5 h4
        rw [if_neg (fun e => klt_ne h6 e.symm)]
        exact klt_asymm h6

def encD (d : De) : List Value := [.string d.1, .int .i64 d.2.1, .int .i64 d.2.2]
theorem flat_dV (l : List De) (t : Nat) (h : t < l.length * 3) : (dV l)[t]? = some (flatK encD 3 l.toArray)[t]! := by
  rw [get_flatK _ _ _ _ (by simpa using h)]
  obtain ⟨k0, k1, k2⟩ := dV_get l (t / 3) (by omega)
  have e : l.toArray[t / 3]! = l[t / 3]'(by omega) := by
    rw [getElem!_pos _ _ (by simp; omega)]
    simp
  rw [e]
  rcases (show (t = t / 3 * 3 ∧ t % 3 = 0) ∨ (t = t / 3 * 3 + 1 ∧ t % 3 = 1) ∨ (t = t / 3 * 3 + 2 ∧ t % 3 = 2) by omega) with ⟨e1, e2⟩ | ⟨e1, e2⟩ | ⟨e1, e2⟩
  · rw [e2]
    conv => lhs; rw [e1]
    rw [k0]; rfl
  · rw [e2]
    conv => lhs; rw [e1]
    rw [k1]; rfl
  · rw [e2]
    conv => lhs; rw [e1]
    rw [k2]; rfl
theorem OwnD.holds {w : World} {base g cap : Nat} {l : List De} (h : OwnD w base (.slice (some ⟨g, 0, none⟩) l.length cap) l) : HoldsK encD 3 w g 0 l.toArray := by
  intro j hj
  rw [size_flatK] at hj
  have hj' : j < l.length * 3 := by simpa using hj
  refine ⟨?_, by rw [Nat.zero_add]; exact h.fr j⟩
  have h1 := h.cellAt j (by omega)
  rw [Nat.zero_add, h1]
  exact flat_dV l j hj'
theorem OwnD.sorted {w : World} {base g cap n : Nat} {l l' : List De} {os : Array Obj} (h : OwnD w base (.slice (some ⟨g, 0, none⟩) l.length cap) l) (hl : l'.length = l.length) :
    OwnD (sortWorldK encD 3 w g 0 n l'.toArray os) base (.slice (some ⟨g, 0, none⟩) l.length cap) l' ∧ Below base w (sortWorldK encD 3 w g 0 n l'.toArray os) := by
  rcases h.2 with ⟨e0, _⟩ | ⟨g', cap', cur, e0, hb, hg, hn, hm, hs, ht⟩
  · cases e0
  · cases e0
    have hlt : g < w.heap.size := (Array.getElem?_eq_some_iff.1 hg).1
    have hblk : ∀ k, k < w.heap.size → (sortWorldK encD 3 w g 0 n l'.toArray os).heap[k]? = (putRowK encD 3 (Sort.ahead w n) g 0 l'.toArray).heap[k]? := by
      intro k hk
      unfold sortWorldK Sort.grow
      simp only
      rw [Array.getElem?_append_left]
      unfold putRowK
      rw [size_putRow]
      exact hk
    refine ⟨⟨by rw [dV_len], .inr ⟨g, cap, putCells id 0 (flatK encD 3 l'.toArray) cur, by rw [hl], hb, ?_, by omega, hm, by simpa [putCells] using hs, ?_⟩⟩, ⟨rfl, rfl, rfl, ?_, ?_⟩⟩
    · rw [hblk g hlt]
      simp [putRowK, putRow, mapBlock, Sort.ahead, Array.getElem?_modify, hg, onCells]
    · apply List.ext_getElem?
      intro j
      rw [List.getElem?_take, Array.getElem?_toList]
      by_cases hj : j < l'.length * 3
      · have hjc : j < cur.size := by omega
        rw [if_pos hj, flat_dV l' j hj]
        simp only [putCells, Array.getElem?_mapIdx, Array.getElem?_eq_getElem hjc, Option.map_some]
        rw [if_pos (by rw [size_flatK]; simp; omega)]
        simp
      · rw [if_neg hj, List.getElem?_eq_none (by rw [dV_len]; omega)]
    · unfold sortWorldK Sort.grow putRowK
      simp
    · intro k hk
      rw [hblk k (by omega)]
      simp [putRowK, putRow, mapBlock, Sort.ahead, Array.getElem?_modify, show g ≠ k by omega]

/-- Sorted: no later one is less than an earlier one. -/
def SortedD (l : List De) : Prop := l.Pairwise fun x y => ltD y x = false
set_option maxHeartbeats 1600000 in
theorem sort_any (v : Value) (base : Nat) (l : List De) (w : World) (hl : l.length ≤ 1000000) (ho : OwnD w base v l) :
    Calls Try.prog 42 #[v, .func (.func 43) #[] #[]] w fun e w' => e = .returned (.tuple #[]) ∧ ∃ l' : List De, l'.Perm l ∧ l'.length = l.length ∧ SortedD l' ∧ OwnD w' base v l' ∧ Below base w w' := by
  obtain ⟨a, cap, rfl⟩ := ho.shape
  by_cases h0 : l.length = 0
  · have h := AnyF.slices_SortFunc_none Try.sortF a cap (.func (.func 43) #[] #[]) w
    rw [h0]
    refine h.mono ?_
    rintro e w' ⟨rfl, rfl⟩
    obtain rfl : l = [] := List.length_eq_zero_iff.1 h0
    exact ⟨rfl, [], List.Perm.nil, rfl, List.Pairwise.nil, ho, Below.refl _ _⟩
  · obtain ⟨gg, rfl⟩ : ∃ gg, a = some ⟨gg, 0, none⟩ := by
      rcases ho.2 with ⟨e, h1⟩ | ⟨gg, cap', cur, e, _⟩
      · omega
      · cases e; exact ⟨gg, rfl⟩
    have hcmp : CmpLays Try.prog 43 #[] encD 3 cfD gg 0 l.toArray.size w := fun m os dk _ x y =>
      (latest_any x.1 x.2.1 x.2.2 y.1 y.2.1 y.2.2 _).mono fun e w' ⟨he, hb, hd⟩ => ⟨he, grn_of hb hd⟩
    have h := AnyQ.slices_SortFunc Try.sortF 3 Try.isAgg26 Try.sizeOf26 encD (fun _ => rfl) (fun x v hv => by simp [encD] at hv; rcases hv with rfl | rfl | rfl <;> rfl) cfD swoD 43 #[] gg 0 cap l.toArray w
      (enters_of Try.func43 (by kernel_rfl) rfl) hcmp ho.holds ho.blk.2 (by simp; omega)
    refine h.mono ?_
    rintro e w' ⟨rfl, d', n, os, hp, hs, rfl⟩
    have hsz : d'.toList.length = l.length := by simpa using hp.1
    have hperm : d'.toList.Perm l := by
      have h1 := hp.2.2
      have h2 : d'.size = l.length := by simpa using hp.1
      simp only [List.size_toArray, ← h2] at h1
      simp only [Array.extract_size] at h1
      rw [h2] at h1
      simpa using h1
    refine ⟨rfl, d'.toList, hperm, hsz, ?_, ?_⟩
    · unfold SortedD
      rw [List.pairwise_iff_getElem]
      intro i j hi hj hij
      have h1 := hs i j (Nat.zero_le _) hij (by simp at hj; rw [← hp.1]; exact hj)
      rw [ltD_eq, getElem!_pos d' j (by simpa using hj), getElem!_pos d' i (by simpa using hi)] at h1
      simpa using h1
    · have := ho.sorted (n := n) (os := os) hsz
      simpa using this
end Go.Proofs.Ytplpeokmhomojaa
