/- Texts of this proof, one behind the other: PastSort, PastFind, PastDel. -/
import Derived.Test.YtplpeokmhomojaaGPastBack7
import Derived.Shelf.SlSortCmp.NoneTotal
import Derived.Shelf.GgClosure.Gives
/- What slices.SortFunc answers of dependencies in a row of the caller's own, by past.latestFirst. -/
namespace Go.Proofs.Ytplpeokmhomojaa
open Go.RowKit Go.Sort
set_option linter.unusedVariables false
set_option linter.unusedSimpArgs false

theorem cmpB_lt : ∀ (a b : List UInt8), decide (Lib.compareBytes a b < 0) = Op.bytesLess a b
  | [], [] => by simp [Lib.compareBytes, Op.bytesLess]
  | [], _ :: _ => by simp [Lib.compareBytes, Op.bytesLess]
  | _ :: _, [] => by simp [Lib.compareBytes, Op.bytesLess]
  | a :: ra, b :: rb => by
    have ih := cmpB_lt ra rb
    unfold Lib.compareBytes Op.bytesLess
    by_cases h1 : a < b
    · simp [h1]
    · by_cases h2 : b < a
      · have hne : ¬ a = b := fun e => by subst e; exact h1 h2
        simp [h1, h2, hne]
      · have e : a = b := by
          rw [← UInt8.toNat_inj]
          rw [UInt8.lt_iff_toNat_lt] at h1 h2
          omega
        subst e
        simp [h1]
        simpa using ih

/-- The order of the sort: by keys; of one key the later first. -/
def ltD (x y : De) : Bool := if x.1 = y.1 then Sm.less y.2 x.2 else klt x.1 y.1
theorem ltD_eq (x y : De) : ltOf cfD x y = ltD x y := by
  unfold ltOf cfD ltD
  by_cases h : x.1 = y.1
  · rw [if_pos h, if_pos h]
    cases h1 : Sm.less y.2 x.2 with
    | true => simp
    | false => cases h2 : Sm.less x.2 y.2 <;> simp
  · rw [if_neg h, if_neg h]
    exact cmpB_lt _ _
theorem swoD : SWO (ltOf cfD) where
  irrefl x := by rw [ltD_eq]; simp [ltD, Sm.less_self]
  trans x y z h1 h2 := by
    rw [ltD_eq] at *
    unfold ltD at *
    by_cases a : x.1 = y.1
    · rw [if_pos a] at h1
      by_cases b : y.1 = z.1
      · rw [if_pos b] at h2
        rw [if_pos (a.trans b)]
        exact Sm.less_trans h2 h1
      · rw [if_neg b] at h2
        rw [if_neg (fun e => b (a.symm.trans e)), a]
        exact h2
    · rw [if_neg a] at h1
      by_cases b : y.1 = z.1
      · rw [if_neg (fun e => a (e.trans b.symm)), ← b]
        exact h1
      · rw [if_neg b] at h2
        have h3 := klt_trans h1 h2
        rw [if_neg (klt_ne h3)]
        exact h3
  ntrans x y z h1 h2 := by
    rw [ltD_eq] at *
    unfold ltD at *
    by_cases a : x.1 = y.1
    · rw [if_pos a] at h1
      by_cases b : y.1 = z.1
      · rw [if_pos b] at h2
        rw [if_pos (a.trans b)]
        exact Sm.le_trans h1 h2
      · rw [if_neg b] at h2
        rw [if_neg (fun e => b (a.symm.trans e)), a]
        exact h2
    · rw [if_neg a] at h1
      by_cases b : y.1 = z.1
      · rw [if_neg (fun e => a (e.trans b.symm)), ← b]
        exact h1
      · rw [if_neg b] at h2
        have h4 : klt y.1 x.1 = true := by
          cases h : klt y.1 x.1 with
          | true => rfl
          | false => exact absurd (klt_tri h1 h) a
        have h5 : klt z.1 y.1 = true := by
          cases h : klt z.1 y.1 with
          | true => rfl
          | false => exact absurd (klt_tri h2 h) b
        have h6 := klt_trans h5 h4
        rw [if_neg (fun e => klt_ne h6 e.symm)]
        exact klt_asymm h6

def encD (d : De) : List Value := [.string d.1, .int .i64 d.2.1, .int .i64 d.2.2]
theorem flat_dV (l : List De) (t : Nat) (h : t < l.length * 3) : (dV l)[t]? = some (flatK encD 3 l.toArray)[t]! := by
  rw [get_flatK _ _ _ _ (by simpa using h)]
  obtain ⟨k0, k1, k2⟩ := dV_get l (t / 3) (by omega)
  have e : l.toArray[t / 3]! = l[t / 3]'(by omega) := by
    rw [getElem!_pos _ _ (by simp; omega)]
    simp
  rw [e]
  rcases (show (t = t / 3 * 3 ∧ t % 3 = 0) ∨ (t = t / 3 * 3 + 1 ∧ t % 3 = 1) ∨ (t = t / 3 * 3 + 2 ∧ t % 3 = 2) by omega) with ⟨e1, e2⟩ | ⟨e1, e2⟩ | ⟨e1, e2⟩
  · rw [e2]
    conv => lhs; rw [e1]
    rw [k0]; rfl
  · rw [e2]
    conv => lhs; rw [e1]
    rw [k1]; rfl
  · rw [e2]
    conv => lhs; rw [e1]
    rw [k2]; rfl
theorem OwnD.holds {w : World} {base g cap : Nat} {l : List De} (h : OwnD w base (.slice (some ⟨g, 0, none⟩) l.length cap) l) : HoldsK encD 3 w g 0 l.toArray := by
  intro j hj
  rw [size_flatK] at hj
  have hj' : j < l.length * 3 := by simpa using hj
  refine ⟨?_, by rw [Nat.zero_add]; exact h.fr j⟩
  have h1 := h.cellAt j (by omega)
  rw [Nat.zero_add, h1]
  exact flat_dV l j hj'
theorem OwnD.sorted {w : World} {base g cap n : Nat} {l l' : List De} {os : Array Obj} (h : OwnD w base (.slice (some ⟨g, 0, none⟩) l.length cap) l) (hl : l'.length = l.length) :
    OwnD (sortWorldK encD 3 w g 0 n l'.toArray os) base (.slice (some ⟨g, 0, none⟩) l.length cap) l' ∧ Below base w (sortWorldK encD 3 w g 0 n l'.toArray os) := by
  rcases h.2 with ⟨e0, _⟩ | ⟨g', cap', cur, e0, hb, hg, hn, hm, hs, ht⟩
  · cases e0
  · cases e0
    have hlt : g < w.heap.size := (Array.getElem?_eq_some_iff.1 hg).1
    have hblk : ∀ k, k < w.heap.size → (sortWorldK encD 3 w g 0 n l'.toArray os).heap[k]? = (putRowK encD 3 (Sort.ahead w n) g 0 l'.toArray).heap[k]? := by
      intro k hk
      unfold sortWorldK Sort.grow
      simp only
      rw [Array.getElem?_append_left]
      unfold putRowK
      rw [size_putRow]
      exact hk
    refine ⟨⟨by rw [dV_len], .inr ⟨g, cap, putCells id 0 (flatK encD 3 l'.toArray) cur, by rw [hl], hb, ?_, by omega, hm, by simpa [putCells] using hs, ?_⟩⟩, ⟨rfl, rfl, rfl, ?_, ?_⟩⟩
    · rw [hblk g hlt]
      simp [putRowK, putRow, mapBlock, Sort.ahead, Array.getElem?_modify, hg, onCells]
    · apply List.ext_getElem?
      intro j
      rw [List.getElem?_take, Array.getElem?_toList]
      by_cases hj : j < l'.length * 3
      · have hjc : j < cur.size := by omega
        rw [if_pos hj, flat_dV l' j hj]
        simp only [putCells, Array.getElem?_mapIdx, Array.getElem?_eq_getElem hjc, Option.map_some]
        rw [if_pos (by rw [size_flatK]; simp; omega)]
        simp
      · rw [if_neg hj, List.getElem?_eq_none (by rw [dV_len]; omega)]
    · unfold sortWorldK Sort.grow putRowK
      simp
    · intro k hk
      rw [hblk k (by omega)]
      simp [putRowK, putRow, mapBlock, Sort.ahead, Array.getElem?_modify, show g ≠ k by omega]

/-- Sorted: no later one is less than an earlier one. -/
def SortedD (l : List De) : Prop := l.Pairwise fun x y => ltD y x = false
set_option maxHeartbeats 1600000 in
theorem sort_any (v : Value) (base : Nat) (l : List De) (w : World) (hl : l.length ≤ 1000000) (ho : OwnD w base v l) :
    Calls Try.prog 42 #[v, .func (.func 43) #[] #[]] w fun e w' => e = .returned (.tuple #[]) ∧ ∃ l' : List De, l'.Perm l ∧ l'.length = l.length ∧ SortedD l' ∧ OwnD w' base v l' ∧ Below base w w' := by
  obtain ⟨a, cap, rfl⟩ := ho.shape
  by_cases h0 : l.length = 0
  · have h := AnyF.slices_SortFunc_none Try.sortF a cap (.func (.func 43) #[] #[]) w
    rw [h0]
    refine h.mono ?_
    rintro e w' ⟨rfl, rfl⟩
    obtain rfl : l = [] := List.length_eq_zero_iff.1 h0
    exact ⟨rfl, [], List.Perm.nil, rfl, List.Pairwise.nil, ho, Below.refl _ _⟩
  · obtain ⟨gg, rfl⟩ : ∃ gg, a = some ⟨gg, 0, none⟩ := by
      rcases ho.2 with ⟨e, h1⟩ | ⟨gg, cap', cur, e, _⟩
      · omega
      · cases e; exact ⟨gg, rfl⟩
    have hcmp : CmpLays Try.prog 43 #[] encD 3 cfD gg 0 l.toArray.size w := fun m os dk _ x y =>
      (latest_any x.1 x.2.1 x.2.2 y.1 y.2.1 y.2.2 _).mono fun e w' ⟨he, hb, hd⟩ => ⟨he, grn_of hb hd⟩
    have h := AnyQ.slices_SortFunc Try.sortF 3 Try.isAgg26 Try.sizeOf26 encD (fun _ => rfl) (fun x v hv => by simp [encD] at hv; rcases hv with rfl | rfl | rfl <;> rfl) cfD swoD 43 #[] gg 0 cap l.toArray w
      (enters_of Try.func43 (by kernel_rfl) rfl) hcmp ho.holds ho.blk.2 (by simp; omega)
    refine h.mono ?_
    rintro e w' ⟨rfl, d', n, os, hp, hs, rfl⟩
    have hsz : d'.toList.length = l.length := by simpa using hp.1
    have hperm : d'.toList.Perm l := by
      have h1 := hp.2.2
      have h2 : d'.size = l.length := by simpa using hp.1
      simp only [List.size_toArray, ← h2] at h1
      simp only [Array.extract_size] at h1
      rw [h2] at h1
      simpa using h1
    refine ⟨rfl, d'.toList, hperm, hsz, ?_, ?_⟩
    · unfold SortedD
      rw [List.pairwise_iff_getElem]
      intro i j hi hj hij
      have h1 := hs i j (Nat.zero_le _) hij (by simp at hj; rw [← hp.1]; exact hj)
      rw [ltD_eq, getElem!_pos d' j (by simpa using hj), getElem!_pos d' i (by simpa using hi)] at h1
      simpa using h1
    · have := ho.sorted (n := n) (os := os) hsz
      simpa using this
end Go.Proofs.Ytplpeokmhomojaa
/- What slices.IndexFunc and slices.ContainsFunc answer of dependencies, for whatever predicate; past.find; past.Get and the document's Get. -/
namespace Go.Proofs.Ytplpeokmhomojaa
open Go.RowKit
set_option linter.unusedVariables false
set_option linter.unusedSimpArgs false

/-- The place of the first one; -1: there is none. -/
def fidxD (p : De → Bool) (l : List De) : Int := match l.findIdx? p with | none => -1 | some i => i
theorem fidxD_hit {p : De → Bool} {l : List De} {k : Nat} (hk : k < l.length) (h : ∀ j (hj : j < l.length), j < k → p l[j] = false) (hh : p l[k] = true) : fidxD p l = k := by
  have e : l.findIdx? p = some k := by
    rw [List.findIdx?_eq_some_iff_getElem]
    exact ⟨hk, hh, fun j hj => by simpa using h j (by omega) hj⟩
  simp [fidxD, e]
theorem fidxD_none {p : De → Bool} {l : List De} (h : ∀ j (hj : j < l.length), p l[j] = false) : fidxD p l = -1 := by
  have e : l.findIdx? p = none := by
    rw [List.findIdx?_eq_none_iff]
    intro x hx
    obtain ⟨j, hj, rfl⟩ := List.getElem_of_mem hx
    simpa using h j hj
  simp [fidxD, e]

/-- What is asked of a predicate that may make memory. -/
def PredD (g : Nat) (lb : Array Value) (p : De → Bool) (l : List De) (base : Nat) (w : World) : Prop :=
  ∀ (W : World) (d : De), d ∈ l → Below base w W → Calls Try.prog g (#[dv d] ++ lb) W fun e w' => e = .returned (.bool (p d)) ∧ Below W.heap.size W w'

set_option maxRecDepth 100000 in
set_option maxHeartbeats 800000 in
theorem idxFunc_any (g : Nat) (lb : Array Value) (eg : ∀ args w, (callFunc g args).run Try.prog w = .ok (.enter g args) w) (p : De → Bool) (a : Option Addr) (cap base : Nat) (l : List De) (w : World) (hl : l.length ≤ 1000000) (hr : DepIn w a l) (hbs : base ≤ w.heap.size) (hp : PredD g lb p l base w) :
    Calls Try.prog 34 #[.slice a l.length cap, .func (.func g) #[] lb] w fun e w' => e = .returned (.int .i64 (fidxD p l)) ∧ Below w.heap.size w w' := by
  have HR := Lib.hid hr
  have HP := Lib.hid hp
  clear hr hp
  go_enter Try.func34, Try.ntmps34
  go_wp2
  go_loopw [8] (fun i wr => ∃ k : Nat, k ≤ l.length ∧ i = .int .i64 k ∧ (∀ j (hj : j < l.length), j < k → p l[j] = false) ∧ Below w.heap.size w wr) (fun i _ => l.length - (intOf i).toNat)
  case atStart => exact ⟨0, by omega, rfl, (fun j hj h => by omega), Below.refl _ _⟩
  case round =>
    obtain ⟨k, hk, rfl, hall, hbel⟩ := hrel
    have HA := Lib.hid hall
    clear hall
    by_cases hlt : k < l.length
    · obtain ⟨b, off, rfl, hbl, c0, c1, c2⟩ := HR.out.below hbel k hlt
      have hcall := HP.out wr l[k] (List.getElem_mem hlt) (hbel.mono hbs)
      have HH := Lib.hid (@fidxD_hit p l k hlt HA.out)
      have HN : Hid (p l[k] = false → ∀ j (hj : j < l.length), j < k + 1 → p l[j] = false) := Lib.hid (fun h j hj h2 => by
        by_cases e : j = k
        · subst e; exact h
        · exact HA.out j hj (by omega))
      generalize l[k] = d at c0 c1 c2 hcall HH HN
      obtain ⟨x, y, z⟩ := d
      dsimp only [dv] at c0 c1 c2 hcall
      cases hq : p (x, y, z) with
      | true =>
        rw [hq] at hcall
        have HQ := Lib.hid hq
        clear hq
        go_wp2_with (go_at_fn g; refine hcall.mono ?_; rintro e w' ⟨rfl, hb'⟩)
        go_ret
        exact ⟨ret_int (HH.out HQ.out).symm, bstep hbel hb'⟩
      | false =>
        rw [hq] at hcall
        have HQ := Lib.hid hq
        clear hq
        go_wp2_with (go_at_fn g; refine hcall.mono ?_; rintro e w' ⟨rfl, hb'⟩)
        go_roundw
        case rel => exact ⟨k + 1, by omega, by go_num, HN.out HQ.out, bstep hbel hb'⟩
        case measure => simp [intOf]; omega
    · obtain rfl : k = l.length := by omega
      go_wp2
      go_ret
      exact ⟨ret_int (fidxD_none (fun j hj => HA.out j hj hj)).symm, hbel⟩

theorem fidxD_any (p : De → Bool) (l : List De) : decide (0 ≤ fidxD p l) = l.any p := by
  unfold fidxD
  cases h : l.findIdx? p with
  | none =>
    rw [List.findIdx?_eq_none_iff] at h
    have : l.any p = false := by rw [List.any_eq_false]; intro x hx; simp [h x hx]
    rw [this]
    rfl
  | some i =>
    rw [List.findIdx?_eq_some_iff_getElem] at h
    obtain ⟨hi, hh, _⟩ := h
    have : l.any p = true := List.any_eq_true.2 ⟨l[i], List.getElem_mem hi, hh⟩
    rw [this]
    simp

set_option maxRecDepth 100000 in
set_option maxHeartbeats 800000 in
theorem contFunc_any (g : Nat) (lb : Array Value) (eg : ∀ args w, (callFunc g args).run Try.prog w = .ok (.enter g args) w) (p : De → Bool) (a : Option Addr) (cap base : Nat) (l : List De) (w : World) (hl : l.length ≤ 1000000) (hr : DepIn w a l) (hbs : base ≤ w.heap.size) (hp : PredD g lb p l base w) :
    Calls Try.prog 50 #[.slice a l.length cap, .func (.func g) #[] lb] w fun e w' => e = .returned (.bool (l.any p)) ∧ Below w.heap.size w w' := by
  have hcon := idxFunc_any g lb eg p a cap base l w hl hr hbs hp
  rw [← fidxD_any]
  generalize fidxD p l = r at hcon ⊢
  clear hr hp
  go_enter Try.func50, Try.ntmps50
  go_wp2_with fail
  refine hcon.mono ?_
  rintro e w1 ⟨rfl, hb⟩
  go_wp2
  all_goals
    go_ret
    exact ⟨ret_bool (by simp_all), hb⟩

set_option maxRecDepth 100000 in
theorem findC_any (key : ByteArray) (B : Nat) (x : ByteArray) (y z : Int) (w : World) (hB : B < w.heap.size) (hc : w.cell? ⟨B, 0, none⟩ = some (.string key)) :
    Calls Try.prog 70 #[.agg #[.string x, .int .i64 y, .int .i64 z], .pointer (some ⟨B, 0, none⟩)] w fun e w' => e = .returned (.bool (decide (x = key))) ∧ Below w.heap.size w w' := by
  have hne : B ≠ w.heap.size := by omega
  have hc1 : ∀ o, (w.alloc o).cell? ⟨B, 0, none⟩ = some (.string key) := fun o => (((Below.refl _ w).alloc (Nat.le_refl _) o).cell (p := ⟨B, 0, none⟩) hB).trans hc
  have hk : (decide (x = key)) = (x.toList == key.toList) := by
    rw [Lib.toList_data, Lib.toList_data, Bool.eq_iff_iff]
    simp only [decide_eq_true_eq, beq_iff_eq]
    exact ⟨fun h => by rw [h], ba_inj⟩
  rw [hk]
  clear hk
  go_enter Try.func70, Try.ntmps70
  go_wp2
  all_goals
    go_ret
    exact ⟨ret_bool (by simp_all), balloc (Below.refl _ w) _⟩

/-- The place of a key. -/
abbrev kidx (l : List De) (key : ByteArray) : Int := fidxD (fun d => decide (d.1 = key)) l

set_option maxRecDepth 100000 in
set_option maxHeartbeats 800000 in
theorem pfind_any (v : Value) (l : List De) (key : ByteArray) (w : World) (hl : l.length ≤ 1000000) (hr : DepAt w v l) :
    Calls Try.prog 32 #[v, .string key] w fun e w' => e = .returned (.int .i64 (kidx l key)) ∧ Below w.heap.size w w' := by
  obtain ⟨a, cap, rfl, _, _, _, hr⟩ := hr
  have hmf : ∀ (fn : Fn) (first cap : Array Value) (w : World), (Instr.makeFunc fn first cap).run Try.prog w = .ok (.func fn first cap) w := fun _ _ _ _ => rfl
  have hcon := idxFunc_any 70 #[.pointer (some ⟨w.heap.size, 0, none⟩)] (enters_of Try.func70 (by kernel_rfl) rfl) (fun d => decide (d.1 = key)) a cap (w.heap.size + 1) l (w.alloc (.cells #[.string key] 9)) hl (hr.alloc _) (by simp) (fun W d _ hb => by
    refine findC_any key w.heap.size d.1 d.2.1 d.2.2 W (by have := hb.size; simp at this; omega) ?_
    rw [hb.cell (p := ⟨w.heap.size, 0, none⟩) (by simp)]
    simp)
  show Calls _ _ _ _ fun e w' => e = .returned (.int .i64 (fidxD (fun d => decide (d.1 = key)) l)) ∧ _
  generalize fidxD (fun d => decide (d.1 = key)) l = r at hcon ⊢
  clear hr
  go_enter Try.func32, Try.ntmps32
  go_wp2_with fail
  refine hcon.mono ?_
  rintro e w1 ⟨rfl, hb⟩
  go_wp2
  go_ret
  exact ⟨rfl, bstep (balloc (Below.refl _ w) _) hb⟩
end Go.Proofs.Ytplpeokmhomojaa
/- What slices.DeleteFunc answers of dependencies in a row of the caller's own. -/
namespace Go.Proofs.Ytplpeokmhomojaa
open Go.RowKit
set_option linter.unusedVariables false
set_option linter.unusedSimpArgs false

abbrev kept (p : De → Bool) (l : List De) : List De := l.filter fun d => !p d
theorem kept_all {p : De → Bool} {l : List De} (h : fidxD p l = -1) : kept p l = l := by
  unfold fidxD at h
  cases e : l.findIdx? p with
  | some i => rw [e] at h; simp at h
  | none =>
    rw [List.findIdx?_eq_none_iff] at e
    unfold kept
    rw [List.filter_eq_self]
    intro x hx
    simp [e x hx]
theorem fidxD_cases (p : De → Bool) (l : List De) : fidxD p l = -1 ∨ ∃ (i : Nat) (h : i < l.length), fidxD p l = i ∧ p l[i] = true ∧ kept p (l.take i) = l.take i := by
  cases e : l.findIdx? p with
  | none => left; simp [fidxD, e]
  | some i =>
    right
    have e' := e
    rw [List.findIdx?_eq_some_iff_getElem] at e
    obtain ⟨hi, hh, hn⟩ := e
    refine ⟨i, hi, by simp [fidxD, e'], hh, ?_⟩
    unfold kept
    rw [List.filter_eq_self]
    intro x hx
    obtain ⟨j, hj, rfl⟩ := List.getElem_of_mem hx
    simp at hj
    rw [List.getElem_take]
    simpa using hn j (by omega)
theorem kept_step (p : De → Bool) (l : List De) (j : Nat) (h : j < l.length) : kept p (l.take (j + 1)) = kept p (l.take j) ++ (if p l[j] then [] else [l[j]]) := by
  unfold kept
  rw [List.take_succ_eq_append_getElem h, List.filter_append]
  cases hp : p l[j] <;> simp [List.filter_cons, hp]
theorem take_set_snoc {L : List De} {i : Nat} (h : i < L.length) (d : De) : (L.set i d).take (i + 1) = L.take i ++ [d] := by
  rw [List.take_succ_eq_append_getElem (by simpa using h), List.take_set_of_le (Nat.le_refl _)]
  simp
theorem drop_set {L : List De} {i j : Nat} (h : i < j) (d : De) : (L.set i d).drop j = L.drop j := List.drop_set_of_lt h
theorem get_of_drop {L l : List De} {j : Nat} (hj : j < l.length) (hL : L.length = l.length) (h : L.drop j = l.drop j) : L[j]'(by omega) = l[j] := by
  have h1 := congrArg (fun x => x[0]?) h
  simp only [List.getElem?_drop, Nat.add_zero] at h1
  rw [List.getElem?_eq_getElem (by omega), List.getElem?_eq_getElem hj] at h1
  exact Option.some.inj h1
theorem drop_next {L l : List De} {j : Nat} (h : L.drop j = l.drop j) : L.drop (j + 1) = l.drop (j + 1) := by
  have e1 : L.drop (j + 1) = (L.drop j).drop 1 := by rw [List.drop_drop]
  have e2 : l.drop (j + 1) = (l.drop j).drop 1 := by rw [List.drop_drop]
  rw [e1, e2, h]

set_option maxRecDepth 100000 in
set_option maxHeartbeats 3200000 in
theorem delFunc_any (g : Nat) (lb : Array Value) (eg : ∀ args w, (callFunc g args).run Try.prog w = .ok (.enter g args) w) (p : De → Bool) (v : Value) (base : Nat) (l : List De) (w : World) (hl : l.length ≤ 1000000) (ho : OwnD w base v l) (hbs : base ≤ w.heap.size) (hp : PredD g lb p l base w) :
    Calls Try.prog 40 #[v, .func (.func g) #[] lb] w fun e w' => ∃ v', e = .returned v' ∧ OwnD w' base v' (kept p l) ∧ Below base w w' := by
  obtain ⟨a, cap, rfl⟩ := ho.shape
  have hcon := idxFunc_any g lb eg p a cap base l w hl (by obtain ⟨a', c', e, _, _, _, hr⟩ := DepAt.of_own ho; cases e; exact hr) hbs hp
  rcases fidxD_cases p l with hf | ⟨i0, hi0, hf, hpi, hk0⟩
  · rw [hf] at hcon
    have HK := Lib.hid (kept_all hf)
    have HO := Lib.hid ho
    clear ho hp hf
    go_enter Try.func40, Try.ntmps40
    go_wp2_with (go_at_call 34; refine hcon.mono ?_; rintro e w1 ⟨rfl, hb⟩)
    go_ret
    exact ⟨_, rfl, by rw [HK.out]; exact HO.out.below hb, hb.mono hbs⟩
  · rw [hf] at hcon
    obtain ⟨gg, rfl⟩ : ∃ gg, a = some ⟨gg, 0, none⟩ := by
      rcases ho.2 with ⟨e, h0⟩ | ⟨gg, cap', cur, e, _⟩
      · omega
      · cases e; exact ⟨gg, rfl⟩
    obtain ⟨_, hcl, hcm⟩ := ho.cap
    obtain ⟨hgb, hgl⟩ := ho.blk
    unfold maxLen at hcm
    have HO := Lib.hid ho
    have HP := Lib.hid hp
    have HK0 := Lib.hid hk0
    have HPI := Lib.hid hpi
    clear ho hp hf hk0 hpi
    have hi1 : ((i0 : Int) == -1) = false := by simp
    go_enter Try.func40, Try.ntmps40
    go_wp2_with (go_at_call 34; refine hcon.mono ?_; rintro e w1 ⟨rfl, hb⟩)
    have HB1 := Lib.hid hb
    have HO1 := Lib.hid (HO.out.below hb)
    clear hb
    go_loopw [5, 6] (fun s5 s6 wr => ∃ (i j : Nat) (L : List De), i < j ∧ j ≤ l.length ∧ s5 = .int .i64 i ∧ s6 = .int .i64 j ∧ L.length = l.length ∧ OwnD wr base (.slice (some ⟨gg, 0, none⟩) L.length cap) L ∧ i = (kept p (l.take j)).length ∧ L.take i = kept p (l.take j) ∧ L.drop j = l.drop j ∧ Below base w wr) (fun _ s6 _ => l.length - (intOf s6).toNat)
    case atStart => 
      have e : kept p (l.take (i0 + 1)) = l.take i0 := by rw [kept_step p l i0 hi0, HK0.out, HPI.out]; simp
      refine ⟨i0, i0 + 1, l, by omega, by omega, rfl, by go_num, rfl, HO1.out, by rw [e]; simp; omega, by rw [e], rfl, HB1.out.mono hbs⟩
    case round =>
      obtain ⟨i, j, L, hij, hj, rfl, rfl, hLl, hoL, hi, hkt, hkd, hbel⟩ := hrel
      have HL := Lib.hid hLl
      have HOL := Lib.hid hoL
      have HI := Lib.hid hi
      have HT := Lib.hid hkt
      have HD := Lib.hid hkd
      have hgr : gg < wr.heap.size := (hoL.blk).2
      have hwb : base ≤ wr.heap.size := by have := hbel.size; omega
      clear hoL hi hkt hkd hLl
      by_cases hlt : j < l.length
      · have hjL : j < L.length := by rw [HL.out]; exact hlt
        obtain ⟨c0, c1, c2⟩ := HOL.out.at j hjL
        have hcall := HP.out (wr.alloc (.cells #[.string l[j].1, .int .i64 l[j].2.1, .int .i64 l[j].2.2] 26)) l[j] (List.getElem_mem hlt) (hbel.alloc hwb _)
        rw [get_of_drop hlt HL.out HD.out] at c0 c1 c2
        have HS := Lib.hid (kept_step p l j hlt)
        generalize l[j] = d at c0 c1 c2 hcall HS
        obtain ⟨x, y, z⟩ := d
        dsimp only [dv] at c0 c1 c2 hcall
        have hX := VarD.new wr x y z 26
        have HX := Lib.hid hX
        have hb1 : Below wr.heap.size wr (wr.alloc (.cells #[.string x, .int .i64 y, .int .i64 z] 26)) := balloc (Below.refl _ _) _
        clear hX
        have hjl : (j : Int) < (l.length : Int) := by omega
        cases hq : p (x, y, z) with
        | true =>
          rw [hq] at hcall
          rw [hq] at HS
          go_wp2_with (go_at_fn g; refine hcall.mono ?_; rintro e w2 ⟨rfl, hb2⟩)
          go_roundw
          case rel => exact ⟨i, j + 1, L, by omega, by omega, rfl, by go_num, HL.out, HOL.out.below (bstep hb1 hb2), by rw [HS.out]; simpa using HI.out, by rw [HS.out]; simpa using HT.out, drop_next HD.out, hbel.trans ((bstep hb1 hb2).mono hwb)⟩
          case measure => simp [intOf]; omega
        | false =>
          rw [hq] at hcall
          rw [hq] at HS
          have hil : (i : Int) < (l.length : Int) := by omega
          go_wp2_with (go_at_fn g; refine hcall.mono ?_; rintro e w2 ⟨rfl, hb2⟩; obtain ⟨x0, x1, x2, _, _, _⟩ := HX.out.keep hb2; have HO2 := Lib.hid (HOL.out.below (bstep hb1 hb2)); have HB2 := Lib.hid (hbel.trans ((bstep hb1 hb2).mono hwb)); obtain ⟨q0, q1, q2⟩ := HO2.out.at i (by omega); have r0 := HO2.out.fr (i * 3); have r1 := HO2.out.fr (i * 3 + 1); have r2 := HO2.out.fr (i * 3 + 2))
          go_roundw
          case rel =>
            refine ⟨i + 1, j + 1, L.set i (x, y, z), by omega, by omega, by go_num, by go_num, by rw [List.length_set]; exact HL.out, by rw [List.length_set]; exact HO2.out.set i (by omega) x y z, ?_, ?_, ?_, below_set HB2.out hgb _ _ _⟩
            · rw [HS.out, List.length_append, ← HI.out]; simp
            · rw [HS.out, take_set_snoc (by omega), HT.out]; simp
            · rw [drop_set (by omega)]; exact drop_next HD.out
          case measure => simp [intOf]; omega
      · obtain rfl : j = l.length := by omega
        have hil : (i : Int) < (l.length : Int) := by omega
        obtain ⟨vs, hclr⟩ := run_clear_dep wr gg (i * 3) (l.length - i) (cap - i) (by omega)
          (fun q hq => by
            have h3 : (i * 3 + q) / 3 < L.length := by rw [HL.out]; omega
            obtain ⟨a0, a1, a2⟩ := HOL.out.at ((i * 3 + q) / 3) h3
            rcases (show i * 3 + q = (i * 3 + q) / 3 * 3 ∨ i * 3 + q = (i * 3 + q) / 3 * 3 + 1 ∨ i * 3 + q = (i * 3 + q) / 3 * 3 + 2 by omega) with e | e | e
            · rw [e, a0]; rfl
            · rw [e, a1]; rfl
            · rw [e, a2]; rfl)
          (fun q hq => HOL.out.fr _)
        go_wp2
        go_ret
        refine ⟨.slice (some ⟨gg, 0, none⟩) i cap, rfl, ?_, below_setCells hgb _ _ _ hbel⟩
        obtain ⟨xs', h1, h2⟩ := own_setCells vs wr (i * 3) _ HOL.out
        have h3 := own_cut h1 (k := i) (by rw [HL.out]; omega)
        have h4 := HT.out
        have h5 := HI.out
        rw [List.take_length] at h4 h5
        rw [h2, ← dV_take, h4] at h3
        unfold OwnD
        rw [← h5]
        exact h3
end Go.Proofs.Ytplpeokmhomojaa
