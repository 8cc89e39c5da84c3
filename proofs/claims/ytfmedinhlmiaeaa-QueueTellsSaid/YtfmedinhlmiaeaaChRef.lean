/- What the document's Same and Check answer of rows of versions. -/
import Derived.Test.YtfmedinhlmiaeaaGQ27
import Derived.Test.YtfmedinhlmiaeaaChCheck
namespace Go.Proofs.Ytfmedinhlmiaeaa
open Go.RowKit Go.Shelf
set_option linter.unusedVariables false
set_option linter.unusedSimpArgs false

/-- Are the rows the same? -/
def sameL : List Vw → List Vw → Bool
  | [], [] => true
  | x :: r, y :: s => sameW x.1 y.1 && sameL r s
  | _, _ => false
theorem sameL_self : ∀ l : List Vw, sameL l l = true
  | [] => rfl
  | x :: r => by unfold sameL; rw [sameW_self, sameL_self r]; rfl
theorem sameL_len : ∀ {l m : List Vw}, l.length ≠ m.length → sameL l m = false
  | [], [], h => absurd rfl h
  | [], _ :: _, _ => rfl
  | _ :: _, [], _ => rfl
  | x :: r, y :: s, h => by
    unfold sameL
    rw [sameL_len (l := r) (m := s) (fun e => h (by simp [e]))]
    simp
theorem sameL_step {l m : List Vw} {k : Nat} (h : k < l.length) (h' : k < m.length) : sameL (l.drop k) (m.drop k) = (sameW l[k].1 m[k].1 && sameL (l.drop (k + 1)) (m.drop (k + 1))) := by
  rw [List.drop_eq_getElem_cons h, List.drop_eq_getElem_cons h']
  rfl
theorem chk2_cons (K : ByteArray) (p : Option Vw) (v : Vw) (r : List Vw) : chk2 K p (v :: r) = (okW v.1 && decide (v.1.key = K) && (match p with | none => true | some u => Sm.less u.1.st v.1.st) && chk2 K (some v) r) := rfl
theorem chk2_step {K : ByteArray} {xs : List Vw} {k : Nat} (h : k < xs.length) : chk2 K (prevW xs k) (xs.drop k) = (okW xs[k].1 && decide (xs[k].1.key = K) && (match prevW xs k with | none => true | some u => Sm.less u.1.st xs[k].1.st) && chk2 K (prevW xs (k + 1)) (xs.drop (k + 1))) := by
  rw [List.drop_eq_getElem_cons h, chk2_cons]
  have : prevW xs (k + 1) = some xs[k] := by
    unfold prevW
    rw [if_neg (by omega), Nat.add_sub_cancel, List.getElem?_eq_getElem h]
  rw [this]
theorem hdK_pos {xs : List Vw} (h : 0 < xs.length) : hdK xs = xs[0].1.key := by
  cases xs with
  | nil => simp at h
  | cons y r => rfl

set_option maxRecDepth 100000 in
set_option maxHeartbeats 3200000 in
theorem rsame_any (v1 v2 : Value) (xs ys : List Vw) (w : World) (hl : xs.length ≤ 1000000) (hl2 : ys.length ≤ 1000000) (h1 : WRow w v1 xs) (h2 : WRow w v2 ys) :
    Calls Try.prog 21 #[v1, v2] w fun e w' => e = .returned (.bool (sameL xs ys)) ∧ Below w.heap.size w w' := by
  have HR1 := Lib.hid h1
  have HR2 := Lib.hid h2
  obtain ⟨a, cap, rfl, _, _, _⟩ := h1.shape
  obtain ⟨a2, cap2, rfl, _, _, _⟩ := h2.shape
  clear h1 h2
  by_cases hlen : xs.length = ys.length
  · have HZ : Hid (sameL xs ys = sameL (xs.drop 0) (ys.drop 0)) := Lib.hid rfl
    generalize sameL xs ys = R at HZ ⊢
    have HLEN := Lib.hid hlen
    have hli : ((xs.length : Int) != (ys.length : Int)) = false := by rw [hlen]; simp
    rw [← hlen]
    clear hli hl2
    go_enter Try.func21, Try.ntmps21
    clear hlen
    go_wp2
    go_loopw [5] (fun i wr => ∃ k : Nat, k ≤ xs.length ∧ i = .int .i64 k ∧ R = sameL (xs.drop k) (ys.drop k) ∧ Below w.heap.size w wr) (fun i _ => xs.length - (intOf i).toNat)
    case atStart => exact ⟨0, by omega, rfl, HZ.out, Below.refl _ _⟩
    case round =>
      obtain ⟨k, hk, rfl, hR, hbel⟩ := hrel
      have HB := Lib.hid hbel
      have HRK := Lib.hid hR
      clear hR
      by_cases hlt : k < xs.length
      · have hlt2 : k < ys.length := by rw [← HLEN.out]; exact hlt
        obtain ⟨b, off, rfl, hbl, hq, _⟩ := (HR1.out.below hbel).at k hlt
        obtain ⟨b', off', rfl, hbl', hq', _⟩ := (HR2.out.below hbel).at k hlt2
        have HST := Lib.hid (sameL_step hlt hlt2)
        have hsm := fun W (h : Below w.heap.size w W) => refWSameB_any xs[k].1 ys[k].1 (pw xs[k]) (pw ys[k]) W ((HR1.out.2 _ (List.getElem_mem hlt)).1.below h) ((HR2.out.2 _ (List.getElem_mem hlt2)).1.below h)
        generalize xs[k] = x at hq HST hsm
        generalize ys[k] = y at hq' HST hsm
        obtain ⟨c0, c1, c2, c3, c4, c5⟩ := hq
        obtain ⟨d0, d1, d2, d3, d4, d5⟩ := hq'
        obtain ⟨⟨key, val, gone, ⟨m, t⟩, past⟩, pa, pc⟩ := x
        obtain ⟨⟨key', val', gone', ⟨m', t'⟩, past'⟩, pa', pc'⟩ := y
        dsimp only [wvs, pw] at hsm c0 c1 c2 c3 c4 c5 d0 d1 d2 d3 d4 d5
        generalize sameW ⟨key, val, gone, (m, t), past⟩ ⟨key', val', gone', (m', t'), past'⟩ = r at hsm HST
        have hk2 : (k : Int) < (xs.length : Int) := by omega
        clear hbl hbl' hbel
        go_upto_region 6 with fail
        have g0 : (wr.drew.cell? ⟨b, off + k * 6, none⟩ = some (.string key) ∧ wr.drew.cell? ⟨b, off + k * 6 + 1, none⟩ = some (.string val) ∧ wr.drew.cell? ⟨b, off + k * 6 + 2, none⟩ = some (.bool gone) ∧ wr.drew.cell? ⟨b, off + k * 6 + 3, none⟩ = some (.int .i64 m) ∧ wr.drew.cell? ⟨b, off + k * 6 + 4, none⟩ = some (.int .i64 t) ∧ wr.drew.cell? ⟨b, off + k * 6 + 5, none⟩ = some (.slice pa past.length pc)) ∧ (wr.drew.cell? ⟨b', off' + k * 6, none⟩ = some (.string key') ∧ wr.drew.cell? ⟨b', off' + k * 6 + 1, none⟩ = some (.string val') ∧ wr.drew.cell? ⟨b', off' + k * 6 + 2, none⟩ = some (.bool gone') ∧ wr.drew.cell? ⟨b', off' + k * 6 + 3, none⟩ = some (.int .i64 m') ∧ wr.drew.cell? ⟨b', off' + k * 6 + 4, none⟩ = some (.int .i64 t') ∧ wr.drew.cell? ⟨b', off' + k * 6 + 5, none⟩ = some (.slice pa' past'.length pc')) := ⟨⟨c0, c1, c2, c3, c4, c5⟩, d0, d1, d2, d3, d4, d5⟩
        clear c0 c1 c2 c3 c4 c5 d0 d1 d2 d3 d4 d5
        refine wp_region_held_drew (S := fun w' => (w'.cell? ⟨b, off + k * 6, none⟩ = some (.string key) ∧ w'.cell? ⟨b, off + k * 6 + 1, none⟩ = some (.string val) ∧ w'.cell? ⟨b, off + k * 6 + 2, none⟩ = some (.bool gone) ∧ w'.cell? ⟨b, off + k * 6 + 3, none⟩ = some (.int .i64 m) ∧ w'.cell? ⟨b, off + k * 6 + 4, none⟩ = some (.int .i64 t) ∧ w'.cell? ⟨b, off + k * 6 + 5, none⟩ = some (.slice pa past.length pc)) ∧ (w'.cell? ⟨b', off' + k * 6, none⟩ = some (.string key') ∧ w'.cell? ⟨b', off' + k * 6 + 1, none⟩ = some (.string val') ∧ w'.cell? ⟨b', off' + k * 6 + 2, none⟩ = some (.bool gone') ∧ w'.cell? ⟨b', off' + k * 6 + 3, none⟩ = some (.int .i64 m') ∧ w'.cell? ⟨b', off' + k * 6 + 4, none⟩ = some (.int .i64 t') ∧ w'.cell? ⟨b', off' + k * 6 + 5, none⟩ = some (.slice pa' past'.length pc'))) (by kernel_rfl) (g0) (fun hHeld => ?_)
        refine wpAnyH_take (i := 0) (v := ?va0) rfl (by kernel_rfl) (by kernel_rfl) (by kernel_rfl) (fun _ _ _ h => h) (Or.inl ⟨by rfl, ?ya0⟩) (by assumption) ?ra0
        case ya0 => (intro w hSw; (try dsimp only at hSw); go_simp; try with_reducible rfl)
        try simp only [Act.put, List.setIfInBounds_toArray, List.set_cons_zero, List.set_cons_succ, List.getElem_toArray, List.getElem_cons_zero, List.getElem_cons_succ]
        refine wpAnyH_take (i := 1) (v := ?va1) rfl (by kernel_rfl) (by kernel_rfl) (by kernel_rfl) (fun _ _ _ h => h) (Or.inl ⟨by rfl, ?ya1⟩) (by assumption) ?ra1
        case ya1 => (intro w hSw; (try dsimp only at hSw); go_simp; try with_reducible rfl)
        try simp only [Act.put, List.setIfInBounds_toArray, List.set_cons_zero, List.set_cons_succ, List.getElem_toArray, List.getElem_cons_zero, List.getElem_cons_succ]
        refine wpAnyH_take (i := 2) (v := ?va2) rfl (by kernel_rfl) (by kernel_rfl) (by kernel_rfl) (fun _ _ _ h => h) (Or.inl ⟨by rfl, ?ya2⟩) (by assumption) ?ra2
        case ya2 => (intro w hSw; (try dsimp only at hSw); go_simp; try with_reducible rfl)
        try simp only [Act.put, List.setIfInBounds_toArray, List.set_cons_zero, List.set_cons_succ, List.getElem_toArray, List.getElem_cons_zero, List.getElem_cons_succ]
        refine wpAnyH_take (i := 3) (v := ?va3) rfl (by kernel_rfl) (by kernel_rfl) (by kernel_rfl) (fun _ _ _ h => h) (Or.inl ⟨by rfl, ?ya3⟩) (by assumption) ?ra3
        case ya3 => (intro w hSw; (try dsimp only at hSw); go_simp; try with_reducible rfl)
        try simp only [Act.put, List.setIfInBounds_toArray, List.set_cons_zero, List.set_cons_succ, List.getElem_toArray, List.getElem_cons_zero, List.getElem_cons_succ]
        refine wpAnyH_take (i := 4) (v := ?va4) rfl (by kernel_rfl) (by kernel_rfl) (by kernel_rfl) (fun _ _ _ h => h) (Or.inl ⟨by rfl, ?ya4⟩) (by assumption) ?ra4
        case ya4 => (intro w hSw; (try dsimp only at hSw); go_simp; try with_reducible rfl)
        try simp only [Act.put, List.setIfInBounds_toArray, List.set_cons_zero, List.set_cons_succ, List.getElem_toArray, List.getElem_cons_zero, List.getElem_cons_succ]
        refine wpAnyH_take (i := 5) (v := ?va5) rfl (by kernel_rfl) (by kernel_rfl) (by kernel_rfl) (fun _ _ _ h => h) (Or.inl ⟨by rfl, ?ya5⟩) (by assumption) ?ra5
        case ya5 => (intro w hSw; (try dsimp only at hSw); go_simp; try with_reducible rfl)
        try simp only [Act.put, List.setIfInBounds_toArray, List.set_cons_zero, List.set_cons_succ, List.getElem_toArray, List.getElem_cons_zero, List.getElem_cons_succ]
        refine wpAnyH_take (i := 6) (v := ?va6) rfl (by kernel_rfl) (by kernel_rfl) (by kernel_rfl) (fun _ _ _ h => h) (Or.inl ⟨by rfl, ?ya6⟩) (by assumption) ?ra6
        case ya6 => (intro w hSw; (try dsimp only at hSw); go_simp; try with_reducible rfl)
        try simp only [Act.put, List.setIfInBounds_toArray, List.set_cons_zero, List.set_cons_succ, List.getElem_toArray, List.getElem_cons_zero, List.getElem_cons_succ]
        refine wpAnyH_take (i := 7) (v := ?va7) rfl (by kernel_rfl) (by kernel_rfl) (by kernel_rfl) (fun _ _ _ h => h) (Or.inl ⟨by rfl, ?ya7⟩) (by assumption) ?ra7
        case ya7 => (intro w hSw; (try dsimp only at hSw); go_simp; try with_reducible rfl)
        try simp only [Act.put, List.setIfInBounds_toArray, List.set_cons_zero, List.set_cons_succ, List.getElem_toArray, List.getElem_cons_zero, List.getElem_cons_succ]
        refine wpAnyH_ready (rs := [8]) (by kernel_rfl) (by simp) ?_
        refine AllReadyH.cons rfl (fun K hK => ?_) AllReadyH.nil
        go_simp
        go_at_call 20
        refine (hsm _ (bstep HB.out ((Below.refl _ _).drew))).mono ?_
        rintro e w3 ⟨rfl, hb3⟩
        have g1 := And.intro (keepQo hb3 g0.1) (keepQo hb3 g0.2)
        go_wp2_with fail
        refine hK.out _ _ (g1) (fun hHeld => ?_)
        clear hK K
        try simp only [Act.put, List.setIfInBounds_toArray, List.set_cons_zero, List.set_cons_succ, List.getElem_toArray, List.getElem_cons_zero, List.getElem_cons_succ]
        refine wpAnyH_take (i := 9) (v := ?va9) rfl (by kernel_rfl) (by kernel_rfl) (by kernel_rfl) (fun _ _ _ h => h) (Or.inl ⟨by rfl, ?ya9⟩) (by assumption) ?ra9
        case ya9 => (intro w hSw; (try dsimp only at hSw); go_simp; try with_reducible rfl)
        try simp only [Act.put, List.setIfInBounds_toArray, List.set_cons_zero, List.set_cons_succ, List.getElem_toArray, List.getElem_cons_zero, List.getElem_cons_succ]
        refine wpAnyH_done (by kernel_rfl) ?_ _
        have hb4 : Below wr.heap.size wr w3 := ((Below.refl _ wr).drew).trans hb3
        cases r with
        | false =>
          have hRf : R = false := by rw [HRK.out, HST.out]; rfl
          subst hRf
          go_wp2
          go_ret
          exact ⟨rfl, bstep HB.out hb4⟩
        | true =>
          have HRF : Hid (R = sameL (xs.drop (k + 1)) (ys.drop (k + 1))) := Lib.hid (by rw [HRK.out, HST.out]; rfl)
          go_wp2
          go_roundw
          case rel => exact ⟨k + 1, by omega, by go_num, HRF.out, bstep HB.out hb4⟩
          case measure => simp [intOf]; omega
      · obtain rfl : k = xs.length := by omega
        have hRt : R = true := by rw [HRK.out, List.drop_of_length_le (Nat.le_refl _), List.drop_of_length_le (by rw [HLEN.out]; exact Nat.le_refl _)]; rfl
        subst hRt
        go_wp2
        go_ret
        exact ⟨rfl, HB.out⟩
  · rw [sameL_len hlen]
    have hne : ¬ (xs.length : Int) = (ys.length : Int) := by omega
    go_enter Try.func21, Try.ntmps21
    go_wp2
    go_ret
    exact ⟨ret_bool (by simp_all), Below.refl _ _⟩

theorem keepK2 {W w1 : World} {b o b' o' : Nat} {x y : Value} (hb : Below W.heap.size W w1) (h : W.cell? ⟨b, o, none⟩ = some x ∧ W.cell? ⟨b', o', none⟩ = some y) : w1.cell? ⟨b, o, none⟩ = some x ∧ w1.cell? ⟨b', o', none⟩ = some y := ⟨kc hb h.1, kc hb h.2⟩

end Go.Proofs.Ytfmedinhlmiaeaa
