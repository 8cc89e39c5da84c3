/- Texts of this proof, one behind the other: NearIndex, NearFound, PastMerge, NearPasts, PastRefCov. -/
import Derived.Test.YtfnfpanmbmkhmaaGN59
import Derived.Deep.RegionHeld3
/- What nearest.index answers. -/
namespace Go.Proofs.Ytfnfpanmbmkhmaa
open Go.RowKit Go.Shelf Go.Maps
set_option linter.unusedVariables false
set_option linter.unusedSimpArgs false
attribute [local go_sem] Oper.semAt_some

/-- What was handed to rounds, the last one first. -/
def idxS (pre : List BackVA) : List Vp := pre.reverse.map fun x => x.1.2
theorem idxS_snoc (pre : List BackVA) (x : BackVA) : idxS (pre ++ [x]) = x.1.2 :: idxS pre := by simp [idxS]
theorem idxS_drop (l : List Vp) (hz : KeysV l) : ∀ k, k ≤ l.length → idxS (bkVL l hz k) = l.drop (l.length - k)
  | 0, _ => by simp [bkVL, idxS]
  | k + 1, h => by
    have e : l.drop (l.length - (k + 1)) = l[l.length - 1 - k]'(by omega) :: l.drop (l.length - k) := by
      rw [show l.length - (k + 1) = l.length - 1 - k by omega, List.drop_eq_getElem_cons (by omega), show l.length - 1 - k + 1 = l.length - k by omega]
    rw [bkVL_succ l hz k (by omega), idxS_snoc, idxS_drop l hz k (by omega), e]
    rfl
theorem idxS_all (l : List Vp) (hz : KeysV l) : idxS (bkVL l hz l.length) = l := by
  rw [idxS_drop l hz l.length (Nat.le_refl _), Nat.sub_self, List.drop_zero]
/-- How many names there are. -/
def cntP : List Vp → Nat
  | [] => 0
  | x :: r => if (fndP r x.1.dep).isSome then cntP r else cntP r + 1
theorem cntP_le : ∀ l : List Vp, cntP l ≤ l.length
  | [] => by simp [cntP]
  | x :: r => by
    have := cntP_le r
    unfold cntP
    split <;> simp <;> omega
def idxG (l : List Vp) (d : De) : Option Value := (fndP l d).map vv
theorem fndP_cons (x : Vp) (l : List Vp) (d : De) : fndP (x :: l) d = if d = x.1.dep then some x else fndP l d := by
  unfold fndP
  rw [List.find?_cons]
  by_cases h : d = x.1.dep
  · rw [if_pos h, h]
    simp [Ve.dep]
  · rw [if_neg h]
    have : decide (x.1.key = d.1 ∧ x.1.st = d.2) = false := by
      rw [decide_eq_false_iff_not]
      exact fun ⟨h1, h2⟩ => h (Prod.ext h1.symm h2.symm)
    rw [this]
/-- The map of the versions of l by their names. -/
def IdxM (w : World) (b : Nat) (l : List Vp) : Prop := MapD w b (cntP l) (idxG l)
theorem IdxM.below {w w' : World} {b : Nat} {l : List Vp} (h : IdxM w b l) (hb : Below w.heap.size w w') : IdxM w' b l := MapD.below h hb
theorem IdxM.kept {w w' : World} {b : Nat} {l : List Vp} (h : IdxM w b l) (hb : w'.heap[b]? = w.heap[b]?) : IdxM w' b l := MapD.block h hb

theorem IdxM.cons {w : World} {b : Nat} {l : List Vp} {x : Vp} (h : MapD w b (if (idxG l x.1.dep).isSome then cntP l else cntP l + 1) (fun d => if d = x.1.dep then some (vv x) else idxG l d)) : IdxM w b (x :: l) := by
  unfold IdxM
  have e : cntP (x :: l) = if (idxG l x.1.dep).isSome then cntP l else cntP l + 1 := by
    rw [cntP]
    unfold idxG
    rw [Option.isSome_map]
  rw [e]
  refine h.congr fun d _ => ?_
  unfold idxG
  rw [fndP_cons]
  by_cases h : d = x.1.dep
  · rw [if_pos h, if_pos h]; rfl
  · rw [if_neg h, if_neg h]
/-- Cells behind a call that only makes memory. -/
theorem keepV9 {W w1 : World} {b b1 b2 : Nat} {x0 x1 x2 x3 x4 x5 y z : Value} (hb : Below W.heap.size W w1)
    (h : (W.cell? ⟨b, 0, none⟩ = some x0 ∧ W.cell? ⟨b, 1, none⟩ = some x1 ∧ W.cell? ⟨b, 2, none⟩ = some x2 ∧ W.cell? ⟨b, 3, none⟩ = some x3 ∧ W.cell? ⟨b, 4, none⟩ = some x4 ∧ W.cell? ⟨b, 5, none⟩ = some x5) ∧ W.cell? ⟨b1, 0, none⟩ = some y ∧ W.cell? ⟨b2, 0, none⟩ = some z) :
    (w1.cell? ⟨b, 0, none⟩ = some x0 ∧ w1.cell? ⟨b, 1, none⟩ = some x1 ∧ w1.cell? ⟨b, 2, none⟩ = some x2 ∧ w1.cell? ⟨b, 3, none⟩ = some x3 ∧ w1.cell? ⟨b, 4, none⟩ = some x4 ∧ w1.cell? ⟨b, 5, none⟩ = some x5) ∧ w1.cell? ⟨b1, 0, none⟩ = some y ∧ w1.cell? ⟨b2, 0, none⟩ = some z :=
  ⟨⟨kc hb h.1.1, kc hb h.1.2.1, kc hb h.1.2.2.1, kc hb h.1.2.2.2.1, kc hb h.1.2.2.2.2.1, kc hb h.1.2.2.2.2.2⟩, kc hb h.2.1, kc hb h.2.2⟩
theorem turned_cell {w w' : World} {m b o : Nat} {v : Value} (h : w.mapTurned w' m) (hne : b ≠ m) (hc : w.cell? ⟨b, o, none⟩ = some v) : w'.cell? ⟨b, o, none⟩ = some v := by
  rw [World.cell?_of_block (turned_block h b hne)]; exact hc

set_option maxRecDepth 100000 in
set_option maxHeartbeats 4000000 in
theorem index_any (v : Value) (l : List Vp) (w : World) (hl : l.length ≤ 1000000) (hz : KeysV l) (hr : VRow w v l) :
    Calls Try.prog 31 #[v, .func (.func 32) #[] #[]] w fun e w' => ∃ b, e = .returned (.map (some b)) ∧ w.heap.size ≤ b ∧ IdxM w' b l ∧ Below w.heap.size w w' := by
  obtain ⟨⟨a, cap, rfl, _, _, _, hr⟩, _⟩ := hr
  have hmm : ∀ (n : Int) (w : World), (Instr.makeMap 59 (some (.int .i64 n))).run Try.prog w = .ok (.map (some w.heap.size)) (w.alloc (.map #[] 0)) := fun n w => by
    simp [Instr.makeMap, run_underlying Try.underlying59, asInt, asIntOf]
  refine (callsIn_wide (n := 5)).1 ?_
  have t20 : Fence.wide.fn 31 := trivial
  have t49 : Fence.wide.fn 45 := trivial
  have t81 : Fence.wide.fn 63 := trivial
  refine callsIn_of_wp_marks Try.func31 rfl t20 ?_ rfl
  simp only [Try.ntmps31, List.size_toArray, List.length_cons, List.length_nil, Nat.reduceAdd, Nat.reduceSub, Array.replicate_succ, Array.replicate_zero, List.push_toArray, List.append_toArray, List.nil_append, List.cons_append]
  gi_wp2_with (gi_at_call 45; refine (backwardV_in Fence.wide 4 t49 rfl _ _ _ _).mono ?_; rintro e w' ⟨rfl, rfl⟩)
  obtain ⟨W0, hW0⟩ : ∃ W0, (((w.alloc (Obj.cells #[Value.func (.func 32) #[] #[]] 61)).alloc (Obj.map #[] 0)).alloc (Obj.cells #[Value.map (some (w.heap.size + 1))] 59)).alloc (Obj.cells #[Value.slice a l.length cap] 31) = W0 := ⟨_, rfl⟩
  have hsz : W0.heap.size = w.heap.size + 4 := by rw [← hW0]; simp
  have hB0 : Below w.heap.size w W0 := by rw [← hW0]; exact balloc (balloc (balloc (balloc (Below.refl _ w) _) _) _) _
  have s1 : (w.alloc (Obj.cells #[Value.func (.func 32) #[] #[]] 61)).heap.size = w.heap.size + 1 := by simp
  have s2 : ((w.alloc (Obj.cells #[Value.func (.func 32) #[] #[]] 61)).alloc (Obj.map #[] 0)).heap.size = w.heap.size + 1 + 1 := by simp
  have s3 : (((w.alloc (Obj.cells #[Value.func (.func 32) #[] #[]] 61)).alloc (Obj.map #[] 0)).alloc (Obj.cells #[Value.map (some (w.heap.size + 1))] 59)).heap.size = w.heap.size + 1 + 1 + 1 := by simp
  have bF : W0.cell? ⟨w.heap.size, 0, none⟩ = some (.func (.func 32) #[] #[]) := by
    rw [← hW0, World.cell?_alloc_past _ _ _ (by rw [s3]; omega), World.cell?_alloc_past _ _ _ (by rw [s2]; omega), World.cell?_alloc_past _ _ _ (by rw [s1]; omega), World.cell?_alloc_at _ _ _ _ rfl]
    rfl
  have bH : W0.cell? ⟨w.heap.size + 1 + 1, 0, none⟩ = some (.map (some (w.heap.size + 1))) := by
    rw [← hW0, World.cell?_alloc_past _ _ _ (by rw [s3]; omega), World.cell?_alloc_at _ _ _ _ s2.symm]
    rfl
  have bS : W0.cell? ⟨w.heap.size + 1 + 1 + 1, 0, none⟩ = some (.slice a l.length cap) := by
    rw [← hW0, World.cell?_alloc_at _ _ _ _ s3.symm]
    rfl
  have ho0 : IdxM W0 (w.heap.size + 1) [] := by
    have h0 : MapD ((w.alloc (Obj.cells #[Value.func (.func 32) #[] #[]] 61)).alloc (Obj.map #[] 0)) (w.heap.size + 1) 0 (fun _ => none) := by
      have := MapD.made (w.alloc (Obj.cells #[Value.func (.func 32) #[] #[]] 61))
      rw [s1] at this
      exact this
    rw [← hW0]
    exact (h0.below (balloc (Below.refl _ _) _)).below (balloc (Below.refl _ _) _)
  rw [hW0]
  clear hW0 s1 s2 s3
  refine wpIn_rangeFunc_ownH rfl (by omega) (gf := 63) (lb := #[.pointer (some ⟨w.heap.size + 1 + 1 + 1, 0, none⟩)]) rfl t81 (enters_of Try.func63 (by kernel_rfl) rfl)
    (backV_stops Fence.wide (5 - 1) t81 rfl (by omega) (w.heap.size + 1 + 1 + 1) W0.heap.size (w.heap.size + 1) cap a l hz hl W0 (by omega) (by omega) (by omega) bS (fun b off e h => by
      obtain ⟨b', off', e', hlt, _⟩ := hr 0 h
      rw [e] at e'
      cases e'
      omega) (hr.below hB0)) (fun h k => h.trans k) (fun W lq o o' h1 h2 h3 h4 => fun k hk _ => (belowK_b (w := W0) (Nat.le_refl _) W lq o o' h1 h2 h3 h4).block k hk) (Below.refl _ _) (fun _ => rfl)
    (fun pre W => (((W.cell? ⟨w.heap.size, 0, none⟩ = some (.func (.func 32) #[] #[]) ∧ W.cell? ⟨w.heap.size + 1 + 1, 0, none⟩ = some (.map (some (w.heap.size + 1)))) ∧ IdxM W (w.heap.size + 1) (idxS pre)) ∧ W0.heap.size ≤ W.heap.size) ∧ Below w.heap.size w W)
    (fun _ _ _ => False)
    (OwnFrom.and (fun s A B row hs hg hr => ⟨⟨⟨cell_kept hs.1.1.1 hg (fun r e => (hr r e).2), cell_kept hs.1.1.2 hg (fun r e => (hr r e).2)⟩, hs.1.2.kept (hg.block _ hs.1.2.lt (fun e => by have := (hr _ e.symm).1; omega))⟩, Nat.le_trans hs.2 hg.size⟩) (ownFrom_below (Nat.le_refl _) (by omega)))
    (fun _ _ _ _ _ hs _ _ => hs)
    ⟨⟨⟨⟨bF, bH⟩, ho0⟩, Nat.le_refl _⟩, hB0⟩
    (fun x a' W => ∃ Bx, W0.heap.size ≤ Bx ∧ VerP W Bx 0 x.1.2.1 (pu x.1.2) ∧ a' = { tmps := #[.slice a l.length cap, .func (.func 32) #[] #[], undef, .pointer (some ⟨w.heap.size, 0, none⟩), .map none, .pointer (some ⟨w.heap.size + 1 + 1, 0, none⟩), undef, .pointer (some ⟨Bx, 0, none⟩), .slice a l.length cap, .int .i64 l.length, .map (some (w.heap.size + 1)), .slice a l.length cap, .func (.func 63) #[] #[.pointer (some ⟨w.heap.size + 1 + 1 + 1, 0, none⟩)], .int .i64 x.1.1, vv x.1.2, undef, undef, undef, undef, undef, undef], defers := [] })
    (fun x a' _ X Y row hs hg hr => by
      obtain ⟨Bx, h1, ⟨k0, k1, k2, k3, k4, k5⟩, h3⟩ := hs
      exact ⟨Bx, h1, ⟨cell_kept k0 hg (fun r e => (hr r e).2), cell_kept k1 hg (fun r e => (hr r e).2), cell_kept k2 hg (fun r e => (hr r e).2), cell_kept k3 hg (fun r e => (hr r e).2), cell_kept k4 hg (fun r e => (hr r e).2), cell_kept k5 hg (fun r e => (hr r e).2)⟩, h3⟩)
    ?assign ?body ?done ?stop
  case assign =>
    rintro lp pre x W K ⟨⟨⟨hc, hown⟩, hsW⟩, hB⟩ hK
    have hV := (VarV.new W x.1.2 34).p
    obtain ⟨⟨xi, ⟨⟨key, val, gone, ⟨n1, s1⟩, past⟩, pa, pc⟩⟩, hx⟩ := x
    have hB1 : Below W.heap.size W (W.alloc (.cells #[.string key, .string val, .bool gone, .int .i64 n1, .int .i64 s1, .slice pa past.length pc] 34)) := balloc (Below.refl _ W) _
    dsimp only [vv, vcs, pu] at hK hV ⊢
    have HV := Lib.hid hV
    clear hV
    gi_wp2
    exact hK _ _ ((KeepsOthers.alloc _ _).from _) (fun k hk _ => Below.heap_alloc _ _ _ (by omega)) ⟨⟨⟨⟨kc hB1 hc.1, kc hB1 hc.2⟩, hown.below hB1⟩, by simp; omega⟩, hB.alloc hB.size _⟩ ⟨W.heap.size, hsW, HV.out, rfl⟩
  case body =>
    rintro lp pre x a' W hlp ⟨r, hr'⟩ ⟨⟨⟨⟨hc1, hc2⟩, hown⟩, hsW⟩, hB⟩ ⟨Bx, hBx, hV, rfl⟩ hlt
    have hnm := fun W' => nameOf_any x.1.2 W'
    have hkey := x.2
    have hcle := cntP_le (idxS pre)
    have hpl : (idxS pre).length = pre.length := by simp [idxS]
    have HOWN := Lib.hid hown
    clear hown
    obtain ⟨⟨xi, ⟨⟨key, val, gone, ⟨n1, s1⟩, past⟩, pa, pc⟩⟩, hx⟩ := x
    obtain ⟨c0, c1, c2, c3, c4, c5⟩ := hV
    dsimp only [vv, vcs, pu, Nat.zero_add] at hnm c0 c1 c2 c3 c4 c5 ⊢
    have g0 : (W.cell? ⟨Bx, 0, none⟩ = some (.string key) ∧ W.cell? ⟨Bx, 1, none⟩ = some (.string val) ∧ W.cell? ⟨Bx, 2, none⟩ = some (.bool gone) ∧ W.cell? ⟨Bx, 3, none⟩ = some (.int .i64 n1) ∧ W.cell? ⟨Bx, 4, none⟩ = some (.int .i64 s1) ∧ W.cell? ⟨Bx, 5, none⟩ = some (.slice pa past.length pc)) ∧ W.cell? ⟨w.heap.size, 0, none⟩ = some (.func (.func 32) #[] #[]) ∧ W.cell? ⟨w.heap.size + 1 + 1, 0, none⟩ = some (.map (some (w.heap.size + 1))) := ⟨⟨c0, c1, c2, c3, c4, c5⟩, hc1, hc2⟩
    clear c0 c1 c2 c3 c4 c5 hc1 hc2
    gi_wp2_with fail
    refine wpIn_region_round (S := fun w' => (w'.cell? ⟨Bx, 0, none⟩ = some (.string key) ∧ w'.cell? ⟨Bx, 1, none⟩ = some (.string val) ∧ w'.cell? ⟨Bx, 2, none⟩ = some (.bool gone) ∧ w'.cell? ⟨Bx, 3, none⟩ = some (.int .i64 n1) ∧ w'.cell? ⟨Bx, 4, none⟩ = some (.int .i64 s1) ∧ w'.cell? ⟨Bx, 5, none⟩ = some (.slice pa past.length pc)) ∧ w'.cell? ⟨w.heap.size, 0, none⟩ = some (.func (.func 32) #[] #[]) ∧ w'.cell? ⟨w.heap.size + 1 + 1, 0, none⟩ = some (.map (some (w.heap.size + 1)))) (by kernel_rfl) ?noOut (by kernel_rfl) g0 (fun hHeld => ?_)
    case noOut => (rintro ⟨_, _, h⟩; exact h)
    refine wpAnyH_take (i := 0) (v := ?vx0) rfl (by kernel_rfl) (by kernel_rfl) (by kernel_rfl) (fun _ _ _ h => h) (Or.inl ⟨by rfl, ?yx0⟩) (by assumption) ?rx0
    case yx0 => (intro w hSw; (try dsimp only at hSw); go_simp; try with_reducible rfl)
    try simp only [Act.put, List.setIfInBounds_toArray, List.set_cons_zero, List.set_cons_succ, List.getElem_toArray, List.getElem_cons_zero, List.getElem_cons_succ]
    refine wpAnyH_take (i := 1) (v := ?vx1) rfl (by kernel_rfl) (by kernel_rfl) (by kernel_rfl) (fun _ _ _ h => h) (Or.inl ⟨by rfl, ?yx1⟩) (by assumption) ?rx1
    case yx1 => (intro w hSw; (try dsimp only at hSw); go_simp; try with_reducible rfl)
    try simp only [Act.put, List.setIfInBounds_toArray, List.set_cons_zero, List.set_cons_succ, List.getElem_toArray, List.getElem_cons_zero, List.getElem_cons_succ]
    refine wpAnyH_take (i := 2) (v := ?vx2) rfl (by kernel_rfl) (by kernel_rfl) (by kernel_rfl) (fun _ _ _ h => h) (Or.inl ⟨by rfl, ?yx2⟩) (by assumption) ?rx2
    case yx2 => (intro w hSw; (try dsimp only at hSw); go_simp; try with_reducible rfl)
    try simp only [Act.put, List.setIfInBounds_toArray, List.set_cons_zero, List.set_cons_succ, List.getElem_toArray, List.getElem_cons_zero, List.getElem_cons_succ]
    refine wpAnyH_take (i := 4) (v := ?vx4) rfl (by kernel_rfl) (by kernel_rfl) (by kernel_rfl) (fun _ _ _ h => h) (Or.inl ⟨by rfl, ?yx4⟩) (by assumption) ?rx4
    case yx4 => (intro w hSw; (try dsimp only at hSw); go_simp; try with_reducible rfl)
    try simp only [Act.put, List.setIfInBounds_toArray, List.set_cons_zero, List.set_cons_succ, List.getElem_toArray, List.getElem_cons_zero, List.getElem_cons_succ]
    refine wpAnyH_ready (rs := [3]) (by kernel_rfl) (by simp) ?_
    refine AllReadyH.cons rfl (fun K hK => ?_) AllReadyH.nil
    go_simp
    go_at_call 32
    refine (hnm _).mono ?_
    rintro e wa ⟨rfl, ha⟩
    have g1 := keepV9 ha g0
    go_wp2_with fail
    refine hK.out _ _ (g1) (fun hHeld => ?_)
    clear hK K
    try simp only [Act.put, List.setIfInBounds_toArray, List.set_cons_zero, List.set_cons_succ, List.getElem_toArray, List.getElem_cons_zero, List.getElem_cons_succ]
    have hba : Below W.heap.size W wa := bstep ((Below.refl _ W).drew) ha
    obtain ⟨w2, hrun, hm2, ht2⟩ := (HOWN.out.below hba).store Try.underlying59 (by unfold maxLen; omega) (x := key) (y := n1) (s := s1) hkey (.agg #[.string key, .string val, .bool gone, .int .i64 n1, .int .i64 s1, .slice pa past.length pc])
    obtain ⟨⟨q0, q1, q2, q3, q4, q5⟩, q6, q7⟩ := g1
    have hne : Bx ≠ w.heap.size + 1 := by omega
    refine wpAnyH_ready (rs := [5]) (by kernel_rfl) (by simp) ?_
    refine AllReadyH.cons rfl (fun K hK => ?_) AllReadyH.nil
    go_simp
    refine hK.out _ _ ⟨⟨turned_cell ht2 hne q0, turned_cell ht2 hne q1, turned_cell ht2 hne q2, turned_cell ht2 hne q3, turned_cell ht2 hne q4, turned_cell ht2 hne q5⟩, turned_cell ht2 (by omega) q6, turned_cell ht2 (by omega) q7⟩ (fun hHeld => ?_)
    clear hK K
    refine wpAnyH_done (by kernel_rfl) ?_ _
    have hblk : ∀ i, i < W.heap.size → i ≠ w.heap.size + 1 → w2.heap[i]? = W.heap[i]? := fun i h1 h2 => (turned_block ht2 i h2).trans (hba.block i h1)
    have hs2 := turned_size ht2
    have hs1 := hba.size
    refine ⟨⟨by omega, fun i o h1 h2 h3 => (hblk i (Array.getElem?_eq_some_iff.1 h2).1 (by omega)).trans h2⟩, fun i h1 h2 => hblk i (by omega) h2, ⟨⟨⟨turned_cell ht2 (by omega) q6, turned_cell ht2 (by omega) q7⟩, ?_⟩, by omega⟩, hB.trans ((hba.mono hB.size).trans (turned_below ht2 (by omega) (by omega)))⟩
    rw [idxS_snoc]
    exact IdxM.cons (x := (⟨key, val, gone, (n1, s1), past⟩, pa, pc)) hm2
  case done =>
    rintro D ys W hD rfl ⟨⟨⟨⟨hc1, hc2⟩, hown⟩, hsW⟩, hB⟩ hK
    have hDl : D < W.heap.size := (Array.getElem?_eq_some_iff.1 hK).1
    rw [idxS_all] at hown
    gi_wp2
    refine ⟨by simp, .inl ⟨_, _, rfl, run_takeDeferred hK, ?_⟩⟩
    exact ⟨_, results_tmp rfl _ _ _, w.heap.size + 1, rfl, by omega, hown.kept ((belowK_b (w := W0) (Nat.le_refl _) W D _ _ hD hK rfl rfl).block _ (by omega)), hB.trans (belowK_b (w := w) (Nat.le_refl _) W D _ _ (by omega) hK rfl rfl)⟩
  case stop =>
    rintro D c pre W _ _ h _
    exact h.elim
end Go.Proofs.Ytfnfpanmbmkhmaa
/- What nearest.found answers. -/
namespace Go.Proofs.Ytfnfpanmbmkhmaa
open Go.RowKit Go.Maps
set_option linter.unusedVariables false
set_option linter.unusedSimpArgs false

/-- What is found of each dependency. -/
def fndL (ds : List De) (xs : List Vp) : List Vp := ds.filterMap (fndP xs)
theorem fndL_take_some {ds : List De} {xs : List Vp} {k : Nat} (hk : k < ds.length) (x : Vp) (h : fndP xs ds[k] = some x) : fndL (ds.take (k + 1)) xs = fndL (ds.take k) xs ++ [x] := by
  unfold fndL
  rw [List.take_succ_eq_append_getElem hk, List.filterMap_append]
  simp [h]
theorem fndL_take_none {ds : List De} {xs : List Vp} {k : Nat} (hk : k < ds.length) (h : fndP xs ds[k] = none) : fndL (ds.take (k + 1)) xs = fndL (ds.take k) xs := by
  unfold fndL
  rw [List.take_succ_eq_append_getElem hk, List.filterMap_append]
  simp [h]
theorem fndL_len (ds : List De) (xs : List Vp) : (fndL ds xs).length ≤ ds.length := List.length_filterMap_le _ _
theorem nodup_take {ds : List De} (h : ds.Nodup) {k : Nat} (hk : k < ds.length) : ds[k] ∉ ds.take k := by
  intro hm
  obtain ⟨j, hj, e⟩ := List.getElem_of_mem hm
  rw [List.getElem_take] at e
  have hj' : j < k := by simp at hj; omega
  have := List.pairwise_iff_getElem.1 h j k (by omega) hk hj'
  exact this e

set_option maxRecDepth 100000 in
set_option maxHeartbeats 3200000 in
theorem found_any (v : Value) (ds : List De) (b : Nat) (xs : List Vp) (w : World) (hl : ds.length ≤ 100000) (hnd : ds.Nodup) (hkd : ∀ d ∈ ds, KeyD d) (hr : DepAt w v ds) (hm : IdxM w b xs) :
    Calls Try.prog 30 #[v, .map (some b)] w fun e w' => ∃ u, e = .returned u ∧ OwnR KV w' w.heap.size u (fndL ds xs) ∧ Below w.heap.size w w' := by
  obtain ⟨a, cap, rfl, _, _, _, hr⟩ := hr
  have hmm : ∀ (n : Int) (w : World), (Instr.makeMap 74 (some (.int .i64 n))).run Try.prog w = .ok (.map (some w.heap.size)) (w.alloc (.map #[] 0)) := fun n w => by
    simp [Instr.makeMap, run_underlying Try.underlying74, asInt, asIntOf]
  have hbk := hm.lt
  have HR := Lib.hid hr
  have HM := Lib.hid hm
  have HND := Lib.hid hnd
  have HKD := Lib.hid hkd
  clear hr hm hnd hkd
  go_enter Try.func30, Try.ntmps30
  go_wp2
  go_loopw [5, 16] (fun o i wr => ∃ k : Nat, k ≤ ds.length ∧ i = .int .i64 k ∧ OwnR KV wr (w.heap.size + 1) o (fndL (ds.take k) xs) ∧ (∃ n g, MapD wr w.heap.size n g ∧ n ≤ k ∧ ∀ d, d ∉ ds.take k → g d = none) ∧ w.heap.size + 1 ≤ wr.heap.size ∧ Below w.heap.size w wr) (fun _ i _ => ds.length - (intOf i).toNat)
  case atStart => exact ⟨0, by omega, rfl, OwnR.nil _ _ _, ⟨0, _, MapD.made w, by omega, fun _ _ => rfl⟩, by simp, balloc (Below.refl _ w) _⟩
  case round =>
    obtain ⟨k, hk, rfl, ho, ⟨n, g, hg, hnk, hgn⟩, hsz, hbel⟩ := hrel
    have hol : (fndL (ds.take k) xs).length ≤ 100000 := by have := fndL_len (ds.take k) xs; have h2 := List.length_take_le k ds; omega
    have HO := Lib.hid ho
    have HG := Lib.hid hg
    have HGN := Lib.hid hgn
    obtain ⟨sa, sc, rfl⟩ := ho.shape
    clear ho hg hgn
    by_cases hlt : k < ds.length
    · obtain ⟨b', off, rfl, hbl, c0, c1, c2⟩ := HR.out.below hbel k hlt
      have HKD1 := Lib.hid (HKD.out _ (List.getElem_mem hlt))
      have HGN1 := Lib.hid (HGN.out _ (nodup_take HND.out hlt))
      have HT1 := Lib.hid (@fndL_take_some ds xs k hlt)
      have HT2 := Lib.hid (@fndL_take_none ds xs k hlt)
      have HTK := Lib.hid (List.take_succ_eq_append_getElem hlt)
      generalize ds[k] = d at c0 c1 c2 HKD1 HGN1 HT1 HT2 HTK
      obtain ⟨x, y, z⟩ := d
      dsimp only at c0 c1 c2
      have hbD : Below wr.heap.size wr (wr.alloc (.cells #[.string x, .int .i64 y, .int .i64 z] 26)) := balloc (Below.refl _ wr) _
      have hL1 := ((HM.out.below hbel).below hbD).lookOk Try.underlying59 (Try.zeroValue34 _) HKD1.out
      have HVD := Lib.hid (VarD.new wr x y z 26)
      unfold idxG at hL1
      cases hf : fndP xs (x, y, z) with
      | none =>
        have HF := Lib.hid hf
        rw [hf] at hL1
        clear hf
        dsimp only [Option.map, Option.getD, Option.isSome] at hL1
        go_wp2
        go_roundw
        case rel => exact ⟨k + 1, by omega, by go_num, by rw [HT2.out HF.out]; exact HO.out.below (balloc (balloc (Below.refl _ _) _) _), ⟨n, g, HG.out.below (balloc (balloc (Below.refl _ _) _) _), by omega, fun d hd => HGN.out d (fun h => hd (by rw [HTK.out]; exact List.mem_append_left _ h))⟩, by simp; omega, balloc (balloc hbel _) _⟩
        case measure => simp [intOf]; omega
      | some r =>
        have HF := Lib.hid hf
        rw [hf] at hL1
        clear hf
        dsimp only [Option.map, Option.getD, Option.isSome] at hL1
        have hVV := VarV.new (wr.alloc (.cells #[.string x, .int .i64 y, .int .i64 z] 26)) r 34
        rw [show (wr.alloc (.cells #[.string x, .int .i64 y, .int .i64 z] 26)).heap.size = wr.heap.size + 1 by simp] at hVV
        have HVV := Lib.hid hVV
        clear hVV
        obtain ⟨⟨key, val, gone, ⟨n1, s1⟩, past⟩, pa, pc⟩ := r
        have hbV : Below wr.heap.size wr ((wr.alloc (.cells #[.string x, .int .i64 y, .int .i64 z] 26)).alloc (.cells #[.string key, .string val, .bool gone, .int .i64 n1, .int .i64 s1, .slice pa past.length pc] 34)) := balloc hbD _
        have hL2 := (HG.out.below hbV).look Try.underlying74 (Try.zeroValue3 _) HKD1.out
        rw [HGN1.out] at hL2
        dsimp only [vv, vcs, pu, Option.getD] at hL1 hL2
        have HVD2 := Lib.hid (HVD.out.keep (balloc (Below.refl _ _) (.cells #[.string key, .string val, .bool gone, .int .i64 n1, .int .i64 s1, .slice pa past.length pc] 34)))
        obtain ⟨d0, d1, d2, _, _, _⟩ := HVD2.out
        have HBV := Lib.hid hbV
        have HBD := Lib.hid hbD
        clear hbV hbD HVD
        go_wp2_with (first
          | (at_mapUpdate; refine wp_mapSetD rfl _ _ _ rfl Try.underlying74 rfl (HG.out.below HBV.out) (by unfold maxLen; omega) x y z (.int .i64 1) rfl rfl HKD1.out ?_; intro w1 hm1 ht1; obtain ⟨⟨e0, e1, e2, e3, e4, e5⟩, _⟩ := HVV.out.block (turned_block ht1 _ (by omega)); dsimp only [pu, Nat.zero_add] at e0 e1 e2 e3 e4 e5; have HM1 := Lib.hid hm1; have hbt := turned_below (base := w.heap.size) ht1 (Nat.le_refl _) (by have := HBV.out.size; omega); have HB1 := Lib.hid ((HBV.out.mono hbel.size).trans hbt); have HO1 := Lib.hid ((HO.out.below HBV.out).block (fun q e => turned_block ht1 q (fun e' => (HO.out.lo (show w.heap.size < w.heap.size + 1 by omega)) (by rw [e, e'])))); have hs1 : w.heap.size + 1 ≤ w1.heap.size := (by have := turned_size ht1; have h3 := HBV.out.size; omega); clear hm1 ht1 hbt)
          | (at_builtin; refine wp_pushR kv_ok (wr := w1) rfl _ _ rfl (w.heap.size + 1) (.slice sa (fndL (ds.take k) xs).length sc) (fndL (ds.take k) xs) (⟨key, val, gone, (n1, s1), past⟩, pa, pc) #[.string key, .string val, .bool gone, .int .i64 n1, .int .i64 s1, .slice pa past.length pc] rfl rfl HO1.out rfl (by omega) hs1 ?_; intro g2 cap2 w2 ho2 hb2 hk2 hat2 hlt2)
          | fail)
        go_wp2
        go_roundw
        case rel => exact ⟨k + 1, by omega, by go_num, by rw [HT1.out _ HF.out]; exact ho2, ⟨_, _, HM1.out.block (hk2 _ (by omega) (HO.out.lo (by omega))), by split <;> omega, fun d hd => by
          rw [HTK.out] at hd
          rw [if_neg (fun e => hd (by rw [e]; simp))]
          exact HGN.out d (fun h => hd (List.mem_append_left _ h))⟩, by have := hb2.size; omega, hbel.trans (HB1.out.trans (hb2.mono (by omega)))⟩
        case measure => simp [intOf]; omega
    · obtain rfl : k = ds.length := by omega
      go_wp2
      go_ret
      exact ⟨_, rfl, by have h := HO.out.mono (show w.heap.size ≤ w.heap.size + 1 by omega); rw [List.take_length] at h ⊢; exact h, hbel⟩
end Go.Proofs.Ytfnfpanmbmkhmaa
/- What past.Merge and the document's Merge answer. -/
namespace Go.Proofs.Ytfnfpanmbmkhmaa
open Go.RowKit
set_option linter.unusedVariables false
set_option linter.unusedSimpArgs false

set_option maxRecDepth 100000 in
theorem mergeC_any (x : ByteArray) (y z : Int) (w : World) (hs : x.size ≤ 9223372036854775807) :
    Calls Try.prog 49 #[.agg #[.string x, .int .i64 y, .int .i64 z]] w fun e w' => e = .returned (.bool (!okD (x, y, z))) ∧ Below w.heap.size w w' := by
  go_enter Try.func49, Try.ntmps49
  go_wp2_with fail
  refine (valid_any x y z _ hs).mono ?_
  rintro e w1 ⟨rfl, hb⟩
  generalize hc : okD (x, y, z) = c
  have HC := Lib.hid hc
  clear hc
  go_wp2
  go_ret
  exact ⟨ret_bool (by rw [HC.out]), bstep (balloc (Below.refl _ w) _) hb⟩

set_option maxRecDepth 100000 in
set_option maxHeartbeats 1600000 in
theorem merge_any (a : Option Addr) (cap : Nat) (ls : List (List De)) (w : World) (hn : ls.length ≤ 1000) (ht : tot ls ≤ 100000) (hz : ∀ l ∈ ls, Szd l) (hr : RowsAt w a ls) :
    Calls Try.prog 34 #[.slice a ls.length cap] w fun e w' => ∃ v', e = .returned v' ∧ ∃ r, IsMerge ls.flatten r ∧ OwnD w' w.heap.size v' r ∧ Below w.heap.size w w' := by
  have HF : Hid (ls.flatten.length ≤ 100000) := Lib.hid (by rw [tot_flat]; exact ht)
  have HZ : Hid (Szd ls.flatten) := Lib.hid (fun d hd => by
    rw [List.mem_flatten] at hd
    obtain ⟨l, h1, h2⟩ := hd
    exact hz l h1 d h2)
  have hcon := concat_any a cap ls w hn (by omega) hr
  clear hr hz
  generalize ls.flatten = f at hcon HF HZ ⊢
  go_enter Try.func34, Try.ntmps34
  go_wp2_with fail
  refine hcon.mono ?_
  rintro e w1 ⟨v1, rfl, ho1, hb1⟩
  have hs1 : w.heap.size ≤ w1.heap.size := hb1.size
  have hdel := delFunc_any 49 #[] (enters_of Try.func49 (by kernel_rfl) rfl) (fun d => !okD d) v1 w.heap.size f w1 (by have := HF.out; omega) ho1 hs1 (fun W d hd _ => mergeC_any d.1 d.2.1 d.2.2 W (HZ.out d hd))
  obtain ⟨sa, sc, rfl⟩ := ho1.shape
  clear ho1
  go_wp2_with fail
  refine hdel.mono ?_
  rintro e w2 ⟨v2, rfl, ho2, hb2⟩
  have HL2 : Hid ((kept (fun d => !okD d) f).length ≤ 100000) := Lib.hid (Nat.le_trans (List.length_filter_le _ _) HF.out)
  generalize hk : kept (fun d => !okD d) f = l2 at ho2 HL2
  have HK := Lib.hid hk
  clear hk
  have hsort := sort_any v2 w.heap.size l2 w2 (by have := HL2.out; omega) ho2
  obtain ⟨sa2, sc2, rfl⟩ := ho2.shape
  clear ho2
  go_wp2_with fail
  refine hsort.mono ?_
  rintro e w3 ⟨rfl, l3, hperm, hlen, hsd, ho3, hb3⟩
  have hs3 : w.heap.size ≤ w3.heap.size := by have := hb2.size; have := hb3.size; omega
  have hcmp := compact_any _ w.heap.size l3 w3 (by have := HL2.out; omega) ho3 hs3
  have HM := Lib.hid (merge_of_sort (f := f) (by rw [HK.out]; exact hperm) hsd)
  clear ho3 hperm hsd
  go_wp2_with fail
  refine hcmp.mono ?_
  rintro e w4 ⟨v4, rfl, ho4, hb4⟩
  obtain ⟨sa4, sc4, rfl⟩ := ho4.shape
  have HO4 := Lib.hid ho4
  clear ho4
  go_wp2
  go_ret
  exact ⟨_, rfl, _, HM.out, HO4.out, hb1.trans (hb2.trans (hb3.trans hb4))⟩
end Go.Proofs.Ytfnfpanmbmkhmaa
/- What nearest.pasts and nearest.Expand answer. -/
namespace Go.Proofs.Ytfnfpanmbmkhmaa
open Go.RowKit Go.Maps
set_option linter.unusedVariables false
set_option linter.unusedSimpArgs false

/-- A slice by its parts. -/
abbrev Sl := Option Addr × Nat × Nat
abbrev slv (s : Sl) : Value := .slice s.1 s.2.1 s.2.2
def KP : RK Sl where
  T := 29
  S := 53
  sz := 1
  bt := 24
  z := .slice none 0 0
  enc s := [slv s]
theorem kp_ok : KP.Ok where
  len _ := rfl
  pos := by decide
  one x u hu := by
    simp [KP] at hu
    rw [hu]
    rfl
  und := Try.underlying53
  inf := by kernel_rfl
  zc := rfl
  bb := by decide
def psl (x : Vp) : Sl := (x.2.1, x.1.past.length, x.2.2)
theorem psl_pu (x : Vp) : slv (psl x) = pu x := rfl
/-- A row of slices reads as pasts. -/
theorem RowsAt.of_own {w : World} {base : Nat} {a : Option Addr} {n c : Nat} {ss : List Sl} {ls : List (List De)} (h : OwnR KP w base (.slice a n c) ss) (hl : ss.length = ls.length) (hd : ∀ i (h : i < ss.length) (h' : i < ls.length), DepAt w (slv ss[i]) ls[i]) : RowsAt w a ls := by
  have hr := RowIn.of_own kp_ok h
  refine ⟨ss.map slv, by simpa using hl, fun i hi => ?_, fun i hi hi' => ?_⟩
  · have hi' : i < ss.length := by simpa using hi
    obtain ⟨b, off, e, hlt, hc⟩ := hr i hi'
    refine ⟨b, off, e, hlt, ?_⟩
    have := hc 0 (slv ss[i]) rfl
    rw [List.getElem_map]
    have e1 : off + i * KP.sz + 0 = off + i := by show off + i * 1 + 0 = off + i; omega
    rw [e1] at this
    exact this
  · rw [List.getElem_map]
    exact hd i (by simpa using hi) hi'

set_option maxRecDepth 100000 in
set_option maxHeartbeats 1600000 in
theorem pasts_any (v : Value) (xs : List Vp) (w : World) (hl : xs.length ≤ 100000) (hr : VRow w v xs) :
    Calls Try.prog 35 #[v] w fun e w' => ∃ u, e = .returned u ∧ OwnR KP w' w.heap.size u (xs.map psl) ∧ Below w.heap.size w w' := by
  have HR := Lib.hid hr
  obtain ⟨a, cap, rfl, _, _⟩ := hr.shape
  clear hr
  go_enter Try.func35, Try.ntmps35
  go_wp2
  go_loopw [3, 8] (fun o i wr => ∃ k : Nat, k ≤ xs.length ∧ i = .int .i64 k ∧ OwnR KP wr w.heap.size o ((xs.take k).map psl) ∧ Below w.heap.size w wr) (fun _ i _ => xs.length - (intOf i).toNat)
  case atStart => exact ⟨0, by omega, rfl, OwnR.nil _ _ _, Below.refl _ _⟩
  case round =>
    obtain ⟨k, hk, rfl, ho, hbel⟩ := hrel
    have hol : ((xs.take k).map psl).length ≤ 100000 := by simp; omega
    have HO := Lib.hid ho
    obtain ⟨sa, sc, rfl⟩ := ho.shape
    have hbs := hbel.size
    clear ho
    by_cases hlt : k < xs.length
    · obtain ⟨b, off, rfl, hbl, ⟨c0, c1, c2, c3, c4, c5⟩, _⟩ := (HR.out.below hbel).at k hlt
      have HT : Hid ((xs.take (k + 1)).map psl = (xs.take k).map psl ++ [psl xs[k]]) := Lib.hid (by rw [List.take_succ_eq_append_getElem hlt, List.map_append]; rfl)
      generalize xs[k] = x at c0 c1 c2 c3 c4 c5 HT
      generalize (xs.take k).map psl = acc at hol HO HT
      obtain ⟨⟨key, val, gone, ⟨n1, s1⟩, past⟩, pa, pc⟩ := x
      dsimp only [pu, psl] at c0 c1 c2 c3 c4 c5 HT
      have HB1 : Hid (Below wr.heap.size wr (wr.alloc (.cells #[.string key, .string val, .bool gone, .int .i64 n1, .int .i64 s1, .slice pa past.length pc] 34))) := Lib.hid (balloc (Below.refl _ _) _)
      have hz1 : (wr.alloc (.cells #[.string key, .string val, .bool gone, .int .i64 n1, .int .i64 s1, .slice pa past.length pc] 34)).heap.size = wr.heap.size + 1 := by simp
      have HZ1 := Lib.hid hz1
      clear hz1
      go_wp2_with (at_builtin; refine wp_pushR kp_ok (wr := wr.alloc (.cells #[.string key, .string val, .bool gone, .int .i64 n1, .int .i64 s1, .slice pa past.length pc] 34)) rfl _ _ rfl w.heap.size (.slice sa acc.length sc) acc (pa, past.length, pc) #[.slice pa past.length pc] rfl rfl (HO.out.below HB1.out) (by rw [HZ1.out]; rfl) (by omega) (by rw [HZ1.out]; omega) ?_; intro g2 cap2 w2 ho2 hb2 hk2 hat2 hlt2)
      go_wp2
      go_roundw
      case rel => exact ⟨k + 1, by omega, by go_num, by rw [HT.out]; exact ho2, hbel.trans ((HB1.out.mono hbs).trans hb2)⟩
      case measure => simp [intOf]; omega
    · obtain rfl : k = xs.length := by omega
      go_wp2
      go_ret
      exact ⟨_, rfl, by have h := HO.out; rw [List.take_length] at h ⊢; exact h, hbel⟩

theorem okD_key {d : De} (h : okD d = true) : KeyD d := by
  have h1 := okD_size h
  unfold okD Sm.ok at h
  simp at h
  refine ⟨by unfold maxLen; omega, ?_⟩
  unfold In64
  omega
theorem Srt.keys {l : List De} (h : Srt l) : ∀ d ∈ l, KeyD d := fun d hd => okD_key (h.1 d hd)
theorem tot_le {ls : List (List De)} {n : Nat} (h : ∀ l ∈ ls, l.length ≤ n) : tot ls ≤ ls.length * n := by
  unfold tot
  induction ls with
  | nil => simp
  | cons l ls ih =>
    have h1 := h l (by simp)
    have h2 := ih (fun m hm => h m (by simp [hm]))
    simp only [List.map_cons, List.sum_cons, List.length_cons, Nat.succ_mul]
    omega
/-- The pasts of what is found. -/
def fpL (ds : List De) (xs : List Vp) : List (List De) := (fndL ds xs).map fun x => x.1.past
theorem fpL_eq (ds : List De) (xs : List Vp) : fpL ds xs = ds.filterMap fun d => (fnd (xs.map Prod.fst) d).map fun v => v.past := by
  unfold fpL fndL
  rw [List.map_filterMap]
  congr 1
  funext d
  rw [← fndP_fnd, Option.map_map]
  rfl
theorem fpL_mem {ds : List De} {xs : List Vp} {l : List De} (h : l ∈ fpL ds xs) : ∃ x ∈ xs, l = x.1.past := by
  unfold fpL fndL at h
  obtain ⟨x, hx, rfl⟩ := List.mem_map.1 h
  obtain ⟨d, _, hd⟩ := List.mem_filterMap.1 hx
  exact ⟨x, (fndP_some hd).1, rfl⟩
theorem fndL_mem {ds : List De} {xs : List Vp} {x : Vp} (h : x ∈ fndL ds xs) : x ∈ xs := by
  unfold fndL at h
  obtain ⟨d, _, hd⟩ := List.mem_filterMap.1 h
  exact (fndP_some hd).1
theorem fpL_len (ds : List De) (xs : List Vp) : (fpL ds xs).length ≤ ds.length := by
  unfold fpL
  rw [List.length_map]
  exact fndL_len ds xs

set_option maxRecDepth 100000 in
set_option maxHeartbeats 1600000 in
theorem expand_any (v1 v2 : Value) (ds : List De) (xs : List Vp) (w : World) (hl : ds.length ≤ 50) (hs : Srt ds) (hx : xs.length ≤ 1000) (hok : ∀ x ∈ xs, VOk x.1) (h1 : DepAt w v1 ds) (h2 : VRow w v2 xs) :
    Calls Try.prog 16 #[v1, v2] w fun e w' => ∃ u, e = .returned u ∧ OwnD w' w.heap.size u (expL ds (xs.map Prod.fst)) ∧ Below w.heap.size w w' := by
  have HV1 := Lib.hid h1
  have HV2 := Lib.hid h2
  have HS := Lib.hid hs
  have HOK := Lib.hid hok
  obtain ⟨a1, c1, rfl, _, _, _, _⟩ := h1
  obtain ⟨a2, c2, rfl, _, _⟩ := h2.shape
  clear h2 hs hok
  have hfl := fndL_len ds xs
  have hps := fpL_len ds xs
  go_enter Try.func16, Try.ntmps16
  go_wp2_with fail
  refine (index_any _ xs _ (by omega) (fun x hx => (HOK.out x hx).key) HV2.out).mono ?_
  rintro e w1 ⟨b, rfl, hb, hi, hb1⟩
  have HV11 := Lib.hid (HV1.out.below hb1)
  have HV21 := Lib.hid (HV2.out.below hb1)
  clear HV1 HV2
  go_wp2_with fail
  refine (found_any _ ds b xs _ (by omega) (srt_nodup HS.out) (Srt.keys HS.out) HV11.out hi).mono ?_
  rintro e w2 ⟨u2, rfl, ho2, hb2⟩
  have HVR : Hid (VRow w2 u2 (fndL ds xs)) := Lib.hid (VRow.of_own ho2 (fun x hx => ((HV21.out.below hb2).2 x (fndL_mem hx))))
  have HV12 := Lib.hid (HV11.out.below hb2)
  have hbel2 := bstep hb1 hb2
  obtain ⟨sa, sc, rfl⟩ := ho2.shape
  clear ho2 hi HV21 HV11 hb1 hb2
  go_wp2_with fail
  refine (pasts_any _ (fndL ds xs) _ (by omega) HVR.out).mono ?_
  rintro e w3 ⟨u3, rfl, ho3, hb3⟩
  have hbel3 := bstep hbel2 hb3
  have HSZ := Lib.hid hbel2.size
  have hs3 : w2.heap.size ≤ w3.heap.size := hb3.size
  have HO3 := Lib.hid ho3
  obtain ⟨sa3, sc3, rfl⟩ := ho3.shape
  clear ho3 hbel2
  have hln : ((fndL ds xs).map psl).length ≤ 50 := by rw [List.length_map]; omega
  have HPS : Hid (∀ i (h : i < ((fndL ds xs).map psl ++ [(a1, ds.length, c1)]).length) (h' : i < (fpL ds xs ++ [ds]).length) (W : World), Below w2.heap.size w2 W → DepAt W (slv ((fndL ds xs).map psl ++ [(a1, ds.length, c1)])[i]) (fpL ds xs ++ [ds])[i]) := Lib.hid (fun i h h' W hW => by
    by_cases hi : i < (fndL ds xs).length
    · rw [List.getElem_append_left (by simpa using hi), List.getElem_append_left (by unfold fpL; simpa using hi), List.getElem_map]
      have := (HVR.out.2 _ (List.getElem_mem hi)).below hW
      unfold fpL
      rw [List.getElem_map]
      exact this
    · have e : i = (fndL ds xs).length := by simp at h; omega
      subst e
      rw [List.getElem_append_right (by simp), List.getElem_append_right (by unfold fpL; simp)]
      simp only [List.length_map, Nat.sub_self, List.getElem_cons_zero]
      have hsub : (fndL ds xs).length - (fpL ds xs).length = 0 := by unfold fpL; simp
      simp only [hsub, List.getElem_cons_zero]
      exact HV12.out.below hW)
  have HLN : Hid (((fndL ds xs).map psl ++ [(a1, ds.length, c1)]).length = (fpL ds xs ++ [ds]).length) := Lib.hid (by unfold fpL; simp)
  have HMG : Hid (∀ r, IsMerge (fpL ds xs ++ [ds]).flatten r → r = expL ds (xs.map Prod.fst)) := Lib.hid (fun r hr => by
    refine hr.uniq (mergeR_spec (expR ds (xs.map Prod.fst))) (fun d => ?_)
    unfold expR
    rw [← fpL_eq, List.flatten_append, List.flatten_cons, List.mem_append, List.mem_append]
    simp [or_comm])
  have HTOT : Hid (tot (fpL ds xs ++ [ds]) ≤ 100000 ∧ (∀ l ∈ fpL ds xs ++ [ds], Szd l) ∧ (fpL ds xs ++ [ds]).length ≤ 1000) := Lib.hid (by
    have hb : ∀ l ∈ fpL ds xs ++ [ds], l.length ≤ 50 ∧ Srt l := by
      intro l hl'
      rw [List.mem_append, List.mem_singleton] at hl'
      rcases hl' with h | rfl
      · obtain ⟨x, hx, rfl⟩ := fpL_mem h
        exact ⟨(HOK.out x hx).len, (HOK.out x hx).srt⟩
      · exact ⟨hl, HS.out⟩
    have h1 := tot_le (fun l h => (hb l h).1)
    have h2 : (fpL ds xs ++ [ds]).length ≤ 51 := by rw [List.length_append]; simp; omega
    refine ⟨?_, fun l h => (hb l h).2.szd, by omega⟩
    have : (fpL ds xs ++ [ds]).length * 50 ≤ 51 * 50 := Nat.mul_le_mul_right _ h2
    omega)
  generalize (fndL ds xs).map psl = acc at hln HO3 HPS HLN
  generalize fpL ds xs ++ [ds] = ls at HPS HLN HMG HTOT
  clear hfl hps
  go_wp2_with (at_builtin; refine wp_pushR kp_ok (wr := w3) rfl _ _ rfl w2.heap.size (.slice sa3 acc.length sc3) acc (a1, ds.length, c1) #[.slice a1 ds.length c1] rfl rfl HO3.out rfl (by omega) hs3 ?_; intro g4 cap4 w4 ho4 hb4 hk4 hat4 hlt4; have hM := merge_any (some ⟨g4, 0, none⟩) cap4 ls w4 HTOT.out.2.2 HTOT.out.1 HTOT.out.2.1 (RowsAt.of_own ho4 HLN.out (fun i h h' => HPS.out i h h' w4 (hb3.trans hb4))); rw [← HLN.out, List.length_append, List.length_singleton] at hM)
  refine hM.mono ?_
  rintro e w5 ⟨u5, rfl, r, hr, ho5, hb5⟩
  rw [HMG.out r hr] at ho5
  obtain ⟨sa5, sc5, rfl⟩ := ho5.shape
  have hs5 : w.heap.size ≤ w4.heap.size := by have := hbel3.size; have h2 := hb4.size; omega
  have hs2 : w.heap.size ≤ w2.heap.size := HSZ.out
  go_wp2
  go_ret
  exact ⟨_, rfl, ho5.mono hs5, hbel3.trans ((hb4.mono hs2).trans (hb5.mono hs5))⟩
end Go.Proofs.Ytfnfpanmbmkhmaa
/- What the document's Covers answers. -/
namespace Go.Proofs.Ytfnfpanmbmkhmaa
open Go.RowKit
set_option linter.unusedVariables false
set_option linter.unusedSimpArgs false

abbrev cvD (l m : List De) : Bool := !(m.any fun d => Sm.less (gtD l d.1) d.2)
theorem cvD_hit {l m : List De} {k : Nat} (hk : k < m.length) (h : Sm.less (gtD l m[k].1) m[k].2 = true) : cvD l m = false := by
  unfold cvD
  rw [show (m.any fun d => Sm.less (gtD l d.1) d.2) = true from List.any_eq_true.2 ⟨m[k], List.getElem_mem hk, h⟩]
  rfl
theorem cvD_none {l m : List De} (h : ∀ j (hj : j < m.length), Sm.less (gtD l m[j].1) m[j].2 = false) : cvD l m = true := by
  unfold cvD
  rw [show (m.any fun d => Sm.less (gtD l d.1) d.2) = false from by
    rw [List.any_eq_false]
    intro x hx
    obtain ⟨j, hj, rfl⟩ := List.getElem_of_mem hx
    simp [h j hj]]
  rfl

set_option maxRecDepth 100000 in
set_option maxHeartbeats 1600000 in
theorem refCovers_any (v1 v2 : Value) (l m : List De) (w : World) (hl : l.length ≤ 1000000) (hm : m.length ≤ 1000000) (h1 : DepAt w v1 l) (h2 : DepAt w v2 m) :
    Calls Try.prog 26 #[v1, v2] w fun e w' => e = .returned (.bool (cvD l m)) ∧ Below w.heap.size w w' := by
  have HV1 := Lib.hid h1
  obtain ⟨a, cap, rfl, _, _, _, hr⟩ := h1
  obtain ⟨a2, cap2, rfl, _, _, _, hr2⟩ := h2
  have HR2 := Lib.hid hr2
  clear hr hr2
  go_enter Try.func26, Try.ntmps26
  go_wp2
  go_loopw [5] (fun i wr => ∃ k : Nat, k ≤ m.length ∧ i = .int .i64 k ∧ (∀ j (hj : j < m.length), j < k → Sm.less (gtD l m[j].1) m[j].2 = false) ∧ Below w.heap.size w wr) (fun i _ => m.length - (intOf i).toNat)
  case atStart => exact ⟨0, by omega, rfl, (fun j hj h => by omega), Below.refl _ _⟩
  case round =>
    obtain ⟨k, hk, rfl, hall, hbel⟩ := hrel
    have HA := Lib.hid hall
    clear hall
    by_cases hlt : k < m.length
    · obtain ⟨b, off, rfl, hbl, c0, c1, c2⟩ := HR2.out.below hbel k hlt
      have HH := Lib.hid (@cvD_hit l m k hlt)
      have HN : Hid (Sm.less (gtD l m[k].1) m[k].2 = false → ∀ j (hj : j < m.length), j < k + 1 → Sm.less (gtD l m[j].1) m[j].2 = false) := Lib.hid (fun h j hj h2 => by
        by_cases e : j = k
        · subst e; exact h
        · exact HA.out j hj (by omega))
      generalize m[k] = d at c0 c1 c2 HH HN
      obtain ⟨x, y, z⟩ := d
      dsimp only at c0 c1 c2 HH HN
      have hget := refPGet_any _ l x wr hl (HV1.out.below hbel)
      generalize gtD l x = g at hget HH HN
      obtain ⟨g0, g1⟩ := g
      go_wp2_with fail
      refine hget.mono ?_
      rintro e w1 ⟨rfl, hb1⟩
      have d0 := kcell hb1 hbl c0
      have d1 := kcell hb1 hbl c1
      have d2 := kcell hb1 hbl c2
      have hbl1 : b < w1.heap.size := by have := hb1.size; omega
      have hbel1 := bstep hbel hb1
      have e1 : (w1.alloc (.cells #[.int .i64 g0, .int .i64 g1] 24)).cell? ⟨b, off + k * 3 + 1, none⟩ = some (.int .i64 y) := kc (balloc (Below.refl _ _) _) d1
      have e2 : (w1.alloc (.cells #[.int .i64 g0, .int .i64 g1] 24)).cell? ⟨b, off + k * 3 + 2, none⟩ = some (.int .i64 z) := kc (balloc (Below.refl _ _) _) d2
      have g00 : (w1.alloc (.cells #[.int .i64 g0, .int .i64 g1] 24)).cell? ⟨w1.heap.size, 0, none⟩ = some (.int .i64 g0) := by simp
      have g01 : (w1.alloc (.cells #[.int .i64 g0, .int .i64 g1] 24)).cell? ⟨w1.heap.size, 1, none⟩ = some (.int .i64 g1) := by simp
      generalize hq : Sm.less (g0, g1) (y, z) = c at HH HN
      have HQ := Lib.hid hq
      clear hq hget c0 c1 c2 d0 d1 d2 hb1
      go_wp2_with fail
      go_region_held3 (fun w' => w'.cell? ⟨w1.heap.size, 0, none⟩ = some (.int .i64 g0) ∧ w'.cell? ⟨w1.heap.size, 1, none⟩ = some (.int .i64 g1) ∧ w'.cell? ⟨b, off + k * 3 + 1, none⟩ = some (.int .i64 y) ∧ w'.cell? ⟨b, off + k * 3 + 2, none⟩ = some (.int .i64 z))
        (first | exact ⟨g00, g01, e1, e2⟩ | exact gg1)
        (first
          | (go_at_call 25; ((refine (refLess_b g0 g1 y z c _ HQ.out).mono ?_); rintro e wa ⟨rfl, ha⟩; have gg1 := keep22 ha ⟨g00, g01, e1, e2⟩)))
      have hb2 := bstep hbel1 (bstep (balloc (Below.refl _ w1) _).drew ha)
      cases c with
      | true =>
        go_wp2
        go_ret
        exact ⟨ret_bool (HH.out (by first | rfl | trivial)).symm, hb2⟩
      | false =>
        go_wp2
        go_roundw
        case rel => exact ⟨k + 1, by omega, by go_num, HN.out (by first | rfl | trivial), hb2⟩
        case measure => simp [intOf]; omega
    · obtain rfl : k = m.length := by omega
      go_wp2
      go_ret
      exact ⟨ret_bool (cvD_none (fun j hj => HA.out j hj hj)).symm, hbel⟩
end Go.Proofs.Ytfnfpanmbmkhmaa
