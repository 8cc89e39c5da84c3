/- What past.Covers answers. -/
import Derived.Test.YtplpeokmhomojaaPastBack
import Derived.Maps.Views
import Derived.StringKeys
namespace Go.Proofs.Ytplpeokmhomojaa
open Go.RowKit Go.Shelf Go.Maps
set_option linter.unusedVariables false
set_option linter.unusedSimpArgs false
attribute [local go_sem] Oper.semAt_some

def sdD (p : Int × Int) : DataW Unit := .agg [.lit (.int .i64 p.1), .lit (.int .i64 p.2)]
/-- How a stamp in the map reads. -/
def RS (v : Value) : Option (DataW Unit × List MemPlace) :=
  match v with
  | .agg c => (match c.toList with
    | [.int .i64 x, .int .i64 y] => some (sdD (x, y), [])
    | _ => none)
  | _ => none
theorem RS_mk (x y : Int) : RS (.agg #[.int .i64 x, .int .i64 y]) = some (sdD (x, y), []) := rfl
theorem RS_inv {v : Value} {p : Int × Int} {ps : List MemPlace} (h : RS v = some (sdD p, ps)) : v = .agg #[.int .i64 p.1, .int .i64 p.2] := by
  unfold RS at h
  split at h
  · rename_i c
    split at h
    · rename_i x y e
      simp [sdD] at h
      obtain ⟨⟨h1, h2⟩, _⟩ := h
      rw [← h1, ← h2]
      congr 1
      exact Array.toList_inj.1 e
    · cases h
  · cases h
def mpD (pre : List BackA) : DataW Unit := pre.foldl (fun D x => D.put (.string x.1.2.1.data.toList) (sdD x.1.2.2)) (.map [])
theorem mpD_snoc (pre : List BackA) (x : BackA) : mpD (pre ++ [x]) = (mpD pre).put (.string x.1.2.1.data.toList) (sdD x.1.2.2) := by simp [mpD]

/-- What the map tells. -/
theorem mpD_isMap (pre : List BackA) : IsMap (mpD pre) := by
  have key : ∀ (pre : List BackA) (D : DataW Unit), IsMap D → IsMap (pre.foldl (fun D x => D.put (.string x.1.2.1.data.toList) (sdD x.1.2.2)) D) := by
    intro pre
    induction pre with
    | nil => intro D h; exact h
    | cons x pre ih => intro D h; exact ih _ (h.put _ _)
  exact key pre _ isMap_empty
theorem mpD_snoc_at (pre : List BackA) (x : BackA) (key : ByteArray) (z : DataW Unit) : (mpD (pre ++ [x])).atKey (.string key.data.toList) z = if x.1.2.1 = key then sdD x.1.2.2 else (mpD pre).atKey (.string key.data.toList) z := by
  rw [mpD_snoc]
  by_cases h : x.1.2.1 = key
  · rw [if_pos h, ← h]
    exact atKey_put_same (mpD_isMap pre) (show WideAt.IsKeyLit (.string _) from trivial) _ _
  · rw [if_neg h]
    exact atKey_put_other (fun e => h (ba_inj (by simpa using e.symm))) _ _
theorem mpD_drop (l : List De) (hz : Szd l) (key : ByteArray) : ∀ k, k ≤ l.length → (mpD (bkL l hz k)).atKey (.string key.data.toList) (sdD (0, 0)) = sdD (gtD (l.drop (l.length - k)) key)
  | 0, _ => by simp [bkL, mpD, gtD, DataW.atKey]
  | k + 1, h => by
    rw [bkL_succ l hz k (by omega), mpD_snoc_at, mpD_drop l hz key k (by omega)]
    have e : l.drop (l.length - (k + 1)) = l[l.length - 1 - k]'(by omega) :: l.drop (l.length - k) := by
      rw [show l.length - (k + 1) = l.length - 1 - k by omega, List.drop_eq_getElem_cons (by omega), show l.length - 1 - k + 1 = l.length - k by omega]
    rw [e]
    unfold gtD
    rw [List.find?_cons]
    show (if (l[l.length - 1 - k]'(by omega)).1 = key then sdD (l[l.length - 1 - k]'(by omega)).2 else _) = _
    by_cases hk : (l[l.length - 1 - k]'(by omega)).1 = key
    · simp [hk]
    · simp [hk]
theorem mpD_at (l : List De) (hz : Szd l) (key : ByteArray) : (mpD (bkL l hz l.length)).atKey (.string key.data.toList) (sdD (0, 0)) = sdD (gtD l key) := by
  rw [mpD_drop l hz key l.length (Nat.le_refl _), Nat.sub_self, List.drop_zero]
theorem own_map_below {w w' : World} {b n : Nat} {D : DataW Unit} (h : w.ownsMap Try.prog 9 RS b n D) (hb : Below w.heap.size w w') : w'.ownsMap Try.prog 9 RS b n D := by
  obtain ⟨es, clock, h1, h2⟩ := h
  exact ⟨es, clock, (hb.block b (Array.getElem?_eq_some_iff.1 h1).1).trans h1, h2⟩

set_option maxRecDepth 100000 in
set_option maxHeartbeats 1600000 in
theorem coversC_any (l : List De) (hz : Szd l) (Hb M n : Nat) (x : ByteArray) (y z : Int) (w : World) (hs : x.size ≤ maxLen) (hc : w.cell? ⟨Hb, 0, none⟩ = some (.map (some M))) (hown : w.ownsMap Try.prog 9 RS M n (mpD (bkL l hz l.length))) :
    Calls Try.prog 51 #[.agg #[.string x, .int .i64 y, .int .i64 z], .pointer (some ⟨Hb, 0, none⟩)] w fun e w' => e = .returned (.bool (Sm.less (gtD l x) (y, z))) ∧ Below w.heap.size w w' := by
  have hb1 : Below w.heap.size w (w.alloc (.cells #[.string x, .int .i64 y, .int .i64 z] 26)) := balloc (Below.refl _ w) _
  obtain ⟨v, ps, hrun, hR⟩ := (own_map_below hown hb1).lookup (Maps.string_keyed Try.underlying9) Try.underlying70 (Try.zeroValue24 _) (RS_mk 0 0) (WideMaps.keyOf_string_mk Try.underlying9 hs)
  rw [mpD_at] at hR
  obtain rfl := RS_inv hR
  have hc' := kc hb1 hc
  have hne : Hb ≠ w.heap.size := by have := lt_of_cellN hc; omega
  have HL := Lib.hid (rfl : Sm.less (gtD l x) (y, z) = Sm.less (gtD l x) (y, z))
  clear hown hR hc
  generalize gtD l x = g at hrun ⊢
  obtain ⟨g0, g1⟩ := g
  dsimp only at hrun
  go_enter Try.func51, Try.ntmps51
  go_wp2_with fail
  refine (less_any g0 g1 y z _).mono ?_
  rintro e w1 ⟨rfl, hb⟩
  go_wp2
  go_ret
  exact ⟨rfl, bstep hb1 hb⟩

set_option maxRecDepth 100000 in
set_option maxHeartbeats 4000000 in
theorem covers_any (v1 v2 : Value) (l m : List De) (w : World) (hl : l.length ≤ 1000000) (hm : m.length ≤ 1000000) (hz : Szd l) (hz2 : Szd m) (h1 : DepAt w v1 l) (h2 : DepAt w v2 m) :
    Calls Try.prog 20 #[v1, v2] w fun e w' => e = .returned (.bool (!(m.any fun d => Sm.less (gtD l d.1) d.2))) ∧ Below w.heap.size w w' := by
  obtain ⟨a, cap, rfl, _, _, _, hr⟩ := h1
  obtain ⟨a2, cap2, rfl, _, _, _, hr2⟩ := h2
  have hmm : ∀ (n : Int) (w : World), (Instr.makeMap 70 (some (.int .i64 n))).run Try.prog w = .ok (.map (some w.heap.size)) (w.alloc (.map #[] 0)) := fun n w => by
    simp [Instr.makeMap, run_underlying Try.underlying70, asInt, asIntOf]
  have hmf : ∀ (fn : Fn) (first cap : Array Value) (w : World), (Instr.makeFunc fn first cap).run Try.prog w = .ok (.func fn first cap) w := fun _ _ _ _ => rfl
  refine (callsIn_wide (n := 5)).1 ?_
  have t20 : Fence.wide.fn 20 := trivial
  have t49 : Fence.wide.fn 49 := trivial
  have t50 : Fence.wide.fn 50 := trivial
  have t81 : Fence.wide.fn 81 := trivial
  refine callsIn_of_wp_marks Try.func20 rfl t20 ?_ rfl
  simp only [Try.ntmps20, List.size_toArray, List.length_cons, List.length_nil, Nat.reduceAdd, Nat.reduceSub, Array.replicate_succ, Array.replicate_zero, List.push_toArray, List.append_toArray, List.nil_append, List.cons_append]
  gi_wp2_with (gi_at_call 49; refine (backward_in Fence.wide 4 t49 rfl _ _ _ _).mono ?_; rintro e w' ⟨rfl, rfl⟩)
  obtain ⟨W0, hW0⟩ : ∃ W0, ((w.alloc (Obj.map #[] 0)).alloc (Obj.cells #[Value.map (some w.heap.size)] 70)).alloc (Obj.cells #[Value.slice a l.length cap] 22) = W0 := ⟨_, rfl⟩
  have hsz : W0.heap.size = w.heap.size + 3 := by rw [← hW0]; simp
  have hB0 : Below w.heap.size w W0 := by rw [← hW0]; exact balloc (balloc (balloc (Below.refl _ w) _) _) _
  have bH : W0.cell? ⟨w.heap.size + 1, 0, none⟩ = some (.map (some w.heap.size)) := by
    rw [← hW0]
    have s : ((w.alloc (Obj.map #[] 0)).alloc (Obj.cells #[Value.map (some w.heap.size)] 70)).heap.size = w.heap.size + 1 + 1 := by simp
    have s2 : (w.alloc (Obj.map #[] 0)).heap.size = w.heap.size + 1 := by simp
    rw [World.cell?_alloc_past _ _ _ (by rw [s]; omega), World.cell?_alloc_at _ _ _ _ s2.symm]; rfl
  have bS : W0.cell? ⟨w.heap.size + 1 + 1, 0, none⟩ = some (.slice a l.length cap) := by
    rw [← hW0]
    have s : ((w.alloc (Obj.map #[] 0)).alloc (Obj.cells #[Value.map (some w.heap.size)] 70)).heap.size = w.heap.size + 1 + 1 := by simp
    rw [World.cell?_alloc_at _ _ _ _ s.symm]; rfl
  have ho0 : W0.ownsMap Try.prog 9 RS w.heap.size 0 (mpD []) := by rw [← hW0]; exact ((World.ownsMap_made w Try.prog 9 RS).alloc _).alloc _
  rw [hW0]
  clear hW0
  refine wpIn_rangeFunc_ownH rfl (by omega) (gf := 81) (lb := #[.pointer (some ⟨w.heap.size + 1 + 1, 0, none⟩)]) rfl t81 (enters_of Try.func81 (by kernel_rfl) rfl)
    (back_stops Fence.wide (5 - 1) t81 rfl (by omega) (w.heap.size + 1 + 1) W0.heap.size w.heap.size cap a l hz hl W0 (by omega) (by omega) (by omega) bS (fun b off e h => by
      obtain ⟨b', off', e', hlt, _⟩ := hr 0 h
      rw [e] at e'
      cases e'
      omega) (hr.below hB0)) (fun h k => h.trans k) (fun W lq o o' h1 h2 h3 h4 => fun k hk _ => (belowK_b (w := W0) (Nat.le_refl _) W lq o o' h1 h2 h3 h4).block k hk) (Below.refl _ _) (fun _ => rfl)
    (fun pre W => ((W.cell? ⟨w.heap.size + 1, 0, none⟩ = some (.map (some w.heap.size)) ∧ W.ownsMap Try.prog 9 RS w.heap.size pre.length (mpD pre)) ∧ W0.heap.size ≤ W.heap.size) ∧ Below w.heap.size w W)
    (fun _ _ _ => False)
    (OwnFrom.and (fun s A B row hs hg hr => ⟨⟨cell_kept hs.1.1 hg (fun r e => (hr r e).2), hs.1.2.kept hg (fun e => by have := (hr _ e.symm).1; omega)⟩, Nat.le_trans hs.2 hg.size⟩) (ownFrom_below (Nat.le_refl _) (by omega)))
    (fun _ _ _ _ _ hs _ _ => hs)
    ⟨⟨⟨bH, ho0⟩, Nat.le_refl _⟩, hB0⟩
    (fun x a' W => ∃ Bx, W0.heap.size ≤ Bx ∧ (W.cell? ⟨Bx, 0, none⟩ = some (.string x.1.2.1) ∧ W.cell? ⟨Bx, 1, none⟩ = some (.int .i64 x.1.2.2.1) ∧ W.cell? ⟨Bx, 2, none⟩ = some (.int .i64 x.1.2.2.2)) ∧ a' = { tmps := #[.slice a l.length cap, .slice a2 m.length cap2, undef, undef, .bool false, .pointer (some ⟨w.heap.size + 1, 0, none⟩), undef, .pointer (some ⟨Bx, 0, none⟩), .slice a l.length cap, .int .i64 l.length, .map (some w.heap.size), .slice a l.length cap, .func (.func 81) #[] #[.pointer (some ⟨w.heap.size + 1 + 1, 0, none⟩)], .int .i64 x.1.1, .agg #[.string x.1.2.1, .int .i64 x.1.2.2.1, .int .i64 x.1.2.2.2], undef, undef, undef, undef, undef, undef, undef, undef, undef], defers := [] })
    (fun x a' _ X Y row hs hg hr => by
      obtain ⟨Bx, h1, ⟨k0, k1, k2⟩, h3⟩ := hs
      exact ⟨Bx, h1, ⟨cell_kept k0 hg (fun r e => (hr r e).2), cell_kept k1 hg (fun r e => (hr r e).2), cell_kept k2 hg (fun r e => (hr r e).2)⟩, h3⟩)
    ?assign ?body ?done ?stop
  case assign =>
    rintro lp pre x W K ⟨⟨⟨hc, hown⟩, hsW⟩, hB⟩ hK
    gi_wp2
    exact hK _ _ ((KeepsOthers.alloc _ _).from _) (fun k hk _ => Below.heap_alloc _ _ _ (by omega)) ⟨⟨⟨kc (balloc (Below.refl _ W) _) hc, hown.alloc _⟩, by simp; omega⟩, hB.alloc hB.size _⟩ ⟨W.heap.size, hsW, ⟨by simp, by simp, by simp⟩, rfl⟩
  case body =>
    rintro lp pre x a' W hlp ⟨r, hr'⟩ ⟨⟨⟨hc, hown⟩, hsW⟩, hB⟩ ⟨Bx, hBx, ⟨k0, k1, k2⟩, rfl⟩ hlt
    gi_wp2_with (gi_at_mapUpdate; refine wpListIn_mapUpdate_own _ rfl _ _ _ 70 rfl 9 24 (Maps.string_keyed Try.underlying9) Try.underlying70 RS w.heap.size pre.length _ rfl hown (by unfold maxLen; omega) _ _ _ rfl rfl (WideMaps.keyOf_string_mk Try.underlying9 x.2) _ [] (RS_mk _ _) ?_; intro w1 hown1 hgrow1)
    obtain ⟨es, ck, hh, _⟩ := hown
    have hg2 := hgrow1.size
    exact ⟨KeepsFrom.of_grownBy hgrow1 (fun j e => by cases e; omega), (fun k hk hne => hgrow1.block k (by omega) (fun e => hne (by cases e; rfl))), ⟨⟨cell_kept hc hgrow1 (fun r e => by cases e; exact ⟨_, hh, rfl⟩), by rw [mpD_snoc, List.length_append]; exact hown1⟩, by omega⟩, hB.grown hgrow1 hB.size (fun k e => by cases e; exact Nat.le_refl _)⟩
  case done =>
    rintro D ys W hD rfl ⟨⟨⟨hc, hown⟩, hsW⟩, hB⟩ hK
    have hDl : D < W.heap.size := (Array.getElem?_eq_some_iff.1 hK).1
    have hcon := contFunc_any 51 #[.pointer (some ⟨w.heap.size + 1, 0, none⟩)] (enters_of Try.func51 (by kernel_rfl) rfl) (fun d => Sm.less (gtD l d.1) d.2) a2 cap2 W.heap.size m W hm (hr2.below hB) (Nat.le_refl _)
      (fun W' d hd hb => coversC_any l hz _ _ _ d.1 d.2.1 d.2.2 W' (by have := hz2 d hd; unfold maxLen; omega) (kc hb hc) (own_map_below hown hb))
    generalize hrr : (m.any fun d => Sm.less (gtD l d.1) d.2) = rr at hcon
    have HRR := Lib.hid hrr
    clear hrr
    gi_wp2_with (gi_at_call 50; refine (callsIn_wide.2 hcon).mono ?_; rintro e w' ⟨rfl, hb'⟩)
    have hK' := (hb'.block D hDl).trans hK
    refine ⟨by simp, .inl ⟨_, _, rfl, run_takeDeferred hK', ?_⟩⟩
    refine ⟨_, results_tmp rfl _ _ _, ?_, (bstep hB hb').trans (belowK_b (w := w) (Nat.le_refl _) w' D _ _ (by omega) hK' rfl rfl)⟩
    rw [HRR.out]
    rfl
  case stop =>
    rintro D c pre W _ _ h _
    exact h.elim
end Go.Proofs.Ytplpeokmhomojaa
