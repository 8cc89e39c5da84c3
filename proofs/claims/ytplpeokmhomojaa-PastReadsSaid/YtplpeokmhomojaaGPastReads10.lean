/- Texts of this proof, one behind the other: PastCovers, PastSame, PastAwake, PastMade. -/
import Derived.Test.YtplpeokmhomojaaGPastReads9
import Derived.Maps.Views
import Derived.StringKeys
import Derived.Deep.QuietTactic
import Derived.BigQuiet
/- What past.Covers answers. -/
namespace Go.Proofs.Ytplpeokmhomojaa
open Go.RowKit Go.Shelf Go.Maps
set_option linter.unusedVariables false
set_option linter.unusedSimpArgs false
attribute [local go_sem] Oper.semAt_some

def sdD (p : Int × Int) : DataW Unit := .agg [.lit (.int .i64 p.1), .lit (.int .i64 p.2)]
/-- How a stamp in the map reads. -/
def RS (v : Value) : Option (DataW Unit × List MemPlace) :=
  match v with
  | .agg c => (match c.toList with
    | [.int .i64 x, .int .i64 y] => some (sdD (x, y), [])
    | _ => none)
  | _ => none
theorem RS_mk (x y : Int) : RS (.agg #[.int .i64 x, .int .i64 y]) = some (sdD (x, y), []) := rfl
theorem RS_inv {v : Value} {p : Int × Int} {ps : List MemPlace} (h : RS v = some (sdD p, ps)) : v = .agg #[.int .i64 p.1, .int .i64 p.2] := by
  unfold RS at h
  split at h
  · rename_i c
    split at h
    · rename_i x y e
      simp [sdD] at h
      obtain ⟨⟨h1, h2⟩, _⟩ := h
      rw [← h1, ← h2]
      congr 1
      exact Array.toList_inj.1 e
    · cases h
  · cases h
def mpD (pre : List BackA) : DataW Unit := pre.foldl (fun D x => D.put (.string x.1.2.1.data.toList) (sdD x.1.2.2)) (.map [])
theorem mpD_snoc (pre : List BackA) (x : BackA) : mpD (pre ++ [x]) = (mpD pre).put (.string x.1.2.1.data.toList) (sdD x.1.2.2) := by simp [mpD]

/-- What the map tells. -/
theorem mpD_isMap (pre : List BackA) : IsMap (mpD pre) := by
  have key : ∀ (pre : List BackA) (D : DataW Unit), IsMap D → IsMap (pre.foldl (fun D x => D.put (.string x.1.2.1.data.toList) (sdD x.1.2.2)) D) := by
    intro pre
    induction pre with
    | nil => intro D h; exact h
    | cons x pre ih => intro D h; exact ih _ (h.put _ _)
  exact key pre _ isMap_empty
theorem mpD_snoc_at (pre : List BackA) (x : BackA) (key : ByteArray) (z : DataW Unit) : (mpD (pre ++ [x])).atKey (.string key.data.toList) z = if x.1.2.1 = key then sdD x.1.2.2 else (mpD pre).atKey (.string key.data.toList) z := by
  rw [mpD_snoc]
  by_cases h : x.1.2.1 = key
  · rw [if_pos h, ← h]
    exact atKey_put_same (mpD_isMap pre) (show WideAt.IsKeyLit (.string _) from trivial) _ _
  · rw [if_neg h]
    exact atKey_put_other (fun e => h (ba_inj (by simpa using e.symm))) _ _
theorem mpD_drop (l : List De) (hz : Szd l) (key : ByteArray) : ∀ k, k ≤ l.length → (mpD (bkL l hz k)).atKey (.string key.data.toList) (sdD (0, 0)) = sdD (gtD (l.drop (l.length - k)) key)
  | 0, _ => by simp [bkL, mpD, gtD, DataW.atKey]
  | k + 1, h => by
    rw [bkL_succ l hz k (by omega), mpD_snoc_at, mpD_drop l hz key k (by omega)]
    have e : l.drop (l.length - (k + 1)) = l[l.length - 1 - k]'(by omega) :: l.drop (l.length - k) := by
      rw [show l.length - (k + 1) = l.length - 1 - k by omega, List.drop_eq_getElem_cons (by omega), show l.length - 1 - k + 1 = l.length - k by omega]
    rw [e]
    unfold gtD
    rw [List.find?_cons]
    show (if (l[l.length - 1 - k]'(by omega)).1 = key then sdD (l[l.length - 1 - k]'(by omega)).2 else _) = _
    by_cases hk : (l[l.length - 1 - k]'(by omega)).1 = key
    · simp [hk]
    · simp [hk]
theorem mpD_at (l : List De) (hz : Szd l) (key : ByteArray) : (mpD (bkL l hz l.length)).atKey (.string key.data.toList) (sdD (0, 0)) = sdD (gtD l key) := by
  rw [mpD_drop l hz key l.length (Nat.le_refl _), Nat.sub_self, List.drop_zero]
theorem own_map_below {w w' : World} {b n : Nat} {D : DataW Unit} (h : w.ownsMap Try.prog 9 RS b n D) (hb : Below w.heap.size w w') : w'.ownsMap Try.prog 9 RS b n D := by
  obtain ⟨es, clock, h1, h2⟩ := h
  exact ⟨es, clock, (hb.block b (Array.getElem?_eq_some_iff.1 h1).1).trans h1, h2⟩

set_option maxRecDepth 100000 in
set_option maxHeartbeats 1600000 in
theorem coversC_any (l : List De) (hz : Szd l) (Hb M n : Nat) (x : ByteArray) (y z : Int) (w : World) (hs : x.size ≤ maxLen) (hc : w.cell? ⟨Hb, 0, none⟩ = some (.map (some M))) (hown : w.ownsMap Try.prog 9 RS M n (mpD (bkL l hz l.length))) :
    Calls Try.prog 51 #[.agg #[.string x, .int .i64 y, .int .i64 z], .pointer (some ⟨Hb, 0, none⟩)] w fun e w' => e = .returned (.bool (Sm.less (gtD l x) (y, z))) ∧ Below w.heap.size w w' := by
  have hb1 : Below w.heap.size w (w.alloc (.cells #[.string x, .int .i64 y, .int .i64 z] 26)) := balloc (Below.refl _ w) _
  obtain ⟨v, ps, hrun, hR⟩ := (own_map_below hown hb1).lookup (Maps.string_keyed Try.underlying9) Try.underlying70 (Try.zeroValue24 _) (RS_mk 0 0) (WideMaps.keyOf_string_mk Try.underlying9 hs)
  rw [mpD_at] at hR
  obtain rfl := RS_inv hR
  have hc' := kc hb1 hc
  have hne : Hb ≠ w.heap.size := by have := lt_of_cellN hc; omega
  have HL := Lib.hid (rfl : Sm.less (gtD l x) (y, z) = Sm.less (gtD l x) (y, z))
  clear hown hR hc
  generalize gtD l x = g at hrun ⊢
  obtain ⟨g0, g1⟩ := g
  dsimp only at hrun
  go_enter Try.func51, Try.ntmps51
  go_wp2_with fail
  refine (less_any g0 g1 y z _).mono ?_
  rintro e w1 ⟨rfl, hb⟩
  go_wp2
  go_ret
  exact ⟨rfl, bstep hb1 hb⟩

set_option maxRecDepth 100000 in
set_option maxHeartbeats 4000000 in
theorem covers_any (v1 v2 : Value) (l m : List De) (w : World) (hl : l.length ≤ 1000000) (hm : m.length ≤ 1000000) (hz : Szd l) (hz2 : Szd m) (h1 : DepAt w v1 l) (h2 : DepAt w v2 m) :
    Calls Try.prog 20 #[v1, v2] w fun e w' => e = .returned (.bool (!(m.any fun d => Sm.less (gtD l d.1) d.2))) ∧ Below w.heap.size w w' := by
  obtain ⟨a, cap, rfl, _, _, _, hr⟩ := h1
  obtain ⟨a2, cap2, rfl, _, _, _, hr2⟩ := h2
  have hmm : ∀ (n : Int) (w : World), (Instr.makeMap 70 (some (.int .i64 n))).run Try.prog w = .ok (.map (some w.heap.size)) (w.alloc (.map #[] 0)) := fun n w => by
    simp [Instr.makeMap, run_underlying Try.underlying70, asInt, asIntOf]
  have hmf : ∀ (fn : Fn) (first cap : Array Value) (w : World), (Instr.makeFunc fn first cap).run Try.prog w = .ok (.func fn first cap) w := fun _ _ _ _ => rfl
  refine (callsIn_wide (n := 5)).1 ?_
  have t20 : Fence.wide.fn 20 := trivial
  have t49 : Fence.wide.fn 49 := trivial
  have t50 : Fence.wide.fn 50 := trivial
  have t81 : Fence.wide.fn 81 := trivial
  refine callsIn_of_wp_marks Try.func20 rfl t20 ?_ rfl
  simp only [Try.ntmps20, List.size_toArray, List.length_cons, List.length_nil, Nat.reduceAdd, Nat.reduceSub, Array.replicate_succ, Array.replicate_zero, List.push_toArray, List.append_toArray, List.nil_append, List.cons_append]
  gi_wp2_with (gi_at_call 49; refine (backward_in Fence.wide 4 t49 rfl _ _ _ _).mono ?_; rintro e w' ⟨rfl, rfl⟩)
  obtain ⟨W0, hW0⟩ : ∃ W0, ((w.alloc (Obj.map #[] 0)).alloc (Obj.cells #[Value.map (some w.heap.size)] 70)).alloc (Obj.cells #[Value.slice a l.length cap] 22) = W0 := ⟨_, rfl⟩
  have hsz : W0.heap.size = w.heap.size + 3 := by rw [← hW0]; simp
  have hB0 : Below w.heap.size w W0 := by rw [← hW0]; exact balloc (balloc (balloc (Below.refl _ w) _) _) _
  have bH : W0.cell? ⟨w.heap.size + 1, 0, none⟩ = some (.map (some w.heap.size)) := by
    rw [← hW0]
    have s : ((w.alloc (Obj.map #[] 0)).alloc (Obj.cells #[Value.map (some w.heap.size)] 70)).heap.size = w.heap.size + 1 + 1 := by simp
    have s2 : (w.alloc (Obj.map #[] 0)).heap.size = w.heap.size + 1 := by simp
    rw [World.cell?_alloc_past _ _ _ (by rw [s]; omega), World.cell?_alloc_at _ _ _ _ s2.symm]; rfl
  have bS : W0.cell? ⟨w.heap.size + 1 + 1, 0, none⟩ = some (.slice a l.length cap) := by
    rw [← hW0]
    have s : ((w.alloc (Obj.map #[] 0)).alloc (Obj.cells #[Value.map (some w.heap.size)] 70)).heap.size = w.heap.size + 1 + 1 := by simp
    rw [World.cell?_alloc_at _ _ _ _ s.symm]; rfl
  have ho0 : W0.ownsMap Try.prog 9 RS w.heap.size 0 (mpD []) := by rw [← hW0]; exact ((World.ownsMap_made w Try.prog 9 RS).alloc _).alloc _
  rw [hW0]
  clear hW0
  refine wpIn_rangeFunc_ownH rfl (by omega) (gf := 81) (lb := #[.pointer (some ⟨w.heap.size + 1 + 1, 0, none⟩)]) rfl t81 (enters_of Try.func81 (by kernel_rfl) rfl)
    (back_stops Fence.wide (5 - 1) t81 rfl (by omega) (w.heap.size + 1 + 1) W0.heap.size w.heap.size cap a l hz hl W0 (by omega) (by omega) (by omega) bS (fun b off e h => by
      obtain ⟨b', off', e', hlt, _⟩ := hr 0 h
      rw [e] at e'
      cases e'
      omega) (hr.below hB0)) (fun h k => h.trans k) (fun W lq o o' h1 h2 h3 h4 => fun k hk _ => (belowK_b (w := W0) (Nat.le_refl _) W lq o o' h1 h2 h3 h4).block k hk) (Below.refl _ _) (fun _ => rfl)
    (fun pre W => ((W.cell? ⟨w.heap.size + 1, 0, none⟩ = some (.map (some w.heap.size)) ∧ W.ownsMap Try.prog 9 RS w.heap.size pre.length (mpD pre)) ∧ W0.heap.size ≤ W.heap.size) ∧ Below w.heap.size w W)
    (fun _ _ _ => False)
    (OwnFrom.and (fun s A B row hs hg hr => ⟨⟨cell_kept hs.1.1 hg (fun r e => (hr r e).2), hs.1.2.kept hg (fun e => by have := (hr _ e.symm).1; omega)⟩, Nat.le_trans hs.2 hg.size⟩) (ownFrom_below (Nat.le_refl _) (by omega)))
    (fun _ _ _ _ _ hs _ _ => hs)
    ⟨⟨⟨bH, ho0⟩, Nat.le_refl _⟩, hB0⟩
    (fun x a' W => ∃ Bx, W0.heap.size ≤ Bx ∧ (W.cell? ⟨Bx, 0, none⟩ = some (.string x.1.2.1) ∧ W.cell? ⟨Bx, 1, none⟩ = some (.int .i64 x.1.2.2.1) ∧ W.cell? ⟨Bx, 2, none⟩ = some (.int .i64 x.1.2.2.2)) ∧ a' = { tmps := #[.slice a l.length cap, .slice a2 m.length cap2, undef, undef, .bool false, .pointer (some ⟨w.heap.size + 1, 0, none⟩), undef, .pointer (some ⟨Bx, 0, none⟩), .slice a l.length cap, .int .i64 l.length, .map (some w.heap.size), .slice a l.length cap, .func (.func 81) #[] #[.pointer (some ⟨w.heap.size + 1 + 1, 0, none⟩)], .int .i64 x.1.1, .agg #[.string x.1.2.1, .int .i64 x.1.2.2.1, .int .i64 x.1.2.2.2], undef, undef, undef, undef, undef, undef, undef, undef, undef], defers := [] })
    (fun x a' _ X Y row hs hg hr => by
      obtain ⟨Bx, h1, ⟨k0, k1, k2⟩, h3⟩ := hs
      exact ⟨Bx, h1, ⟨cell_kept k0 hg (fun r e => (hr r e).2), cell_kept k1 hg (fun r e => (hr r e).2), cell_kept k2 hg (fun r e => (hr r e).2)⟩, h3⟩)
    ?assign ?body ?done ?stop
  case assign =>
    rintro lp pre x W K ⟨⟨⟨hc, hown⟩, hsW⟩, hB⟩ hK
    gi_wp2
    exact hK _ _ ((KeepsOthers.alloc _ _).from _) (fun k hk _ => Below.heap_alloc _ _ _ (by omega)) ⟨⟨⟨kc (balloc (Below.refl _ W) _) hc, hown.alloc _⟩, by simp; omega⟩, hB.alloc hB.size _⟩ ⟨W.heap.size, hsW, ⟨by simp, by simp, by simp⟩, rfl⟩
  case body =>
    rintro lp pre x a' W hlp ⟨r, hr'⟩ ⟨⟨⟨hc, hown⟩, hsW⟩, hB⟩ ⟨Bx, hBx, ⟨k0, k1, k2⟩, rfl⟩ hlt
    gi_wp2_with (gi_at_mapUpdate; refine wpListIn_mapUpdate_own _ rfl _ _ _ 70 rfl 9 24 (Maps.string_keyed Try.underlying9) Try.underlying70 RS w.heap.size pre.length _ rfl hown (by unfold maxLen; omega) _ _ _ rfl rfl (WideMaps.keyOf_string_mk Try.underlying9 x.2) _ [] (RS_mk _ _) ?_; intro w1 hown1 hgrow1)
    obtain ⟨es, ck, hh, _⟩ := hown
    have hg2 := hgrow1.size
    exact ⟨KeepsFrom.of_grownBy hgrow1 (fun j e => by cases e; omega), (fun k hk hne => hgrow1.block k (by omega) (fun e => hne (by cases e; rfl))), ⟨⟨cell_kept hc hgrow1 (fun r e => by cases e; exact ⟨_, hh, rfl⟩), by rw [mpD_snoc, List.length_append]; exact hown1⟩, by omega⟩, hB.grown hgrow1 hB.size (fun k e => by cases e; exact Nat.le_refl _)⟩
  case done =>
    rintro D ys W hD rfl ⟨⟨⟨hc, hown⟩, hsW⟩, hB⟩ hK
    have hDl : D < W.heap.size := (Array.getElem?_eq_some_iff.1 hK).1
    have hcon := contFunc_any 51 #[.pointer (some ⟨w.heap.size + 1, 0, none⟩)] (enters_of Try.func51 (by kernel_rfl) rfl) (fun d => Sm.less (gtD l d.1) d.2) a2 cap2 W.heap.size m W hm (hr2.below hB) (Nat.le_refl _)
      (fun W' d hd hb => coversC_any l hz _ _ _ d.1 d.2.1 d.2.2 W' (by have := hz2 d hd; unfold maxLen; omega) (kc hb hc) (own_map_below hown hb))
    generalize hrr : (m.any fun d => Sm.less (gtD l d.1) d.2) = rr at hcon
    have HRR := Lib.hid hrr
    clear hrr
    gi_wp2_with (gi_at_call 50; refine (callsIn_wide.2 hcon).mono ?_; rintro e w' ⟨rfl, hb'⟩)
    have hK' := (hb'.block D hDl).trans hK
    refine ⟨by simp, .inl ⟨_, _, rfl, run_takeDeferred hK', ?_⟩⟩
    refine ⟨_, results_tmp rfl _ _ _, ?_, (bstep hB hb').trans (belowK_b (w := w) (Nat.le_refl _) w' D _ _ (by omega) hK' rfl rfl)⟩
    rw [HRR.out]
    rfl
  case stop =>
    rintro D c pre W _ _ h _
    exact h.elim
end Go.Proofs.Ytplpeokmhomojaa
/- What slices.Equal, past.Same and the document's Same answer. -/
namespace Go.Proofs.Ytplpeokmhomojaa
open Go.RowKit
set_option linter.unusedVariables false

/-- Two dependencies compared as structs. -/
theorem eq_dep (w : World) (k : ByteArray) (n s : Int) (k' : ByteArray) (m t : Int) : (binOp .eql 26 (.agg #[.string k, .int .i64 n, .int .i64 s]) (.agg #[.string k', .int .i64 m, .int .i64 t])).run Try.prog w = .ok (.bool (decide (((k, n, s) : De) = (k', m, t)))) w := by
  rw [run_eql_struct, run_equalIn_agg w 9999 26 _ _ (by kernel_rfl) (by kernel_rfl)]
  unfold Program.fieldsOf
  rw [Try.underlying26]
  simp [go_sem, Try.underlying3, Try.underlying9]
  have hk : k.toList = k'.toList ↔ k = k' := by
    rw [Lib.toList_data, Lib.toList_data]
    exact ⟨fun h => ByteArray.ext (Array.toList_inj.1 h), fun h => by rw [h]⟩
  by_cases h1 : k = k' <;> by_cases h2 : n = m <;> by_cases h3 : s = t <;> simp [hk, h1, h2, h3]
theorem ne_dep (w : World) (k : ByteArray) (n s : Int) (k' : ByteArray) (m t : Int) : (binOp .neq 26 (.agg #[.string k, .int .i64 n, .int .i64 s]) (.agg #[.string k', .int .i64 m, .int .i64 t])).run Try.prog w = .ok (.bool (!decide (((k, n, s) : De) = (k', m, t)))) w := by
  have h := eq_dep w k n s k' m t
  rw [run_eql_struct] at h
  rw [run_neq_struct]
  generalize (Op.equalIn 10000 _ _ _).run _ _ = r at h
  cases r with
  | ok b w1 => simp at h ⊢; simp [h]
  | halt x w1 => simp at h
theorem bdrewN (w : World) (n : Nat) : Below w.heap.size w (w.drewN n) := ⟨rfl, rfl, rfl, Nat.le_refl _, fun _ _ => rfl⟩

set_option maxRecDepth 100000 in
set_option maxHeartbeats 1600000 in
theorem sliEqual_any (v1 v2 : Value) (l m : List De) (w : World) (hl : l.length ≤ 1000000) (h1 : DepAt w v1 l) (h2 : DepAt w v2 m) :
    Calls Try.prog 53 #[v1, v2] w fun e w' => e = .returned (.bool (decide (l = m))) ∧ Below w.heap.size w w' := by
  obtain ⟨a, ca, rfl, _, _, _, h1⟩ := h1
  obtain ⟨b, cb, rfl, _, _, _, h2⟩ := h2
  have HA := Lib.hid h1
  have HB := Lib.hid h2
  clear h1 h2
  by_cases hlen : l.length = m.length
  · rw [← hlen]
    have HN := Lib.hid hlen
    clear hlen
    have hnn : (l.length != l.length) = false := by simp
    have hni : ((l.length : Int) != (l.length : Int)) = false := by simp
    go_enter Try.func53, Try.ntmps53
    go_wp2
    go_loopw [13] (fun i wr => ∃ k n : Nat, k ≤ l.length ∧ i = .int .i64 k ∧ l.take k = m.take k ∧ wr = w.drewN n) (fun i _ => l.length - (intOf i).toNat)
    case atStart => exact ⟨0, 0, by omega, rfl, by simp, rfl⟩
    case round =>
      obtain ⟨k, n, hk, rfl, hst, rfl⟩ := hrel
      have HS := Lib.hid hst
      clear hst
      by_cases hlt : k < l.length
      · have hlm : k < m.length := by rw [← HN.out]; exact hlt
        obtain ⟨b1, o1, rfl, _, c10, c11, c12⟩ := HA.out k hlt
        obtain ⟨b2, o2, rfl, _, c20, c21, c22⟩ := HB.out k hlm
        have HL := Lib.hid (List.take_succ_eq_append_getElem hlt)
        have HM := Lib.hid (List.take_succ_eq_append_getElem hlm)
        have HNE : Hid (l[k] ≠ m[k] → l ≠ m) := Lib.hid (fun h e => h (by subst e; rfl))
        generalize l[k] = x at c10 c11 c12 HL HNE
        generalize m[k] = y at c20 c21 c22 HM HNE
        obtain ⟨x0, x1, x2⟩ := x
        obtain ⟨y0, y1, y2⟩ := y
        dsimp only at c10 c11 c12 c20 c21 c22
        have hne := fun w' => ne_dep w' x0 x1 x2 y0 y1 y2
        clear hlm
        by_cases hxy : ((x0, x1, x2) : De) = (y0, y1, y2)
        · have hd : (decide (((x0, x1, x2) : De) = (y0, y1, y2))) = true := by simpa using hxy
          rw [hd] at hne
          have HX := Lib.hid hxy
          clear hxy hd
          go_wp2_with fail
          go_quiet (fail)
          go_wp2
          go_roundw
          case rel => exact ⟨k + 1, _, by omega, by go_num, by rw [HL.out, HM.out, HS.out, HX.out], rfl⟩
          case measure => simp [intOf]; omega
        · have hd : (decide (((x0, x1, x2) : De) = (y0, y1, y2))) = false := by simpa using hxy
          rw [hd] at hne
          have HX := Lib.hid hxy
          clear hxy hd
          go_wp2_with fail
          go_quiet (fail)
          go_wp2
          go_ret
          exact ⟨ret_bool (decide_eq_false (HNE.out HX.out)).symm, bstep (bdrewN w _) (bdrewN _ _)⟩
      · obtain rfl : k = l.length := by omega
        have HE : Hid (l = m) := Lib.hid (by have h := HS.out; rw [List.take_of_length_le (Nat.le_refl _), HN.out, List.take_of_length_le (Nat.le_refl _)] at h; exact h)
        go_wp2
        go_ret
        exact ⟨ret_bool (decide_eq_true HE.out).symm, bdrewN w _⟩
  · have hnn : (l.length != m.length) = true := by simpa using hlen
    have hni : ((l.length : Int) != (m.length : Int)) = true := by simp; omega
    rw [show decide (l = m) = false from decide_eq_false (fun e => hlen (by rw [e]))]
    have hx : ¬ (l.length : Int) = (m.length : Int) := by omega
    go_enter Try.func53, Try.ntmps53
    go_wp2
    go_ret
    exact ⟨rfl, Below.refl _ _⟩

set_option maxRecDepth 100000 in
set_option maxHeartbeats 1600000 in
theorem refPSame_any (v1 v2 : Value) (l m : List De) (w : World) (hl : l.length ≤ 1000000) (h1 : DepAt w v1 l) (h2 : DepAt w v2 m) :
    Calls Try.prog 11 #[v1, v2] w fun e w' => e = .returned (.bool (decide (l = m))) ∧ Below w.heap.size w w' := by
  obtain ⟨a, ca, rfl, _, _, _, h1⟩ := h1
  obtain ⟨b, cb, rfl, _, _, _, h2⟩ := h2
  have HA := Lib.hid h1
  have HB := Lib.hid h2
  clear h1 h2
  by_cases hlen : l.length = m.length
  · rw [← hlen]
    have HN := Lib.hid hlen
    clear hlen
    have hnn : (l.length != l.length) = false := by simp
    have hni : ((l.length : Int) != (l.length : Int)) = false := by simp
    go_enter Try.func11, Try.ntmps11
    go_wp2
    go_loopw [5] (fun i wr => ∃ k n : Nat, k ≤ l.length ∧ i = .int .i64 k ∧ l.take k = m.take k ∧ wr = w.drewN n) (fun i _ => l.length - (intOf i).toNat)
    case atStart => exact ⟨0, 0, by omega, rfl, by simp, rfl⟩
    case round =>
      obtain ⟨k, n, hk, rfl, hst, rfl⟩ := hrel
      have HS := Lib.hid hst
      clear hst
      by_cases hlt : k < l.length
      · have hlm : k < m.length := by rw [← HN.out]; exact hlt
        obtain ⟨b1, o1, rfl, _, c10, c11, c12⟩ := HA.out k hlt
        obtain ⟨b2, o2, rfl, _, c20, c21, c22⟩ := HB.out k hlm
        have HL := Lib.hid (List.take_succ_eq_append_getElem hlt)
        have HM := Lib.hid (List.take_succ_eq_append_getElem hlm)
        have HNE : Hid (l[k] ≠ m[k] → l ≠ m) := Lib.hid (fun h e => h (by subst e; rfl))
        generalize l[k] = x at c10 c11 c12 HL HNE
        generalize m[k] = y at c20 c21 c22 HM HNE
        obtain ⟨x0, x1, x2⟩ := x
        obtain ⟨y0, y1, y2⟩ := y
        dsimp only at c10 c11 c12 c20 c21 c22
        have hne := fun w' => ne_dep w' x0 x1 x2 y0 y1 y2
        clear hlm
        by_cases hxy : ((x0, x1, x2) : De) = (y0, y1, y2)
        · have hd : (decide (((x0, x1, x2) : De) = (y0, y1, y2))) = true := by simpa using hxy
          rw [hd] at hne
          have HX := Lib.hid hxy
          clear hxy hd
          go_wp2_with fail
          go_quiet (fail)
          go_wp2
          go_roundw
          case rel => exact ⟨k + 1, _, by omega, by go_num, by rw [HL.out, HM.out, HS.out, HX.out], rfl⟩
          case measure => simp [intOf]; omega
        · have hd : (decide (((x0, x1, x2) : De) = (y0, y1, y2))) = false := by simpa using hxy
          rw [hd] at hne
          have HX := Lib.hid hxy
          clear hxy hd
          go_wp2_with fail
          go_quiet (fail)
          go_wp2
          go_ret
          exact ⟨ret_bool (decide_eq_false (HNE.out HX.out)).symm, bstep (bdrewN w _) (bdrewN _ _)⟩
      · obtain rfl : k = l.length := by omega
        have HE : Hid (l = m) := Lib.hid (by have h := HS.out; rw [List.take_of_length_le (Nat.le_refl _), HN.out, List.take_of_length_le (Nat.le_refl _)] at h; exact h)
        go_wp2
        go_ret
        exact ⟨ret_bool (decide_eq_true HE.out).symm, bdrewN w _⟩
  · have hnn : (l.length != m.length) = true := by simpa using hlen
    have hni : ((l.length : Int) != (m.length : Int)) = true := by simp; omega
    rw [show decide (l = m) = false from decide_eq_false (fun e => hlen (by rw [e]))]
    have hx : ¬ (l.length : Int) = (m.length : Int) := by omega
    go_enter Try.func11, Try.ntmps11
    go_wp2
    go_ret
    exact ⟨rfl, Below.refl _ _⟩

set_option maxRecDepth 100000 in
theorem same_any (v1 v2 : Value) (l m : List De) (w : World) (hl : l.length ≤ 1000000) (h1 : DepAt w v1 l) (h2 : DepAt w v2 m) :
    Calls Try.prog 22 #[v1, v2] w fun e w' => e = .returned (.bool (decide (l = m))) ∧ Below w.heap.size w w' := by
  have hcon := sliEqual_any v1 v2 l m w hl h1 h2
  generalize decide (l = m) = c at hcon ⊢
  obtain ⟨a, ca, rfl, _, _, _, _⟩ := h1
  obtain ⟨b, cb, rfl, _, _, _, _⟩ := h2
  go_enter Try.func22, Try.ntmps22
  go_wp2_with fail
  refine hcon.mono ?_
  rintro e w1 ⟨rfl, hb⟩
  go_wp2
  go_ret
  exact ⟨rfl, hb⟩
end Go.Proofs.Ytplpeokmhomojaa
/- What the laws' own 'awake' answers. -/
namespace Go.Proofs.Ytplpeokmhomojaa
open Go.RowKit
set_option linter.unusedVariables false
set_option linter.unusedSimpArgs false

/-- A row that was just laid. -/
theorem DepAt.new (w : World) (l : List De) (T : TypeId) (hl : l.length ≤ 1000000) : DepAt (w.alloc (.cells (dV l).toArray T)) (.slice (some ⟨w.heap.size, 0, none⟩) l.length l.length) l := by
  refine ⟨_, _, rfl, Nat.le_refl _, by unfold maxLen; omega, by simp, fun i hi => ?_⟩
  have hc : ∀ j, (w.alloc (.cells (dV l).toArray T)).cell? ⟨w.heap.size, j, none⟩ = (dV l)[j]? := by
    intro j
    rw [Lib.cell_of_heap (heap_alloc_new w _)]
    simp
  obtain ⟨k0, k1, k2⟩ := dV_get l i hi
  refine ⟨w.heap.size, 0, rfl, by simp, ?_, ?_, ?_⟩
  · rw [hc, Nat.zero_add]; exact k0
  · rw [hc, Nat.zero_add]; exact k1
  · rw [hc, Nat.zero_add]; exact k2
/-- Two slices that were just laid, as a row of pasts. -/
theorem RowsAt.two {w : World} {v1 v2 : Value} {l m : List De} (T : TypeId) (h1 : DepAt w v1 l) (h2 : DepAt w v2 m) : RowsAt (w.alloc (.cells #[v1, v2] T)) (some ⟨w.heap.size, 0, none⟩) [l, m] := by
  refine ⟨[v1, v2], rfl, fun i hi => ⟨w.heap.size, 0, rfl, by simp, ?_⟩, fun i hi hi' => ?_⟩
  · rw [Lib.cell_of_heap (heap_alloc_new w _), Nat.zero_add]
    match i, hi with
    | 0, _ => rfl
    | 1, _ => rfl
  · match i, hi' with
    | 0, _ => exact h1.alloc _
    | 1, _ => exact h2.alloc _

def awA : List De := [(⟨#[97]⟩, 3, 0), (⟨#[98]⟩, 1, 0)]
def awB : List De := [(⟨#[97]⟩, 2, 0), (⟨#[99]⟩, 4, 0)]
def awM : List De := [(⟨#[97]⟩, 3, 0), (⟨#[98]⟩, 1, 0), (⟨#[99]⟩, 4, 0)]
theorem awM_is : mergeR [awA, awB] = awM := by decide +kernel
theorem awM_1 : (!(awA.any fun d => Sm.less (gtD awM d.1) d.2)) = true := by decide +kernel
theorem awM_2 : (!(awB.any fun d => Sm.less (gtD awM d.1) d.2)) = true := by decide +kernel
theorem awM_3 : chkD awM = true := by decide +kernel
theorem aw_szd : Szd awA ∧ Szd awB ∧ Szd awM := by
  refine ⟨?_, ?_, ?_⟩ <;> (intro d hd; simp [awA, awB, awM] at hd; rcases hd with rfl | hd; · decide)
  · subst hd; decide
  · subst hd; decide
  · rcases hd with rfl | rfl <;> decide

set_option maxRecDepth 100000 in
set_option maxHeartbeats 3200000 in
theorem pawake_any (w : World) : Calls Try.prog 9 #[] w fun e w' => e = .returned (.bool true) ∧ Below w.heap.size w w' := by
  go_enter Try.func9, Try.ntmps9
  go_wp2_with fail
  refine (dep_any _ _ _).mono ?_
  rintro e w1 ⟨rfl, hb1⟩
  go_wp2_with fail
  refine (dep_any _ _ _).mono ?_
  rintro e w2 ⟨rfl, hb2⟩
  have hbA := bstep hb1 hb2
  clear hb1 hb2
  have HA0 := DepAt.new w2 awA 26 (by decide)
  have hbA2 : Below w.heap.size w (w2.alloc (.cells (dV awA).toArray 26)) := balloc hbA _
  have HA := Lib.hid HA0
  clear HA0
  go_wp2_with fail
  refine (dep_any _ _ _).mono ?_
  rintro e w3 ⟨rfl, hb3⟩
  go_wp2_with fail
  refine (dep_any _ _ _).mono ?_
  rintro e w4 ⟨rfl, hb4⟩
  have HA4 := Lib.hid ((HA.out.below hb3).below hb4)
  have hbB := bstep (bstep hbA2 hb3) hb4
  clear hb3 hb4 HA hbA hbA2
  have HB := Lib.hid (DepAt.new w4 awB 26 (by decide))
  have HA5 := Lib.hid (HA4.out.alloc (.cells (dV awB).toArray 26))
  have hbB2 : Below w.heap.size w (w4.alloc (.cells (dV awB).toArray 26)) := balloc hbB _
  have HR0 := RowsAt.two 22 HA5.out HB.out
  rw [show (w4.alloc (.cells (dV awB).toArray 26)).heap.size = w4.heap.size + 1 by simp] at HR0
  have HR := Lib.hid HR0
  clear HR0
  have HA6 := Lib.hid (HA5.out.alloc (.cells #[.slice (some ⟨w2.heap.size, 0, none⟩) 2 2, .slice (some ⟨w4.heap.size, 0, none⟩) 2 2] 22))
  have HB6 := Lib.hid (HB.out.alloc (.cells #[.slice (some ⟨w2.heap.size, 0, none⟩) 2 2, .slice (some ⟨w4.heap.size, 0, none⟩) 2 2] 22))
  have hbC : Below w.heap.size w ((w4.alloc (.cells (dV awB).toArray 26)).alloc (.cells #[.slice (some ⟨w2.heap.size, 0, none⟩) 2 2, .slice (some ⟨w4.heap.size, 0, none⟩) 2 2] 22)) := balloc hbB2 _
  clear HA4 HA5 HB hbB hbB2
  go_wp2_with fail
  refine (merge_any _ _ [awA, awB] _ (by decide) (by decide) (by intro l hl; simp at hl; rcases hl with rfl | rfl; exact aw_szd.1; exact aw_szd.2.1) HR.out).mono ?_
  rintro e w5 ⟨v5, rfl, r, hr, ho5, hb5⟩
  obtain rfl : r = awM := by
    rw [← awM_is]
    exact IsMerge.uniq hr (mergeR_spec [awA, awB]) (fun _ => Iff.rfl)
  clear hr HR
  have HA7 := Lib.hid (HA6.out.below hb5)
  have HB7 := Lib.hid (HB6.out.below hb5)
  have HM := Lib.hid (DepAt.of_own ho5)
  have hbD := bstep hbC hb5
  clear HA6 HB6 hbC hb5
  obtain ⟨ma, mc, rfl⟩ := ho5.shape
  clear ho5
  go_wp2_with fail
  refine (dep_any _ _ _).mono ?_
  rintro e w6 ⟨rfl, hb6⟩
  go_wp2_with fail
  refine (dep_any _ _ _).mono ?_
  rintro e w7 ⟨rfl, hb7⟩
  go_wp2_with fail
  refine (dep_any _ _ _).mono ?_
  rintro e w8 ⟨rfl, hb8⟩
  have hb68 := bstep (bstep hb6 hb7) hb8
  have HA8 := Lib.hid ((HA7.out.below hb68).alloc (.cells (dV awM).toArray 26))
  have HB8 := Lib.hid ((HB7.out.below hb68).alloc (.cells (dV awM).toArray 26))
  have HM8 := Lib.hid ((HM.out.below hb68).alloc (.cells (dV awM).toArray 26))
  have HN := Lib.hid (DepAt.new w8 awM 26 (by decide))
  have hbE : Below w.heap.size w (w8.alloc (.cells (dV awM).toArray 26)) := balloc (bstep hbD hb68) _
  clear hb6 hb7 hb8 hb68 HA7 HB7 HM hbD
  go_wp2_with fail
  refine (refPSame_any _ _ awM awM _ (by decide) HM8.out HN.out).mono ?_
  rintro e w9 ⟨rfl, hb9⟩
  rw [show decide (awM = awM) = true from by simp]
  have HA9 := Lib.hid (HA8.out.below hb9)
  have HB9 := Lib.hid (HB8.out.below hb9)
  have HM9 := Lib.hid (HM8.out.below hb9)
  have hbF := bstep hbE hb9
  clear hb9 HA8 HB8 HM8 HN hbE
  go_wp2_with fail
  refine (covers_any _ _ awM awA _ (by decide) (by decide) aw_szd.2.2 aw_szd.1 HM9.out HA9.out).mono ?_
  rintro e w10 ⟨rfl, hb10⟩
  rw [awM_1]
  have HB10 := Lib.hid (HB9.out.below hb10)
  have HM10 := Lib.hid (HM9.out.below hb10)
  have hbG := bstep hbF hb10
  clear hb10 HA9 HB9 HM9 hbF
  go_wp2_with fail
  refine (covers_any _ _ awM awB _ (by decide) (by decide) aw_szd.2.2 aw_szd.2.1 HM10.out HB10.out).mono ?_
  rintro e w11 ⟨rfl, hb11⟩
  rw [awM_2]
  have HM11 := Lib.hid (HM10.out.below hb11)
  have hbH := bstep hbG hb11
  clear hb11 HB10 HM10 hbG
  go_wp2_with fail
  refine (pcheck_any _ awM _ (by decide) aw_szd.2.2 HM11.out).mono ?_
  rintro e w12 ⟨rfl, hb12⟩
  rw [awM_3]
  go_wp2
  go_ret
  exact ⟨rfl, bstep hbH hb12⟩
end Go.Proofs.Ytplpeokmhomojaa
/- What the law's own 'made' answers. -/
namespace Go.Proofs.Ytplpeokmhomojaa
open Go.RowKit
set_option linter.unusedVariables false
set_option linter.unusedSimpArgs false

def k20 (k : ByteArray) : ByteArray := if 20 < k.size then k.extract 0 20 else k
theorem k20_size (k : ByteArray) : (k20 k).size ≤ 20 := by
  unfold k20
  split
  · rw [ByteArray.size_extract]; omega
  · omega
def cutD (d : De) : De := (k20 d.1, d.2)
/-- The past that 'made' makes. -/
def mdD (l : List De) : List De := addAll [] ((l.take 12).map cutD)
theorem mdD_srt (l : List De) : Srt (mdD l) := (IsMerge.nil.all ((l.take 12).map cutD)).srt
theorem mdD_len (l : List De) : (mdD l).length ≤ 12 := by
  have h1 := addAll_len ((l.take 12).map cutD) []
  rw [List.length_map, List.length_take, List.length_nil] at h1
  unfold mdD
  omega
theorem mdK_step (l : List De) (k : Nat) (h : k < l.length) : addAll [] ((l.take (k + 1)).map cutD) = addR (addAll [] ((l.take k).map cutD)) (cutD l[k]) := by
  rw [List.take_succ_eq_append_getElem h, List.map_append, List.map_singleton, addAll_snoc]
theorem mdK_all (l : List De) (k : Nat) (hk : k ≤ l.length) (h12 : k ≤ 12) (hx : ¬ (k < l.length ∧ k < 12)) : addAll [] ((l.take k).map cutD) = mdD l := by
  unfold mdD
  by_cases e : k = 12
  · rw [e]
  · rw [List.take_of_length_le (by omega), List.take_of_length_le (by omega)]

set_option maxRecDepth 100000 in
set_option maxHeartbeats 3200000 in
theorem made_any (v : Value) (l : List De) (w : World) (hl : l.length ≤ 9223372036854775807) (hz : Szd l) (hr : DepAt w v l) :
    Calls Try.prog 10 #[v] w fun e w' => ∃ u, e = .returned u ∧ DepAt w' u (mdD l) ∧ Below w.heap.size w w' := by
  obtain ⟨a, cap, rfl, _, _, _, hr⟩ := hr
  have HR := Lib.hid hr
  have HZ := Lib.hid hz
  clear hr hz
  go_enter Try.func10, Try.ntmps10
  go_wp2
  go_loopw [3, 4] (fun o i wr => ∃ k : Nat, k ≤ l.length ∧ k ≤ 12 ∧ i = .int .i64 k ∧ DepAt wr o (addAll [] ((l.take k).map cutD)) ∧ Below w.heap.size w wr) (fun _ i _ => 12 - (intOf i).toNat)
  case atStart => exact ⟨0, by omega, by omega, rfl, DepAt.nil w, Below.refl _ _⟩
  case round =>
    obtain ⟨k, hk, hk12, rfl, hd, hbel⟩ := hrel
    obtain ⟨da, dc, rfl, _, _, _, _⟩ := id hd
    have HD := Lib.hid hd
    clear hd
    by_cases hlt : k < l.length ∧ k < 12
    · obtain ⟨h1, h2⟩ := hlt
      obtain ⟨b, off, rfl, hbl, c0, c1, c2⟩ := HR.out.below hbel k h1
      have HS := Lib.hid (mdK_step l k h1)
      have hsz := HZ.out l[k] (List.getElem_mem h1)
      have hal := addAll_len ((l.take k).map cutD) []
      have htl : ((l.take k).map cutD).length ≤ 12 := by simp; omega
      generalize l[k] = d at c0 c1 c2 HS hsz
      obtain ⟨x, y, z⟩ := d
      dsimp only at c0 c1 c2 hsz
      generalize hqq : addAll [] ((l.take k).map cutD) = q at HD HS hal
      clear hqq
      have hql : q.length ≤ 12 := by simp at hal; omega
      have h1i : (k : Int) < (l.length : Int) := by omega
      have h2i : (k : Int) < 12 := by omega
      have hd1 : decide (k < l.length) = true := by simpa using h1
      have hb1 : Below wr.heap.size wr (wr.alloc (.cells #[.string x, .int .i64 y, .int .i64 z] 26)) := balloc (Below.refl _ _) _
      by_cases h20 : 20 < x.size
      · have h20i : (20 : Int) < (x.size : Int) := by omega
        have hk20 : k20 x = x.extract 0 20 := by simp [k20, h20]
        have hks := k20_size x
        rw [hk20] at hks
        have HC : Hid (cutD (x, y, z) = (x.extract 0 20, y, z)) := Lib.hid (by simp [cutD, hk20])
        clear hk20
        have hb3 : Below wr.heap.size wr (wr.alloc (.cells #[.string (x.extract 0 20), .int .i64 y, .int .i64 z] 26)) := balloc (Below.refl _ _) _
        go_wp2_with fail
        refine (refAddP_any _ q (x.extract 0 20) y z _ (by omega) (by omega) (HD.out.below hb3)).mono ?_
        rintro e w2 ⟨v2, rfl, hd2, hb2⟩
        obtain ⟨va, vc, rfl, _, _, _, _⟩ := id hd2
        have HD2 := Lib.hid hd2
        clear hd2
        go_wp2
        go_roundw
        case rel => exact ⟨k + 1, by omega, by omega, by go_num, by rw [HS.out, HC.out]; exact HD2.out, bstep hbel (bstep hb3 hb2)⟩
        case measure => simp [intOf]; omega
      · have h20i : ¬ (20 : Int) < (x.size : Int) := by omega
        have HC : Hid (cutD (x, y, z) = (x, y, z)) := Lib.hid (by simp [cutD, k20, h20])
        go_wp2_with fail
        refine (refAddP_any _ q x y z _ (by omega) hsz (HD.out.below hb1)).mono ?_
        rintro e w2 ⟨v2, rfl, hd2, hb2⟩
        obtain ⟨va, vc, rfl, _, _, _, _⟩ := id hd2
        have HD2 := Lib.hid hd2
        clear hd2
        go_wp2
        go_roundw
        case rel => exact ⟨k + 1, by omega, by omega, by go_num, by rw [HS.out, HC.out]; exact HD2.out, bstep hbel (bstep hb1 hb2)⟩
        case measure => simp [intOf]; omega
    · have HX := Lib.hid (mdK_all l k hk hk12 hlt)
      rcases (show (decide (k < l.length) = false) ∨ (decide (k < l.length) = true ∧ decide ((k : Int) < 12) = false) by simp; omega) with hd | ⟨hd, hd2⟩
      all_goals
        go_wp2
        go_ret
        exact ⟨_, rfl, by rw [← HX.out]; exact HD.out, hbel⟩
end Go.Proofs.Ytplpeokmhomojaa
