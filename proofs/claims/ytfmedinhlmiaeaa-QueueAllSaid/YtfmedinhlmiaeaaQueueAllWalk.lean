/- QueueAll: the walk. -/
import Derived.Test.YtfmedinhlmiaeaaGQ27
import Derived.Deep.DeepCutAuto
namespace Go.Proofs.Ytfmedinhlmiaeaa
open Go.RowKit
set_option linter.unusedVariables false
set_option linter.unusedSimpArgs false

/-! All keys are own. -/
theorem out_none (d : De) : outD exR d = false := by
  unfold outD
  have : Km.fidx (tls exR) d.1.data.toList = ((0 : Nat) : Int) := Km.fidx_hit (by simp [tls]) (fun j hj h => by omega) (by
    show Km.has [] [] d.1.data.toList = true
    unfold Km.has
    rw [show Op.bytesLess d.1.data.toList [] = false from by cases d.1.data.toList <;> rfl]
    rfl)
  rw [this]
  rfl
theorem only_exR (l : List De) : onlyD exR l = l := by
  unfold onlyD kept
  rw [List.filter_eq_self]
  intro d hd
  show (!outD exR d) = true
  rw [out_none]
  rfl
theorem ready_all {hs : List De} {x : Vw} : readyB exR hs x = true ↔ ∀ d ∈ x.1.past, Sm.less (gtD hs d.1) d.2 = false := by
  rw [ready_iff, only_exR]
/-- What is there covers this version. -/
def covQ (hs : List De) (x : Vw) : Prop := Sm.less (gtD hs x.1.key) x.1.st = false
theorem min_ex : ∀ (l : List Vw), l ≠ [] → ∃ x ∈ l, ∀ y ∈ l, Sm.less y.1.st x.1.st = false
  | [], h => absurd rfl h
  | x :: r, _ => by
    by_cases hr : r = []
    · subst hr
      exact ⟨x, by simp, fun y hy => by simp at hy; subst hy; exact Sm.less_self _⟩
    · obtain ⟨z, hz, hmin⟩ := min_ex r hr
      cases hxz : Sm.less x.1.st z.1.st with
      | true =>
        refine ⟨x, by simp, fun y hy => ?_⟩
        rcases List.mem_cons.1 hy with rfl | hy
        · exact Sm.less_self _
        · cases hyx : Sm.less y.1.st x.1.st with
          | false => rfl
          | true =>
            have := Sm.less_trans hyx hxz
            rw [hmin y hy] at this
            cases this
      | false =>
        refine ⟨z, by simp [hz], fun y hy => ?_⟩
        rcases List.mem_cons.1 hy with rfl | hy
        · exact hxz
        · exact hmin y hy
theorem all_next {xs : List Vw} {ws : List Wr} (h : xs.map Prod.fst = mkV ws) {acc : List Vw} {hs : List De} (hsub : ∀ x ∈ acc, x ∈ xs) (hcov : ∀ x ∈ xs, x ∈ acc ∨ covQ hs x) (hne : acc ≠ []) : ∃ k, nxI exR hs acc = some k := by
  cases hn : nxI exR hs acc with
  | some k => exact ⟨k, rfl⟩
  | none =>
    exfalso
    unfold nxI at hn
    rw [List.findIdx?_eq_none_iff] at hn
    obtain ⟨v, hv, hmin⟩ := min_ex acc hne
    have h1 := hn v hv
    have hi := mq_inv h
    have hm : v.1 ∈ xs.map Prod.fst := List.mem_map.2 ⟨v, hsub v hv, rfl⟩
    have h2 : readyB exR hs v = true := ready_all.2 fun d hd => by
      obtain ⟨u, hu, _⟩ := cl_iff.1 (hi.snd.cl v.1 hm) d hd
      obtain ⟨hum, e1, e2⟩ := fnd_some hu
      obtain ⟨x, hx, rfl⟩ := List.mem_map.1 hum
      have hlt := hi.snd.lt v.1 hm d hd
      rcases hcov x hx with hx2 | hx2
      · have := hmin x hx2
        rw [e2, hlt] at this
        cases this
      · unfold covQ at hx2
        rw [e1, e2] at hx2
        exact hx2
    rw [h2] at h1
    cases h1
theorem less_turn {a b : Int × Int} (h : Sm.less a b = true) : Sm.less b a = false := by
  rw [Sm.less_iff] at h
  rw [Sm.less_false]
  omega
theorem push_ok {l : List Vw} {x : Vw} (h : okW x.1 = true) (hl : l.length < 24) : pushE l x = 0 ∧ pushL l x = l ++ [x] := by
  unfold pushE pushL
  rw [h, if_pos rfl, if_pos rfl, if_neg (by omega), if_neg (by omega)]
  exact ⟨rfl, rfl⟩
theorem cov_more {hs : List De} (hs1 : Srt hs) {d : De} (hd : okD d = true) {x : Vw} (h : covQ hs x) : covQ (addR hs d) x := by
  unfold covQ at *
  by_cases e : x.1.key = d.1
  · rw [e] at h ⊢
    rw [gtD_add hd hs1]
    split
    · rename_i hl
      exact Sm.le_trans h (less_turn hl)
    · exact h
  · rw [gtD_add_other hd hs1 e]
    exact h
theorem cov_new {hs : List De} (hs1 : Srt hs) {x : Vw} (hd : okD (x.1.key, x.1.st) = true) : covQ (addR hs (x.1.key, x.1.st)) x := by
  unfold covQ
  have := gtD_add hd hs1
  dsimp only at this
  rw [this]
  split
  · exact Sm.less_self _
  · rename_i hl
    simpa using hl
theorem cov_all {xs acc : List Vw} {hs : List De} (hs1 : Srt hs) (hcov : ∀ x ∈ xs, x ∈ acc ∨ covQ hs x) {k : Nat} (hk : k < acc.length) (hd : okD (acc[k].1.key, acc[k].1.st) = true) : ∀ x ∈ xs, x ∈ acc.take k ++ acc.drop (k + 1) ∨ covQ (addR hs (acc[k].1.key, acc[k].1.st)) x := by
  intro x hx
  rcases hcov x hx with h | h
  · have e : acc = acc.take k ++ acc[k] :: acc.drop (k + 1) := by rw [← List.drop_eq_getElem_cons hk, List.take_append_drop]
    rw [e, List.mem_append, List.mem_cons] at h
    rcases h with h | h | h
    · exact .inl (List.mem_append_left _ h)
    · right
      rw [h]
      exact cov_new hs1 hd
    · exact .inl (List.mem_append_right _ h)
  · exact .inr (cov_more hs1 hd h)
/-! Which ones were put in. -/
def atQ (xs : List Vw) (k : Nat) : Vw := xs[k]?.getD vw0
theorem atQ_at {xs : List Vw} {k : Nat} (h : k < xs.length) : atQ xs k = xs[k] := by unfold atQ; rw [List.getElem?_eq_getElem h]; rfl
structure Ixs (n : Nat) (ix : List Nat) : Prop where
  nd : ix.Nodup
  lt : ∀ k ∈ ix, k < n
theorem Ixs.nil (n : Nat) : Ixs n [] := ⟨List.nodup_nil, by simp⟩
theorem Ixs.add {n : Nat} {ix : List Nat} (h : Ixs n ix) {k : Nat} (hk : k < n) (hn : k ∉ ix) : Ixs n (ix ++ [k]) :=
  ⟨List.nodup_append.2 ⟨h.nd, by simp, fun a ha b hb e => by simp at hb; subst hb; subst e; exact hn ha⟩, fun j hj => by
    rw [List.mem_append, List.mem_singleton] at hj
    rcases hj with hj | rfl
    · exact h.lt j hj
    · exact hk⟩
theorem Ixs.len {n : Nat} {ix : List Nat} (h : Ixs n ix) : ix.length ≤ n := by
  have := nodup_len (m := List.range n) h.nd (fun a ha => List.mem_range.2 (h.lt a ha))
  simpa using this
theorem Ixs.full {n : Nat} {ix : List Nat} (h : Ixs n ix) (hall : ∀ k, k < n → k ∈ ix) : ix.length = n := by
  have h1 := h.len
  have h2 := nodup_len (l := List.range n) (m := ix) List.nodup_range (fun a ha => hall a (List.mem_range.1 ha))
  simp at h2
  omega
/-- The fourteen marks. -/
def UsedIn (w : World) (B : Nat) (ix : List Nat) : Prop := ∀ j, j < 14 → w.cell? ⟨B, j, none⟩ = some (.bool (decide (j ∈ ix))) ∧ w.frozen? ⟨B, j, none⟩ = false
theorem UsedIn.new (w : World) (T : TypeId) : UsedIn (w.alloc (.cells #[.bool false, .bool false, .bool false, .bool false, .bool false, .bool false, .bool false, .bool false, .bool false, .bool false, .bool false, .bool false, .bool false, .bool false] T)) w.heap.size [] := by
  intro j hj
  refine ⟨?_, by simp⟩
  rw [Lib.cell_of_heap (heap_alloc_new w _)]
  match j, hj with
  | 0, _ => rfl
  | 1, _ => rfl
  | 2, _ => rfl
  | 3, _ => rfl
  | 4, _ => rfl
  | 5, _ => rfl
  | 6, _ => rfl
  | 7, _ => rfl
  | 8, _ => rfl
  | 9, _ => rfl
  | 10, _ => rfl
  | 11, _ => rfl
  | 12, _ => rfl
  | 13, _ => rfl
theorem UsedIn.lt {w : World} {B : Nat} {ix : List Nat} (h : UsedIn w B ix) : B < w.heap.size := lt_of_cellN (h 0 (by omega)).1
theorem UsedIn.keep {w w' : World} {B : Nat} {ix : List Nat} (h : UsedIn w B ix) (hb : Below w.heap.size w w') : UsedIn w' B ix := fun j hj =>
  ⟨kc hb (h j hj).1, (hb.frozen (p := ⟨B, j, none⟩) h.lt).trans (h j hj).2⟩
theorem UsedIn.put {w : World} {B : Nat} {ix : List Nat} (h : UsedIn w B ix) (k : Nat) (hk : k < 14) : UsedIn (w.setCell ⟨B, k, none⟩ (.bool true)) B (ix ++ [k]) := by
  intro j hj
  refine ⟨?_, by simpa using (h j hj).2⟩
  by_cases e : k = j
  · subst e
    rw [World.cell?_setCell_same _ _ _ (h k hk).1]
    simp
  · rw [cell_put e (h j hj).1]
    simp [Ne.symm e]

set_option maxRecDepth 100000 in
set_option maxHeartbeats 12800000 in
theorem walkQueueAll (w : World) (a : Option Addr) (ws : List Wr) (cap : Nat) (hl : ws.length ≤ 9223372036854775807) (hr : WrIn w a ws) (v2 : Value) (od : List Int) (hor : RowAt KI w v2 od) (hol : od.length ≤ 140737488355328) :
    Calls Try.prog 4 #[.slice a ws.length cap, v2] w fun e w' => e = .returned (.bool true) ∧ Below w.heap.size w w' := by
  have HR := Lib.hid hr
  have HOR := Lib.hid hor
  obtain ⟨oa, oc, rfl, _, _, _, _⟩ := hor
  clear hr
  go_enter Try.func4, Try.ntmps4
  go_wp2_with fail
  refine (awake14_any _).mono ?_
  rintro e w1 ⟨rfl, hb1⟩
  have HB1 := Lib.hid hb1
  clear hb1
  go_wp2_with fail
  refine (made14_any a cap ws w1 hl (HR.out.below HB1.out)).mono ?_
  rintro e w2 ⟨u, xs, rfl, hmap, hqm, hb2⟩
  have HM2 := Lib.hid (mq_row hmap hqm)
  have HMAP := Lib.hid hmap
  obtain ⟨ua, uc, rfl, _, _, _⟩ := HM2.out.row.shape
  have hxl := mq_len hmap
  have HB2 := Lib.hid (bstep HB1.out hb2)
  clear hb2 hqm hmap
  go_upto_region 5 with fail
  have HU3 := Lib.hid (UsedIn.new w2 54)
  have HB23 := Lib.hid (balloc (Below.refl _ w2) (.cells #[.bool false, .bool false, .bool false, .bool false, .bool false, .bool false, .bool false, .bool false, .bool false, .bool false, .bool false, .bool false, .bool false, .bool false] 54))
  obtain ⟨UB, hUB⟩ : ∃ UB, UB = w2.heap.size := ⟨_, rfl⟩
  obtain ⟨w3, hw3⟩ : ∃ w3, w2.alloc (.cells #[.bool false, .bool false, .bool false, .bool false, .bool false, .bool false, .bool false, .bool false, .bool false, .bool false, .bool false, .bool false, .bool false, .bool false] 54) = w3 := ⟨_, rfl⟩
  rw [hw3] at HU3 HB23
  rw [← hUB] at HU3
  try rw [hw3]
  try rw [← hUB]
  have HUB := Lib.hid hUB
  clear hw3 hUB
  have HOR2 := Lib.hid (HOR.out.below HB2.out)
  go_wp2
  go_loopw [7, 9] (fun wv iv wr => ∃ (i : Nat) (ix : List Nat), i ≤ od.length + xs.length ∧ iv = .int .i64 i ∧ Hid (Ixs xs.length ix) ∧ Hid (∀ k, k + od.length < i → k ∈ ix) ∧ UsedIn wr UB ix ∧ OwnR KW wr (UB + 1) wv (ix.map (atQ xs)) ∧ Below w2.heap.size w2 wr) (fun _ iv _ => od.length + xs.length - (intOf iv).toNat)
  case atStart => exact ⟨0, [], by omega, rfl, Lib.hid (Ixs.nil _), Lib.hid (fun k h => by omega), HU3.out, OwnR.nil _ _ _, HB23.out⟩
  case round =>
    obtain ⟨i, ix, hi, rfl, HIX, HPR, hus, how, hbel⟩ := hrel
    have HU := Lib.hid hus
    have HO := Lib.hid how
    have HBEL := Lib.hid hbel
    obtain ⟨sa, sc, rfl⟩ := how.shape
    have hixl : ix.length ≤ 14 := by have := HIX.out.len; omega
    have HAL : Hid ((ix.map (atQ xs)).length = ix.length) := Lib.hid (by simp)
    have hs1 : IntKind.i64.wrap ((od.length : Int) + (xs.length : Int)) = (od.length : Int) + (xs.length : Int) := IntWalk.i64_in _ (by omega)
    have hs2 : IntKind.i64.wrap ((i : Int) - (od.length : Int)) = (i : Int) - (od.length : Int) := IntWalk.i64_in _ (by omega)
    clear hus how hbel
    obtain ⟨acc, hacc⟩ : ∃ acc, acc = ix.map (atQ xs) := ⟨_, rfl⟩
    have HACC := Lib.hid hacc
    rw [← hacc] at HO ⊢
    have hal : acc.length ≤ 14 := by rw [hacc, List.length_map]; exact hixl
    clear hacc HAL
    by_cases hlt : i < od.length + xs.length
    · have hlti : (i : Int) < (od.length : Int) + (xs.length : Int) := by omega
      by_cases hio : i < od.length
      · have hioi : (i : Int) < (od.length : Int) := by omega
        have hiob : decide ((i : Int) < (od.length : Int)) = true := by simpa using hioi
        have hi0 : (0 : Int) ≤ (i : Int) := by omega
        have hneg : (i : Int) - (od.length : Int) < 0 := by omega
        have HP1 : Hid (∀ k, k + od.length < i + 1 → k ∈ ix) := Lib.hid (fun k h => by omega)
        by_cases hn0 : xs.length = 0
        · have hn0i : ¬ (0 : Int) < (xs.length : Int) := by omega
          have hn0b : decide ((0 : Int) < (xs.length : Int)) = false := by simpa using hn0i
          go_wp2
          go_roundw
          case rel => exact ⟨i + 1, ix, by omega, by go_num, HIX, HP1, HU.out, by rw [← HACC.out]; exact HO.out, HBEL.out⟩
          case measure => simp [intOf]; omega
        · have hxp : 0 < xs.length := by omega
          have hn0i : (0 : Int) < (xs.length : Int) := by omega
          have hxz : ¬ (xs.length : Int) = 0 := by omega
          obtain ⟨ob, ooff, eoa, hob, hoc⟩ := RowIn.int (by obtain ⟨a9, c9, e9, _, _, _, h9⟩ := HOR2.out.below HBEL.out; cases e9; exact h9) i hio
          subst eoa
          obtain ⟨m1, m2, m3, m4⟩ := sawI_eq od[i] hxp (by omega)
          have hkx' := sawI_lt od[i] hxp
          generalize od[i] = q at hoc m1 m2 m3 m4 hkx'
          generalize sawI q xs.length = kk at m3 m4 hkx'
          have HP2 : Hid (∀ k, k + od.length < i + 1 → k ∈ ix ++ [kk]) := Lib.hid (fun k h => by omega)
          have hkl14 : kk < 14 := by omega
          have hkn : ¬ (kk : Int) < 0 := by omega
          have hk0 : (0 : Int) ≤ (kk : Int) := by omega
          have hk14 : (kk : Int) < 14 := by omega
          have hkx : (kk : Int) < (xs.length : Int) := by omega
          by_cases hin : kk ∈ ix
          · obtain ⟨u0, uf⟩ := HU.out kk hkl14
            rw [decide_eq_true hin] at u0
            clear uf hin
            go_wp2
            go_roundw
            case rel => exact ⟨i + 1, ix, by omega, by go_num, HIX, HP1, HU.out, by rw [← HACC.out]; exact HO.out, HBEL.out⟩
            case measure => simp [intOf]; omega
          · obtain ⟨u0, uf⟩ := HU.out kk hkl14
            rw [decide_eq_false hin] at u0
            have HIN := Lib.hid hin
            clear hin
            obtain ⟨b, off, eua, hbl, hq, hvb⟩ := HM2.out.row.at kk hkx'
            subst eua
            have hBW : Below w2.heap.size w2 (wr.setCell ⟨UB, kk, none⟩ (.bool true)) := HBEL.out.setCell (p := ⟨UB, kk, none⟩) (by rw [HUB.out]; exact Nat.le_refl _) _
            have hqW := hq.keep hBW
            have hvW := hvb.below hBW
            have hUW := HU.out.put kk hkl14
            have hOW : OwnR KW (wr.setCell ⟨UB, kk, none⟩ (.bool true)) (UB + 1) (.slice sa acc.length sc) acc := HO.out.block (fun g e => Below.heap_setCell _ _ _ _ (show g ≠ UB from by have := (HO.out.lt g e).1; omega))
            have hok := mq_okW HMAP.out xs[kk] (List.getElem_mem hkx')
            have HAT := Lib.hid (atQ_at hkx')
            obtain ⟨W, hW⟩ : ∃ W, wr.setCell ⟨UB, kk, none⟩ (.bool true) = W := ⟨_, rfl⟩
            have hpu := push_any (.slice sa acc.length sc) acc xs[kk] (wr.setCell ⟨UB, kk, none⟩ (.bool true)) (by omega) (RowAt.of_own kw_ok hOW) hvW.1
            obtain ⟨p1, p2⟩ := push_ok (l := acc) hok (by omega)
            rw [p1, p2] at hpu
            rw [hW] at hpu hBW hqW hUW hOW
            generalize xs[kk] = x at hqW hpu HAT
            obtain ⟨acc2, hacc2⟩ : ∃ acc2, acc2 = acc ++ [x] := ⟨_, rfl⟩
            rw [← hacc2] at hpu
            have HA2 := Lib.hid hacc2
            have HBW := Lib.hid hBW
            have HUW := Lib.hid hUW
            have HQ := Lib.hid hqW
            clear hq hvb hvW hOW hok p1 p2 hacc2 hBW hUW hqW
            obtain ⟨⟨xk, xv, xg, ⟨xn, xs'⟩, xp⟩, xa, xc⟩ := x
            obtain ⟨c0, c1, c2, c3, c4, c5⟩ := HQ.out
            dsimp only [wV, wcs, wvs, pw] at c0 c1 c2 c3 c4 c5 hpu
            go_upto_region 13 with fail
            try rw [hW]
            clear hW u0 uf
            go_wp2_with fail
            refine hpu.mono ?_
            rintro e w5 ⟨v5, rfl, ho5, hb5⟩
            obtain ⟨sa5, sc5, rfl⟩ := ho5.shape
            have HO5 := Lib.hid ho5
            have HB5 := Lib.hid (HBW.out.trans (hb5.mono HBW.out.size))
            have HU5 := Lib.hid (HUW.out.keep hb5)
            have HWS : Hid (UB + 1 ≤ W.heap.size) := Lib.hid (HUW.out.lt)
            clear ho5 hb5 hpu c0 c1 c2 c3 c4 c5
            go_wp2
            go_roundw
            case rel => exact ⟨i + 1, ix ++ [kk], by omega, by go_num, Lib.hid (HIX.out.add hkx' HIN.out), HP2, HU5.out, by rw [List.map_append, ← HACC.out, List.map_singleton, HAT.out, ← HA2.out]; exact HO5.out.mono HWS.out, HB5.out⟩
            case measure => simp [intOf]; omega
      · have hioi : ¬ (i : Int) < (od.length : Int) := by omega
        have hiob : decide ((i : Int) < (od.length : Int)) = false := by simpa using hioi
        obtain ⟨kk, hkk⟩ : ∃ kk, i = od.length + kk := ⟨i - od.length, by omega⟩
        have hkx' : kk < xs.length := by omega
        have hsk : (i : Int) - (od.length : Int) = (kk : Int) := by omega
        have hs3 : IntKind.i64.wrap ((i : Int) - (od.length : Int)) = (kk : Int) := by rw [hs2, hsk]
        clear hs2
        have HP1 : Hid (kk ∈ ix → ∀ k, k + od.length < i + 1 → k ∈ ix) := Lib.hid (fun h k h2 => by
          by_cases e : k = kk
          · rw [e]; exact h
          · exact HPR.out k (by omega))
        have HP2 : Hid (∀ k, k + od.length < i + 1 → k ∈ ix ++ [kk]) := Lib.hid (fun k h2 => by
          rw [List.mem_append, List.mem_singleton]
          by_cases e : k = kk
          · exact .inr e
          · exact .inl (HPR.out k (by omega)))
        clear hkk hsk
        have hkl14 : kk < 14 := by omega
        have hkn : ¬ (kk : Int) < 0 := by omega
        have hk0 : (0 : Int) ≤ (kk : Int) := by omega
        have hk14 : (kk : Int) < 14 := by omega
        have hkx : (kk : Int) < (xs.length : Int) := by omega
        by_cases hin : kk ∈ ix
        · obtain ⟨u0, uf⟩ := HU.out kk hkl14
          have HIN1 := Lib.hid hin
          rw [decide_eq_true hin] at u0
          clear uf hin
          go_wp2
          go_roundw
          case rel => exact ⟨i + 1, ix, by omega, by go_num, HIX, Lib.hid (HP1.out HIN1.out), HU.out, by rw [← HACC.out]; exact HO.out, HBEL.out⟩
          case measure => simp [intOf]; omega
        · obtain ⟨u0, uf⟩ := HU.out kk hkl14
          rw [decide_eq_false hin] at u0
          have HIN := Lib.hid hin
          clear hin
          obtain ⟨b, off, eua, hbl, hq, hvb⟩ := HM2.out.row.at kk hkx'
          subst eua
          have hBW : Below w2.heap.size w2 (wr.setCell ⟨UB, kk, none⟩ (.bool true)) := HBEL.out.setCell (p := ⟨UB, kk, none⟩) (by rw [HUB.out]; exact Nat.le_refl _) _
          have hqW := hq.keep hBW
          have hvW := hvb.below hBW
          have hUW := HU.out.put kk hkl14
          have hOW : OwnR KW (wr.setCell ⟨UB, kk, none⟩ (.bool true)) (UB + 1) (.slice sa acc.length sc) acc := HO.out.block (fun g e => Below.heap_setCell _ _ _ _ (show g ≠ UB from by have := (HO.out.lt g e).1; omega))
          have hok := mq_okW HMAP.out xs[kk] (List.getElem_mem hkx')
          have HAT := Lib.hid (atQ_at hkx')
          obtain ⟨W, hW⟩ : ∃ W, wr.setCell ⟨UB, kk, none⟩ (.bool true) = W := ⟨_, rfl⟩
          have hpu := push_any (.slice sa acc.length sc) acc xs[kk] (wr.setCell ⟨UB, kk, none⟩ (.bool true)) (by omega) (RowAt.of_own kw_ok hOW) hvW.1
          obtain ⟨p1, p2⟩ := push_ok (l := acc) hok (by omega)
          rw [p1, p2] at hpu
          rw [hW] at hpu hBW hqW hUW hOW
          generalize xs[kk] = x at hqW hpu HAT
          obtain ⟨acc2, hacc2⟩ : ∃ acc2, acc2 = acc ++ [x] := ⟨_, rfl⟩
          rw [← hacc2] at hpu
          have HA2 := Lib.hid hacc2
          have HBW := Lib.hid hBW
          have HUW := Lib.hid hUW
          have HQ := Lib.hid hqW
          clear hq hvb hvW hOW hok p1 p2 hacc2 hBW hUW hqW
          obtain ⟨⟨xk, xv, xg, ⟨xn, xs'⟩, xp⟩, xa, xc⟩ := x
          obtain ⟨c0, c1, c2, c3, c4, c5⟩ := HQ.out
          dsimp only [wV, wcs, wvs, pw] at c0 c1 c2 c3 c4 c5 hpu
          go_upto_region 13 with fail
          try rw [hW]
          clear hW u0 uf
          go_wp2_with fail
          refine hpu.mono ?_
          rintro e w5 ⟨v5, rfl, ho5, hb5⟩
          obtain ⟨sa5, sc5, rfl⟩ := ho5.shape
          have HO5 := Lib.hid ho5
          have HB5 := Lib.hid (HBW.out.trans (hb5.mono HBW.out.size))
          have HU5 := Lib.hid (HUW.out.keep hb5)
          have HWS : Hid (UB + 1 ≤ W.heap.size) := Lib.hid (HUW.out.lt)
          clear ho5 hb5 hpu c0 c1 c2 c3 c4 c5
          go_wp2
          go_roundw
          case rel => exact ⟨i + 1, ix ++ [kk], by omega, by go_num, Lib.hid (HIX.out.add hkx' HIN.out), HP2, HU5.out, by rw [List.map_append, ← HACC.out, List.map_singleton, HAT.out, ← HA2.out]; exact HO5.out.mono HWS.out, HB5.out⟩
          case measure => simp [intOf]; omega
    · have hie : i = od.length + xs.length := by omega
      have HFU : Hid (acc.length = xs.length) := Lib.hid (by rw [HACC.out, List.length_map]; exact HIX.out.full (fun k hk => HPR.out k (by omega)))
      have HSUB : Hid (∀ x ∈ acc, x ∈ xs) := Lib.hid (fun x hx => by
        rw [HACC.out] at hx
        obtain ⟨k, hk, rfl⟩ := List.mem_map.1 hx
        rw [atQ_at (HIX.out.lt k hk)]
        exact List.getElem_mem _)
      have HALL : Hid (∀ x ∈ xs, x ∈ acc) := Lib.hid (fun x hx => by
        obtain ⟨k, hk, rfl⟩ := List.getElem_of_mem hx
        rw [HACC.out, ← atQ_at hk]
        exact List.mem_map.2 ⟨k, HPR.out k (by omega), rfl⟩)
      have hge : ¬ (i : Int) < (od.length : Int) + (xs.length : Int) := by omega
      obtain ⟨w4, hw4⟩ : ∃ w4, w4 = wr := ⟨wr, rfl⟩
      subst hw4
      clear hie hs2
      go_wp2_with fail
      refine (ranges14_any 0 _).mono ?_
      rintro e w6 ⟨v6, rfl, ho6, hb6⟩
      rw [show rngsOf 0 = exR from rfl] at ho6
      obtain ⟨ra, rc, rfl⟩ := ho6.shape
      have HRG := Lib.hid (RowIn.of_own kr_ok ho6).rng
      have HB26 := Lib.hid (HBEL.out.trans (hb6.mono HBEL.out.size))
      have HM6 := Lib.hid (HM2.out.below HB26.out)
      have HO6 := Lib.hid (OwnR.below HO.out hb6)
      have HUS : Hid (UB + 1 ≤ w6.heap.size) := Lib.hid (by have h1 := HU.out.lt; have h2 := hb6.size; omega)
      clear ho6 hb6 hal hixl
      go_wp2
      clear hge hs1 hi hlt
      go_loopw [7, 13, 15] (fun wv hv iv wr => ∃ (s : Nat) (acc : List Vw) (hs : List De), s ≤ xs.length ∧ iv = .int .i64 s ∧ Hid (acc.length + s = xs.length) ∧ OwnR KW wr (UB + 1) wv acc ∧ Hid (∀ x ∈ acc, x ∈ xs) ∧ Hid (∀ x ∈ xs, x ∈ acc ∨ covQ hs x) ∧ DepAt wr hv hs ∧ Hid (Srt hs ∧ hs.length ≤ s) ∧ Below w6.heap.size w6 wr) (fun _ _ iv _ => xs.length - (intOf iv).toNat)
      case atStart => exact ⟨0, acc, [], by omega, rfl, Lib.hid (by rw [HFU.out, Nat.add_zero]), HO6.out, HSUB, Lib.hid (fun x hx => .inl (HALL.out x hx)), DepAt.nil _, Lib.hid ⟨Srt.nil, by simp⟩, Below.refl _ _⟩
      case round =>
        obtain ⟨s, acc, hs, hsn, rfl, HAL, how, HAM, HCOV, hdep, HSR, hbel2⟩ := hrel
        obtain ⟨w7, hw7⟩ : ∃ w7, w7 = wr := ⟨wr, rfl⟩
        subst hw7
        have HO := Lib.hid how
        obtain ⟨sa, sc, rfl⟩ := how.shape
        obtain ⟨ha, hc, rfl, _⟩ := id hdep
        have HBEL2 := Lib.hid hbel2
        have hacl : acc.length ≤ 14 := by have := HAL.out; omega
        by_cases hsl : s < xs.length
        · have hsi : (s : Int) < (xs.length : Int) := by omega
          have HPA : Hid (∀ x ∈ acc, x.1.past.length ≤ 100000) := Lib.hid (fun x hx => wr_past HM6.out x (HAM.out x hx))
          have HCX : Hid (Ctx w7 (.slice ha hs.length hc) hs ra exR) := Lib.hid ⟨by have := HSR.out.2; omega, HSR.out.1.szd, hdep, by simp, HRG.out.below hbel2⟩
          have HWR : Hid (WRow w7 (.slice sa acc.length sc) acc) := Lib.hid (WRow.of_own HO.out (fun x hx => ((HM6.out.row.below hbel2).2 x (HAM.out x hx))))
          have hnx := next_any (.slice sa acc.length sc) (.slice ha hs.length hc) acc hs ra rc exR w7 (by omega) HWR.out HPA.out HCX.out
          clear how hdep
          obtain ⟨k, hni⟩ := all_next HMAP.out HAM.out HCOV.out (by intro e; have := HAL.out; rw [e] at this; simp at this; omega)
          obtain ⟨hk, hrd⟩ := nx_some hni
          obtain ⟨e1, e2, e3⟩ := nx_at hk hni
          rw [e1, e2, hni] at hnx
          have hcv := cv_ready hrd
          rw [only_exR] at hcv
          have HCV := Lib.hid hcv
          have HMX := Lib.hid (HAM.out _ (List.getElem_mem hk))
          have HVB := Lib.hid (HWR.out.2 _ (List.getElem_mem hk))
          have hpl := HPA.out _ (List.getElem_mem hk)
          have HNL : Hid ((acc.take k ++ acc.drop (k + 1)).length + 1 = acc.length) := Lib.hid (by rw [List.length_append, List.length_take, List.length_drop]; omega)
          have HNM : Hid (∀ y ∈ acc.take k ++ acc.drop (k + 1), y ∈ xs) := Lib.hid (fun y hy => by
            rw [List.mem_append] at hy
            rcases hy with hy | hy
            · exact HAM.out y (List.mem_of_mem_take hy)
            · exact HAM.out y (List.mem_of_mem_drop hy))
          have HOKD : Hid (okD (acc[k].1.key, acc[k].1.st) = true) := Lib.hid ((mq_inv HMAP.out).dep (List.mem_map.2 ⟨acc[k], HMX.out, rfl⟩))
          have HNC := Lib.hid (cov_all HSR.out.1 HCOV.out hk HOKD.out)
          generalize acc.take k ++ acc.drop (k + 1) = nl at hnx HNL HNM HNC
          generalize acc[k] = x at hnx HCV HVB hpl HOKD HMX HNC
          clear e1 e2 e3 hrd hcv hni
          obtain ⟨⟨xk, xv, xg, ⟨xn, xs'⟩, xp⟩, xa, xc⟩ := x
          dsimp only [wV, wcs, wvs, pw, Option.isSome_some] at hnx HCV HVB hpl HOKD HNC
          have hxk : xk.size ≤ 9223372036854775807 := HVB.out.1.key
          have hwl : IntKind.i64.wrap ((acc.length : Int) - 1) = (nl.length : Int) := by rw [IntWalk.i64_in _ (by omega)]; have := HNL.out; omega
          go_wp2_with fail
          refine hnx.mono ?_
          rintro e w8 ⟨v8, rfl, ho8, hb8⟩
          obtain ⟨sa8, sc8, rfl⟩ := ho8.shape
          have HO8 := Lib.hid ho8
          have HB8 := Lib.hid hb8
          clear ho8 hb8 hnx
          go_upto_region 23 with fail
          obtain ⟨w9, hw9⟩ : ∃ w9, w8.alloc (.cells #[.string xk, .string xv, .bool xg, .int .i64 xn, .int .i64 xs', .slice xa xp.length xc] 27) = w9 := ⟨_, rfl⟩
          have HV9 := Lib.hid (VwP.new w8 ⟨xk, xv, xg, (xn, xs'), xp⟩ (.slice xa xp.length xc) 27)
          have HB89 := Lib.hid (balloc (Below.refl _ w8) (.cells #[.string xk, .string xv, .bool xg, .int .i64 xn, .int .i64 xs', .slice xa xp.length xc] 27))
          obtain ⟨PV, hPV⟩ : ∃ PV, PV = w8.heap.size := ⟨_, rfl⟩
          dsimp only [wvs] at HV9
          rw [hw9] at HV9 HB89
          rw [← hPV] at HV9
          try rw [hw9]
          try rw [← hPV]
          clear hw9 hPV
          have HB79 := Lib.hid (bstep HB8.out HB89.out)
          have HO9 := Lib.hid (OwnR.below HO8.out HB89.out)
          obtain ⟨c0, c1, c2, c3, c4, c5, _⟩ := id HV9.out
          dsimp only at c0 c3 c4
          have hcov := refCovers_any (.slice ha hs.length hc) (.slice xa xp.length xc) hs xp w9 (by have := HSR.out.2; omega) (by omega) ((HCX.out.below HB79.out).at_) (HVB.out.below HB79.out).1.at_
          rw [HCV.out] at hcov
          clear c1 c2
          go_wp2_with fail
          refine hcov.mono ?_
          rintro e w10 ⟨rfl, hb10⟩
          have HB910 := Lib.hid hb10
          have HB710 := Lib.hid (bstep HB79.out hb10)
          clear c0 c3 c4 c5 hb10 hcov
          obtain ⟨c0, c1, c2, c3, c4, c5, _⟩ := HV9.out.keep HB910.out
          dsimp only at c0 c3 c4
          have hadd := refAddP_new (.slice ha hs.length hc) hs xk xn xs' w10 (by have := HSR.out.2; omega) hxk (HCX.out.below HB710.out).at_
          clear c1 c2 c5
          go_wp2_with fail
          refine hadd.mono ?_
          rintro e w11 ⟨v11, rfl, hd11, _, hb11⟩
          obtain ⟨na, nc, rfl, _⟩ := id hd11
          have HD11 := Lib.hid hd11
          have HB711 := Lib.hid (bstep HB710.out hb11)
          have HO11 := Lib.hid (OwnR.below HO9.out (bstep HB910.out hb11))
          have HSL : Hid (UB + 1 ≤ w7.heap.size) := Lib.hid (by have h1 := HUS.out; have h2 := HBEL2.out.size; omega)
          have HA11 := Lib.hid (addR_len hs (xk, xn, xs'))
          have HS11 := Lib.hid (addR_srt HSR.out.1 (xk, xn, xs'))
          clear hd11 hb11 hadd
          go_wp2
          go_roundw
          case rel => exact ⟨s + 1, nl, addR hs (xk, xn, xs'), by omega, by go_num, Lib.hid (by have h1 := HAL.out; have h2 := HNL.out; omega), HO11.out.mono HSL.out, HNM, HNC, HD11.out, Lib.hid ⟨HS11.out, by have h1 := HA11.out; have h2 := HSR.out.2; omega⟩, bstep HBEL2.out HB711.out⟩
          case measure => simp [intOf]; omega
        · obtain rfl : acc = [] := by
            have := HAL.out
            exact List.length_eq_zero_iff.1 (by omega)
          have hsi : ¬ (s : Int) < (xs.length : Int) := by omega
          simp only [List.length_nil]
          go_wp2
          go_ret
          exact ⟨rfl, bstep HB2.out (HB26.out.trans (hbel2.mono HB26.out.size))⟩
end Go.Proofs.Ytfmedinhlmiaeaa
