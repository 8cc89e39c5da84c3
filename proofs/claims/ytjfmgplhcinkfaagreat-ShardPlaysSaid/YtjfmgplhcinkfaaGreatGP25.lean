/- Texts of this proof, one behind the other: RdKeys, RdMove, RdClean. -/
import Derived.Test.YtjfmgplhcinkfaaGreatGP24
import Derived.Deep.AppendLies
import Derived.Deep.DeepCutAuto
import Derived.Deep.RegionHeld3
/- What Keys and Have of the document's shard answer. -/
namespace Go.Proofs.YtjfmgplhcinkfaaGreat
open Go.RowKit
set_option linter.unusedVariables false
set_option linter.unusedSimpArgs false

theorem step_pushRd {α : Type} {K : RK α} (hK : K.Ok) {ops : Array Oper} {o : Oper} {a : Act} {KK : Act → World → Prop} {Q : Exit → Act → World → Prop} {E : Prop} {wr : World} (hgd : o.guard = none) (s x : Operand)
    (hop : o.op = .call { callee := .builtin .append, args := #[s, x], argTypes := #[K.S, K.S] })
    (base : Nat) (v : Value) (l : List α) (y : α) (cs : Array Value) (hcs : cs.toList = K.enc y) (hs : a.eval s = v) (hown : OwnR K wr base v l) (hx : a.eval x = .slice (some ⟨wr.heap.size, 0, none⟩) 1 1) (hl : l.length ≤ 1000000) (hbs : base ≤ wr.heap.size)
    (h : ∀ g cap w', OwnR K w' base (.slice (some ⟨g, 0, none⟩) (l.length + 1) cap) (l ++ [y]) → Below base wr w' → KeptD v wr w' → (v.ownBlock = some g ∨ wr.heap.size ≤ g) → g < w'.heap.size → KK (a.put o.dst (.slice (some ⟨g, 0, none⟩) (l.length + 1) cap)) w') :
    if Region.wanted o (yielded ops a.tmps) = true then Oper.wp Tryz.prog o a (wr.alloc (.cells cs K.T)) KK Q else E := by
  obtain ⟨i0, hi, hz0, hz1, hz2⟩ := info_parts hK.inf
  have hbb := hK.bb
  refine step_append_lies _ hgd s x K.S hop base K.T i0 _ K.sz K.bt hK.und hi hz0 hz1 hz2 hK.zc hK.pos v l.length (rV K l) hs (hown.alloc _) ⟨wr.heap.size, 0, none⟩ 1 1 (K.enc y) hx (by rw [hK.len, Nat.one_mul])
    (fun j u hu => World.news_of_block (cs := cs) (t := K.T) (fr := (0, 0)) (heap_alloc_new wr _) j u (by rw [hcs]; exact hu)) (hK.one y) (by omega) (by unfold maxLen; omega) (Nat.le_trans (Nat.mul_le_mul (show l.length + 1 ≤ 1000001 by omega) hbb) (by decide)) (by simp; omega) (wr.heap.size + 1) (by simp) ?_
  intro g cap w' ho hg hat hlt
  refine h g cap w' (by unfold OwnR; rw [rV_snoc]; simpa using ho) (((Below.refl base wr).alloc hbs _).grown hg (by simp; omega) (fun k hk => (hown.lt k hk).1)) (fun j hj hne => ?_) (by rcases hat with h1 | h1; exact .inl h1; exact .inr (by omega)) hlt
  rw [hg.block j (by simp; omega) (fun e => hne e.symm)]
  exact Below.heap_alloc _ _ _ hj
theorem map_take1 {α β : Type} (f : α → β) (l : List α) (j : Nat) (h : j < l.length) : (l.take (j + 1)).map f = (l.take j).map f ++ [f l[j]] := by
  rw [List.take_succ_eq_append_getElem h, List.map_append]
  rfl

set_option maxRecDepth 100000 in
set_option maxHeartbeats 1600000 in
theorem rfKeys_any {w : World} {T : Nat → Prop} {rb : Nat} {rv cv : Value} {ps : List Pc} {R : List (ByteArray × ByteArray)} {F : Ch} (h : RfS w T rb rv cv ps R F) (hl : ps.length ≤ 100000) :
    Calls Tryz.prog 27 #[.pointer (some ⟨rb, 0, none⟩)] w fun e w' => ∃ v, e = .returned v ∧ OwnR KS w' w.heap.size v (ps.map (·.1)) ∧ Below w.heap.size w w' := by
  have H := Lib.hid h
  obtain ⟨ca, cc, rfl, hcc⟩ := h.shape
  clear h
  go_enter Tryz.func27, Tryz.ntmps27
  go_wp2
  go_loopw [3, 4] (fun o i wr => ∃ j : Nat, j ≤ ps.length ∧ i = .int .i64 j ∧ OwnR KS wr w.heap.size o ((ps.take j).map (·.1)) ∧ Below w.heap.size w wr) (fun _ i _ => ps.length - (intOf i).toNat)
  case atStart => exact ⟨0, by omega, rfl, OwnR.nil KS _ _, Below.refl _ _⟩
  case round =>
    obtain ⟨j, hj, rfl, hown, hbel⟩ := hrel
    have HB := Lib.hid hbel
    have HO := Lib.hid hown
    have e1 := (H.out.below hbel).c1
    have hbs : w.heap.size ≤ wr.heap.size := hbel.size
    obtain ⟨sa, sc, rfl⟩ := hown.shape
    clear hown
    by_cases hlt : j < ps.length
    · obtain ⟨g, cap, e, hcp, _, _, c0, _⟩ := (H.out.below hbel).at j hlt
      cases e
      have HT := Lib.hid (map_take1 (fun p : Pc => p.1) ps j hlt)
      have hle : ((ps.take j).map (·.1)).length ≤ 1000000 := by rw [List.length_map, List.length_take]; omega
      generalize ps[j].1 = key at c0 HT
      generalize (ps.take j).map (·.1) = Lj at HO HT hle ⊢
      have hji : (j : Int) < (ps.length : Int) := by omega
      go_wp2_with (at_builtin; refine wp_pushR ks_ok (wr := wr) rfl _ _ rfl w.heap.size (.slice sa Lj.length sc) Lj key #[.string key] rfl rfl HO.out rfl hle hbs ?_; intro g2 cap2 w6 ho6 hb6 hk6 hat6 hlt6)
      go_roundw
      case rel => exact ⟨j + 1, by omega, by go_num, by rw [HT.out]; exact ho6, HB.out.trans hb6⟩
      case measure => simp [intOf]; omega
    · obtain rfl : j = ps.length := by omega
      rw [List.take_length] at HO ⊢
      go_wp2
      go_ret
      exact ⟨_, rfl, HO.out, HB.out⟩

set_option maxRecDepth 100000 in
set_option maxHeartbeats 1600000 in
theorem rfHave_any {w : World} {T : Nat → Prop} {rb : Nat} {rv cv : Value} {ps : List Pc} {R : List (ByteArray × ByteArray)} {F : Ch} (h : RfS w T rb rv cv ps R F) (hl : ps.length ≤ 100000) (hbd : ∀ W d, ∀ x ∈ F d, VwB W x) (hF : ∀ d, (F d).length ≤ 100000) :
    Calls Tryz.prog 24 #[.pointer (some ⟨rb, 0, none⟩)] w fun e w' => ∃ v, e = .returned v ∧ OwnD w' w.heap.size v (haveL F (ps.map (·.1))) ∧ Below w.heap.size w w' := by
  have H := Lib.hid h
  have HBD := Lib.hid hbd
  have HF := Lib.hid hF
  obtain ⟨ca, cc, rfl, hcc⟩ := h.shape
  clear h hbd hF
  go_enter Tryz.func24, Tryz.ntmps24
  go_wp2
  go_loopw [3, 4] (fun o i wr => ∃ j : Nat, j ≤ ps.length ∧ i = .int .i64 j ∧ OwnR KDe wr w.heap.size o (haveL F ((ps.take j).map (·.1))) ∧ Below w.heap.size w wr) (fun _ i _ => ps.length - (intOf i).toNat)
  case atStart => exact ⟨0, by omega, rfl, OwnR.nil KDe _ _, Below.refl _ _⟩
  case round =>
    obtain ⟨j, hj, rfl, hown, hbel⟩ := hrel
    have HB := Lib.hid hbel
    have HO := Lib.hid hown
    have e1 := (H.out.below hbel).c1
    obtain ⟨sa, sc, rfl⟩ := hown.shape
    clear hown
    by_cases hlt : j < ps.length
    · obtain ⟨g, cap, e, hcp, _, _, c0, c1⟩ := (H.out.below hbel).at j hlt
      cases e
      have HT : Hid (haveL F ((ps.take (j + 1)).map (·.1)) = haveL F ((ps.take j).map (·.1)) ++ [(ps[j].1, (headOf F ps[j].1).1.st)]) := Lib.hid (by rw [map_take1 (fun p : Pc => p.1) ps j hlt]; simp [haveL])
      have hle : (haveL F ((ps.take j).map (·.1))).length ≤ 1000000 := by rw [haveL_len, List.length_map, List.length_take]; omega
      have hhd := fun W (h : Below w.heap.size w W) => rhead12_any (pcv ps[j]) (F ps[j].1) W (by have := HF.out ps[j].1; omega) (WRow.of_own (((H.out.below h).row _ (List.getElem_mem hlt)).1) (HBD.out W ps[j].1))
      have hhd := hhd wr hbel
      unfold pcv at hhd
      have hd0 : headOf F ps[j].1 = (F ps[j].1).getLast?.getD vw0 := rfl
      rw [hd0] at HT
      clear hd0
      generalize (F ps[j].1).getLast?.isSome = is at hhd
      generalize (F ps[j].1).getLast?.getD vw0 = Y at hhd HT
      generalize ps[j] = pj at c0 c1 HT hhd
      obtain ⟨key, p2, pn, pq⟩ := pj
      generalize haveL F ((ps.take j).map (·.1)) = Lj at HO HT hle ⊢
      obtain ⟨⟨yk, yv, yg, ⟨ym, yt⟩, yp⟩, ya, yc⟩ := Y
      dsimp only [wV, wcs, wvs, pw] at hhd HT c0 c1
      have hji : (j : Int) < (ps.length : Int) := by omega
      go_wp2_with fail
      refine hhd.mono ?_
      rintro e w3 ⟨rfl, hb3⟩
      obtain ⟨w4, hw4⟩ : ∃ w4, w3.alloc (.cells #[.string yk, .string yv, .bool yg, .int .i64 ym, .int .i64 yt, .slice ya yp.length yc] 36) = w4 := ⟨_, rfl⟩
      have hb4 : Below w3.heap.size w3 w4 := by rw [← hw4]; exact balloc (Below.refl _ _) _
      have t3 : w4.cell? ⟨w3.heap.size, 3, none⟩ = some (.int .i64 ym) := by rw [← hw4]; simp
      have t4 : w4.cell? ⟨w3.heap.size, 4, none⟩ = some (.int .i64 yt) := by rw [← hw4]; simp
      have hb34 := bstep hb3 hb4
      have c0 := kc hb34 c0
      have e1 := kc hb34 e1
      have HB4 := Lib.hid (bstep HB.out hb34)
      have HO4 := Lib.hid (HO.out.below hb34)
      have hbs : w.heap.size ≤ w4.drew.heap.size := HB4.out.size
      clear hb3 hb4 hb34 hhd hbel c1
      go_upto_region 6 with fail
      try rw [hw4]
      clear hw4
      generalize w3.heap.size = TB at t3 t4 ⊢
      go_region_law (refine step_pushRd kDe_ok (wr := w4.drew) (by rfl) _ _ (by rfl) w.heap.size (.slice sa Lj.length sc) Lj (key, (ym, yt)) #[.string key, .int .i64 ym, .int .i64 yt] rfl (by rfl) (HO4.out.below ((Below.refl _ _).drew)) (by rfl) hle hbs ?_; intro g2 cap2 w6 ho6 hb6 hk6 hat6 hlt6)
      all_goals
        try go_wp2
        refine ⟨⟨j + 1, by omega, by go_num, by rw [HT.out]; exact ho6, HB4.out.drew.trans hb6⟩, ?_⟩
        simp [intOf]
        omega
    · obtain rfl : j = ps.length := by omega
      rw [List.take_length] at HO ⊢
      go_wp2
      go_ret
      exact ⟨_, rfl, HO.out, HB.out⟩
end Go.Proofs.YtjfmgplhcinkfaaGreat
/- What Move of the document's shard leaves. -/
namespace Go.Proofs.YtjfmgplhcinkfaaGreat
open Go.RowKit
set_option linter.unusedVariables false
set_option linter.unusedSimpArgs false

theorem filter_take1 {α : Type} (p : α → Bool) (l : List α) (j : Nat) (h : j < l.length) : (l.take (j + 1)).filter p = if p l[j] = true then (l.take j).filter p ++ [l[j]] else (l.take j).filter p := by
  rw [List.take_succ_eq_append_getElem h, List.filter_append]
  cases e : p l[j] <;> simp [e]

set_option maxRecDepth 100000 in
set_option maxHeartbeats 1600000 in
theorem rfMove_any {w : World} {T : Nat → Prop} {rb : Nat} {rv cv : Value} {ps : List Pc} {R : List (ByteArray × ByteArray)} {F : Ch} (h : RfS w T rb rv cv ps R F) (hl : ps.length ≤ 100000) (v : Value) (l : List (ByteArray × ByteArray)) (hll : l.length ≤ 100) (hv : OwnR KR w 0 v l) (ht : ∀ g, v.ownBlock = some g → T g ∧ g ≠ rb ∧ cv.ownBlock ≠ some g) :
    Calls Tryz.prog 11 #[.pointer (some ⟨rb, 0, none⟩), v] w fun e w' => e = .returned (.tuple #[]) ∧ (∃ cv' ps', RfS w' (Tmore T w w') rb v cv' ps' l (cutF F (ownsK l)) ∧ ps'.length ≤ ps.length) ∧ Mv T w w' := by
  have H := Lib.hid h
  have HV := Lib.hid hv
  have HT := Lib.hid ht
  obtain ⟨la, lc, rfl⟩ := hv.shape
  obtain ⟨ca, cc, rfl, hcc⟩ := h.shape
  clear h hv ht
  go_enter Tryz.func11, Tryz.ntmps11
  go_wp2
  go_loopw [4, 5] (fun o i wr => ∃ j : Nat, j ≤ ps.length ∧ i = .int .i64 j ∧ OwnR KC wr w.heap.size o ((ps.take j).filter (fun p => ownsK l p.1)) ∧ Below w.heap.size w wr) (fun _ i _ => ps.length - (intOf i).toNat)
  case atStart => exact ⟨0, by omega, rfl, OwnR.nil KC _ _, Below.refl _ _⟩
  case round =>
    obtain ⟨j, hj, rfl, hown, hbel⟩ := hrel
    have HB := Lib.hid hbel
    have HO := Lib.hid hown
    have e1 := (H.out.below hbel).c1
    obtain ⟨sa, sc, rfl⟩ := hown.shape
    clear hown
    by_cases hlt : j < ps.length
    · obtain ⟨g, cap, e, hcp, _, _, c0, c1⟩ := (H.out.below hbel).at j hlt
      cases e
      have HFT := Lib.hid (filter_take1 (fun p : Pc => ownsK l p.1) ps j hlt)
      have hle : ((ps.take j).filter (fun p => ownsK l p.1)).length ≤ 1000000 := by have := List.length_filter_le (fun p : Pc => ownsK l p.1) (ps.take j); rw [List.length_take] at this; omega
      have HFD := Lib.hid (fun W (hb : Below w.heap.size w W) => rfind_any la lc l ps[j].1 W hll (RowAt.of_own kr_ok (HV.out.below hb)))
      generalize ps[j] = pj at c0 c1 HFT HFD
      obtain ⟨key, pa, pn, pq⟩ := pj
      generalize (ps.take j).filter (fun p => ownsK l p.1) = Lj at HO HFT hle ⊢
      dsimp only at HFT HFD c0 c1
      generalize ownsK l key = ow at HFT HFD
      have hji : (j : Int) < (ps.length : Int) := by omega
      have hfd := HFD.out wr hbel
      clear hbel
      go_wp2_with fail
      refine hfd.mono ?_
      rintro e w3 ⟨z, rfl, hz, hb3⟩
      have c0 := kc hb3 c0
      have c1 := kc hb3 c1
      have e1 := kc hb3 e1
      have HB3 := Lib.hid (bstep HB.out hb3)
      have HO3 := Lib.hid (HO.out.below hb3)
      have hbs : w.heap.size ≤ w3.heap.size := HB3.out.size
      clear hb3 hfd
      cases ow with
      | false =>
        have hz0 : ¬ 0 ≤ z := by simpa using hz
        clear hz
        go_wp2
        go_roundw
        case rel => exact ⟨j + 1, by omega, by go_num, by rw [HFT.out]; exact HO3.out, HB3.out⟩
        case measure => simp [intOf]; omega
      | true =>
        have hz0 : 0 ≤ z := by simpa using hz
        clear hz
        go_wp2_with (at_builtin; refine wp_pushR kC_ok (wr := w3) rfl _ _ rfl w.heap.size (.slice sa Lj.length sc) Lj (key, pa, pn, pq) #[.string key, .slice pa pn pq] rfl rfl HO3.out rfl hle hbs ?_; intro g2 cap2 w6 ho6 hb6 hk6 hat6 hlt6)
        go_roundw
        case rel => exact ⟨j + 1, by omega, by go_num, by rw [HFT.out]; exact ho6, HB3.out.trans hb6⟩
        case measure => simp [intOf]; omega
    · obtain rfl : j = ps.length := by omega
      rw [List.take_length] at HO ⊢
      have h0 := H.out.below hbel
      have e0 := h0.c0
      have f0 := h0.fr 0
      have f1 := h0.fr 1
      have HF : Hid (∃ cv' ps', RfS ((wr.setCell ⟨rb, 0, none⟩ (.slice la l.length lc)).setCell ⟨rb, 1, none⟩ (.slice sa (ps.filter (fun p => ownsK l p.1)).length sc)) (Tmore T w ((wr.setCell ⟨rb, 0, none⟩ (.slice la l.length lc)).setCell ⟨rb, 1, none⟩ (.slice sa (ps.filter (fun p => ownsK l p.1)).length sc))) rb (.slice la l.length lc) cv' ps' l (cutF F (ownsK l)) ∧ ps'.length ≤ ps.length) := Lib.hid (by
        have h1 := h0.putR (HV.out.below hbel) HT.out
        have hol : ∀ g, (Value.slice sa (ps.filter (fun p => ownsK l p.1)).length sc).ownBlock = some g → w.heap.size ≤ g ∧ g < wr.heap.size := fun g e => HO.out.lt g e
        refine ⟨_, ps.filter (fun p => ownsK l p.1), h1.putC (fun j hj => .inl hj) (fun j hj => ?_) ((HO.out.mono (Nat.zero_le _)).aside (fun g e => ?_)) (fun g e => ⟨.inr ?_, ?_, fun e2 => ?_⟩) ?_ (fun p hp => ?_), List.length_filter_le _ _⟩
        · rcases hj with hj | ⟨_, hj⟩
          · have := h0.lt j hj; simpa using this
          · simpa using hj
        · have := (hol g e).1
          have := H.out.lt rb H.out.tb
          omega
        · have := hol g e
          exact ⟨this.1, by simpa using this.2⟩
        · have := (hol g e).1
          have := H.out.lt rb H.out.tb
          omega
        · have := (hol g e).1
          have := H.out.lt g (HT.out g e2).1
          omega
        · have := H.out.kl.cut (ownsK l)
          rw [List.filter_map] at this
          exact this
        · obtain ⟨hp1, hp2⟩ := List.mem_filter.1 hp
          rw [cutF_yes hp2]
          refine ⟨(h1.row p hp1).1, fun g e => ⟨.inl ((h1.row p hp1).2 g e).1, ((h1.row p hp1).2 g e).2.1, fun e2 => ?_⟩⟩
          have := (hol g e2).1
          have := H.out.lt g ((h1.row p hp1).2 g e).1
          omega)
      have HM : Hid (Mv T w ((wr.setCell ⟨rb, 0, none⟩ (.slice la l.length lc)).setCell ⟨rb, 1, none⟩ (.slice sa (ps.filter (fun p => ownsK l p.1)).length sc))) := Lib.hid (((Mv.of_below hbel).set H.out.tb _).set H.out.tb _)
      generalize ps.filter (fun p => ownsK l p.1) = Q at HF HM HO ⊢
      clear hbel h0
      go_wp2
      go_end0
      exact ⟨rfl, HF.out, HM.out⟩
end Go.Proofs.YtjfmgplhcinkfaaGreat
/- What Clean of the document's shard leaves. -/
namespace Go.Proofs.YtjfmgplhcinkfaaGreat
open Go.RowKit
set_option linter.unusedVariables false
set_option linter.unusedSimpArgs false

theorem pinsOf_take (pins : List De) (k : ByteArray) (x : Nat) (h : x < pins.length) : pinsOf (pins.take (x + 1)) k = if pins[x].1 = k then pinsOf (pins.take x) k ++ [pins[x].2] else pinsOf (pins.take x) k := by
  rw [List.take_succ_eq_append_getElem h]
  by_cases e : pins[x].1 = k
  · subst e
    rw [if_pos rfl, pinsOf_snoc_same]
  · rw [if_neg e, pinsOf_snoc_other _ _ e]
/-- How it stands on the way. -/
structure ClnR (w wr : World) (T : Nat → Prop) (rb : Nat) (rv cv : Value) (L : List ByteArray) (R : List (ByteArray × ByteArray)) (F : Ch) (s : Int × Int) (pins : List De) (j : Nat) (qs : List Pc) : Prop where
  m : qs.map (·.1) = L
  r : RfS wr (Tmore T w wr) rb rv cv qs R (cleanI F s pins L j)
  mv : Mv T w wr
  p0 : wr.cell? ⟨w.heap.size, 0, none⟩ = some (.int .i64 s.1)
  p1 : wr.cell? ⟨w.heap.size, 1, none⟩ = some (.int .i64 s.2)

set_option maxRecDepth 100000 in
set_option maxHeartbeats 3200000 in
theorem rfClean_any {w : World} {T : Nat → Prop} {rb : Nat} {rv cv : Value} {ps : List Pc} {R : List (ByteArray × ByteArray)} {F : Ch} (h : RfS w T rb rv cv ps R F) (hl : ps.length ≤ 100000) (hbd : ∀ W d, ∀ x ∈ F d, VwB W x) (hF : ∀ d, (F d).length ≤ 100000) (s : Int × Int) (pv : Value) (pins : List De) (hpl : pins.length ≤ 100000) (hpr : ∀ W, Mv T w W → DepAt W pv pins) :
    Calls Tryz.prog 9 #[.pointer (some ⟨rb, 0, none⟩), sv s, pv] w fun e w' => e = .returned (.tuple #[]) ∧ (∃ cv' ps', RfS w' (Tmore T w w') rb rv cv' ps' R (cleanF F s pins) ∧ ps'.length ≤ ps.length) ∧ Mv T w w' := by
  obtain ⟨s0, s1⟩ := s
  have H := Lib.hid h
  have HBD := Lib.hid hbd
  have HFL := Lib.hid hF
  obtain ⟨pa, pcap, rfl, hpc, _, _, _⟩ := hpr w (Mv.refl _ _)
  have HPR : Hid (∀ W, Mv T w W → DepIn W pa pins) := Lib.hid (fun W hm => by
    obtain ⟨a', c', e, _, _, _, h3⟩ := hpr W hm
    cases e
    exact h3)
  obtain ⟨ca, cc, rfl, hcc⟩ := h.shape
  obtain ⟨L, hL⟩ : ∃ L, ps.map (·.1) = L := ⟨_, rfl⟩
  have hll : L.length = ps.length := by rw [← hL, List.length_map]
  have HKL : Hid (KeyL F L) := Lib.hid (by rw [← hL]; exact h.kl)
  have hb1 : Below w.heap.size w (w.alloc (.cells #[.int .i64 s0, .int .i64 s1] 33)) := balloc (Below.refl _ w) _
  have HI0 : Hid (ClnR w (w.alloc (.cells #[.int .i64 s0, .int .i64 s1] 33)) T rb rv (.slice ca ps.length cc) L R F (s0, s1) pins 0 ps) := Lib.hid ⟨hL, by rw [cleanI_zero]; exact (h.below hb1).wide (fun j hj => .inl hj) (fun j hj => by
    rcases hj with hj | hj
    · have := h.lt j hj; have := hb1.size; omega
    · exact hj.2), Mv.of_below hb1, by simp, by simp⟩
  have HLL := Lib.hid hll
  clear h hbd hF hpr hL hll
  dsimp only [sv] at *
  go_enter Tryz.func9, Tryz.ntmps9
  go_upto_region 1 with fail
  generalize w.alloc (.cells #[.int .i64 s0, .int .i64 s1] 33) = w2 at *
  clear hb1
  go_wp2
  go_loopw [6] (fun i wr => ∃ (j : Nat) (qs : List Pc), j ≤ ps.length ∧ i = .int .i64 j ∧ ClnR w wr T rb rv (.slice ca ps.length cc) L R F (s0, s1) pins j qs) (fun i _ => ps.length - (intOf i).toNat)
  case atStart => exact ⟨0, ps, by omega, rfl, HI0.out⟩
  case round =>
    obtain ⟨j, qs, hj, rfl, hcn⟩ := hrel
    have HC := Lib.hid hcn
    have e1 := hcn.r.c1
    obtain ⟨wO, hwO⟩ : ∃ wO : World, wO = wr := ⟨wr, rfl⟩
    subst hwO
    clear hcn
    by_cases hlt : j < ps.length
    · have hql : qs.length = ps.length := by rw [← HLL.out, ← HC.out.m, List.length_map]
      obtain ⟨g, cap, e, hcp, hTg, hgr, c0, c1⟩ := HC.out.r.at j (by omega)
      rw [hql] at e
      cases e
      have hkL : L[j]'(by rw [HLL.out]; exact hlt) = (qs[j]'(by omega)).1 := by
        have := HC.out.m
        subst this
        simp
      have HKN : Hid (∀ (i : Nat) (hi : i < qs.length), i ≠ j → qs[i].1 ≠ (qs[j]'(by omega)).1) := Lib.hid (fun i hi hne e => by
        have hnd := HKL.out.nd
        rw [← HC.out.m] at hnd
        exact hne ((List.getElem_inj hnd (h₀ := by simpa using hi) (h₁ := by simp; omega)).1 (by simpa using e)))
      have HCS := Lib.hid (cleanI_succ (F := F) (s := (s0, s1)) (pins := pins) HKL.out.nd (show j < L.length by rw [HLL.out]; exact hlt))
      rw [hkL] at HCS
      have hFne : F (qs[j]'(by omega)).1 ≠ [] := by
        rw [← hkL]
        exact (HKL.out.2 _).1 (List.getElem_mem _)
      have HNE : Hid (cleanL (F (qs[j]'(by omega)).1) (s0, s1) (pinsOf pins (qs[j]'(by omega)).1) ≠ []) := Lib.hid (fun e => hFne (clean_ne.1 e))
      have hrow := (HC.out.r.row _ (List.getElem_mem (show j < qs.length by omega))).1
      rw [HCS.out.2] at hrow
      unfold pcv at hrow
      have HRW := Lib.hid hrow
      have HPUT := Lib.hid (fun (W : World) (h : RfS W (Tmore T w W) rb rv (.slice (some ⟨g, 0, none⟩) qs.length cc) qs R (cleanI F (s0, s1) pins L j)) c (ho : OwnR KW W 0 (.slice c.1 c.2.1 c.2.2) (cleanL (F (qs[j]'(by omega)).1) (s0, s1) (pinsOf pins (qs[j]'(by omega)).1))) (hot : ∀ g', (Value.slice c.1 c.2.1 c.2.2).ownBlock = some g' → Tmore T w W g' ∧ g' ≠ rb ∧ g' ≠ g) => h.putL (T' := Tmore T w W) (fun i hi => hi) h.lt j (by omega) c _ ho hot HNE.out HKN.out)
      have HLT : Hid (g < w.heap.size) := Lib.hid (by
        have := H.out.ct g rfl
        exact H.out.lt g this.1)
      have HTG : Hid (T g) := Lib.hid (H.out.ct g rfl).1
      have HMS : Hid (∀ c, (qs.set j ((qs[j]'(by omega)).1, c)).map (·.1) = L) := Lib.hid (fun c => by rw [map_set1 qs j (by omega) c]; exact HC.out.m)
      clear hkL hrow hFne HKN hTg hcp
      have HFK := Lib.hid (HFL.out (qs[j]'(by omega)).1)
      have HFB := Lib.hid (fun W => HBD.out W (qs[j]'(by omega)).1)
      generalize (qs[j]'(by omega)).1 = key at c0 HCS HNE HRW HPUT HMS HFK HFB
      generalize (qs[j]'(by omega)).2 = p2 at c1 HRW
      rw [hql] at HPUT
      obtain ⟨ua, un, uc⟩ := p2
      dsimp only at c1 HRW
      have hji : (j : Int) < (ps.length : Int) := by omega
      go_upto_region 5 with fail
      go_wp2
      go_loopw [7, 8] (fun o i wr => ∃ x : Nat, x ≤ pins.length ∧ i = .int .i64 x ∧ OwnR KT wr wO.heap.size o (pinsOf (pins.take x) key) ∧ Below wO.heap.size wO wr) (fun _ i _ => pins.length - (intOf i).toNat)
      case atStart => exact ⟨0, by omega, rfl, OwnR.nil KT _ _, Below.refl _ _⟩
      case round =>
        obtain ⟨x, hx, rfl, hown, hbel⟩ := hrel
        have HO := Lib.hid hown
        have HB := Lib.hid hbel
        obtain ⟨sa, sc, rfl⟩ := hown.shape
        clear hown
        have e1 := kc hbel e1
        have c0 := kc hbel c0
        have c1 := kc hbel c1
        by_cases hxl : x < pins.length
        · obtain ⟨b, off, rfl, hbl, d0, d1, d2⟩ := HPR.out wr (HC.out.mv.step hbel) x hxl
          have HPT := Lib.hid (pinsOf_take pins key x hxl)
          have hle : (pinsOf (pins.take x) key).length ≤ 1000000 := by have := pinsOf_len (pins.take x) key; rw [List.length_take] at this; omega
          generalize pins[x] = d at d0 d1 d2 HPT
          obtain ⟨dk, dy, dz⟩ := d
          dsimp only at d0 d1 d2 HPT
          generalize pinsOf (pins.take x) key = Lx at HO HPT hle ⊢
          have hxi : (x : Int) < (pins.length : Int) := by omega
          have HKE : Hid ((dk.toList == key.toList) = true ↔ dk = key) := Lib.hid (by
            rw [beq_iff_eq, Lib.toList_data, Lib.toList_data]
            exact ⟨fun h => ByteArray.ext (Array.toList_inj.1 h), fun h => by rw [h]⟩)
          have hbs : wO.heap.size ≤ wr.heap.size := hbel.size
          cases hq : (dk.toList == key.toList) with
          | false =>
            have hq' : ¬ dk.toList = key.toList := by simpa using hq
            have HN := Lib.hid (show ¬ dk = key from fun h => by rw [HKE.out.2 h] at hq; cases hq)
            clear hbel
            go_wp2_with fail
            go_quiet (fail)
            go_wp2
            go_roundw
            case rel => exact ⟨x + 1, by omega, by go_num, by rw [HPT.out, if_neg HN.out]; exact HO.out.below (bdrewN _ _), bstep HB.out (bdrewN _ _)⟩
            case measure => simp [intOf]; omega
          | true =>
            have hq' : dk.toList = key.toList := by simpa using hq
            have HN := Lib.hid (HKE.out.1 hq)
            clear hbel
            go_wp2_with fail
            go_quiet (fail)
            have HOn := Lib.hid (HO.out.below (bdrewN wr nq))
            have HBn := Lib.hid (bstep HB.out (bdrewN wr nq))
            have hbs2 : wO.heap.size ≤ (wr.drewN nq).heap.size := HBn.out.size
            go_wp2_with (at_builtin; refine wp_pushR kt_ok (wr := wr.drewN nq) rfl _ _ rfl wO.heap.size (.slice sa Lx.length sc) Lx (dy, dz) #[.int .i64 dy, .int .i64 dz] rfl rfl HOn.out rfl hle hbs2 ?_; intro g2 cap2 w6 ho6 hb6 hk6 hat6 hlt6)
            go_roundw
            case rel => exact ⟨x + 1, by omega, by go_num, by rw [HPT.out, if_pos HN.out]; exact ho6, HBn.out.trans hb6⟩
            case measure => simp [intOf]; omega
        · obtain rfl : x = pins.length := by omega
          rw [List.take_length] at HO ⊢
          have hwr : WRow wr.drew (.slice ua un uc) (F key) := (WRow.of_own (HRW.out.below hbel) (HFB.out wr)).drew
          have hcl := rclean12_any (.slice ua un uc) _ (F key) (s0, s1) (pinsOf pins key) wr.drew HFK.out (by have := pinsOf_len pins key; omega) hwr (RowAt.of_own kt_ok HO.out)
          dsimp only [sv] at hcl
          have hr4 := HC.out.r.below hbel
          have hr5 := hr4.below ((Below.refl _ wr).drew)
          rw [← hql] at hr5
          have HMV4 : Hid (Mv T w wr) := Lib.hid (HC.out.mv.step hbel)
          have HSZ : Hid (w.heap.size ≤ wr.heap.size) := Lib.hid HMV4.out.size
          have HLT2 := HLT.out
          have HSO := Lib.hid hbel.size
          have hne0 : g ≠ w.heap.size := by omega
          generalize pinsOf pins key = PK at HO hcl HPUT HNE HCS ⊢
          have g0 : wr.drew.cell? ⟨rb, 1, none⟩ = some (.slice (some ⟨g, 0, none⟩) ps.length cc) ∧ wr.drew.cell? ⟨w.heap.size, 0, none⟩ = some (.int .i64 s0) ∧ wr.drew.cell? ⟨w.heap.size, 1, none⟩ = some (.int .i64 s1) := ⟨e1, kc (hbel.trans ((Below.refl _ wr).drew.mono hbel.size)) HC.out.p0, kc (hbel.trans ((Below.refl _ wr).drew.mono hbel.size)) HC.out.p1⟩
          clear hwr hbel hr4
          go_upto_region 10 with fail
          refine wp_region_held_drew (S := fun w' => w'.cell? ⟨rb, 1, none⟩ = some (.slice (some ⟨g, 0, none⟩) ps.length cc) ∧ w'.cell? ⟨w.heap.size, 0, none⟩ = some (.int .i64 s0) ∧ w'.cell? ⟨w.heap.size, 1, none⟩ = some (.int .i64 s1)) (by kernel_rfl) (g0) (fun hHeld => ?_)
          refine wpAnyH_take (i := 0) (v := ?v0) rfl (by kernel_rfl) (by kernel_rfl) (by kernel_rfl) (fun _ _ _ h => h) (Or.inl ⟨by rfl, ?y0⟩) (by assumption) ?r0
          case y0 => (intro w hSw; (try dsimp only at hSw); go_simp; try with_reducible rfl)
          try simp only [Act.put, List.setIfInBounds_toArray, List.set_cons_zero, List.set_cons_succ, List.getElem_toArray, List.getElem_cons_zero, List.getElem_cons_succ]
          refine wpAnyH_take (i := 1) (v := ?v1) rfl (by kernel_rfl) (by kernel_rfl) (by kernel_rfl) (fun _ _ _ h => h) (Or.inl ⟨by rfl, ?y1⟩) (by assumption) ?r1
          case y1 => (intro w hSw; (try dsimp only at hSw); go_simp; try with_reducible rfl)
          try simp only [Act.put, List.setIfInBounds_toArray, List.set_cons_zero, List.set_cons_succ, List.getElem_toArray, List.getElem_cons_zero, List.getElem_cons_succ]
          refine wpAnyH_take (i := 2) (v := ?v2) rfl (by kernel_rfl) (by kernel_rfl) (by kernel_rfl) (fun _ _ _ h => h) (Or.inl ⟨by rfl, ?y2⟩) (by assumption) ?r2
          case y2 => (intro w hSw; (try dsimp only at hSw); go_simp; try with_reducible rfl)
          try simp only [Act.put, List.setIfInBounds_toArray, List.set_cons_zero, List.set_cons_succ, List.getElem_toArray, List.getElem_cons_zero, List.getElem_cons_succ]
          refine wpAnyH_take (i := 3) (v := ?v3) rfl (by kernel_rfl) (by kernel_rfl) (by kernel_rfl) (fun _ _ _ h => h) (Or.inl ⟨by rfl, ?y3⟩) (by assumption) ?r3
          case y3 => (intro w hSw; (try dsimp only at hSw); go_simp; try with_reducible rfl)
          try simp only [Act.put, List.setIfInBounds_toArray, List.set_cons_zero, List.set_cons_succ, List.getElem_toArray, List.getElem_cons_zero, List.getElem_cons_succ]
          refine wpAnyH_take (i := 4) (v := ?v4) rfl (by kernel_rfl) (by kernel_rfl) (by kernel_rfl) (fun _ _ _ h => h) (Or.inl ⟨by rfl, ?y4⟩) (by assumption) ?r4
          case y4 => (intro w hSw; (try dsimp only at hSw); go_simp; try with_reducible rfl)
          try simp only [Act.put, List.setIfInBounds_toArray, List.set_cons_zero, List.set_cons_succ, List.getElem_toArray, List.getElem_cons_zero, List.getElem_cons_succ]
          refine wpAnyH_take (i := 5) (v := ?v5) rfl (by kernel_rfl) (by kernel_rfl) (by kernel_rfl) (fun _ _ _ h => h) (Or.inl ⟨by rfl, ?y5⟩) (by assumption) ?r5
          case y5 => (intro w hSw; (try dsimp only at hSw); go_simp; try with_reducible rfl)
          try simp only [Act.put, List.setIfInBounds_toArray, List.set_cons_zero, List.set_cons_succ, List.getElem_toArray, List.getElem_cons_zero, List.getElem_cons_succ]
          refine wpAnyH_take (i := 6) (v := ?v6) rfl (by kernel_rfl) (by kernel_rfl) (by kernel_rfl) (fun _ _ _ h => h) (Or.inl ⟨by rfl, ?y6⟩) (by assumption) ?r6
          case y6 => (intro w hSw; (try dsimp only at hSw); go_simp; try with_reducible rfl)
          try simp only [Act.put, List.setIfInBounds_toArray, List.set_cons_zero, List.set_cons_succ, List.getElem_toArray, List.getElem_cons_zero, List.getElem_cons_succ]
          refine wpAnyH_take (i := 7) (v := ?v7) rfl (by kernel_rfl) (by kernel_rfl) (by kernel_rfl) (fun _ _ _ h => h) (Or.inl ⟨by rfl, ?y7⟩) (by assumption) ?r7
          case y7 => (intro w hSw; (try dsimp only at hSw); go_simp; try with_reducible rfl)
          try simp only [Act.put, List.setIfInBounds_toArray, List.set_cons_zero, List.set_cons_succ, List.getElem_toArray, List.getElem_cons_zero, List.getElem_cons_succ]
          refine wpAnyH_take (i := 8) (v := ?v8) rfl (by kernel_rfl) (by kernel_rfl) (by kernel_rfl) (fun _ _ _ h => h) (Or.inl ⟨by rfl, ?y8⟩) (by assumption) ?r8
          case y8 => (intro w hSw; (try dsimp only at hSw); go_simp; try with_reducible rfl)
          try simp only [Act.put, List.setIfInBounds_toArray, List.set_cons_zero, List.set_cons_succ, List.getElem_toArray, List.getElem_cons_zero, List.getElem_cons_succ]
          refine wpAnyH_take (i := 9) (v := ?v9) rfl (by kernel_rfl) (by kernel_rfl) (by kernel_rfl) (fun _ _ _ h => h) (Or.inl ⟨by rfl, ?y9⟩) (by assumption) ?r9
          case y9 => (intro w hSw; (try dsimp only at hSw); go_simp; try with_reducible rfl)
          try simp only [Act.put, List.setIfInBounds_toArray, List.set_cons_zero, List.set_cons_succ, List.getElem_toArray, List.getElem_cons_zero, List.getElem_cons_succ]
          refine wpAnyH_take (i := 10) (v := ?v10) rfl (by kernel_rfl) (by kernel_rfl) (by kernel_rfl) (fun _ _ _ h => h) (Or.inl ⟨by rfl, ?y10⟩) (by assumption) ?r10
          case y10 => (intro w hSw; (try dsimp only at hSw); go_simp; try with_reducible rfl)
          try simp only [Act.put, List.setIfInBounds_toArray, List.set_cons_zero, List.set_cons_succ, List.getElem_toArray, List.getElem_cons_zero, List.getElem_cons_succ]
          refine wpAnyH_take (i := 11) (v := ?v11) rfl (by kernel_rfl) (by kernel_rfl) (by kernel_rfl) (fun _ _ _ h => h) (Or.inl ⟨by rfl, ?y11⟩) (by assumption) ?r11
          case y11 => (intro w hSw; (try dsimp only at hSw); go_simp; try with_reducible rfl)
          try simp only [Act.put, List.setIfInBounds_toArray, List.set_cons_zero, List.set_cons_succ, List.getElem_toArray, List.getElem_cons_zero, List.getElem_cons_succ]
          refine wpAnyH_take (i := 13) (v := ?v13) rfl (by kernel_rfl) (by kernel_rfl) (by kernel_rfl) (fun _ _ _ h => h) (Or.inl ⟨by rfl, ?y13⟩) (by assumption) ?r13
          case y13 => (intro w hSw; (try dsimp only at hSw); go_simp; try with_reducible rfl)
          try simp only [Act.put, List.setIfInBounds_toArray, List.set_cons_zero, List.set_cons_succ, List.getElem_toArray, List.getElem_cons_zero, List.getElem_cons_succ]
          refine wpAnyH_take (i := 14) (v := ?v14) rfl (by kernel_rfl) (by kernel_rfl) (by kernel_rfl) (fun _ _ _ h => h) (Or.inl ⟨by rfl, ?y14⟩) (by assumption) ?r14
          case y14 => (intro w hSw; (try dsimp only at hSw); go_simp; try with_reducible rfl)
          try simp only [Act.put, List.setIfInBounds_toArray, List.set_cons_zero, List.set_cons_succ, List.getElem_toArray, List.getElem_cons_zero, List.getElem_cons_succ]
          refine wpAnyH_ready (rs := [12]) (by kernel_rfl) (by simp) ?_
          refine AllReadyH.cons rfl (fun K hK => ?_) AllReadyH.nil
          go_simp
          refine hK.out _ _ (hHeld) (fun hHeld => ?_)
          clear hK K
          try simp only [Act.put, List.setIfInBounds_toArray, List.set_cons_zero, List.set_cons_succ, List.getElem_toArray, List.getElem_cons_zero, List.getElem_cons_succ]
          refine wpAnyH_ready (rs := [15]) (by kernel_rfl) (by simp) ?_
          refine AllReadyH.cons rfl (fun K hK => ?_) AllReadyH.nil
          go_simp
          go_at_call 36
          refine (hcl).mono ?_
          rintro e w5 ⟨v5, rfl, ho5, hb5⟩
          obtain ⟨va, vc, rfl⟩ := ho5.shape
          have g1 : w5.cell? ⟨rb, 1, none⟩ = some (.slice (some ⟨g, 0, none⟩) ps.length cc) ∧ w5.cell? ⟨w.heap.size, 0, none⟩ = some (.int .i64 s0) ∧ w5.cell? ⟨w.heap.size, 1, none⟩ = some (.int .i64 s1) := ⟨kc hb5 g0.1, kc hb5 g0.2.1, kc hb5 g0.2.2⟩
          have f1 := (hr5.below hb5).cr.frozenAt (j * 2 + 1)
          have d1 := kc hb5 c1
          go_wp2_with fail
          refine hK.out _ _ (g1) (fun hHeld => ?_)
          clear hK K
          try simp only [Act.put, List.setIfInBounds_toArray, List.set_cons_zero, List.set_cons_succ, List.getElem_toArray, List.getElem_cons_zero, List.getElem_cons_succ]
          refine wpAnyH_take (i := 16) (v := ?v16) rfl (by kernel_rfl) (by kernel_rfl) (by kernel_rfl) (fun _ _ _ h => h) (Or.inl ⟨by rfl, ?y16⟩) (by assumption) ?r16
          case y16 => (intro w hSw; (try dsimp only at hSw); go_simp; try with_reducible rfl)
          try simp only [Act.put, List.setIfInBounds_toArray, List.set_cons_zero, List.set_cons_succ, List.getElem_toArray, List.getElem_cons_zero, List.getElem_cons_succ]
          refine wpAnyH_take (i := 17) (v := ?v17) rfl (by kernel_rfl) (by kernel_rfl) (by kernel_rfl) (fun _ _ _ h => h) (Or.inl ⟨by rfl, ?y17⟩) (by assumption) ?r17
          case y17 => (intro w hSw; (try dsimp only at hSw); go_simp; try with_reducible rfl)
          try simp only [Act.put, List.setIfInBounds_toArray, List.set_cons_zero, List.set_cons_succ, List.getElem_toArray, List.getElem_cons_zero, List.getElem_cons_succ]
          refine wpAnyH_ready (rs := [18]) (by kernel_rfl) (by simp) ?_
          refine AllReadyH.cons rfl (fun K hK => ?_) AllReadyH.nil
          go_simp
          refine hK.out _ _ (⟨by rw [World.cell?_setCell_other _ _ _ _ (by simp)]; exact g1.1, by rw [World.cell?_setCell_other _ _ _ _ (by simp)]; exact g1.2.1, by rw [World.cell?_setCell_other _ _ _ _ (by simp)]; exact g1.2.2⟩) (fun hHeld => ?_)
          clear hK K
          try simp only [Act.put, List.setIfInBounds_toArray, List.set_cons_zero, List.set_cons_succ, List.getElem_toArray, List.getElem_cons_zero, List.getElem_cons_succ]
          refine wpAnyH_done (by kernel_rfl) ?_ _
          rw [hql] at hr5
          have HIN : Hid (ClnR w (w5.setCell ⟨g, j * 2 + 1, none⟩ (.slice va (cleanL (F key) (s0, s1) PK).length vc)) T rb rv (.slice (some ⟨g, 0, none⟩) ps.length cc) L R F (s0, s1) pins (j + 1) (qs.set j (key, (va, (cleanL (F key) (s0, s1) PK).length, vc)))) := Lib.hid (by
            have hm5 : Mv T w w5 := (HMV4.out.step ((Below.refl _ wr).drew)).step hb5
            have hs5 := hb5.size
            have hr6 : RfS w5 (Tmore T w w5) rb rv (.slice (some ⟨g, 0, none⟩) ps.length cc) qs R (cleanI F (s0, s1) pins L j) := (hr5.below hb5).wide (fun i hi => by
              rcases hi with hi | hi
              · exact .inl hi
              · exact .inr ⟨hi.1, by have h1 := hi.2; have h2 := HSO.out; have h3 : wr.drew.heap.size = wr.heap.size := rfl; omega⟩) (fun i hi => by
              rcases hi with hi | hi
              · have := H.out.lt i hi; have := hm5.size; omega
              · exact hi.2)
            have hp := HPUT.out w5 hr6 (va, (cleanL (F key) (s0, s1) PK).length, vc) (ho5.mono (Nat.zero_le _)) (fun g' e => by
              have h1 := ho5.lt g' e
              have h2 := HSZ.out
              have h3 := H.out.lt rb H.out.tb
              have h4 : wr.drew.heap.size = wr.heap.size := rfl
              exact ⟨.inr ⟨by omega, h1.2⟩, by omega, by omega⟩)
            refine ⟨HMS.out _, ?_, hm5.set HTG.out _, ?_, ?_⟩
            · rw [HCS.out.1]
              have : Tmore T w (w5.setCell ⟨g, j * 2 + 1, none⟩ (.slice va (cleanL (F key) (s0, s1) PK).length vc)) = Tmore T w w5 := by
                unfold Tmore
                simp
              rw [this]
              exact hp
            · rw [World.cell?_setCell_other _ _ _ _ (by simp)]; exact g1.2.1
            · rw [World.cell?_setCell_other _ _ _ _ (by simp)]; exact g1.2.2)
          go_wp2
          go_roundw
          case rel => exact ⟨j + 1, _, by omega, by go_num, HIN.out⟩
          case measure => simp [intOf]; omega
    · obtain rfl : j = ps.length := by omega
      have HF : Hid (∃ cv' ps', RfS wO (Tmore T w wO) rb rv cv' ps' R (cleanF F (s0, s1) pins) ∧ ps'.length ≤ ps.length) := Lib.hid ⟨_, qs, by
        have := HC.out.r
        rw [← HLL.out, cleanI_all HKL.out] at this
        exact this, by rw [← HLL.out, ← HC.out.m, List.length_map]; exact Nat.le_refl _⟩
      go_wp2
      go_end0
      exact ⟨rfl, HF.out, HC.out.mv⟩
end Go.Proofs.YtjfmgplhcinkfaaGreat
