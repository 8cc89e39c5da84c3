/- Texts of this proof, one behind the other: RdPut, PlSt, OpenT. -/
import Derived.Test.YtjfmgplhcinkfaaGreatGP25
import Derived.Deep.RegionHeld3
import Derived.Deep.DeepCutAuto
/- What Put of the document's shard answers and leaves. -/
namespace Go.Proofs.YtjfmgplhcinkfaaGreat
open Go.RowKit
set_option linter.unusedVariables false
set_option linter.unusedSimpArgs false

theorem kcB {B : Nat} {w w' : World} (hb : Below B w w') {b o : Nat} {u : Value} (hlt : b < B) (h : w.cell? ⟨b, o, none⟩ = some u) : w'.cell? ⟨b, o, none⟩ = some u := by
  rw [World.cell?_of_block (hb.block b hlt)]
  exact h
theorem RfS.grow {w w' : World} {T : Nat → Prop} {rb : Nat} {rv cv : Value} {ps : List Pc} {R : List (ByteArray × ByteArray)} {F : Ch} (h : RfS w T rb rv cv ps R F) (hb : Below w.heap.size w w') : RfS w' (Tmore T w w') rb rv cv ps R F :=
  (h.below hb).wide (fun j hj => .inl hj) (fun j hj => by
    rcases hj with hj | hj
    · have := h.lt j hj; have := hb.size; omega
    · exact hj.2)
theorem mid_ne {xs : List Vw} {x : Vw} : midC xs x ≠ xs ∧ midC xs x ≠ [] := by
  have : (midC xs x).length = xs.length + 1 := by
    unfold midC
    simp only [List.length_append, List.length_cons, List.length_take, List.length_drop]
    omega
  refine ⟨fun e => ?_, fun e => ?_⟩
  · rw [e] at this; omega
  · rw [e] at this; simp at this
theorem outG_take {gt : Pc → Bool} {x : Pc} {ps : List Pc} {j : Nat} (h : j < ps.length) :
    ((ps.take j).any gt = true → outG gt x (ps.take (j + 1)) = outG gt x (ps.take j) ++ [ps[j]] ∧ (ps.take (j + 1)).any gt = true) ∧
    ((ps.take j).any gt = false → gt ps[j] = true → outG gt x (ps.take (j + 1)) = outG gt x (ps.take j) ++ [x] ++ [ps[j]] ∧ (ps.take (j + 1)).any gt = true) ∧
    ((ps.take j).any gt = false → gt ps[j] = false → outG gt x (ps.take (j + 1)) = outG gt x (ps.take j) ++ [ps[j]] ∧ (ps.take (j + 1)).any gt = false) := by
  rw [List.take_succ_eq_append_getElem h]
  refine ⟨fun h1 => ⟨outG_any h1, by rw [List.any_append, h1, Bool.true_or]⟩, fun h1 h2 => ⟨outG_now h1 h2, by rw [List.any_append, h1, List.any_cons, h2]; rfl⟩, fun h1 h2 => ⟨outG_not h1 h2, by rw [List.any_append, h1, List.any_cons, h2]; rfl⟩⟩

set_option maxRecDepth 100000 in
set_option maxHeartbeats 3200000 in
theorem rfPut_any {w : World} {T : Nat → Prop} {rb : Nat} {rv cv : Value} {ps : List Pc} {R : List (ByteArray × ByteArray)} {F : Ch} (h : RfS w T rb rv cv ps R F) (hl : ps.length ≤ 10000) (hR : R.length ≤ 100) (hbd : ∀ W d, ∀ x ∈ F d, VwB W x) (hF : ∀ d, (F d).length ≤ 10000) (hrs : ∀ d, riseW (F d)) (x : Vw) (hx : ∀ W, VwB W x) :
    Calls Tryz.prog 17 #[.pointer (some ⟨rb, 0, none⟩), wV x] w fun e w' => e = .returned (.bool (ownsK R x.1.key && putOk (F x.1.key) x)) ∧ (∃ cv' ps', RfS w' (Tmore T w w') rb rv cv' ps' R (putF R F x) ∧ ps'.length ≤ ps.length + 1) ∧ Mv T w w' := by
  have H := Lib.hid h
  have HNO : Hid ((ownsK R x.1.key && putOk (F x.1.key) x) = false → putF R F x = F) := Lib.hid putF_no
  have HYES : Hid ((ownsK R x.1.key && putOk (F x.1.key) x) = true → putF R F x = updF F x.1.key (midC (F x.1.key) x)) := Lib.hid putF_yes
  have HMID : Hid (putOk (F x.1.key) x = true → putR (F x.1.key) x = midC (F x.1.key) x) := Lib.hid (putR_eq (hrs _))
  have HMN : Hid (midC (F x.1.key) x ≠ F x.1.key ∧ midC (F x.1.key) x ≠ []) := Lib.hid mid_ne
  have HPT := Lib.hid (fun W v (hr : WRow W v (F x.1.key)) => rputN_any v (F x.1.key) x W (by have := hF x.1.key; omega) hr (hx W))
  rw [putOkR_eq] at HPT
  have HOF := Lib.hid (fun W (hb : Below w.heap.size w W) => rfOf_any (h.below hb) (by omega) x.1.key)
  have HAT := Lib.hid (fun W (hb : Below w.heap.size w W) => rfAt_any (h.below hb) (by omega) x.1.key)
  have HBD := Lib.hid (fun W => hbd W x.1.key)
  have HNK := Lib.hid (fun (hk : ∀ p ∈ ps, p.1 ≠ x.1.key) => h.noKey hk)
  obtain ⟨ra, rc, rfl⟩ := h.rr.shape
  obtain ⟨ca, cc, rfl, hcc⟩ := h.shape
  have HFD := Lib.hid (fun W (hb : Below w.heap.size w W) => rfind_any ra rc R x.1.key W hR (RowAt.of_own kr_ok (h.rr.below hb)))
  have hc0 := h.c0
  generalize putF R F x = F2 at HNO HYES ⊢
  generalize putR (F x.1.key) x = PR at HMID HPT
  generalize midC (F x.1.key) x = PL at HYES HMID HMN
  generalize putOk (F x.1.key) x = pk at HNO HYES HMID HPT ⊢
  obtain ⟨ow, how⟩ : ∃ ow, ownsK R x.1.key = ow := ⟨_, rfl⟩
  rw [how] at HNO HYES HFD ⊢
  clear how
  obtain ⟨⟨key, val, gone, ⟨m, t⟩, past⟩, pa, pc⟩ := x
  dsimp only [wV, wcs, wvs, pw] at *
  have hb1 : Below w.heap.size w (w.alloc (.cells #[.string key, .string val, .bool gone, .int .i64 m, .int .i64 t, .slice pa past.length pc] 36)) := balloc (Below.refl _ w) _
  have hg1 : (w.alloc (.cells #[.string key, .string val, .bool gone, .int .i64 m, .int .i64 t, .slice pa past.length pc] 36)).cell? ⟨w.heap.size, 0, none⟩ = some (.string key) ∧ (w.alloc (.cells #[.string key, .string val, .bool gone, .int .i64 m, .int .i64 t, .slice pa past.length pc] 36)).cell? ⟨w.heap.size, 1, none⟩ = some (.string val) ∧ (w.alloc (.cells #[.string key, .string val, .bool gone, .int .i64 m, .int .i64 t, .slice pa past.length pc] 36)).cell? ⟨w.heap.size, 2, none⟩ = some (.bool gone) ∧ (w.alloc (.cells #[.string key, .string val, .bool gone, .int .i64 m, .int .i64 t, .slice pa past.length pc] 36)).cell? ⟨w.heap.size, 3, none⟩ = some (.int .i64 m) ∧ (w.alloc (.cells #[.string key, .string val, .bool gone, .int .i64 m, .int .i64 t, .slice pa past.length pc] 36)).cell? ⟨w.heap.size, 4, none⟩ = some (.int .i64 t) ∧ (w.alloc (.cells #[.string key, .string val, .bool gone, .int .i64 m, .int .i64 t, .slice pa past.length pc] 36)).cell? ⟨w.heap.size, 5, none⟩ = some (.slice pa past.length pc) := by
    refine ⟨?_, ?_, ?_, ?_, ?_, ?_⟩ <;> simp
  have hc0 := kc hb1 hc0
  have hsz : w.heap.size < (w.alloc (.cells #[.string key, .string val, .bool gone, .int .i64 m, .int .i64 t, .slice pa past.length pc] 36)).heap.size := by simp
  clear h hbd hF hrs hx hR
  go_enter Tryz.func17, Tryz.ntmps17
  go_upto_region 1 with fail
  generalize w.alloc (.cells #[.string key, .string val, .bool gone, .int .i64 m, .int .i64 t, .slice pa past.length pc] 36) = w2 at *
  have hfd := HFD.out _ (hb1.drew)
  have g0 : w2.drew.cell? ⟨rb, 0, none⟩ = some (.slice ra R.length rc) ∧ w2.drew.cell? ⟨w.heap.size, 0, none⟩ = some (.string key) := ⟨hc0, hg1.1⟩
  go_region_held3 (fun w' => w'.cell? ⟨rb, 0, none⟩ = some (.slice ra R.length rc) ∧ w'.cell? ⟨w.heap.size, 0, none⟩ = some (.string key))
    (first | exact g1 | exact g0)
    (first
      | (go_at_call 38; ((refine hfd.mono ?_); rintro e w3 ⟨z, rfl, hz, hb3⟩; have g1 := keepK2 hb3 g0)))
  have hb3' : Below w2.heap.size w2 w3 := ((Below.refl _ w2).drew).trans hb3
  have HB3 := Lib.hid (bstep hb1 hb3')
  have hg3 : w3.cell? ⟨w.heap.size, 0, none⟩ = some (.string key) ∧ w3.cell? ⟨w.heap.size, 1, none⟩ = some (.string val) ∧ w3.cell? ⟨w.heap.size, 2, none⟩ = some (.bool gone) ∧ w3.cell? ⟨w.heap.size, 3, none⟩ = some (.int .i64 m) ∧ w3.cell? ⟨w.heap.size, 4, none⟩ = some (.int .i64 t) ∧ w3.cell? ⟨w.heap.size, 5, none⟩ = some (.slice pa past.length pc) := ⟨kc hb3' hg1.1, kc hb3' hg1.2.1, kc hb3' hg1.2.2.1, kc hb3' hg1.2.2.2.1, kc hb3' hg1.2.2.2.2.1, kc hb3' hg1.2.2.2.2.2⟩
  clear hc0 hg1 g0 g1 hfd hb3 hb3' hb1
  cases ow with
  | false =>
    have hz0 : z < 0 := by simpa using hz
    have HF : Hid (F2 = F) := Lib.hid (HNO.out rfl)
    have HG := Lib.hid (H.out.grow HB3.out)
    clear hz hg3
    go_wp2
    go_ret
    exact ⟨by simp, ⟨_, ps, by rw [HF.out]; exact HG.out, by omega⟩, Mv.of_below HB3.out⟩
  | true =>
    have hz0 : ¬ z < 0 := by have : 0 ≤ z := by simpa using hz
                             omega
    clear hz
    have hof := HOF.out _ (HB3.out.drew)
    have hg0 : w3.drew.cell? ⟨w.heap.size, 0, none⟩ = some (.string key) ∧ w3.drew.cell? ⟨w.heap.size, 1, none⟩ = some (.string val) ∧ w3.drew.cell? ⟨w.heap.size, 2, none⟩ = some (.bool gone) ∧ w3.drew.cell? ⟨w.heap.size, 3, none⟩ = some (.int .i64 m) ∧ w3.drew.cell? ⟨w.heap.size, 4, none⟩ = some (.int .i64 t) ∧ w3.drew.cell? ⟨w.heap.size, 5, none⟩ = some (.slice pa past.length pc) := hg3
    go_upto_region 3 with fail
    go_region_held3 (fun w' => w'.cell? ⟨w.heap.size, 0, none⟩ = some (.string key) ∧ w'.cell? ⟨w.heap.size, 1, none⟩ = some (.string val) ∧ w'.cell? ⟨w.heap.size, 2, none⟩ = some (.bool gone) ∧ w'.cell? ⟨w.heap.size, 3, none⟩ = some (.int .i64 m) ∧ w'.cell? ⟨w.heap.size, 4, none⟩ = some (.int .i64 t) ∧ w'.cell? ⟨w.heap.size, 5, none⟩ = some (.slice pa past.length pc))
      (first | exact hg5 | exact hg4 | exact hg0)
      (first
        | (go_at_call 14; ((refine hof.mono ?_); rintro e w4 ⟨hb4, v4, rfl, ho4⟩; have hpt := HPT.out w4 v4 (WRow.of_own ho4 (HBD.out w4)); obtain ⟨xa, xc, rfl⟩ := ho4.shape; have hg4 : w4.cell? ⟨w.heap.size, 0, none⟩ = some (.string key) ∧ w4.cell? ⟨w.heap.size, 1, none⟩ = some (.string val) ∧ w4.cell? ⟨w.heap.size, 2, none⟩ = some (.bool gone) ∧ w4.cell? ⟨w.heap.size, 3, none⟩ = some (.int .i64 m) ∧ w4.cell? ⟨w.heap.size, 4, none⟩ = some (.int .i64 t) ∧ w4.cell? ⟨w.heap.size, 5, none⟩ = some (.slice pa past.length pc) := ⟨kc hb4 hg0.1, kc hb4 hg0.2.1, kc hb4 hg0.2.2.1, kc hb4 hg0.2.2.2.1, kc hb4 hg0.2.2.2.2.1, kc hb4 hg0.2.2.2.2.2⟩))
        | (go_at_call 43; ((refine hpt.mono ?_); rintro e w5 ⟨v5, rfl, ho5, hw5, hb5⟩; have hg5 : w5.cell? ⟨w.heap.size, 0, none⟩ = some (.string key) ∧ w5.cell? ⟨w.heap.size, 1, none⟩ = some (.string val) ∧ w5.cell? ⟨w.heap.size, 2, none⟩ = some (.bool gone) ∧ w5.cell? ⟨w.heap.size, 3, none⟩ = some (.int .i64 m) ∧ w5.cell? ⟨w.heap.size, 4, none⟩ = some (.int .i64 t) ∧ w5.cell? ⟨w.heap.size, 5, none⟩ = some (.slice pa past.length pc) := ⟨kc hb5 hg4.1, kc hb5 hg4.2.1, kc hb5 hg4.2.2.1, kc hb5 hg4.2.2.2.1, kc hb5 hg4.2.2.2.2.1, kc hb5 hg4.2.2.2.2.2⟩)))
    have HB5 := Lib.hid (bstep HB3.out (bstep (((Below.refl _ w3).drew).trans hb4) hb5))
    have hg5' := hg5
    have HLO : Hid (w.heap.size < w4.heap.size + 1) := Lib.hid (by have := hb4.size; have := HB3.out.size; have : w3.drew.heap.size = w3.heap.size := rfl; omega)
    clear hg0 hg3 hg4 hof hpt hb4 ho4
    cases pk with
    | false =>
      obtain ⟨ya, yc, rfl, _⟩ := hw5.shape
      have HF : Hid (F2 = F) := Lib.hid (HNO.out rfl)
      have HG := Lib.hid (H.out.grow HB5.out)
      clear hg5 hg5' ho5 hw5 hb5
      go_wp2
      go_ret
      exact ⟨by simp, ⟨_, ps, by rw [HF.out]; exact HG.out, by omega⟩, Mv.of_below HB5.out⟩
    | true =>
      have HO : Hid (OwnR KW w5 (w4.heap.size + 1) v5 PL) := Lib.hid (by
        have e := HMID.out rfl
        subst e
        rcases ho5 with h1 | ⟨_, h2⟩
        · exact h1
        · exact absurd h2 HMN.out.1)
      obtain ⟨va, vc, rfl⟩ := HO.out.shape
      have HF2 := Lib.hid (HYES.out rfl)
      have hat := HAT.out _ HB5.out
      obtain ⟨x0, _, _, _, _, _⟩ := hg5
      clear hg5' ho5 hw5 hb5
      generalize hn : PL.length = n at HO
      clear hn
      go_wp2_with fail
      refine hat.mono ?_
      rintro e w7 ⟨hb7, z, rfl, hz2⟩
      have HB7 := Lib.hid (bstep HB5.out hb7)
      have HO7 := Lib.hid (HO.out.below hb7)
      have k0 := kc hb7 x0
      have h7 := H.out.below HB7.out
      have e1 := h7.c1
      clear hb7 x0 hat
      rcases hz2 with ⟨j, hj, rfl, hk⟩ | ⟨rfl, hno⟩
      · obtain ⟨g, cap, e, hcp, hTg, hgr, _, c1⟩ := h7.at j hj
        cases e
        have hfz := h7.cr.frozenAt (j * 2 + 1)
        have HFN : Hid (∃ cv' ps', RfS (w7.setCell ⟨g, j * 2 + 1, none⟩ (.slice va n vc)) (Tmore T w (w7.setCell ⟨g, j * 2 + 1, none⟩ (.slice va n vc))) rb (.slice ra R.length rc) cv' ps' R F2 ∧ ps'.length ≤ ps.length + 1) := Lib.hid (by
          have hKN : ∀ (i : Nat) (hi : i < ps.length), i ≠ j → ps[i].1 ≠ ps[j].1 := fun i hi hne e => by
            have hnd := H.out.kl.nd
            exact hne ((List.getElem_inj hnd (h₀ := by simpa using hi) (h₁ := by simpa using hj)).1 (by simpa using e))
          have hp := (H.out.grow HB7.out).putL (T' := Tmore T w w7) (fun i hi => hi) (H.out.grow HB7.out).lt j hj (va, n, vc) PL (HO7.out.mono (Nat.zero_le _)) (fun g' e => by
            have h1 := HO7.out.lt g' e
            have h2 := HLO.out
            have h3 := H.out.lt rb H.out.tb
            have h4 := H.out.lt g hTg
            exact ⟨.inr ⟨by omega, h1.2⟩, by omega, by omega⟩) HMN.out.2 hKN
          rw [hk] at hp
          have e : Tmore T w (w7.setCell ⟨g, j * 2 + 1, none⟩ (.slice va n vc)) = Tmore T w w7 := by
            unfold Tmore
            simp
          rw [e, HF2.out]
          exact ⟨_, _, hp, by simp⟩)
        have HMV : Hid (Mv T w (w7.setCell ⟨g, j * 2 + 1, none⟩ (.slice va n vc))) := Lib.hid ((Mv.of_below HB7.out).set hTg _)
        have hji : (j : Int) < (ps.length : Int) := by omega
        clear h7 hk hTg hcp
        go_wp2
        go_ret
        exact ⟨by simp, HFN.out, HMV.out⟩
      · have HNO2 := Lib.hid hno
        have HFE := Lib.hid (HNK.out hno)
        have HLT : Hid (w.heap.size < w7.heap.size) := Lib.hid (lt_of_cellN k0)
        clear hno h7
        go_wp2
        go_loopw [8, 9, 10] (fun o pt i wr => ∃ j : Nat, j ≤ ps.length ∧ i = .int .i64 j ∧ pt = .bool ((ps.take j).any (gtC key)) ∧ OwnR KC wr w7.heap.size o (outG (gtC key) (key, va, n, vc) (ps.take j)) ∧ Below w7.heap.size w7 wr) (fun _ _ i _ => ps.length - (intOf i).toNat)
        case atStart => exact ⟨0, by omega, rfl, rfl, OwnR.nil KC _ _, Below.refl _ _⟩
        case round =>
          obtain ⟨j, hj, rfl, rfl, hown, hbel⟩ := hrel
          have HB := Lib.hid hbel
          have HOW := Lib.hid hown
          have e1 := kc hbel e1
          have k0 := kc hbel k0
          have hbs : w7.heap.size ≤ wr.heap.size := hbel.size
          obtain ⟨sa, sc, rfl⟩ := hown.shape
          have hle : (outG (gtC key) (key, va, n, vc) (ps.take j)).length ≤ 20000 := by have := outG_len (gtC key) (key, va, n, vc) (ps.take j); rw [List.length_take] at this; omega
          clear hown
          by_cases hlt : j < ps.length
          · obtain ⟨g, cap, e, hcp, hTg, _, c0, c1⟩ := (H.out.below (bstep HB7.out hbel)).at j hlt
            cases e
            have HOG := Lib.hid (outG_take (gt := gtC key) (x := (key, va, n, vc)) hlt)
            have hgc : gtC key ps[j] = Op.bytesLess (bts key) (bts ps[j].1) := rfl
            rw [hgc] at HOG
            clear hgc
            have HGL : Hid (g < w7.heap.size ∧ rb < w7.heap.size) := Lib.hid ⟨by have := H.out.lt g hTg; have := HLT.out; omega, by have := H.out.lt rb H.out.tb; have := HLT.out; omega⟩
            generalize ps[j] = pj at c0 c1 HOG
            obtain ⟨q, qa, qn, qc⟩ := pj
            dsimp only at c0 c1 HOG
            generalize (ps.take j).any (gtC key) = pt at HOG ⊢
            generalize outG (gtC key) (key, va, n, vc) (ps.take j) = Lj at HOW HOG hle ⊢
            have hji : (j : Int) < (ps.length : Int) := by omega
            clear hbel hTg hcp
            cases pt with
            | true =>
              have HE := Lib.hid (HOG.out.1 rfl)
              clear HOG
              go_wp2_with fail
              go_quiet (fail)
              have hbn := bdrewN wr nq
              have HBn := Lib.hid (bstep HB.out hbn)
              have HOn := Lib.hid (HOW.out.below hbn)
              have hbs2 : w7.heap.size ≤ (wr.drewN nq).heap.size := HBn.out.size
              have hle2 : Lj.length ≤ 1000000 := by omega
              clear hbn
              go_wp2_with (at_builtin; refine wp_pushR kC_ok (wr := wr.drewN nq) rfl _ _ rfl w7.heap.size (.slice sa Lj.length sc) Lj (q, qa, qn, qc) #[.string q, .slice qa qn qc] rfl rfl HOn.out rfl hle2 hbs2 ?_; intro g9 cap9 w9 ho9 hb9 hk9 hat9 hlt9)
              go_roundw
              case rel => exact ⟨j + 1, by omega, by go_num, by rw [HE.out.2], by rw [HE.out.1]; exact ho9, HBn.out.trans hb9⟩
              case measure => simp [intOf]; omega
            | false =>
              have HKE : Hid ((!Op.bytesLess q.toList key.toList && !q.toList == key.toList) = Op.bytesLess (bts key) (bts q)) := Lib.hid (by
                rw [Lib.toList_data, Lib.toList_data]
                exact Km.bl_gtr _ _)
              cases hgt : (!Op.bytesLess q.toList key.toList && !q.toList == key.toList) with
              | false =>
                have HE := Lib.hid (HOG.out.2.2 rfl (HKE.out.symm.trans hgt))
                clear HOG HKE
                go_wp2_with fail
                go_quiet (fail)
                have hbn := bdrewN wr nq
                have HBn := Lib.hid (bstep HB.out hbn)
                have HOn := Lib.hid (HOW.out.below hbn)
                have hbs2 : w7.heap.size ≤ (wr.drewN nq).heap.size := HBn.out.size
                have hle2 : Lj.length ≤ 1000000 := by omega
                clear hbn
                go_wp2_with (at_builtin; refine wp_pushR kC_ok (wr := wr.drewN nq) rfl _ _ rfl w7.heap.size (.slice sa Lj.length sc) Lj (q, qa, qn, qc) #[.string q, .slice qa qn qc] rfl rfl HOn.out rfl hle2 hbs2 ?_; intro g9 cap9 w9 ho9 hb9 hk9 hat9 hlt9)
                go_roundw
                case rel => exact ⟨j + 1, by omega, by go_num, by rw [HE.out.2], by rw [HE.out.1]; exact ho9, HBn.out.trans hb9⟩
                case measure => simp [intOf]; omega
              | true =>
                have HE := Lib.hid (HOG.out.2.1 rfl (HKE.out.symm.trans hgt))
                clear HOG HKE
                go_wp2_with fail
                go_quiet (fail)
                have hbn := bdrewN wr nq
                have HBn := Lib.hid (bstep HB.out hbn)
                have HOn := Lib.hid (HOW.out.below hbn)
                have hbs2 : w7.heap.size ≤ (wr.drewN nq).heap.size := HBn.out.size
                have hle2 : Lj.length ≤ 1000000 := by omega
                clear hbn
                go_upto_region 17 with (at_builtin; refine wp_pushR kC_ok (wr := wr.drewN nq) rfl _ _ rfl w7.heap.size (.slice sa Lj.length sc) Lj (key, va, n, vc) #[.string key, .slice va n vc] rfl rfl HOn.out rfl hle2 hbs2 ?_; intro g8 cap8 w8 ho8 hb8 hk8 hat8 hlt8)
                have e1 := kcB hb8 HGL.out.2 (show (wr.drewN nq).cell? ⟨rb, 1, none⟩ = _ from by simpa using e1)
                have c0 := kcB hb8 HGL.out.1 (show (wr.drewN nq).cell? ⟨g, j * 2, none⟩ = _ from by simpa using c0)
                have c1 := kcB hb8 HGL.out.1 (show (wr.drewN nq).cell? ⟨g, j * 2 + 1, none⟩ = _ from by simpa using c1)
                have HO8 := Lib.hid ho8
                have hbs3 : w7.heap.size ≤ w8.heap.size := by have := hb8.size; omega
                have hle3 : (Lj ++ [(key, va, n, vc)]).length ≤ 1000000 := by simp; omega
                have hL8 : Lj.length + 1 = (Lj ++ [(key, va, n, vc)]).length := by simp
                rw [hL8] at ho8 ⊢
                generalize Lj ++ [(key, va, n, vc)] = L8 at ho8 HE hle3 hL8 ⊢
                have HO8 := Lib.hid ho8
                clear hL8 ho8
                go_wp2_with (at_builtin; refine wp_pushR kC_ok (wr := w8) rfl _ _ rfl w7.heap.size (.slice (some ⟨g8, 0, none⟩) L8.length cap8) L8 (q, qa, qn, qc) #[.string q, .slice qa qn qc] rfl rfl HO8.out rfl hle3 hbs3 ?_; intro g9 cap9 w9 ho9 hb9 hk9 hat9 hlt9)
                go_roundw
                case rel => exact ⟨j + 1, by omega, by go_num, by rw [HE.out.2], by rw [HE.out.1]; exact ho9, (HBn.out.trans hb8).trans hb9⟩
                case measure => simp [intOf]; omega
          · obtain rfl : j = ps.length := by omega
            rw [List.take_length] at HOW hle ⊢
            have HFIN := Lib.hid (fun (W : World) (hb : Below w7.heap.size w7 W) o (ho : OwnR KC W w7.heap.size o (insG (gtC key) (key, va, n, vc) ps)) => show (∃ cv' ps', RfS (W.setCell ⟨rb, 1, none⟩ o) (Tmore T w (W.setCell ⟨rb, 1, none⟩ o)) rb (.slice ra R.length rc) cv' ps' R F2 ∧ ps'.length ≤ ps.length + 1) ∧ Mv T w (W.setCell ⟨rb, 1, none⟩ o) from by
              have hbw := bstep HB7.out hb
              have hg := H.out.grow hbw
              have hol : ∀ g, o.ownBlock = some g → w7.heap.size ≤ g ∧ g < W.heap.size := fun g e => ho.lt g e
              have hw7 := HLT.out
              have e : Tmore T w (W.setCell ⟨rb, 1, none⟩ o) = Tmore T w W := by
                unfold Tmore
                simp
              rw [e]
              refine ⟨⟨o, insG (gtC key) (key, va, n, vc) ps, hg.putC (T' := Tmore T w W) (fun j hj => hj) hg.lt (ho.mono (Nat.zero_le _)) (fun g e => ⟨.inr ⟨by have := (hol g e).1; omega, (hol g e).2⟩, ?_, fun e2 => ?_⟩) ?_ (fun p hp => ?_), by rw [ins_len]; exact Nat.le_refl _⟩, (Mv.of_below hbw).set H.out.tb _⟩
              · have := (hol g e).1
                have := H.out.lt rb H.out.tb
                omega
              · have := (hol g e).1
                have := H.out.lt g (H.out.rt g e2).1
                omega
              · rw [HF2.out]
                exact ins_keys rfl H.out.kl HFE.out (by rw [updF_same]; exact HMN.out.2) (fun d hd => by rw [updF_other _ _ hd])
              · rw [HF2.out]
                rcases ins_mem hp with rfl | hp
                · rw [updF_same]
                  refine ⟨(HO7.out.mono (Nat.zero_le _)).below hb, fun g e => ?_⟩
                  have h1 := HO7.out.lt g e
                  have h2 := HLO.out
                  have h3 := H.out.lt rb H.out.tb
                  have h5 := hb.size
                  exact ⟨.inr ⟨by omega, by omega⟩, by omega, fun e2 => by have := (hol g e2).1; omega⟩
                · rw [updF_other _ _ (HNO2.out p hp)]
                  refine ⟨(hg.row p hp).1, fun g e => ⟨((hg.row p hp).2 g e).1, ((hg.row p hp).2 g e).2.1, fun e2 => ?_⟩⟩
                  have := (hol g e2).1
                  have := H.out.lt g ((H.out.row p hp).2 g e).1
                  omega)
            have e0f := (H.out.below (bstep HB7.out hbel)).fr 1
            have HEND := Lib.hid (outG_end (gt := gtC key) (x := (key, va, n, vc)) (l := ps))
            generalize insG (gtC key) (key, va, n, vc) ps = IG at HFIN HEND
            generalize ps.any (gtC key) = pt at HEND ⊢
            generalize outG (gtC key) (key, va, n, vc) ps = Lj at HOW HEND hle ⊢
            cases pt with
            | true =>
              have HE : Hid (IG = Lj) := Lib.hid (by rw [HEND.out]; rfl)
              have HX := Lib.hid (HFIN.out wr HB.out (.slice sa Lj.length sc) (by rw [HE.out]; exact HOW.out))
              clear hbel
              go_wp2
              go_ret
              exact ⟨by simp, HX.out.1, HX.out.2⟩
            | false =>
              have HE : Hid (IG = Lj ++ [(key, va, n, vc)]) := Lib.hid (by rw [HEND.out]; rfl)
              have hle2 : Lj.length ≤ 1000000 := by omega
              have HRB : Hid (rb < w7.heap.size) := Lib.hid (by have := H.out.lt rb H.out.tb; have := HLT.out; omega)
              clear hbel
              go_upto_region 21 with (at_builtin; refine wp_pushR kC_ok (wr := wr) rfl _ _ rfl w7.heap.size (.slice sa Lj.length sc) Lj (key, va, n, vc) #[.string key, .slice va n vc] rfl rfl HOW.out rfl hle2 hbs ?_; intro g9 cap9 w9 ho9 hb9 hk9 hat9 hlt9)
              have e1 := kcB hb9 HRB.out e1
              have e0f : w9.frozen? ⟨rb, 1, none⟩ = false := by rw [World.frozen?_of_block (hb9.block rb HRB.out)]; exact e0f
              have HX := Lib.hid (HFIN.out w9 (HB.out.trans hb9) (.slice (some ⟨g9, 0, none⟩) (Lj.length + 1) cap9) (by rw [HE.out]; exact ho9))
              clear ho9 hb9 hk9 hat9 hlt9
              go_wp2
              go_ret
              exact ⟨by simp, HX.out.1, HX.out.2⟩
end Go.Proofs.YtjfmgplhcinkfaaGreat
/- The code's shard and the document's, side by side. -/
namespace Go.Proofs.YtjfmgplhcinkfaaGreat
open Go.RowKit
set_option linter.unusedVariables false
set_option linter.unusedSimpArgs false

/-- A: blocks that are none of the two's; at most N keys. -/
def Pg (W : World) (A : Nat → Prop) (b rb N : Nat) (R R' : List (ByteArray × ByteArray)) (F F' : Ch) : Prop :=
  ∃ S T L rv cv ps, SdAt W S b R L F ∧ L.length ≤ N ∧ RfS W T rb rv cv ps R' F' ∧ ps.length ≤ N ∧ (∀ j, S j → ¬ T j) ∧ ∀ j, A j → j < W.heap.size ∧ ¬ S j ∧ ¬ T j
section
variable {W W' : World} {A : Nat → Prop} {b rb N : Nat} {R R' : List (ByteArray × ByteArray)} {F F' : Ch}
theorem Pg.below (h : Pg W A b rb N R R' F F') (hb : Below W.heap.size W W') : Pg W' A b rb N R R' F F' := by
  obtain ⟨S, T, L, rv, cv, ps, h1, h2, h3, h4, h5, h6⟩ := h
  exact ⟨S, T, L, rv, cv, ps, h1.below hb, h2, h3.below hb, h4, h5, fun j hj => ⟨Nat.lt_of_lt_of_le (h6 j hj).1 hb.size, (h6 j hj).2⟩⟩
theorem Pg.more (h : Pg W A b rb N R R' F F') (hb : Below W.heap.size W W') : Pg W' (fun j => A j ∨ (W.heap.size ≤ j ∧ j < W'.heap.size)) b rb N R R' F F' := by
  obtain ⟨S, T, L, rv, cv, ps, h1, h2, h3, h4, h5, h6⟩ := h
  refine ⟨S, T, L, rv, cv, ps, h1.below hb, h2, h3.below hb, h4, h5, fun j hj => ?_⟩
  rcases hj with hj | ⟨hj, hj'⟩
  · exact ⟨Nat.lt_of_lt_of_le (h6 j hj).1 hb.size, (h6 j hj).2⟩
  · exact ⟨hj', fun hs => by have := h1.lt j hs; omega, fun hs => by have := h3.lt j hs; omega⟩
theorem Pg.weak {A' : Nat → Prop} (h : Pg W A b rb N R R' F F') (ha : ∀ j, A' j → A j) : Pg W A' b rb N R R' F F' := by
  obtain ⟨S, T, L, rv, cv, ps, h1, h2, h3, h4, h5, h6⟩ := h
  exact ⟨S, T, L, rv, cv, ps, h1, h2, h3, h4, h5, fun j hj => h6 j (ha j hj)⟩
theorem Pg.mono {N' : Nat} (h : Pg W A b rb N R R' F F') (hn : N ≤ N') : Pg W A b rb N' R R' F F' := by
  obtain ⟨S, T, L, rv, cv, ps, h1, h2, h3, h4, h5, h6⟩ := h
  exact ⟨S, T, L, rv, cv, ps, h1, by omega, h3, by omega, h5, h6⟩
theorem Pg.sh (h : Pg W A b rb N R R' F F') : ShA W A N b R F := by
  obtain ⟨S, T, L, rv, cv, ps, h1, h2, h3, h4, h5, h6⟩ := h
  exact ⟨S, L, h1, h2, fun j hj => ⟨(h6 j hj).1, (h6 j hj).2.1⟩⟩
/-- The code's shard is written. -/
theorem Pg.code {w' : World} {R2 : List (ByteArray × ByteArray)} {F2 : Ch} {N' : Nat} {S T S' : Nat → Prop} {M : List ByteArray} {rv cv : Value} {ps : List Pc} (hN : N ≤ N') (h3 : RfS W T rb rv cv ps R' F') (h4 : ps.length ≤ N) (h5 : ∀ j, S j → ¬ T j) (h6 : ∀ j, A j → j < W.heap.size ∧ ¬ S j ∧ ¬ T j)
    (hs : SdAt w' S' b R2 M F2) (hM : M.length ≤ N') (hsub : ∀ j, S' j → S j ∨ W.heap.size ≤ j) (hm : Mv S W w') : Pg w' A b rb N' R2 R' F2 F' ∧ Wr A W w' := by
  refine ⟨⟨S', T, M, rv, cv, ps, hs, hM, h3.mv hm (fun j hj hj' => h5 j hj' hj), by omega, fun j hj ht => ?_, fun j hj => ⟨Nat.lt_of_lt_of_le (h6 j hj).1 hm.size, fun hs => ?_, (h6 j hj).2.2⟩⟩, hm.mono (fun j hj ha => (h6 j ha).2.1 hj)⟩
  · rcases hsub j hj with h | h
    · exact h5 j h ht
    · have := h3.lt j ht; omega
  · rcases hsub j hs with h | h
    · exact (h6 j hj).2.1 h
    · have := (h6 j hj).1; omega
theorem pput_any (h : Pg W A b rb N R R' F F') (hR : R.length ≤ 100) (hN : N ≤ 1000) (x : Vw) (hc : (F x.1.key).length ≤ 100000) (hx : VwB W x) (hpx : x.1.past = []) :
    Calls Tryz.prog 16 #[.pointer (some ⟨b, 0, none⟩), wV x] W fun e w' => e = .returned (.bool (ownsK R x.1.key && putOk (F x.1.key) x)) ∧ Pg w' A b rb (N + 1) R R' (putF R F x) F' ∧ Wr A W w' := by
  obtain ⟨S, T, L, rv, cv, ps, h1, h2, h3, h4, h5, h6⟩ := h
  refine (sput_any h1 hR (by omega) x hc hx (PastIn.of_nil hpx) (by have := hx.1.key; unfold maxLen; exact this)).mono ?_
  rintro e w' ⟨he, ⟨S', M, hl, hs, hsub⟩, hm⟩
  obtain ⟨g1, g2⟩ := Pg.code (N' := N + 1) (by omega) h3 h4 h5 h6 hs (by omega) hsub hm
  exact ⟨he, g1, g2⟩
theorem pmove_any (h : Pg W A b rb N R R' F F') (v : Value) (R2 : List (ByteArray × ByteArray)) (hR : R2.length ≤ 100) (hr : RowAt KR W v R2) :
    Calls Tryz.prog 10 #[.pointer (some ⟨b, 0, none⟩), v] W fun e w' => e = .returned (.tuple #[]) ∧ Pg w' A b rb N R2 R' (cutF F (ownsK R2)) F' ∧ Wr A W w' := by
  obtain ⟨S, T, L, rv, cv, ps, h1, h2, h3, h4, h5, h6⟩ := h
  refine (smove_any h1 v R2 hR hr).mono ?_
  rintro e w' ⟨he, ⟨S', hs, hsub⟩, hm⟩
  obtain ⟨g1, g2⟩ := Pg.code (N' := N) (by omega) h3 h4 h5 h6 hs (Nat.le_trans (List.length_filter_le _ _) h2) hsub hm
  exact ⟨he, g1, g2⟩
theorem pclean_any (h : Pg W A b rb N R R' F F') (hN : N ≤ 1000) (hF : ∀ k, (F k).length ≤ 100000) (s : Int × Int) (v : Value) (pins : List De) (hp : pins.length ≤ 100000) (hpk : ∀ d ∈ pins, d.1.size ≤ maxLen ∧ In64 d.2) (hpr : DepAt W v pins) :
    Calls Tryz.prog 8 #[.pointer (some ⟨b, 0, none⟩), sv s, v] W fun e w' => e = .returned (.tuple #[]) ∧ Pg w' A b rb N R R' (cleanF F s pins) F' ∧ Wr A W w' := by
  obtain ⟨S, T, L, rv, cv, ps, h1, h2, h3, h4, h5, h6⟩ := h
  refine (sclean_any h1 (by omega) hF s v pins hp hpk hpr).mono ?_
  rintro e w' ⟨he, ⟨S', hs, hsub⟩, hm⟩
  obtain ⟨g1, g2⟩ := Pg.code (N' := N) (by omega) h3 h4 h5 h6 hs h2 hsub hm
  exact ⟨he, g1, g2⟩
/-- The document's shard is written. -/
theorem Pg.doc {w' : World} {R2 : List (ByteArray × ByteArray)} {F2 : Ch} {N' : Nat} {S T : Nat → Prop} {L : List ByteArray} {rv cv : Value} {qs : List Pc} (hN : N ≤ N') (h1 : SdAt W S b R L F) (h2 : L.length ≤ N) (h5 : ∀ j, S j → ¬ T j) (h6 : ∀ j, A j → j < W.heap.size ∧ ¬ S j ∧ ¬ T j)
    (hpa : ∀ d, ∀ y ∈ F d, y.1.past = []) (hs : RfS w' (Tmore T W w') rb rv cv qs R2 F2) (hM : qs.length ≤ N') (hm : Mv T W w') : Pg w' A b rb N' R R2 F F2 ∧ Wr A W w' := by
  refine ⟨⟨S, Tmore T W w', L, rv, cv, qs, h1.mv hm h5 (fun k y hy => PastIn.of_nil (hpa k y hy)), by omega, hs, hM, fun j hj ht => ?_, fun j hj => ⟨Nat.lt_of_lt_of_le (h6 j hj).1 hm.size, (h6 j hj).2.1, fun ht => ?_⟩⟩, hm.mono (fun j hj ha => (h6 j ha).2.2 hj)⟩
  · rcases ht with ht | ht
    · exact h5 j hj ht
    · have := h1.lt j hj; omega
  · rcases ht with ht | ht
    · exact (h6 j hj).2.2 ht
    · have := (h6 j hj).1; omega
theorem qput_any (h : Pg W A b rb N R R' F F') (hR : R'.length ≤ 100) (hN : N ≤ 1000) (hpa : ∀ d, ∀ y ∈ F d, y.1.past = []) (hbd : ∀ W d, ∀ x ∈ F' d, VwB W x) (hF : ∀ d, (F' d).length ≤ 10000) (hrs : ∀ d, riseW (F' d)) (x : Vw) (hx : ∀ W, VwB W x) :
    Calls Tryz.prog 17 #[.pointer (some ⟨rb, 0, none⟩), wV x] W fun e w' => e = .returned (.bool (ownsK R' x.1.key && putOk (F' x.1.key) x)) ∧ Pg w' A b rb (N + 1) R R' F (putF R' F' x) ∧ Wr A W w' := by
  obtain ⟨S, T, L, rv, cv, ps, h1, h2, h3, h4, h5, h6⟩ := h
  refine (rfPut_any h3 (by omega) hR hbd hF hrs x hx).mono ?_
  rintro e w' ⟨he, ⟨cv', ps', hs, hl⟩, hm⟩
  obtain ⟨g1, g2⟩ := Pg.doc (N' := N + 1) (by omega) h1 h2 h5 h6 hpa hs (by omega) hm
  exact ⟨he, g1, g2⟩
theorem qmove_any {W1 : World} (h : Pg W A b rb N R R' F F') (hb : Below W.heap.size W W1) (hN : N ≤ 1000) (hpa : ∀ d, ∀ y ∈ F d, y.1.past = []) (v : Value) (R2 : List (ByteArray × ByteArray)) (hR : R2.length ≤ 100) (hv : OwnR KR W1 W.heap.size v R2) :
    Calls Tryz.prog 11 #[.pointer (some ⟨rb, 0, none⟩), v] W1 fun e w' => e = .returned (.tuple #[]) ∧ Pg w' A b rb N R R2 F (cutF F' (ownsK R2)) ∧ Wr A W1 w' := by
  obtain ⟨S, T, L, rv, cv, ps, h1, h2, h3, h4, h5, h6⟩ := h
  have h3' := h3.grow hb
  have hlv : ∀ g, v.ownBlock = some g → W.heap.size ≤ g ∧ g < W1.heap.size := fun g e => hv.lt g e
  refine (rfMove_any h3' (by omega) v R2 hR (hv.mono (Nat.zero_le _)) (fun g e => ⟨.inr (hlv g e), fun e2 => by have := (hlv g e).1; have := h3.lt rb h3.tb; omega, fun e2 => by have := (hlv g e).1; have := h3.lt g (h3.ct g e2).1; omega⟩)).mono ?_
  rintro e w' ⟨he, ⟨cv', ps', hs, hl⟩, hm⟩
  obtain ⟨g1, g2⟩ := Pg.doc (N' := N) (T := Tmore T W W1) (by omega) (h1.below hb) h2 (fun j hj ht => by
    rcases ht with ht | ht
    · exact h5 j hj ht
    · have := h1.lt j hj; omega) (fun j hj => ⟨Nat.lt_of_lt_of_le (h6 j hj).1 hb.size, (h6 j hj).2.1, fun ht => by
    rcases ht with ht | ht
    · exact (h6 j hj).2.2 ht
    · have := (h6 j hj).1; omega⟩) hpa hs (by omega) hm
  exact ⟨he, g1, g2⟩
theorem qclean_any {W1 : World} (h : Pg W A b rb N R R' F F') (hb : Below W.heap.size W W1) (hN : N ≤ 1000) (hpa : ∀ d, ∀ y ∈ F d, y.1.past = []) (hbd : ∀ W d, ∀ x ∈ F' d, VwB W x) (hF : ∀ d, (F' d).length ≤ 100000) (s : Int × Int) (pv : Value) (pins : List De) (hpl : pins.length ≤ 100000) (hpr : DepAt W1 pv pins) (hpb : ∀ g, pv.ownBlock = some g → W.heap.size ≤ g ∧ g < W1.heap.size) :
    Calls Tryz.prog 9 #[.pointer (some ⟨rb, 0, none⟩), sv s, pv] W1 fun e w' => e = .returned (.tuple #[]) ∧ Pg w' A b rb N R R' F (cleanF F' s pins) ∧ Wr A W1 w' := by
  obtain ⟨S, T, L, rv, cv, ps, h1, h2, h3, h4, h5, h6⟩ := h
  refine (rfClean_any (h3.below hb) (by omega) hbd hF s pv pins hpl (fun W2 hm => hpr.blocks hm.size (fun g e => hm.block g (hpb g e).2 (fun ht => by have := h3.lt g ht; have := (hpb g e).1; omega)))).mono ?_
  rintro e w' ⟨he, ⟨cv', ps', hs, hl⟩, hm⟩
  obtain ⟨g1, g2⟩ := Pg.doc (N' := N) (by omega) (h1.below hb) h2 h5 (fun j hj => ⟨Nat.lt_of_lt_of_le (h6 j hj).1 hb.size, (h6 j hj).2⟩) hpa hs (by omega) hm
  exact ⟨he, g1, g2⟩
/-- What is read of the document's. -/
theorem qof_any (h : Pg W A b rb N R R' F F') (hN : N ≤ 1000) (k : ByteArray) :
    Calls Tryz.prog 14 #[.pointer (some ⟨rb, 0, none⟩), .string k] W fun e w' => Below W.heap.size W w' ∧ ∃ v, e = .returned v ∧ OwnR KW w' 0 v (F' k) := by
  obtain ⟨S, T, L, rv, cv, ps, h1, h2, h3, h4, h5, h6⟩ := h
  exact rfOf_any h3 (by omega) k
theorem qkeys_any (h : Pg W A b rb N R R' F F') (hN : N ≤ 1000) :
    Calls Tryz.prog 27 #[.pointer (some ⟨rb, 0, none⟩)] W fun e w' => ∃ v L, KeyL F' L ∧ e = .returned v ∧ OwnR KS w' W.heap.size v L ∧ Below W.heap.size W w' := by
  obtain ⟨S, T, L, rv, cv, ps, h1, h2, h3, h4, h5, h6⟩ := h
  refine (rfKeys_any h3 (by omega)).mono ?_
  rintro e w' ⟨v, he, ho, hb⟩
  exact ⟨v, _, h3.kl, he, ho, hb⟩
theorem qhave_any (h : Pg W A b rb N R R' F F') (hN : N ≤ 1000) (hbd : ∀ W d, ∀ x ∈ F' d, VwB W x) (hF : ∀ d, (F' d).length ≤ 100000) :
    Calls Tryz.prog 24 #[.pointer (some ⟨rb, 0, none⟩)] W fun e w' => ∃ v L, KeyL F' L ∧ e = .returned v ∧ OwnD w' W.heap.size v (haveL F' L) ∧ Below W.heap.size W w' := by
  obtain ⟨S, T, L, rv, cv, ps, h1, h2, h3, h4, h5, h6⟩ := h
  refine (rfHave_any h3 (by omega) hbd hF).mono ?_
  rintro e w' ⟨v, he, ho, hb⟩
  exact ⟨v, _, h3.kl, he, ho, hb⟩
theorem Pg.rng (h : Pg W A b rb N R R' F F') : ∃ a c, W.cell? ⟨rb, 0, none⟩ = some (.slice a R'.length c) ∧ RowAt KR W (.slice a R'.length c) R' := by
  obtain ⟨S, T, L, rv, cv, ps, h1, h2, h3, h4, h5, h6⟩ := h
  obtain ⟨a, c, rfl⟩ := h3.rr.shape
  exact ⟨a, c, h3.c0, RowAt.of_own kr_ok h3.rr⟩
/-- The two at the beginning. -/
theorem Pg.made {W3 W4 : World} {S : Nat → Prop} {v : Value} {w2 : Nat} (h1 : SdAt W3 S b R [] (fun _ => [])) (hS : ∀ j, S j → w2 ≤ j) (h2 : w2 ≤ W3.heap.size) (hb : Below W3.heap.size W3 W4) (hv : OwnR KR W4 W3.heap.size v R) :
    Pg (W4.alloc (.cells #[v, .slice none 0 0] 31)) (fun j => j < w2) b W4.heap.size 0 R R (fun _ => []) (fun _ => []) := by
  have hba : Below W4.heap.size W4 (W4.alloc (.cells #[v, .slice none 0 0] 31)) := balloc (Below.refl _ _) _
  have hlv : ∀ g, v.ownBlock = some g → W3.heap.size ≤ g ∧ g < W4.heap.size := fun g e => hv.lt g e
  have hsz := hb.size
  have hse : (W4.alloc (.cells #[v, .slice none 0 0] 31)).heap.size = W4.heap.size + 1 := by simp
  refine ⟨S, fun j => W3.heap.size ≤ j ∧ j < W4.heap.size + 1, [], v, .slice none 0 0, [], (h1.below hb).below hba, by simp, ⟨fun j hj => by rw [hse]; exact hj.2, ⟨hsz, by omega⟩, by simp, by simp, fun i => by simp, (hv.mono (Nat.zero_le _)).below hba, fun g e => ⟨⟨(hlv g e).1, by have := (hlv g e).2; omega⟩, by have := (hlv g e).2; omega⟩, OwnR.nil KC _ _, fun g e => by simp [Value.ownBlock] at e, KeyL.nil, fun p hp => by simp at hp⟩, by simp, fun j hj ht => by have := h1.lt j hj; omega, fun j hj => ⟨by rw [hse]; omega, fun hs => by have := hS j hs; omega, fun ht => by have := ht.1; omega⟩⟩
end
end Go.Proofs.YtjfmgplhcinkfaaGreat
/- Arrays of two and three ints, and slices of ints, among the arguments, opened. -/
namespace Go.Proofs.YtjfmgplhcinkfaaGreat
open Go.ChangeShapes Go.WideShapes Go.ChangeAt Go.RowKit Go.Joins Go.Deep
set_option linter.unusedVariables false

section
variable {H : Type} {enc : TypeId × Value → H} {P : Program} {w : World} {base : Nat} {spare : Nat → Bool} {held : Bool}
theorem open_intsT2 {r : Reach} {b0 : Nat} {t e : TypeId} {v : Value} {d : DataW H} {p : List MemPlace}
    (ht : P.underlying t = some (.array 2 e)) (he : P.underlying e = some (.int .i64)) (hc : P.cellsOf t = 2) (hce : P.cellsOf e = 1)
    (hv : Value.okWide P w r b0 t v) (h : DataW.Trod enc P w base spare held t v d p) :
    ∃ q0 q1 : Int, v = .agg #[.int .i64 q0, .int .i64 q1] ∧ (-9223372036854775808 ≤ q0 ∧ q0 ≤ 9223372036854775807) ∧ (-9223372036854775808 ≤ q1 ∧ q1 ≤ 9223372036854775807) := by
  obtain ⟨cs, rfl, hl, hx⟩ := open_arr ht hc hce hv h
  match cs, hl with
  | [c0, c1], _ =>
    obtain ⟨_, _, k0⟩ := hx 0 (by simp)
    obtain ⟨_, _, k1⟩ := hx 1 (by simp)
    obtain ⟨n0, e0, _, w0⟩ := DataW.trod_int he k0
    obtain ⟨n1, e1, _, w1⟩ := DataW.trod_int he k1
    simp at e0 e1
    subst e0 e1
    exact ⟨n0, n1, rfl, bounds_i64 w0, bounds_i64 w1⟩
theorem open_intsT3 {r : Reach} {b0 : Nat} {t e : TypeId} {v : Value} {d : DataW H} {p : List MemPlace}
    (ht : P.underlying t = some (.array 3 e)) (he : P.underlying e = some (.int .i64)) (hc : P.cellsOf t = 3) (hce : P.cellsOf e = 1)
    (hv : Value.okWide P w r b0 t v) (h : DataW.Trod enc P w base spare held t v d p) :
    ∃ q0 q1 q2 : Int, v = .agg #[.int .i64 q0, .int .i64 q1, .int .i64 q2] ∧ (-9223372036854775808 ≤ q0 ∧ q0 ≤ 9223372036854775807) ∧ (-9223372036854775808 ≤ q1 ∧ q1 ≤ 9223372036854775807) ∧ (-9223372036854775808 ≤ q2 ∧ q2 ≤ 9223372036854775807) := by
  obtain ⟨cs, rfl, hl, hx⟩ := open_arr ht hc hce hv h
  match cs, hl with
  | [c0, c1, c2], _ =>
    obtain ⟨_, _, k0⟩ := hx 0 (by simp)
    obtain ⟨_, _, k1⟩ := hx 1 (by simp)
    obtain ⟨_, _, k2⟩ := hx 2 (by simp)
    obtain ⟨n0, e0, _, w0⟩ := DataW.trod_int he k0
    obtain ⟨n1, e1, _, w1⟩ := DataW.trod_int he k1
    obtain ⟨n2, e2, _, w2⟩ := DataW.trod_int he k2
    simp at e0 e1 e2
    subst e0 e1 e2
    exact ⟨n0, n1, n2, rfl, bounds_i64 w0, bounds_i64 w1, bounds_i64 w2⟩
end
end Go.Proofs.YtjfmgplhcinkfaaGreat
