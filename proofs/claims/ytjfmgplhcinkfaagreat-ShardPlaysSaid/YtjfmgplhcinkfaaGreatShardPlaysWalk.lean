/- ShardPlays, walked. -/
import Derived.Test.YtjfmgplhcinkfaaGreatGP26
import Derived.Deep.RegionHeld3
import Derived.Deep.DeepCutAuto
import Derived.Deep.CutBlock
namespace Go.Proofs.YtjfmgplhcinkfaaGreat
open Go.RowKit Go.Shelf
set_option linter.unusedVariables false
set_option linter.unusedSimpArgs false

/-- Two pins in a slice that was made of them. -/
theorem DepAt.two (w : World) (k : ByteArray) (s t : Int) (k' : ByteArray) (s' t' : Int) : DepAt (w.alloc (.cells #[.string k, .int .i64 s, .int .i64 t, .string k', .int .i64 s', .int .i64 t'] 38)) (.slice (some ⟨w.heap.size, 0, none⟩) 2 2) [(k, (s, t)), (k', (s', t'))] :=
  ⟨_, _, rfl, Nat.le_refl _, by unfold maxLen; omega, (fun h => by cases h), fun i hi => by
    rcases (show i = 0 ∨ i = 1 by simp at hi; omega) with rfl | rfl
    · exact ⟨w.heap.size, 0, rfl, by simp, by simp, by simp, by simp⟩
    · exact ⟨w.heap.size, 0, rfl, by simp, by simp, by simp, by simp⟩⟩
theorem rise_put {R : List (ByteArray × ByteArray)} {F : Ch} {x : Vw} (h : ∀ d, riseW (F d)) : ∀ d, riseW (putF R F x d) := fun d => by
  unfold putF
  split
  · rename_i hc
    rw [Bool.and_eq_true] at hc
    by_cases e : d = x.1.key
    · subst e
      rw [updF_same]
      exact mid_rise (h _) hc.2
    · rw [updF_other _ _ e]
      exact h d
  · exact h d
theorem rise_cut {F : Ch} {p : ByteArray → Bool} (h : ∀ d, riseW (F d)) : ∀ d, riseW (cutF F p d) := fun d => by
  unfold cutF
  split
  · exact h d
  · exact List.Pairwise.nil
theorem rise_clean {F : Ch} {s : Int × Int} {pins : List De} (h : ∀ d, riseW (F d)) : ∀ d, riseW (cleanF F s pins d) := fun d => (h d).filter _
theorem cell_blk {w w' : World} {b o : Nat} {x : Value} (hb : w'.heap[b]? = w.heap[b]?) (h : w.cell? ⟨b, o, none⟩ = some x) : w'.cell? ⟨b, o, none⟩ = some x := by
  rw [World.cell?_of_block hb]
  exact h
theorem putS3 {w : World} {b BB : Nat} {x y z : Value} (hne : b ≠ BB) (h : w.cell? ⟨b, 0, none⟩ = some x ∧ w.cell? ⟨b, 3, none⟩ = some y ∧ w.cell? ⟨b, 4, none⟩ = some z) (v : Wv) (u : Value) : (World.putw w BB v u).cell? ⟨b, 0, none⟩ = some x ∧ (World.putw w BB v u).cell? ⟨b, 3, none⟩ = some y ∧ (World.putw w BB v u).cell? ⟨b, 4, none⟩ = some z :=
  have hb := putw_block w BB v u b hne
  ⟨cell_blk hb h.1, cell_blk hb h.2.1, cell_blk hb h.2.2⟩
/-- What a step leaves. -/
def Stq (A : Nat → Prop) (b rb k : Nat) (w3 wx : World) : Prop := ∃ R F, R.length ≤ 100 ∧ Pg wx A b rb (2 * k) R R F F ∧ Kp R F k ∧ (∀ d, riseW (F d)) ∧ Wr A w3 wx

set_option maxRecDepth 100000 in
set_option maxHeartbeats 20000000 in
theorem walkShardPlays (w : World) (n : Int) (hnw : (Lit.int .i64 n).wf = true) (a : Option Addr) (l : List O13) (cap : Nat) (hl : l.length ≤ 9223372036854775807) (hin : ∀ o ∈ l, o.In) (hr : RowIn KO13 w a l) :
    Calls Tryz.prog 3 #[.int .i64 n, .slice a l.length cap] w fun e w' => e = .returned (.bool true) ∧ Below w.heap.size w w' := by
  have HR := Lib.hid hr
  have HIN := Lib.hid hin
  clear hr hin hnw
  go_enter Tryz.func3, Tryz.ntmps3
  go_wp2_with fail
  refine (awake13_any _).mono ?_
  rintro e w1 ⟨rfl, hb1⟩
  have HB1 : Hid (Below w.heap.size w w1) := Lib.hid hb1
  clear hb1
  go_wp2_with fail
  refine (ranges13_any n _).mono ?_
  rintro e w2 ⟨v2, rfl, ho2, hb2⟩
  have HB2 := Lib.hid (bstep HB1.out hb2)
  have hnew := snew_any v2 (rngsOf n) w2 (by have := rngsOf_len n; omega) (RowAt.of_own kr_ok ho2)
  obtain ⟨ra, rc, rfl⟩ := ho2.shape
  have HRL : Hid ((rngsOf n).length ≤ 100) := Lib.hid (by have := rngsOf_len n; omega)
  have HRG2 := Lib.hid (fun W => ranges13_any n W)
  clear ho2 hb2
  generalize rngsOf n = R at hnew HRL HRG2
  go_wp2_with fail
  refine hnew.mono ?_
  rintro e w3 ⟨b, S, rfl, hsd, hS, hb3⟩
  have HSD := Lib.hid hsd
  have HSS := Lib.hid hS
  have HBN := Lib.hid hb3
  have HB3 := Lib.hid (bstep HB2.out hb3)
  clear hsd hS hb3 hnew
  go_wp2_with fail
  refine (HRG2.out _).mono ?_
  rintro e wA ⟨v4, rfl, ho4, hb4⟩
  have hpg := Pg.made HSD.out HSS.out HBN.out.size hb4 ho4
  obtain ⟨ga, gc, rfl⟩ := ho4.shape
  obtain ⟨wL, hwL⟩ : ∃ wL, wA.alloc (.cells #[.slice ga R.length gc, .slice none 0 0] 31) = wL := ⟨_, rfl⟩
  have hbL : Below wA.heap.size wA wL := by rw [← hwL]; exact balloc (Below.refl _ _) _
  rw [hwL] at hpg
  have HBL := Lib.hid (bstep HB3.out (bstep hb4 hbL))
  obtain ⟨A, hA⟩ : ∃ A : Nat → Prop, A = fun j => j < w2.heap.size := ⟨_, rfl⟩
  rw [← hA] at hpg
  have HPG := Lib.hid hpg
  have HAW : Hid (∀ j, j < w.heap.size → A j) := Lib.hid (fun j hj => by rw [hA]; have := HB2.out.size; show j < w2.heap.size; omega)
  clear ho4 hb4 hbL hpg hA HSD HSS HBN HRG2
  go_upto_region 6 with fail
  try rw [hwL]
  clear hwL
  generalize wA.heap.size = rb at HPG ⊢
  have HN1 : Hid (Stq A b rb 0 wL wL) := Lib.hid ⟨R, _, HRL.out, HPG.out, Kp.nil R, fun d => List.Pairwise.nil, Mv.refl _ _⟩
  clear HPG
  go_wp2
  go_loopw [8] (fun i wr => ∃ k : Nat, k ≤ l.length ∧ k ≤ 50 ∧ i = .int .i64 k ∧ Stq A b rb k wL wr) (fun i _ => 50 - (intOf i).toNat)
  case atStart => exact ⟨0, by omega, by omega, rfl, HN1.out⟩
  case round =>
    obtain ⟨k, hkl, hkN, rfl, R', F, hRL, hsh, hkp, hrs, hwr⟩ := hrel
    have HSH := Lib.hid hsh
    have HKP := Lib.hid hkp
    have HWR := Lib.hid hwr
    have HRS := Lib.hid hrs
    have HKL := Lib.hid (And.intro hkl hkN)
    have HRQ := Lib.hid hRL
    clear hsh hwr hkl hkN hkp hRL HN1 hrs
    go_upto_region 7 with (fail)
    go_cut [43] (fun t wx => ∃ c : Bool, t = .bool c ∧ Hid (c = true → k < l.length ∧ k < 50) ∧ wx = wr)
    case first =>
      obtain ⟨hkl, hkN⟩ := HKL.out
      by_cases hxl : k < l.length
      · have hxli : (k : Int) < (l.length : Int) := by omega
        by_cases hx10 : k < 50
        · have hxi : (k : Int) < 50 := by omega
          have HC : Hid (k < l.length ∧ k < 50) := Lib.hid ⟨hxl, hx10⟩
          go_wp2
          go_meet
          exact ⟨_, rfl, Lib.hid (fun _ => HC.out), rfl⟩
        · have q1 : decide ((k : Int) < 50) = false := by simp; omega
          go_wp2
          go_meet
          exact ⟨false, rfl, Lib.hid (fun h => by cases h), rfl⟩
      · have q1 : decide ((k : Int) < (l.length : Int)) = false := by simp; omega
        have q2 : decide (k < l.length) = false := by simp; omega
        go_wp2
        go_meet
        exact ⟨false, rfl, Lib.hid (fun h => by cases h), rfl⟩
    case rest =>
      obtain ⟨c, rfl, HC, rfl⟩ := hcut
      obtain ⟨wr, hwr0⟩ : ∃ wr, wr = wc := ⟨_, rfl⟩
      subst hwr0
      have HBW : Hid (Below w.heap.size w wr) := Lib.hid (HBL.out.trans (HWR.out.below (fun j hj => HAW.out j hj) HBL.out.size))
      cases c with
      | false =>
        go_wp2
        go_ret
        exact ⟨rfl, HBW.out⟩
      | true =>
      obtain ⟨hlt, hkN⟩ := HC.out rfl
      obtain ⟨ab, aoff, rfl, hbl, hcell⟩ := (HR.out.below HBW.out).op13 k hlt
      have HOI := Lib.hid (HIN.out _ (List.getElem_mem hlt))
      generalize l[k] = o at hcell HOI
      have hve := fun W => version13_any o HOI.out W
      have HVB : Hid (∀ W, VwB W (verO o)) := Lib.hid (fun W => verO_bd o HOI.out)
      have HVP := Lib.hid (verO_past o)
      generalize verO o = x at hve HVB HVP
      obtain ⟨k0, k1, k2, k3, kr, kv, kw, kg, ⟨ks, kt⟩, ⟨kpa, kpn, kpc⟩, kpk, kp, kq⟩ := o
      have c0 := hcell 0 _ rfl
      have c1 := hcell 1 _ rfl
      have c2 := hcell 2 _ rfl
      have c3 := hcell 3 _ rfl
      have c4 := hcell 4 _ rfl
      have c5 := hcell 5 _ rfl
      have c6 := hcell 6 _ rfl
      have c7 := hcell 7 _ rfl
      have c8 := hcell 8 _ rfl
      have c9 := hcell 9 _ rfl
      have c10 := hcell 10 _ rfl
      have c11 := hcell 11 _ rfl
      have c12 := hcell 12 _ rfl
      have c13 := hcell 13 _ rfl
      dsimp only [cs13] at c0 c1 c2 c3 c4 c5 c6 c7 c8 c9 c10 c11 c12 c13 hve
      simp only [Nat.add_zero] at c0
      have HPK : Hid (kpk.size ≤ maxLen ∧ In64 (kp, kq)) := Lib.hid ⟨HOI.out.pk, HOI.out.ps⟩
      clear hcell hbl
      have hki : (k : Int) < (l.length : Int) := by omega
      have HLK : Hid (k < l.length ∧ k < 50) := Lib.hid ⟨hlt, hkN⟩
      obtain ⟨⟨xk, xv, xg, ⟨xm, xt⟩, xp⟩, xa, xc⟩ := x
      dsimp only [wV, wcs, wvs, pw] at hve
      have HB0 : Hid (Below wr.heap.size wr (wr.alloc (.cells #[.int .i64 k0, .int .i64 k1, .int .i64 k2, .int .i64 k3, .bool kr, .string kv, .string kw, .bool kg, .int .i64 ks, .int .i64 kt, .slice kpa kpn kpc, .string kpk, .int .i64 kp, .int .i64 kq] 40))) := Lib.hid (balloc (Below.refl _ _) _)
      have HOC : Hid (∀ W, Below (wr.heap.size + 1) (wr.alloc (.cells #[.int .i64 k0, .int .i64 k1, .int .i64 k2, .int .i64 k3, .bool kr, .string kv, .string kw, .bool kg, .int .i64 ks, .int .i64 kt, .slice kpa kpn kpc, .string kpk, .int .i64 kp, .int .i64 kq] 40)) W → W.cell? ⟨wr.heap.size, 0, none⟩ = some (.int .i64 k0) ∧ W.cell? ⟨wr.heap.size, 2, none⟩ = some (.int .i64 k2) ∧ W.cell? ⟨wr.heap.size, 11, none⟩ = some (.string kpk) ∧ W.cell? ⟨wr.heap.size, 12, none⟩ = some (.int .i64 kp) ∧ W.cell? ⟨wr.heap.size, 13, none⟩ = some (.int .i64 kq)) := Lib.hid (fun W h => by
        have hs : (wr.alloc (.cells #[.int .i64 k0, .int .i64 k1, .int .i64 k2, .int .i64 k3, .bool kr, .string kv, .string kw, .bool kg, .int .i64 ks, .int .i64 kt, .slice kpa kpn kpc, .string kpk, .int .i64 kp, .int .i64 kq] 40)).heap.size = wr.heap.size + 1 := by simp
        rw [← hs] at h
        exact ⟨kc h (by simp), kc h (by simp), kc h (by simp), kc h (by simp), kc h (by simp)⟩)
      go_wp2_with fail
      refine (hve _).mono ?_
      rintro e w4 ⟨rfl, hb4⟩
      have HY4 := Lib.hid (HOC.out w4 (by simpa using hb4))
      have HB4 : Hid (Below wr.heap.size wr w4) := Lib.hid (bstep HB0.out hb4)
      clear hve HB0 HOC c0 c1 c2 c3 c4 c5 c6 c7 c8 c9 c10 c11 c12 c13 hb4
      obtain ⟨w5, hw5⟩ : ∃ w5, w4.alloc (.cells #[.string xk, .string xv, .bool xg, .int .i64 xm, .int .i64 xt, .slice xa xp.length xc] 36) = w5 := ⟨_, rfl⟩
      have hb5 : Below w4.heap.size w4 w5 := by rw [← hw5]; exact balloc (Below.refl _ _) _
      have hV5 : VwP w5 w4.heap.size ⟨xk, xv, xg, (xm, xt), xp⟩ (.slice xa xp.length xc) := by rw [← hw5]; exact VwP.new w4 ⟨xk, xv, xg, (xm, xt), xp⟩ (.slice xa xp.length xc) 36
      have HV5 := Lib.hid hV5
      have HY5 : Hid _ := Lib.hid (And.intro (kc hb5 HY4.out.1) (And.intro (kc hb5 HY4.out.2.1) (And.intro (kc hb5 HY4.out.2.2.1) (And.intro (kc hb5 HY4.out.2.2.2.1) (kc hb5 HY4.out.2.2.2.2)))))
      have HB5 : Hid (Below wr.heap.size wr w5) := Lib.hid (bstep HB4.out hb5)
      have HW5 : Hid (Wr A wL w5) := Lib.hid (HWR.out.step HB5.out)
      have HSM := Lib.hid (HSH.out.more HB5.out)
      have HVL : Hid (wr.heap.size ≤ w4.heap.size ∧ w4.heap.size < w5.heap.size) := Lib.hid ⟨HB4.out.size, (by have := hV5.1; exact lt_of_cellN this)⟩
      have HOL : Hid (wr.heap.size ≤ wr.heap.size ∧ wr.heap.size < w5.heap.size) := Lib.hid ⟨Nat.le_refl _, by have := HVL.out; omega⟩
      clear hb5 hV5 HY4 HB4
      go_upto_region 12 with fail
      try rw [hw5]
      clear hw5
      obtain ⟨A', hA'⟩ : ∃ A' : Nat → Prop, A' = fun j => A j ∨ (wr.heap.size ≤ j ∧ j < w5.heap.size) := ⟨_, rfl⟩
      have HAA : Hid (∀ j, A j → A' j) := Lib.hid (fun j hj => by rw [hA']; exact .inl hj)
      have HAV : Hid (A' w4.heap.size ∧ A' wr.heap.size) := Lib.hid (by rw [hA']; exact ⟨.inr HVL.out, .inr HOL.out⟩)
      rw [← hA'] at HSM
      clear hA' HVL HOL HSH HB5
      obtain ⟨y0, y2, y11, y12, y13⟩ := HY5.out
      obtain ⟨x0, x1, x2, x3, x4, x5, _⟩ := HV5.out
      dsimp only at x0 x1 x2 x3 x4 x5
      clear HY5 HV5 HBW HWR
      generalize wr.heap.size = OB at y0 y2 y11 y12 y13 HAV ⊢
      generalize w4.heap.size = VB at x0 x1 x2 x3 x4 x5 HAV ⊢
      have hand := and7S k0
      obtain ⟨kd, hkd⟩ : ∃ kd : Nat, k0 % 8 = (kd : Int) := ⟨(k0 % 8).toNat, by omega⟩
      have hkd8 : kd < 8 := by omega
      rw [hkd] at hand
      clear hkd
      have HXN : Hid (2 * k ≤ 100 ∧ xk.size ≤ maxLen ∧ In64 (xm, xt)) := Lib.hid ⟨by omega, by have := (HVB.out w5).1.key; unfold maxLen; exact this, (HVB.out w5).2⟩
      go_upto_block 2 with fail
      go_cut [10] (fun s10 wx => s10 = .bool true ∧ Stq A b rb (k + 1) wL wx ∧ wx.cell? ⟨VB, 0, none⟩ = some (.string xk))
      case first =>
        by_cases h5 : kd = 5
        · subst h5
          have hda := DepAt.two w5 xk xm xt kpk kp kq
          have hb := balloc (Below.refl w5.heap.size w5) (.cells #[.string xk, .int .i64 xm, .int .i64 xt, .string kpk, .int .i64 kp, .int .i64 kq] 38)
          obtain ⟨W, hW⟩ : ∃ W, w5.alloc (.cells #[.string xk, .int .i64 xm, .int .i64 xt, .string kpk, .int .i64 kp, .int .i64 kq] 38) = W := ⟨_, rfl⟩
          rw [hW] at hda hb
          have hcl := pclean_any (HSM.out.below hb) (by have := HXN.out; omega) (fun d => by have := HKP.out.len d; have := HXN.out; omega) (xm, xt) _ [(xk, (xm, xt)), (kpk, (kp, kq))] (by simp) (fun d hd => by
            rcases List.mem_cons.1 hd with rfl | hd
            · exact ⟨HXN.out.2.1, HXN.out.2.2⟩
            · obtain rfl : d = (kpk, (kp, kq)) := List.mem_singleton.1 hd
              exact HPK.out) hda
          have HK2 : Hid (Kp R' (cleanF F (xm, xt) [(xk, (xm, xt)), (kpk, (kp, kq))]) (k + 1)) := Lib.hid ((HKP.out.clean _ _).mono (by omega))
          have HRS2 : Hid (∀ d, riseW (cleanF F (xm, xt) [(xk, (xm, xt)), (kpk, (kp, kq))] d)) := Lib.hid (rise_clean HRS.out)
          have HQC := Lib.hid (fun (W0 W1 : World) (F0 : Ch) (h : Pg W0 A' b rb (2 * k) R' R' F0 F) (hb : Below W0.heap.size W0 W1) (hpa : ∀ d, ∀ y ∈ F0 d, y.1.past = []) pv (hpr : DepAt W1 pv [(xk, (xm, xt)), (kpk, (kp, kq))]) (hpb : ∀ g, pv.ownBlock = some g → W0.heap.size ≤ g ∧ g < W1.heap.size) => qclean_any h hb (by have := HXN.out; omega) hpa HKP.out.bd (fun d => by have := HKP.out.len d; have := HXN.out; omega) (xm, xt) pv [(xk, (xm, xt)), (kpk, (kp, kq))] (by simp) hpr hpb)
          have HWW : Hid (Wr A wL W) := Lib.hid (HW5.out.step hb)
          generalize cleanF F (xm, xt) [(xk, (xm, xt)), (kpk, (kp, kq))] = F2 at hcl HK2 HQC HRS2
          dsimp only [sv] at hcl HQC
          have v0 := kc hb x0
          have v3 := kc hb x3
          have v4 := kc hb x4
          have u11 := kc hb y11
          have u12 := kc hb y12
          have u13 := kc hb y13
          clear hda hb
          go_wp2_with fail
          try rw [hW]
          refine hcl.mono ?_
          rintro e w7 ⟨rfl, hs7, hw7⟩
          have v0 := hw7.cell (fun hn => hn HAV.out.1) v0
          have v3 := hw7.cell (fun hn => hn HAV.out.1) v3
          have v4 := hw7.cell (fun hn => hn HAV.out.1) v4
          have u11 := hw7.cell (fun hn => hn HAV.out.2) u11
          have u12 := hw7.cell (fun hn => hn HAV.out.2) u12
          have u13 := hw7.cell (fun hn => hn HAV.out.2) u13
          have HS7 := Lib.hid hs7
          have HW7 : Hid (Wr A wL w7) := Lib.hid (HWW.out.trans (hw7.mono (fun j hj ha => hj (HAA.out j ha))))
          clear hs7 hw7 hcl hW
          have hda := DepAt.two w7 xk xm xt kpk kp kq
          have hb := balloc (Below.refl w7.heap.size w7) (.cells #[.string xk, .int .i64 xm, .int .i64 xt, .string kpk, .int .i64 kp, .int .i64 kq] 38)
          obtain ⟨W8, hW8⟩ : ∃ W8, w7.alloc (.cells #[.string xk, .int .i64 xm, .int .i64 xt, .string kpk, .int .i64 kp, .int .i64 kq] 38) = W8 := ⟨_, rfl⟩
          have hsz8 : w7.heap.size < W8.heap.size := by rw [← hW8]; simp
          rw [hW8] at hda hb
          have hqc := HQC.out w7 W8 F2 HS7.out hb HK2.out.past _ hda (fun g e => by
            obtain rfl : w7.heap.size = g := by simpa [Value.ownBlock] using e
            exact ⟨Nat.le_refl _, hsz8⟩)
          have HW8 : Hid (Wr A wL W8) := Lib.hid (HW7.out.step hb)
          have v0 := kc hb v0
          clear hda hb hsz8
          go_wp2_with fail
          try rw [hW8]
          refine hqc.mono ?_
          rintro e w9 ⟨rfl, hs9, hw9⟩
          have HF9 : Hid (Stq A b rb (k + 1) wL w9) := Lib.hid ⟨R', F2, HRQ.out, (hs9.weak HAA.out).mono (by omega), HK2.out, HRS2.out, HW8.out.trans (hw9.mono (fun j hj ha => hj (HAA.out j ha)))⟩
          have v0 := hw9.cell (fun hn => hn HAV.out.1) v0
          clear hs9 hw9 hqc hW8
          go_wp2
          go_meet
          exact ⟨rfl, HF9.out, v0⟩
        · have q5 : ¬ (kd : Int) = 5 := by omega
          by_cases h6 : kd = 6
          · subst h6
            go_wp2_with fail
            refine (ranges13_any k2 _).mono ?_
            rintro e w6 ⟨v6, rfl, ho6, hb6⟩
            have hmv := pmove_any (HSM.out.below hb6) v6 (rngsOf k2) (by have := rngsOf_len k2; omega) (RowAt.of_own kr_ok ho6)
            obtain ⟨a6, q6, rfl⟩ := ho6.shape
            have HW6 : Hid (Wr A wL w6) := Lib.hid (HW5.out.step hb6)
            have HR6 : Hid ((rngsOf k2).length ≤ 100) := Lib.hid (by have := rngsOf_len k2; omega)
            have HRG := Lib.hid (fun W => ranges13_any k2 W)
            have v0 := kc hb6 x0
            have y2' := kc hb6 y2
            generalize rngsOf k2 = R2 at hmv HR6 HRG
            have HK2 : Hid (Kp R2 (cutF F (ownsK R2)) (k + 1)) := Lib.hid (HKP.out.cut.mono (by omega))
            have HRS2 : Hid (∀ d, riseW (cutF F (ownsK R2) d)) := Lib.hid (rise_cut HRS.out)
            have HQM := Lib.hid (fun (W0 W1 : World) (F0 : Ch) (h : Pg W0 A' b rb (2 * k) R2 R' F0 F) (hb : Below W0.heap.size W0 W1) (hpa : ∀ d, ∀ y ∈ F0 d, y.1.past = []) v (hv : OwnR KR W1 W0.heap.size v R2) => qmove_any h hb (by have := HXN.out; omega) hpa v R2 HR6.out hv)
            generalize cutF F (ownsK R2) = F2 at hmv HK2 HRS2 HQM
            clear ho6 hb6
            go_wp2_with fail
            refine hmv.mono ?_
            rintro e w7 ⟨rfl, hs7, hw7⟩
            have v0 := hw7.cell (fun hn => hn HAV.out.1) v0
            have y2' := hw7.cell (fun hn => hn HAV.out.2) y2'
            have HS7 := Lib.hid hs7
            have HW7 : Hid (Wr A wL w7) := Lib.hid (HW6.out.trans (hw7.mono (fun j hj ha => hj (HAA.out j ha))))
            clear hs7 hw7 hmv
            go_wp2_with fail
            refine (HRG.out _).mono ?_
            rintro e w8 ⟨v8, rfl, ho8, hb8⟩
            have hqm := HQM.out w7 w8 F2 HS7.out hb8 HK2.out.past v8 ho8
            have v0 := kc hb8 v0
            obtain ⟨a8, q8, rfl⟩ := ho8.shape
            have HW8 : Hid (Wr A wL w8) := Lib.hid (HW7.out.step hb8)
            clear ho8 hb8
            go_wp2_with fail
            refine hqm.mono ?_
            rintro e w9 ⟨rfl, hs9, hw9⟩
            have HF9 : Hid (Stq A b rb (k + 1) wL w9) := Lib.hid ⟨R2, F2, HR6.out, (hs9.weak HAA.out).mono (by omega), HK2.out, HRS2.out, HW8.out.trans (hw9.mono (fun j hj ha => hj (HAA.out j ha)))⟩
            have v0 := hw9.cell (fun hn => hn HAV.out.1) v0
            clear hs9 hw9 hqm
            go_wp2
            go_meet
            exact ⟨rfl, HF9.out, v0⟩
          · have q6 : ¬ (kd : Int) = 6 := by omega
            by_cases h7 : kd = 7
            · subst h7
              as_aux_lemma =>
                have hat := lat_any HSM.out.sh xk (xm, xt) HXN.out.2.1 (by have := HKP.out.len xk; have := HXN.out; omega)
                have HOF := Lib.hid (fun W (h : Below w5.heap.size w5 W) => qof_any (HSM.out.below h) (by have := HXN.out; omega) xk)
                have HAQ := Lib.hid (fun W v (h : OwnR KW W 0 v (F xk)) => rat12_any v (F xk) (xm, xt) W (by have := HKP.out.len xk; have := HXN.out; omega) (WRow.of_own h (HKP.out.bd W xk)))
                rw [find_last (HRS.out xk)] at HAQ
                have HYB : Hid (∀ W, VwB W ((lastP (isS (xm, xt)) (F xk)).getD vw0)) := Lib.hid (fun W => lastP_bd (HKP.out.bd W xk))
                generalize (lastP (isS (xm, xt)) (F xk)).isSome = is at hat HAQ
                generalize (lastP (isS (xm, xt)) (F xk)).getD vw0 = Y at hat HAQ HYB
                have HSE := Lib.hid (fun W => refWSameB_any Y.1 Y.1 (pw Y) (pw Y) W (HYB.out W).1 (HYB.out W).1)
                rw [sameW_self] at HSE
                obtain ⟨⟨yk, yv, yg, ⟨ym, yt⟩, yp⟩, ya, yc⟩ := Y
                dsimp only [wV, wcs, wvs, pw, sv] at hat HAQ HSE
                go_wp2_with fail
                refine hat.mono ?_
                rintro e w6 ⟨rfl, hb6⟩
                obtain ⟨w7, hw7⟩ : ∃ w7, w6.alloc (.cells #[.string yk, .string yv, .bool yg, .int .i64 ym, .int .i64 yt, .slice ya yp.length yc] 36) = w7 := ⟨_, rfl⟩
                have hb7 : Below w6.heap.size w6 w7 := by rw [← hw7]; exact balloc (Below.refl _ _) _
                have hV7 : VwP w7 w6.heap.size ⟨yk, yv, yg, (ym, yt), yp⟩ (.slice ya yp.length yc) := by rw [← hw7]; exact VwP.new w6 ⟨yk, yv, yg, (ym, yt), yp⟩ (.slice ya yp.length yc) 36
                have hb67 := bstep hb6 hb7
                have x0 := kc hb67 x0
                have x3 := kc hb67 x3
                have x4 := kc hb67 x4
                have HB7 := Lib.hid hb67
                have HV7 := Lib.hid hV7
                clear hat hb6 hb7 hV7 hb67
                go_upto_region 22 with fail
                try rw [hw7]
                clear hw7
                generalize w6.heap.size = TA at HV7 ⊢
                go_cut [14, 15] (fun s14 s15 wx => ∃ B : Nat, s14 = .pointer (some ⟨B, 0, none⟩) ∧ s15 = .bool is ∧ VwP wx B ⟨yk, yv, yg, (ym, yt), yp⟩ (.slice ya yp.length yc) ∧ Below w7.heap.size w7 wx)
                case first =>
                  have g0 : w7.drew.cell? ⟨VB, 0, none⟩ = some (.string xk) ∧ w7.drew.cell? ⟨VB, 3, none⟩ = some (.int .i64 xm) ∧ w7.drew.cell? ⟨VB, 4, none⟩ = some (.int .i64 xt) := ⟨x0, x3, x4⟩
                  have HVL : Hid (VB < w7.heap.size) := Lib.hid (lt_of_cellN x0)
                  have HBW : Hid (Below w7.heap.size w7 w7.drew) := Lib.hid ((Below.refl _ w7).drew)
                  clear x0 x1 x2 x3 x4 x5 y0 y2 y11 y12 y13
                  refine wp_region_held_drew (S := fun w' => w'.cell? ⟨VB, 0, none⟩ = some (.string xk) ∧ w'.cell? ⟨VB, 3, none⟩ = some (.int .i64 xm) ∧ w'.cell? ⟨VB, 4, none⟩ = some (.int .i64 xt)) (by kernel_rfl) (g0) (fun hHeld => ?_)
                  refine wpAnyH_take (i := 0) (v := ?vq0_1) rfl (by kernel_rfl) (by kernel_rfl) (by kernel_rfl) (fun _ _ _ h => h) (Or.inl ⟨by rfl, ?yq0_1⟩) (by assumption) ?rq0_1
                  case yq0_1 => (intro w hSw; (try dsimp only at hSw); go_simp; try with_reducible rfl)
                  try simp only [Act.put, List.setIfInBounds_toArray, List.set_cons_zero, List.set_cons_succ, List.getElem_toArray, List.getElem_cons_zero, List.getElem_cons_succ]
                  refine wpAnyH_take (i := 1) (v := ?vq1_2) rfl (by kernel_rfl) (by kernel_rfl) (by kernel_rfl) (fun _ _ _ h => h) (Or.inl ⟨by rfl, ?yq1_2⟩) (by assumption) ?rq1_2
                  case yq1_2 => (intro w hSw; (try dsimp only at hSw); go_simp; try with_reducible rfl)
                  try simp only [Act.put, List.setIfInBounds_toArray, List.set_cons_zero, List.set_cons_succ, List.getElem_toArray, List.getElem_cons_zero, List.getElem_cons_succ]
                  refine wpAnyH_take (i := 2) (v := ?vq2_3) rfl (by kernel_rfl) (by kernel_rfl) (by kernel_rfl) (fun _ _ _ h => h) (Or.inl ⟨by rfl, ?yq2_3⟩) (by assumption) ?rq2_3
                  case yq2_3 => (intro w hSw; (try dsimp only at hSw); go_simp; try with_reducible rfl)
                  try simp only [Act.put, List.setIfInBounds_toArray, List.set_cons_zero, List.set_cons_succ, List.getElem_toArray, List.getElem_cons_zero, List.getElem_cons_succ]
                  refine wpAnyH_take (i := 4) (v := ?vq4_4) rfl (by kernel_rfl) (by kernel_rfl) (by kernel_rfl) (fun _ _ _ h => h) (Or.inl ⟨by rfl, ?yq4_4⟩) (by assumption) ?rq4_4
                  case yq4_4 => (intro w hSw; (try dsimp only at hSw); go_simp; try with_reducible rfl)
                  try simp only [Act.put, List.setIfInBounds_toArray, List.set_cons_zero, List.set_cons_succ, List.getElem_toArray, List.getElem_cons_zero, List.getElem_cons_succ]
                  refine wpAnyH_take (i := 5) (v := ?vq5_5) rfl (by kernel_rfl) (by kernel_rfl) (by kernel_rfl) (fun _ _ _ h => h) (Or.inl ⟨by rfl, ?yq5_5⟩) (by assumption) ?rq5_5
                  case yq5_5 => (intro w hSw; (try dsimp only at hSw); go_simp; try with_reducible rfl)
                  try simp only [Act.put, List.setIfInBounds_toArray, List.set_cons_zero, List.set_cons_succ, List.getElem_toArray, List.getElem_cons_zero, List.getElem_cons_succ]
                  refine wpAnyH_ready (rs := [3, 10]) (by kernel_rfl) (by simp) ?_
                  refine AllReadyH.cons rfl (fun K hK => ?_) (AllReadyH.cons rfl (fun K hK => ?_) AllReadyH.nil)
                  · skip
                    go_simp
                    go_at_call 14
                    refine (HOF.out _ (bstep HB7.out HBW.out)).mono ?_
                    rintro e w8 ⟨hb8, v8, rfl, ho8⟩
                    obtain ⟨fa, fc, rfl⟩ := ho8.shape
                    have HO8 := Lib.hid ho8
                    have g3 : w8.cell? ⟨VB, 0, none⟩ = some (.string xk) ∧ w8.cell? ⟨VB, 3, none⟩ = some (.int .i64 xm) ∧ w8.cell? ⟨VB, 4, none⟩ = some (.int .i64 xt) := ⟨kc hb8 g0.1, kc hb8 g0.2.1, kc hb8 g0.2.2⟩
                    have HBW := Lib.hid (bstep HBW.out hb8)
                    clear hb8 ho8
                    go_wp2_with fail
                    refine hK.out _ _ (g3) (fun hHeld => ?_)
                    clear hK K
                    try simp only [Act.put, List.setIfInBounds_toArray, List.set_cons_zero, List.set_cons_succ, List.getElem_toArray, List.getElem_cons_zero, List.getElem_cons_succ]
                    refine wpAnyH_ready (rs := [6, 10]) (by kernel_rfl) (by simp) ?_
                    refine AllReadyH.cons rfl (fun K hK => ?_) (AllReadyH.cons rfl (fun K hK => ?_) AllReadyH.nil)
                    · skip
                      go_simp
                      go_at_call 13
                      refine (HAQ.out _ _ HO8.out).mono ?_
                      rintro e w9 ⟨rfl, hb9⟩
                      have g4 : w9.cell? ⟨VB, 0, none⟩ = some (.string xk) ∧ w9.cell? ⟨VB, 3, none⟩ = some (.int .i64 xm) ∧ w9.cell? ⟨VB, 4, none⟩ = some (.int .i64 xt) := ⟨kc hb9 g3.1, kc hb9 g3.2.1, kc hb9 g3.2.2⟩
                      have HBW := Lib.hid (bstep HBW.out hb9)
                      clear hb9
                      go_wp2_with fail
                      refine hK.out _ _ (g4) (fun hHeld => ?_)
                      clear hK K
                      try simp only [Act.put, List.setIfInBounds_toArray, List.set_cons_zero, List.set_cons_succ, List.getElem_toArray, List.getElem_cons_zero, List.getElem_cons_succ]
                      refine wpAnyH_take (i := 7) (v := ?vq7_6) rfl (by kernel_rfl) (by kernel_rfl) (by kernel_rfl) (fun _ _ _ h => h) (Or.inl ⟨by rfl, ?yq7_6⟩) (by assumption) ?rq7_6
                      case yq7_6 => (intro w hSw; (try dsimp only at hSw); go_simp; try with_reducible rfl)
                      try simp only [Act.put, List.setIfInBounds_toArray, List.set_cons_zero, List.set_cons_succ, List.getElem_toArray, List.getElem_cons_zero, List.getElem_cons_succ]
                      refine wpAnyH_take (i := 8) (v := ?vq8_7) rfl (by kernel_rfl) (by kernel_rfl) (by kernel_rfl) (fun _ _ _ h => h) (Or.inl ⟨by rfl, ?yq8_7⟩) (by assumption) ?rq8_7
                      case yq8_7 => (intro w hSw; (try dsimp only at hSw); go_simp; try with_reducible rfl)
                      try simp only [Act.put, List.setIfInBounds_toArray, List.set_cons_zero, List.set_cons_succ, List.getElem_toArray, List.getElem_cons_zero, List.getElem_cons_succ]
                      refine wpAnyH_take (i := 9) (v := ?vq9_8) rfl (by kernel_rfl) (by kernel_rfl) (by kernel_rfl) (fun _ _ _ h => h) (Or.inl ⟨by rfl, ?yq9_8⟩) (by assumption) ?rq9_8
                      case yq9_8 => (intro w hSw; (try dsimp only at hSw); go_simp; try with_reducible rfl)
                      try simp only [Act.put, List.setIfInBounds_toArray, List.set_cons_zero, List.set_cons_succ, List.getElem_toArray, List.getElem_cons_zero, List.getElem_cons_succ]
                      refine wpAnyH_ready (rs := [10]) (by kernel_rfl) (by simp) ?_
                      refine AllReadyH.cons rfl (fun K hK => ?_) AllReadyH.nil
                      have hba := balloc (Below.refl w9.heap.size w9) (.cells (wvs wz (.slice none 0 0)) 36)
                      have g5 : (w9.alloc (.cells (wvs wz (.slice none 0 0)) 36)).cell? ⟨VB, 0, none⟩ = some (.string xk) ∧ (w9.alloc (.cells (wvs wz (.slice none 0 0)) 36)).cell? ⟨VB, 3, none⟩ = some (.int .i64 xm) ∧ (w9.alloc (.cells (wvs wz (.slice none 0 0)) 36)).cell? ⟨VB, 4, none⟩ = some (.int .i64 xt) := ⟨kc hba g4.1, kc hba g4.2.1, kc hba g4.2.2⟩
                      clear hba
                      have HBO := HBW
                      go_simp
                      refine hK.out _ _ (g5) (fun hHeld => ?_)
                      clear hK K
                      try simp only [Act.put, List.setIfInBounds_toArray, List.set_cons_zero, List.set_cons_succ, List.getElem_toArray, List.getElem_cons_zero, List.getElem_cons_succ]
                      refine wpAnyH_ready (rs := [11]) (by kernel_rfl) (by simp) ?_
                      refine AllReadyH.cons rfl (fun K hK => ?_) AllReadyH.nil
                      have HFIN := Lib.hid (show ∃ B : Nat, Value.pointer (some ⟨w9.heap.size, 0, none⟩) = .pointer (some ⟨B, 0, none⟩) ∧ VwP (w9.alloc (.cells (wvs ⟨yk, yv, yg, (ym, yt), yp⟩ (.slice ya yp.length yc)) 36)) B ⟨yk, yv, yg, (ym, yt), yp⟩ (.slice ya yp.length yc) ∧ Below w7.heap.size w7 (w9.alloc (.cells (wvs ⟨yk, yv, yg, (ym, yt), yp⟩ (.slice ya yp.length yc)) 36)) from ⟨_, rfl, VwP.new _ _ _ _, bstep HBO.out (balloc (Below.refl _ _) _)⟩)
                      have hba := balloc (Below.refl w9.heap.size w9) (.cells (wvs ⟨yk, yv, yg, (ym, yt), yp⟩ (.slice ya yp.length yc)) 36)
                      have g6 : (w9.alloc (.cells (wvs ⟨yk, yv, yg, (ym, yt), yp⟩ (.slice ya yp.length yc)) 36)).cell? ⟨VB, 0, none⟩ = some (.string xk) ∧ (w9.alloc (.cells (wvs ⟨yk, yv, yg, (ym, yt), yp⟩ (.slice ya yp.length yc)) 36)).cell? ⟨VB, 3, none⟩ = some (.int .i64 xm) ∧ (w9.alloc (.cells (wvs ⟨yk, yv, yg, (ym, yt), yp⟩ (.slice ya yp.length yc)) 36)).cell? ⟨VB, 4, none⟩ = some (.int .i64 xt) := ⟨kc hba g4.1, kc hba g4.2.1, kc hba g4.2.2⟩
                      clear hba
                      go_simp
                      refine hK.out _ _ (g6) (fun hHeld => ?_)
                      clear hK K
                      try simp only [Act.put, List.setIfInBounds_toArray, List.set_cons_zero, List.set_cons_succ, List.getElem_toArray, List.getElem_cons_zero, List.getElem_cons_succ]
                      refine wpAnyH_take (i := 12) (v := ?vq12_9) rfl (by kernel_rfl) (by kernel_rfl) (by kernel_rfl) (fun _ _ _ h => h) (Or.inl ⟨by rfl, ?yq12_9⟩) (by assumption) ?rq12_9
                      case yq12_9 => (intro w hSw; (try dsimp only at hSw); go_simp; try with_reducible rfl)
                      try simp only [Act.put, List.setIfInBounds_toArray, List.set_cons_zero, List.set_cons_succ, List.getElem_toArray, List.getElem_cons_zero, List.getElem_cons_succ]
                      refine wpAnyH_done (by kernel_rfl) ?_ _
                      go_wp2
                      go_meet
                      obtain ⟨BF, ef1, ef2, ef3⟩ := HFIN.out
                      exact ⟨BF, ef1, rfl, ef2, ef3⟩
                    · skip
                      have hba := balloc (Below.refl w8.heap.size w8) (.cells (wvs wz (.slice none 0 0)) 36)
                      have g5 : (w8.alloc (.cells (wvs wz (.slice none 0 0)) 36)).cell? ⟨VB, 0, none⟩ = some (.string xk) ∧ (w8.alloc (.cells (wvs wz (.slice none 0 0)) 36)).cell? ⟨VB, 3, none⟩ = some (.int .i64 xm) ∧ (w8.alloc (.cells (wvs wz (.slice none 0 0)) 36)).cell? ⟨VB, 4, none⟩ = some (.int .i64 xt) := ⟨kc hba g3.1, kc hba g3.2.1, kc hba g3.2.2⟩
                      clear hba
                      have HVB : Hid (VwP (w8.alloc (.cells (wvs wz (.slice none 0 0)) 36)) w8.heap.size wz (.slice none 0 0)) := Lib.hid (VwP.new w8 wz (.slice none 0 0) 36)
                      have HBL : Hid (w7.heap.size ≤ w8.heap.size) := Lib.hid HBW.out.size
                      have HO8 := Lib.hid (HO8.out.below (balloc (Below.refl w8.heap.size w8) (.cells (wvs wz (.slice none 0 0)) 36)))
                      have HBW := Lib.hid (bstep HBW.out (balloc (Below.refl _ w8) (.cells (wvs wz (.slice none 0 0)) 36)))
                      obtain ⟨BB, hBB⟩ : ∃ BB, BB = w8.heap.size := ⟨_, rfl⟩
                      have HBL2 : Hid (w7.heap.size ≤ BB) := Lib.hid (by rw [hBB]; exact HBL.out)
                      clear HBL
                      have HBL := HBL2
                      clear HBL2
                      rw [← hBB] at HVB
                      go_simp
                      refine hK.out _ _ (g5) (fun hHeld => ?_)
                      clear hK K
                      try simp only [Act.put, List.setIfInBounds_toArray, List.set_cons_zero, List.set_cons_succ, List.getElem_toArray, List.getElem_cons_zero, List.getElem_cons_succ]
                      obtain ⟨wZ, hwZ⟩ : ∃ wZ, w8.alloc (.cells (wvs wz (.slice none 0 0)) 36) = wZ := ⟨_, rfl⟩
                      have hwY : w8.alloc (.cells (wvs wz (.slice none 0 0)) 36) = wZ := hwZ
                      rw [hwY] at g5 HVB HBW HO8
                      clear hwY
                      try rw [← hBB]
                      try dsimp only [wvs, wz] at hwZ
                      try rw [hwZ]
                      clear hwZ hBB
                      refine wpAnyH_ready (rs := [6]) (by kernel_rfl) (by simp) ?_
                      refine AllReadyH.cons rfl (fun K hK => ?_) AllReadyH.nil
                      go_simp
                      go_at_call 13
                      refine (HAQ.out _ _ HO8.out).mono ?_
                      rintro e w9 ⟨rfl, hb9⟩
                      have g4 : w9.cell? ⟨VB, 0, none⟩ = some (.string xk) ∧ w9.cell? ⟨VB, 3, none⟩ = some (.int .i64 xm) ∧ w9.cell? ⟨VB, 4, none⟩ = some (.int .i64 xt) := ⟨kc hb9 g5.1, kc hb9 g5.2.1, kc hb9 g5.2.2⟩
                      have HBW := Lib.hid (bstep HBW.out hb9)
                      have HVB := Lib.hid (HVB.out.keep hb9)
                      clear hb9
                      go_wp2_with fail
                      refine hK.out _ _ (g4) (fun hHeld => ?_)
                      clear hK K
                      try simp only [Act.put, List.setIfInBounds_toArray, List.set_cons_zero, List.set_cons_succ, List.getElem_toArray, List.getElem_cons_zero, List.getElem_cons_succ]
                      refine wpAnyH_take (i := 7) (v := ?vq7_10) rfl (by kernel_rfl) (by kernel_rfl) (by kernel_rfl) (fun _ _ _ h => h) (Or.inl ⟨by rfl, ?yq7_10⟩) (by assumption) ?rq7_10
                      case yq7_10 => (intro w hSw; (try dsimp only at hSw); go_simp; try with_reducible rfl)
                      try simp only [Act.put, List.setIfInBounds_toArray, List.set_cons_zero, List.set_cons_succ, List.getElem_toArray, List.getElem_cons_zero, List.getElem_cons_succ]
                      refine wpAnyH_take (i := 8) (v := ?vq8_11) rfl (by kernel_rfl) (by kernel_rfl) (by kernel_rfl) (fun _ _ _ h => h) (Or.inl ⟨by rfl, ?yq8_11⟩) (by assumption) ?rq8_11
                      case yq8_11 => (intro w hSw; (try dsimp only at hSw); go_simp; try with_reducible rfl)
                      try simp only [Act.put, List.setIfInBounds_toArray, List.set_cons_zero, List.set_cons_succ, List.getElem_toArray, List.getElem_cons_zero, List.getElem_cons_succ]
                      refine wpAnyH_take (i := 9) (v := ?vq9_12) rfl (by kernel_rfl) (by kernel_rfl) (by kernel_rfl) (fun _ _ _ h => h) (Or.inl ⟨by rfl, ?yq9_12⟩) (by assumption) ?rq9_12
                      case yq9_12 => (intro w hSw; (try dsimp only at hSw); go_simp; try with_reducible rfl)
                      try simp only [Act.put, List.setIfInBounds_toArray, List.set_cons_zero, List.set_cons_succ, List.getElem_toArray, List.getElem_cons_zero, List.getElem_cons_succ]
                      refine wpAnyH_ready (rs := [11]) (by kernel_rfl) (by simp) ?_
                      refine AllReadyH.cons rfl (fun K hK => ?_) AllReadyH.nil
                      obtain ⟨z0, z1, z2, z3, z4, z5, zf⟩ := HVB.out
                      have zf0 := zf 0 (by decide)
                      have zf1 := zf 1 (by decide)
                      have zf2 := zf 2 (by decide)
                      have zf3 := zf 3 (by decide)
                      have zf4 := zf 4 (by decide)
                      have zf5 := zf 5 (by decide)
                      dsimp only [wz] at z0 z1 z2 z3 z4 z5
                      have HFIN := Lib.hid (show ∃ B : Nat, Value.pointer (some ⟨BB, 0, none⟩) = .pointer (some ⟨B, 0, none⟩) ∧ VwP (World.putw w9 BB ⟨yk, yv, yg, (ym, yt), yp⟩ (.slice ya yp.length yc)) B ⟨yk, yv, yg, (ym, yt), yp⟩ (.slice ya yp.length yc) ∧ Below w7.heap.size w7 (World.putw w9 BB ⟨yk, yv, yg, (ym, yt), yp⟩ (.slice ya yp.length yc)) from ⟨_, rfl, HVB.out.putw ⟨yk, yv, yg, (ym, yt), yp⟩ (.slice ya yp.length yc), below_putw HBW.out HBL.out ⟨yk, yv, yg, (ym, yt), yp⟩ (.slice ya yp.length yc)⟩)
                      have hneB : VB ≠ BB := by have := HBL.out; have := HVL.out; omega
                      have g6 := putS3 hneB g4 ⟨yk, yv, yg, (ym, yt), yp⟩ (.slice ya yp.length yc)
                      dsimp only [World.putw] at g6
                      clear zf
                      go_simp
                      refine hK.out _ _ (g6) (fun hHeld => ?_)
                      clear hK K
                      try simp only [Act.put, List.setIfInBounds_toArray, List.set_cons_zero, List.set_cons_succ, List.getElem_toArray, List.getElem_cons_zero, List.getElem_cons_succ]
                      refine wpAnyH_take (i := 12) (v := ?vq12_13) rfl (by kernel_rfl) (by kernel_rfl) (by kernel_rfl) (fun _ _ _ h => h) (Or.inl ⟨by rfl, ?yq12_13⟩) (by assumption) ?rq12_13
                      case yq12_13 => (intro w hSw; (try dsimp only at hSw); go_simp; try with_reducible rfl)
                      try simp only [Act.put, List.setIfInBounds_toArray, List.set_cons_zero, List.set_cons_succ, List.getElem_toArray, List.getElem_cons_zero, List.getElem_cons_succ]
                      refine wpAnyH_done (by kernel_rfl) ?_ _
                      go_wp2
                      go_meet
                      obtain ⟨BF, ef1, ef2, ef3⟩ := HFIN.out
                      exact ⟨BF, ef1, rfl, ef2, ef3⟩
                  · skip
                    have hba := balloc (Below.refl w7.drew.heap.size w7.drew) (.cells (wvs wz (.slice none 0 0)) 36)
                    have g5 : (w7.drew.alloc (.cells (wvs wz (.slice none 0 0)) 36)).cell? ⟨VB, 0, none⟩ = some (.string xk) ∧ (w7.drew.alloc (.cells (wvs wz (.slice none 0 0)) 36)).cell? ⟨VB, 3, none⟩ = some (.int .i64 xm) ∧ (w7.drew.alloc (.cells (wvs wz (.slice none 0 0)) 36)).cell? ⟨VB, 4, none⟩ = some (.int .i64 xt) := ⟨kc hba g0.1, kc hba g0.2.1, kc hba g0.2.2⟩
                    clear hba
                    have HVB : Hid (VwP (w7.drew.alloc (.cells (wvs wz (.slice none 0 0)) 36)) w7.heap.size wz (.slice none 0 0)) := Lib.hid (VwP.new w7.drew wz (.slice none 0 0) 36)
                    have HBL : Hid (w7.heap.size ≤ w7.heap.size) := Lib.hid HBW.out.size
                    have HBW := Lib.hid (bstep HBW.out (balloc (Below.refl _ w7.drew) (.cells (wvs wz (.slice none 0 0)) 36)))
                    obtain ⟨BB, hBB⟩ : ∃ BB, BB = w7.heap.size := ⟨_, rfl⟩
                    have HBL2 : Hid (w7.heap.size ≤ BB) := Lib.hid (by rw [hBB]; exact HBL.out)
                    clear HBL
                    have HBL := HBL2
                    clear HBL2
                    rw [← hBB] at HVB
                    go_simp
                    refine hK.out _ _ (g5) (fun hHeld => ?_)
                    clear hK K
                    try simp only [Act.put, List.setIfInBounds_toArray, List.set_cons_zero, List.set_cons_succ, List.getElem_toArray, List.getElem_cons_zero, List.getElem_cons_succ]
                    obtain ⟨wZ, hwZ⟩ : ∃ wZ, (w7.alloc (.cells (wvs wz (.slice none 0 0)) 36)).drew = wZ := ⟨_, rfl⟩
                    have hwY : w7.drew.alloc (.cells (wvs wz (.slice none 0 0)) 36) = wZ := hwZ
                    rw [hwY] at g5 HVB HBW
                    clear hwY
                    try rw [← hBB]
                    try dsimp only [wvs, wz] at hwZ
                    try rw [hwZ]
                    clear hwZ hBB
                    refine wpAnyH_ready (rs := [3]) (by kernel_rfl) (by simp) ?_
                    refine AllReadyH.cons rfl (fun K hK => ?_) AllReadyH.nil
                    go_simp
                    go_at_call 14
                    refine (HOF.out _ (bstep HB7.out HBW.out)).mono ?_
                    rintro e w8 ⟨hb8, v8, rfl, ho8⟩
                    obtain ⟨fa, fc, rfl⟩ := ho8.shape
                    have HO8 := Lib.hid ho8
                    have g3 : w8.cell? ⟨VB, 0, none⟩ = some (.string xk) ∧ w8.cell? ⟨VB, 3, none⟩ = some (.int .i64 xm) ∧ w8.cell? ⟨VB, 4, none⟩ = some (.int .i64 xt) := ⟨kc hb8 g5.1, kc hb8 g5.2.1, kc hb8 g5.2.2⟩
                    have HBW := Lib.hid (bstep HBW.out hb8)
                    have HVB := Lib.hid (HVB.out.keep hb8)
                    clear hb8 ho8
                    go_wp2_with fail
                    refine hK.out _ _ (g3) (fun hHeld => ?_)
                    clear hK K
                    try simp only [Act.put, List.setIfInBounds_toArray, List.set_cons_zero, List.set_cons_succ, List.getElem_toArray, List.getElem_cons_zero, List.getElem_cons_succ]
                    refine wpAnyH_ready (rs := [6]) (by kernel_rfl) (by simp) ?_
                    refine AllReadyH.cons rfl (fun K hK => ?_) AllReadyH.nil
                    go_simp
                    go_at_call 13
                    refine (HAQ.out _ _ HO8.out).mono ?_
                    rintro e w9 ⟨rfl, hb9⟩
                    have g4 : w9.cell? ⟨VB, 0, none⟩ = some (.string xk) ∧ w9.cell? ⟨VB, 3, none⟩ = some (.int .i64 xm) ∧ w9.cell? ⟨VB, 4, none⟩ = some (.int .i64 xt) := ⟨kc hb9 g3.1, kc hb9 g3.2.1, kc hb9 g3.2.2⟩
                    have HBW := Lib.hid (bstep HBW.out hb9)
                    have HVB := Lib.hid (HVB.out.keep hb9)
                    clear hb9
                    go_wp2_with fail
                    refine hK.out _ _ (g4) (fun hHeld => ?_)
                    clear hK K
                    try simp only [Act.put, List.setIfInBounds_toArray, List.set_cons_zero, List.set_cons_succ, List.getElem_toArray, List.getElem_cons_zero, List.getElem_cons_succ]
                    refine wpAnyH_take (i := 7) (v := ?vq7_14) rfl (by kernel_rfl) (by kernel_rfl) (by kernel_rfl) (fun _ _ _ h => h) (Or.inl ⟨by rfl, ?yq7_14⟩) (by assumption) ?rq7_14
                    case yq7_14 => (intro w hSw; (try dsimp only at hSw); go_simp; try with_reducible rfl)
                    try simp only [Act.put, List.setIfInBounds_toArray, List.set_cons_zero, List.set_cons_succ, List.getElem_toArray, List.getElem_cons_zero, List.getElem_cons_succ]
                    refine wpAnyH_take (i := 8) (v := ?vq8_15) rfl (by kernel_rfl) (by kernel_rfl) (by kernel_rfl) (fun _ _ _ h => h) (Or.inl ⟨by rfl, ?yq8_15⟩) (by assumption) ?rq8_15
                    case yq8_15 => (intro w hSw; (try dsimp only at hSw); go_simp; try with_reducible rfl)
                    try simp only [Act.put, List.setIfInBounds_toArray, List.set_cons_zero, List.set_cons_succ, List.getElem_toArray, List.getElem_cons_zero, List.getElem_cons_succ]
                    refine wpAnyH_take (i := 9) (v := ?vq9_16) rfl (by kernel_rfl) (by kernel_rfl) (by kernel_rfl) (fun _ _ _ h => h) (Or.inl ⟨by rfl, ?yq9_16⟩) (by assumption) ?rq9_16
                    case yq9_16 => (intro w hSw; (try dsimp only at hSw); go_simp; try with_reducible rfl)
                    try simp only [Act.put, List.setIfInBounds_toArray, List.set_cons_zero, List.set_cons_succ, List.getElem_toArray, List.getElem_cons_zero, List.getElem_cons_succ]
                    refine wpAnyH_ready (rs := [11]) (by kernel_rfl) (by simp) ?_
                    refine AllReadyH.cons rfl (fun K hK => ?_) AllReadyH.nil
                    obtain ⟨z0, z1, z2, z3, z4, z5, zf⟩ := HVB.out
                    have zf0 := zf 0 (by decide)
                    have zf1 := zf 1 (by decide)
                    have zf2 := zf 2 (by decide)
                    have zf3 := zf 3 (by decide)
                    have zf4 := zf 4 (by decide)
                    have zf5 := zf 5 (by decide)
                    dsimp only [wz] at z0 z1 z2 z3 z4 z5
                    have HFIN := Lib.hid (show ∃ B : Nat, Value.pointer (some ⟨BB, 0, none⟩) = .pointer (some ⟨B, 0, none⟩) ∧ VwP (World.putw w9 BB ⟨yk, yv, yg, (ym, yt), yp⟩ (.slice ya yp.length yc)) B ⟨yk, yv, yg, (ym, yt), yp⟩ (.slice ya yp.length yc) ∧ Below w7.heap.size w7 (World.putw w9 BB ⟨yk, yv, yg, (ym, yt), yp⟩ (.slice ya yp.length yc)) from ⟨_, rfl, HVB.out.putw ⟨yk, yv, yg, (ym, yt), yp⟩ (.slice ya yp.length yc), below_putw HBW.out HBL.out ⟨yk, yv, yg, (ym, yt), yp⟩ (.slice ya yp.length yc)⟩)
                    have hneB : VB ≠ BB := by have := HBL.out; have := HVL.out; omega
                    have g6 := putS3 hneB g4 ⟨yk, yv, yg, (ym, yt), yp⟩ (.slice ya yp.length yc)
                    dsimp only [World.putw] at g6
                    clear zf
                    go_simp
                    refine hK.out _ _ (g6) (fun hHeld => ?_)
                    clear hK K
                    try simp only [Act.put, List.setIfInBounds_toArray, List.set_cons_zero, List.set_cons_succ, List.getElem_toArray, List.getElem_cons_zero, List.getElem_cons_succ]
                    refine wpAnyH_take (i := 12) (v := ?vq12_17) rfl (by kernel_rfl) (by kernel_rfl) (by kernel_rfl) (fun _ _ _ h => h) (Or.inl ⟨by rfl, ?yq12_17⟩) (by assumption) ?rq12_17
                    case yq12_17 => (intro w hSw; (try dsimp only at hSw); go_simp; try with_reducible rfl)
                    try simp only [Act.put, List.setIfInBounds_toArray, List.set_cons_zero, List.set_cons_succ, List.getElem_toArray, List.getElem_cons_zero, List.getElem_cons_succ]
                    refine wpAnyH_done (by kernel_rfl) ?_ _
                    go_wp2
                    go_meet
                    obtain ⟨BF, ef1, ef2, ef3⟩ := HFIN.out
                    exact ⟨BF, ef1, rfl, ef2, ef3⟩
                case rest =>
                  obtain ⟨TB, rfl, rfl, hvb, hbx⟩ := hcut
                  obtain ⟨w8, hw8⟩ : ∃ w8, w8 = wc := ⟨_, rfl⟩
                  subst hw8
                  have v0 := kc hbx x0
                  have HB8 := Lib.hid (bstep HB7.out hbx)
                  obtain ⟨p0, p1, p2, p3, p4, p5, _⟩ := HV7.out.keep hbx
                  obtain ⟨r0, r1, r2, r3, r4, r5, _⟩ := hvb
                  dsimp only at p0 p1 p2 p3 p4 p5 r0 r1 r2 r3 r4 r5
                  clear hbx x0 x1 x2 x3 x4 x5
                  go_wp2_with fail
                  refine (HSE.out _).mono ?_
                  rintro e w9 ⟨rfl, hb9⟩
                  have HB9 := Lib.hid (bstep HB8.out hb9)
                  have v0 := kc hb9 v0
                  have HF9 : Hid (Stq A b rb (k + 1) wL w9) := Lib.hid ⟨R', F, HRQ.out, ((HSM.out.below HB9.out).weak HAA.out).mono (by omega), HKP.out.mono (by omega), HRS.out, HW5.out.step HB9.out⟩
                  clear hb9 p0 p1 p2 p3 p4 p5 r0 r1 r2 r3 r4 r5
                  cases is <;> (go_wp2; go_meet; exact ⟨rfl, HF9.out, v0⟩)
            · have q7 : ¬ (kd : Int) = 7 := by omega
              as_aux_lemma =>
                have hpu := fun W (h : Below w5.heap.size w5 W) => pput_any (HSM.out.below h) HRQ.out (by have := HXN.out; omega) (⟨xk, xv, xg, (xm, xt), xp⟩, xa, xc) (by have := HKP.out.len xk; have := HXN.out; show (F xk).length ≤ _; omega) (HVB.out W) HVP.out
                have HK2 : Hid (Kp R' (putF R' F (⟨xk, xv, xg, (xm, xt), xp⟩, xa, xc)) (k + 1)) := Lib.hid (HKP.out.put HVB.out HVP.out)
                have HRS2 : Hid (∀ d, riseW (putF R' F (⟨xk, xv, xg, (xm, xt), xp⟩, xa, xc) d)) := Lib.hid (rise_put HRS.out)
                have HQP := Lib.hid (fun (W : World) (F0 : Ch) (h : Pg W A' b rb (2 * k + 1) R' R' F0 F) (hpa : ∀ d, ∀ y ∈ F0 d, y.1.past = []) => qput_any h HRQ.out (by have := HXN.out; omega) hpa HKP.out.bd (fun d => by have := HKP.out.len d; have := HXN.out; omega) HRS.out (⟨xk, xv, xg, (xm, xt), xp⟩, xa, xc) HVB.out)
                dsimp only at hpu HQP
                generalize (ownsK R' xk && putOk (F xk) (⟨xk, xv, xg, (xm, xt), xp⟩, xa, xc)) = is at hpu HQP
                generalize putF R' F (⟨xk, xv, xg, (xm, xt), xp⟩, xa, xc) = F2 at hpu HQP HK2 HRS2
                dsimp only [wV, wcs, wvs, pw] at hpu HQP
                have hput := hpu _ ((Below.refl _ w5).drew)
                have g0 : w5.drew.cell? ⟨VB, 0, none⟩ = some (.string xk) ∧ w5.drew.cell? ⟨VB, 1, none⟩ = some (.string xv) ∧ w5.drew.cell? ⟨VB, 2, none⟩ = some (.bool xg) ∧ w5.drew.cell? ⟨VB, 3, none⟩ = some (.int .i64 xm) ∧ w5.drew.cell? ⟨VB, 4, none⟩ = some (.int .i64 xt) ∧ w5.drew.cell? ⟨VB, 5, none⟩ = some (.slice xa xp.length xc) := ⟨x0, x1, x2, x3, x4, x5⟩
                clear hpu y0 y2 y11 y12 y13
                go_upto_region 13 with fail
                go_region_held3 (fun w' => w'.cell? ⟨VB, 0, none⟩ = some (.string xk) ∧ w'.cell? ⟨VB, 1, none⟩ = some (.string xv) ∧ w'.cell? ⟨VB, 2, none⟩ = some (.bool xg) ∧ w'.cell? ⟨VB, 3, none⟩ = some (.int .i64 xm) ∧ w'.cell? ⟨VB, 4, none⟩ = some (.int .i64 xt) ∧ w'.cell? ⟨VB, 5, none⟩ = some (.slice xa xp.length xc))
                  (first | exact g2 | exact g1 | exact g0)
                  (first
                    | (go_at_call 16; ((refine hput.mono ?_); rintro e w6 ⟨rfl, hs6, hw6⟩; have hqp := HQP.out w6 F2 hs6 HK2.out.past; have g1 : w6.cell? ⟨VB, 0, none⟩ = some (.string xk) ∧ w6.cell? ⟨VB, 1, none⟩ = some (.string xv) ∧ w6.cell? ⟨VB, 2, none⟩ = some (.bool xg) ∧ w6.cell? ⟨VB, 3, none⟩ = some (.int .i64 xm) ∧ w6.cell? ⟨VB, 4, none⟩ = some (.int .i64 xt) ∧ w6.cell? ⟨VB, 5, none⟩ = some (.slice xa xp.length xc) := ⟨hw6.cell (fun hn => hn HAV.out.1) g0.1, hw6.cell (fun hn => hn HAV.out.1) g0.2.1, hw6.cell (fun hn => hn HAV.out.1) g0.2.2.1, hw6.cell (fun hn => hn HAV.out.1) g0.2.2.2.1, hw6.cell (fun hn => hn HAV.out.1) g0.2.2.2.2.1, hw6.cell (fun hn => hn HAV.out.1) g0.2.2.2.2.2⟩))
                    | (go_at_call 17; ((refine hqp.mono ?_); rintro e w7 ⟨rfl, hs7, hw7⟩; have g2 : w7.cell? ⟨VB, 0, none⟩ = some (.string xk) ∧ w7.cell? ⟨VB, 1, none⟩ = some (.string xv) ∧ w7.cell? ⟨VB, 2, none⟩ = some (.bool xg) ∧ w7.cell? ⟨VB, 3, none⟩ = some (.int .i64 xm) ∧ w7.cell? ⟨VB, 4, none⟩ = some (.int .i64 xt) ∧ w7.cell? ⟨VB, 5, none⟩ = some (.slice xa xp.length xc) := ⟨hw7.cell (fun hn => hn HAV.out.1) g1.1, hw7.cell (fun hn => hn HAV.out.1) g1.2.1, hw7.cell (fun hn => hn HAV.out.1) g1.2.2.1, hw7.cell (fun hn => hn HAV.out.1) g1.2.2.2.1, hw7.cell (fun hn => hn HAV.out.1) g1.2.2.2.2.1, hw7.cell (fun hn => hn HAV.out.1) g1.2.2.2.2.2⟩)))
                have HF9 : Hid (Stq A b rb (k + 1) wL w7) := Lib.hid ⟨R', F2, HRQ.out, (hs7.weak HAA.out).mono (by omega), HK2.out, HRS2.out, ((HW5.out.step ((Below.refl _ w5).drew)).trans (hw6.mono (fun j hj ha => hj (HAA.out j ha)))).trans (hw7.mono (fun j hj ha => hj (HAA.out j ha)))⟩
                have v0 := g2.1
                clear hs6 hw6 hs7 hw7 hqp hput g0 g1 g2 x0 x1 x2 x3 x4 x5
                go_wp2
                go_meet
                exact ⟨by cases is <;> rfl, HF9.out, v0⟩
      case rest =>
        obtain ⟨rfl, hstp, v0⟩ := hcut
        as_aux_lemma =>
          obtain ⟨wR, hwR⟩ : ∃ wR, wR = wc := ⟨_, rfl⟩
          subst hwR
          obtain ⟨R2, F2, hRL2, hsh2, hkp2, hrs2, hwr2⟩ := hstp
          have HFS := Lib.hid (show Stq A b rb (k + 1) wL wR from ⟨R2, F2, hRL2, hsh2, hkp2, hrs2, hwr2⟩)
          have HS2 := Lib.hid hsh2
          have HK2 := Lib.hid hkp2
          have HR2 := Lib.hid hRL2
          have HKB : Hid (2 * (k + 1) ≤ 200 ∧ xk.size ≤ maxLen) := Lib.hid ⟨by have := HLK.out; omega, HXN.out.2.1⟩
          clear hRL2 hsh2 hkp2 hrs2 hwr2 y0 y2 y11 y12 y13 x0 x1 x2 x3 x4 x5 HW5 HSM HKP HRS HRQ HVB HVP HPK hand hkd8 hki hlt hkN HAA HAV HXN
          have HHD := Lib.hid (fun W (h : Below wR.heap.size wR W) => lhead_any (HS2.out.sh.below h) xk HKB.out.2 (by have := HK2.out.len xk; have := HKB.out; omega))
          have HOF := Lib.hid (fun W (h : Below wR.heap.size wR W) => qof_any (HS2.out.below h) (by have := HKB.out; omega) xk)
          have HH2 := Lib.hid (fun W v (h : OwnR KW W 0 v (F2 xk)) => rhead12_any v (F2 xk) W (by have := HK2.out.len xk; have := HKB.out; omega) (WRow.of_own h (HK2.out.bd W xk)))
          have hho : headOf F2 xk = (F2 xk).getLast?.getD vw0 := rfl
          rw [hho] at HHD
          clear hho
          have HYB : Hid (∀ W, VwB W ((F2 xk).getLast?.getD vw0)) := Lib.hid (fun W => getD_bd12 (HK2.out.bd W xk) (fun y hy => List.mem_of_getLast? hy))
          generalize (F2 xk).getLast?.isSome = is at HHD HH2
          generalize (F2 xk).getLast?.getD vw0 = Y at HHD HH2 HYB
          have HSE := Lib.hid (fun W => refWSameB_any Y.1 Y.1 (pw Y) (pw Y) W (HYB.out W).1 (HYB.out W).1)
          rw [sameW_self] at HSE
          obtain ⟨⟨yk, yv, yg, ⟨ym, yt⟩, yp⟩, ya, yc⟩ := Y
          dsimp only [wV, wcs, wvs, pw, sv] at HHD HH2 HSE
          go_wp2_with fail
          refine (HHD.out _ (Below.refl _ _)).mono ?_
          rintro e w6 ⟨rfl, hb6⟩
          obtain ⟨w7, hw7⟩ : ∃ w7, w6.alloc (.cells #[.string yk, .string yv, .bool yg, .int .i64 ym, .int .i64 yt, .slice ya yp.length yc] 36) = w7 := ⟨_, rfl⟩
          have hb7 : Below w6.heap.size w6 w7 := by rw [← hw7]; exact balloc (Below.refl _ _) _
          have hV7 : VwP w7 w6.heap.size ⟨yk, yv, yg, (ym, yt), yp⟩ (.slice ya yp.length yc) := by rw [← hw7]; exact VwP.new w6 ⟨yk, yv, yg, (ym, yt), yp⟩ (.slice ya yp.length yc) 36
          have hb67 := bstep hb6 hb7
          have v0 := kc hb67 v0
          have HB7 := Lib.hid hb67
          have HV7 := Lib.hid hV7
          clear hb6 hb7 hV7 hb67
          go_upto_region 26 with fail
          try rw [hw7]
          clear hw7
          generalize w6.heap.size = TA at HV7 ⊢
          go_wp2_with fail
          refine (HOF.out _ HB7.out).mono ?_
          rintro e w8 ⟨hb8, v8, rfl, ho8⟩
          obtain ⟨fa, fc, rfl⟩ := ho8.shape
          have hh2 := HH2.out _ _ ho8
          have HB8 := Lib.hid hb8
          clear ho8 hb8
          go_wp2_with fail
          refine hh2.mono ?_
          rintro e w9 ⟨rfl, hb9⟩
          obtain ⟨wa, hwa⟩ : ∃ wa, w9.alloc (.cells #[.string yk, .string yv, .bool yg, .int .i64 ym, .int .i64 yt, .slice ya yp.length yc] 36) = wa := ⟨_, rfl⟩
          have hba : Below w9.heap.size w9 wa := by rw [← hwa]; exact balloc (Below.refl _ _) _
          have hVa : VwP wa w9.heap.size ⟨yk, yv, yg, (ym, yt), yp⟩ (.slice ya yp.length yc) := by rw [← hwa]; exact VwP.new w9 ⟨yk, yv, yg, (ym, yt), yp⟩ (.slice ya yp.length yc) 36
          have hb7a := bstep (bstep HB8.out hb9) hba
          have v0 := kc hb7a v0
          obtain ⟨p0, p1, p2, p3, p4, p5, _⟩ := HV7.out.keep hb7a
          obtain ⟨r0, r1, r2, r3, r4, r5, _⟩ := hVa
          dsimp only at p0 p1 p2 p3 p4 p5 r0 r1 r2 r3 r4 r5
          have HBa := Lib.hid (bstep HB7.out hb7a)
          clear hb9 hba hb7a hh2
          go_upto_region 27 with fail
          try rw [hwa]
          clear hwa
          generalize w9.heap.size = TC at r0 r1 r2 r3 r4 r5 ⊢
          go_wp2_with fail
          refine (HSE.out _).mono ?_
          rintro e w10 ⟨rfl, hb10⟩
          have v0 := kc hb10 v0
          have HB10 := Lib.hid (bstep HBa.out hb10)
          clear hb10 p0 p1 p2 p3 p4 p5 r0 r1 r2 r3 r4 r5 HSE HH2 HHD
          have hch := lchain_any (HS2.out.sh.below HB10.out.drew) xk HKB.out.2 (by have := HK2.out.len xk; have := HKB.out; omega)
          have HSL := Lib.hid (fun W v1 v2 (h1 : OwnR KW W 0 v1 (F2 xk)) (h2 : OwnR KW W 0 v2 (F2 xk)) => rsame_any v1 v2 (F2 xk) (F2 xk) W (by have := HK2.out.len xk; have := HKB.out; omega) (by have := HK2.out.len xk; have := HKB.out; omega) (WRow.of_own h1 (HK2.out.bd W xk)) (WRow.of_own h2 (HK2.out.bd W xk)))
          rw [sameL_self] at HSL
          have g0 : w10.drew.cell? ⟨VB, 0, none⟩ = some (.string xk) := v0
          go_upto_region 28 with fail
          go_region_held3 (fun w' => w'.cell? ⟨VB, 0, none⟩ = some (.string xk))
            (first | exact g3 | exact g2 | exact g1 | exact g0)
            (first
              | (go_at_call 21; ((refine hch.mono ?_); rintro e w11 ⟨v11, rfl, ho11, hb11⟩; obtain ⟨ca, cc, rfl⟩ := ho11.shape; have HB11 := Lib.hid (bstep HB10.out.drew hb11); have hof := HOF.out _ HB11.out; have g1 := kc hb11 g0))
              | (go_at_call 14; ((refine hof.mono ?_); rintro e w12 ⟨hb12, v12, rfl, ho12⟩; obtain ⟨da, dc, rfl⟩ := ho12.shape; have HB12 := Lib.hid (bstep HB11.out hb12); have hsl := HSL.out w12 _ _ ((ho11.mono (Nat.zero_le _)).below hb12) ho12; have g2 := kc hb12 g1))
              | (go_at_call 20; ((refine hsl.mono ?_); rintro e w13 ⟨rfl, hb13⟩; have g3 := kc hb13 g2)))
          have HB13 := Lib.hid (bstep HB12.out hb13)
          clear g0 g1 g2 g3 hb11 hb12 hb13 ho11 ho12 hsl hof hch HSL HOF v0
          have hhv := lhave_any (HS2.out.sh.below HB13.out) (by have := HKB.out; omega) (fun d => by have := HK2.out.len d; have := HKB.out; omega)
          go_wp2_with fail
          refine hhv.mono ?_
          rintro e w14 ⟨v14, L1, hk1, hl1, rfl, ho14, hb14⟩
          have HB14 := Lib.hid (bstep HB13.out hb14)
          have HK1 := Lib.hid hk1
          have HL1 := Lib.hid hl1
          have HO14 := Lib.hid ho14
          obtain ⟨ea, ec, rfl⟩ := ho14.shape
          have hqh := qhave_any (HS2.out.below HB14.out) (by have := HKB.out; omega) HK2.out.bd (fun d => by have := HK2.out.len d; have := HKB.out; omega)
          clear hk1 hl1 ho14 hb14 hhv
          go_wp2_with fail
          refine hqh.mono ?_
          rintro e w15 ⟨v15, L2, hk2, rfl, ho15, hb15⟩
          rw [hk2.uniq HK1.out] at ho15
          have HB15 := Lib.hid (bstep HB14.out hb15)
          obtain ⟨fa2, fc2, rfl⟩ := ho15.shape
          have hsh := refPSame_any _ _ (haveL F2 L1) (haveL F2 L1) w15 (by rw [haveL_len]; have := HL1.out; have := HKB.out; omega) (DepAt.of_own (HO14.out.below hb15)) (DepAt.of_own ho15)
          rw [decide_eq_true rfl] at hsh
          clear hk2 ho15 hb15 hqh HO14
          go_wp2_with fail
          refine hsh.mono ?_
          rintro e w16 ⟨rfl, hb16⟩
          have HB16 := Lib.hid (bstep HB15.out hb16)
          clear hb16 hsh HK1 HL1
          have hky := lkeys_any (HS2.out.sh.below HB16.out) (by have := HKB.out; omega)
          go_wp2_with fail
          refine hky.mono ?_
          rintro e w17 ⟨v17, L3, hk3, hl3, hks3, rfl, ho17, hb17⟩
          have HB17 := Lib.hid (bstep HB16.out hb17)
          have HK3 := Lib.hid hk3
          have HL3 := Lib.hid hl3
          have HO17 := Lib.hid ho17
          obtain ⟨ia, ic, rfl⟩ := ho17.shape
          have hqk := qkeys_any (HS2.out.below HB17.out) (by have := HKB.out; omega)
          clear hk3 hl3 hks3 ho17 hb17 hky
          go_wp2_with fail
          refine hqk.mono ?_
          rintro e w18 ⟨v18, L4, hk4, rfl, ho18, hb18⟩
          rw [hk4.uniq HK3.out] at ho18
          have HB18 := Lib.hid (bstep HB17.out hb18)
          obtain ⟨ja, jc, rfl⟩ := ho18.shape
          have hst := sameTexts_any _ _ L3 w18 (by have := HL3.out; have := HKB.out; omega) (RowAt.of_own ks_ok (HO17.out.below hb18)) (RowAt.of_own ks_ok ho18)
          clear hk4 ho18 hb18 hqk HO17
          go_wp2_with fail
          refine hst.mono ?_
          rintro e w19 ⟨rfl, hb19⟩
          have HB19 := Lib.hid (bstep HB18.out hb19)
          clear hb19 hst HK3 HL3
          have hrg := lranges_any (HS2.out.sh.below HB19.out.drew) HR2.out
          obtain ⟨qa, qc, hq0, hqr⟩ := (HS2.out.below HB19.out).rng
          have HQR := Lib.hid hqr
          have g0 : w19.drew.cell? ⟨rb, 0, none⟩ = some (.slice qa R2.length qc) := hq0
          clear hqr
          go_upto_region 31 with fail
          go_region_held3 (fun w' => w'.cell? ⟨rb, 0, none⟩ = some (.slice qa R2.length qc))
            (first | exact g2 | exact g1 | exact g0)
            (first
              | (go_at_call 29; ((refine hrg.mono ?_); rintro e w20 ⟨v20, rfl, ho20, hb20⟩; have hsr := sameRanges7_any v20 _ R2 w20 HR2.out (RowAt.of_own kr_ok ho20) (HQR.out.below (((Below.refl _ w19).drew).trans hb20)); obtain ⟨ta, tc, rfl⟩ := ho20.shape; have g1 := kc hb20 g0))
              | (go_at_call 28; ((refine hsr.mono ?_); rintro e w21 ⟨rfl, hb21⟩; have g2 := kc hb21 g1)))
          have HB21 := Lib.hid (bstep HB19.out.drew (bstep hb20 hb21))
          have HFE : Hid (Stq A b rb (k + 1) wL w21) := Lib.hid (by
            obtain ⟨R3, F3, e1, e2, e3, e4, e5⟩ := HFS.out
            exact ⟨R3, F3, e1, e2.below HB21.out, e3, e4, e5.step HB21.out⟩)
          clear g0 g1 g2 hb20 hb21 ho20 hsr hrg hq0
          have hk50 : k < 50 := HLK.out.2
          cases is <;> (go_wp2; go_roundw)
          case rel => exact ⟨k + 1, by have := HLK.out; omega, by have := HLK.out; omega, by go_num, HFE.out⟩
          case measure => have := HLK.out; simp [intOf]; omega
          case rel => exact ⟨k + 1, by have := HLK.out; omega, by have := HLK.out; omega, by go_num, HFE.out⟩
          case measure => have := HLK.out; simp [intOf]; omega
end Go.Proofs.YtjfmgplhcinkfaaGreat
