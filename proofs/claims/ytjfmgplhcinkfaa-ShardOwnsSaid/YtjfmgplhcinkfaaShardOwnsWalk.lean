/- ShardOwns, walked. -/
import Derived.Test.YtjfmgplhcinkfaaGO28
import Derived.Deep.RegionHeld3
import Derived.Deep.DeepCutAuto
import Derived.Deep.CutBlock
import Derived.IntWalk
namespace Go.Proofs.Ytjfmgplhcinkfaa
open Go.RowKit Go.Shelf
set_option linter.unusedVariables false
set_option linter.unusedSimpArgs false
/-- A pin alone in a slice that was made of it. -/
theorem DepAt.one (w : World) (k : ByteArray) (s t : Int) : DepAt (w.alloc (.cells #[.string k, .int .i64 s, .int .i64 t] 34)) (.slice (some ⟨w.heap.size, 0, none⟩) 1 1) [(k, (s, t))] :=
  ⟨_, _, rfl, Nat.le_refl _, by unfold maxLen; omega, (fun h => by cases h), fun i hi => by
    obtain rfl : i = 0 := by simpa using hi
    exact ⟨w.heap.size, 0, rfl, by simp, by simp, by simp, by simp⟩⟩
/-- One key of the list and the one ahead of it. -/
theorem keyL_step {F : Ch} {L : List ByteArray} (h : KeyL F L) (y x : Nat) (hy : y + 1 = x) (hx : x < L.length) : Op.bytesLess (L[y]'(by omega)).data.toList L[x].data.toList = true := by
  have h1 := List.pairwise_iff_getElem.1 h.1 y x (by simp; omega) (by simp; omega) (by omega)
  simpa using h1
/-- What a step leaves. -/
def Stp (A : Nat → Prop) (b k : Nat) (w3 wx : World) : Prop := ∃ R F, R.length ≤ 100 ∧ ShA wx A k b R F ∧ Kp R F k ∧ Wr A w3 wx

set_option maxRecDepth 100000 in
set_option maxHeartbeats 6400000 in
theorem walkShardOwns (w : World) (n : Int) (hnw : (Lit.int .i64 n).wf = true) (a : Option Addr) (l : List O13) (cap : Nat) (hl : l.length ≤ 9223372036854775807) (hin : ∀ o ∈ l, o.In) (hr : RowIn KO13 w a l) :
    Calls Try.prog 3 #[.int .i64 n, .slice a l.length cap] w fun e w' => e = .returned (.bool true) ∧ Below w.heap.size w w' := by
  have HR := Lib.hid hr
  have HIN := Lib.hid hin
  clear hr hin hnw
  go_enter Try.func3, Try.ntmps3
  go_wp2_with fail
  refine (awake13_any _).mono ?_
  rintro e w1 ⟨rfl, hb1⟩
  have HB1 : Hid (Below w.heap.size w w1) := Lib.hid (hb1)
  clear hb1
  go_wp2_with fail
  refine (ranges13_any n _).mono ?_
  rintro e w2 ⟨v2, rfl, ho2, hb2⟩
  have HB2 := Lib.hid (bstep HB1.out hb2)
  have hnew := snew_any v2 (rngsOf n) w2 (by have := rngsOf_len n; omega) (RowAt.of_own kr_ok ho2)
  obtain ⟨ra, rc, rfl⟩ := ho2.shape
  have HRL : Hid ((rngsOf n).length ≤ 100) := Lib.hid (by have := rngsOf_len n; omega)
  clear ho2 hb2
  generalize rngsOf n = R at hnew HRL
  go_wp2_with fail
  refine hnew.mono ?_
  rintro e w3 ⟨b, S, rfl, hsd, hS, hb3⟩
  have HN0 := ShA.of_new hsd hS hb3.size
  have HB3 := Lib.hid (bstep HB2.out hb3)
  obtain ⟨A, hA⟩ : ∃ A : Nat → Prop, A = fun j => j < w2.heap.size := ⟨_, rfl⟩
  rw [← hA] at HN0
  have HN := Lib.hid HN0
  have HAA : Hid (∀ j, j < w2.heap.size → A j) := Lib.hid (fun j hj => by rw [hA]; exact hj)
  have HAW : Hid (∀ j, j < w.heap.size → A j) := Lib.hid (fun j hj => HAA.out j (by have := HB2.out.size; omega))
  clear hsd hS hb3 HN0 hnew hA

  have HN1 : Hid (Stp A b 0 w3 w3) := Lib.hid ⟨R, _, HRL.out, HN.out, Kp.nil R, Mv.refl _ _⟩
  clear HN
  go_wp2
  go_loopw [7] (fun i wr => ∃ k : Nat, k ≤ l.length ∧ k ≤ 50 ∧ i = .int .i64 k ∧ Stp A b k w3 wr) (fun i _ => 50 - (intOf i).toNat)
  case atStart => exact ⟨0, by omega, by omega, rfl, HN1.out⟩
  case round =>
    obtain ⟨k, hkl, hkN, rfl, R', F, hRL, hsh, hkp, hwr⟩ := hrel
    have HSH := Lib.hid hsh
    have HKP := Lib.hid hkp
    have HWR := Lib.hid hwr
    have HKL := Lib.hid (And.intro hkl hkN)
    have HRQ := Lib.hid hRL
    clear hsh hwr hkl hkN hkp hRL HN1
    go_upto_region 6 with (fail)
    go_cut [32] (fun t wx => ∃ c : Bool, t = .bool c ∧ Hid (c = true → k < l.length ∧ k < 50) ∧ wx = wr)
    case first =>
      obtain ⟨hkl, hkN⟩ := HKL.out
      by_cases hxl : k < l.length
      · have hxli : (k : Int) < (l.length : Int) := by omega
        by_cases hx10 : k < 50
        · have hxi : (k : Int) < 50 := by omega
          have HC : Hid (k < l.length ∧ k < 50) := Lib.hid ⟨hxl, hx10⟩
          go_wp2
          go_meet
          exact ⟨_, rfl, Lib.hid (fun _ => HC.out), rfl⟩
        · have q1 : decide ((k : Int) < 50) = false := by simp; omega
          go_wp2
          go_meet
          exact ⟨false, rfl, Lib.hid (fun h => by cases h), rfl⟩
      · have q1 : decide ((k : Int) < (l.length : Int)) = false := by simp; omega
        have q2 : decide (k < l.length) = false := by simp; omega
        go_wp2
        go_meet
        exact ⟨false, rfl, Lib.hid (fun h => by cases h), rfl⟩
    case rest =>
      obtain ⟨c, rfl, HC, rfl⟩ := hcut
      obtain ⟨wr, hwr0⟩ : ∃ wr, wr = wc := ⟨_, rfl⟩
      subst hwr0
      have HBW : Hid (Below w.heap.size w wr) := Lib.hid (HB3.out.trans (HWR.out.below (fun j hj => HAW.out j hj) HB3.out.size))
      cases c with
      | false =>
        go_wp2
        go_ret
        exact ⟨rfl, HBW.out⟩
      | true =>
      obtain ⟨hlt, hkN⟩ := HC.out rfl
      obtain ⟨ab, aoff, rfl, hbl, hcell⟩ := (HR.out.below HBW.out).op13 k hlt
      have HOI := Lib.hid (HIN.out _ (List.getElem_mem hlt))
      generalize l[k] = o at hcell HOI
      have hve := fun W => version13_any o HOI.out W
      have HVB : Hid (∀ W, VwB W (verO o)) := Lib.hid (fun W => verO_bd o HOI.out)
      have HVP := Lib.hid (verO_past o)
      generalize verO o = x at hve HVB HVP
      obtain ⟨k0, k1, k2, k3, kr, kv, kw, kg, ⟨ks, kt⟩, ⟨kpa, kpn, kpc⟩, kpk, kp, kq⟩ := o
      have c0 := hcell 0 _ rfl
      have c1 := hcell 1 _ rfl
      have c2 := hcell 2 _ rfl
      have c3 := hcell 3 _ rfl
      have c4 := hcell 4 _ rfl
      have c5 := hcell 5 _ rfl
      have c6 := hcell 6 _ rfl
      have c7 := hcell 7 _ rfl
      have c8 := hcell 8 _ rfl
      have c9 := hcell 9 _ rfl
      have c10 := hcell 10 _ rfl
      have c11 := hcell 11 _ rfl
      have c12 := hcell 12 _ rfl
      have c13 := hcell 13 _ rfl
      dsimp only [cs13] at c0 c1 c2 c3 c4 c5 c6 c7 c8 c9 c10 c11 c12 c13 hve
      simp only [Nat.add_zero] at c0
      have HPK : Hid (kpk.size ≤ maxLen ∧ In64 (kp, kq)) := Lib.hid ⟨HOI.out.pk, HOI.out.ps⟩
      clear hcell hbl
      have hki : (k : Int) < (l.length : Int) := by omega
      have HLK : Hid (k < l.length ∧ k < 50) := Lib.hid ⟨hlt, hkN⟩
      obtain ⟨⟨xk, xv, xg, ⟨xm, xt⟩, xp⟩, xa, xc⟩ := x
      dsimp only [wV, wcs, wvs, pw] at hve
      have HB0 : Hid (Below wr.heap.size wr (wr.alloc (.cells #[.int .i64 k0, .int .i64 k1, .int .i64 k2, .int .i64 k3, .bool kr, .string kv, .string kw, .bool kg, .int .i64 ks, .int .i64 kt, .slice kpa kpn kpc, .string kpk, .int .i64 kp, .int .i64 kq] 36))) := Lib.hid (balloc (Below.refl _ _) _)
      have HOC : Hid (∀ W, Below (wr.heap.size + 1) (wr.alloc (.cells #[.int .i64 k0, .int .i64 k1, .int .i64 k2, .int .i64 k3, .bool kr, .string kv, .string kw, .bool kg, .int .i64 ks, .int .i64 kt, .slice kpa kpn kpc, .string kpk, .int .i64 kp, .int .i64 kq] 36)) W → W.cell? ⟨wr.heap.size, 0, none⟩ = some (.int .i64 k0) ∧ W.cell? ⟨wr.heap.size, 2, none⟩ = some (.int .i64 k2) ∧ W.cell? ⟨wr.heap.size, 11, none⟩ = some (.string kpk) ∧ W.cell? ⟨wr.heap.size, 12, none⟩ = some (.int .i64 kp) ∧ W.cell? ⟨wr.heap.size, 13, none⟩ = some (.int .i64 kq)) := Lib.hid (fun W h => by
        have hs : (wr.alloc (.cells #[.int .i64 k0, .int .i64 k1, .int .i64 k2, .int .i64 k3, .bool kr, .string kv, .string kw, .bool kg, .int .i64 ks, .int .i64 kt, .slice kpa kpn kpc, .string kpk, .int .i64 kp, .int .i64 kq] 36)).heap.size = wr.heap.size + 1 := by simp
        rw [← hs] at h
        exact ⟨kc h (by simp), kc h (by simp), kc h (by simp), kc h (by simp), kc h (by simp)⟩)
      go_wp2_with fail
      refine (hve _).mono ?_
      rintro e w4 ⟨rfl, hb4⟩
      have HY4 := Lib.hid (HOC.out w4 (by simpa using hb4))
      have HB4 : Hid (Below wr.heap.size wr w4) := Lib.hid (bstep HB0.out hb4)
      clear hve HB0 HOC c0 c1 c2 c3 c4 c5 c6 c7 c8 c9 c10 c11 c12 c13 hb4
      obtain ⟨w5, hw5⟩ : ∃ w5, w4.alloc (.cells #[.string xk, .string xv, .bool xg, .int .i64 xm, .int .i64 xt, .slice xa xp.length xc] 32) = w5 := ⟨_, rfl⟩
      have hb5 : Below w4.heap.size w4 w5 := by rw [← hw5]; exact balloc (Below.refl _ _) _
      have hV5 : VwP w5 w4.heap.size ⟨xk, xv, xg, (xm, xt), xp⟩ (.slice xa xp.length xc) := by rw [← hw5]; exact VwP.new w4 ⟨xk, xv, xg, (xm, xt), xp⟩ (.slice xa xp.length xc) 32
      have HV5 := Lib.hid hV5
      have HY5 : Hid _ := Lib.hid (And.intro (kc hb5 HY4.out.1) (And.intro (kc hb5 HY4.out.2.1) (And.intro (kc hb5 HY4.out.2.2.1) (And.intro (kc hb5 HY4.out.2.2.2.1) (kc hb5 HY4.out.2.2.2.2)))))
      have HB5 : Hid (Below wr.heap.size wr w5) := Lib.hid (bstep HB4.out hb5)
      have HS5 : Hid (ShA w5 A k b R' F) := Lib.hid (HSH.out.below HB5.out)
      have HW5 : Hid (Wr A w3 w5) := Lib.hid (HWR.out.step HB5.out)
      have HSM := Lib.hid (HSH.out.more HB5.out)
      have HVL : Hid (wr.heap.size ≤ w4.heap.size ∧ w4.heap.size < w5.heap.size) := Lib.hid ⟨HB4.out.size, (by have := hV5.1; exact lt_of_cellN this)⟩
      clear hb5 hV5 HY4 HB4
      go_upto_region 10 with fail
      try rw [hw5]
      clear hw5
      obtain ⟨y0, y2, y11, y12, y13⟩ := HY5.out
      obtain ⟨x0, x1, x2, x3, x4, x5, _⟩ := HV5.out
      dsimp only at x0 x1 x2 x3 x4 x5
      generalize wr.heap.size = OB at y0 y2 y11 y12 y13 HY5 ⊢
      generalize w4.heap.size = VB at x0 x1 x2 x3 x4 x5 HV5 HVL ⊢
      have hand := and7S k0
      obtain ⟨kd, hkd⟩ : ∃ kd : Nat, k0 % 8 = (kd : Int) := ⟨(k0 % 8).toNat, by omega⟩
      have hkd8 : kd < 8 := by omega
      rw [hkd] at hand
      clear hkd
      go_upto_block 2 with fail
      go_cut [5] (fun s5 wx => s5 = .bool true ∧ Stp A b (k + 1) w3 wx)
      case first =>
        have HXN : Hid (k + 1 ≤ 51 ∧ xk.size ≤ maxLen) := Lib.hid ⟨by omega, by have := (HVB.out w5).1.key; unfold maxLen; exact this⟩
        by_cases h5 : kd = 5
        · subst h5
          have hda := DepAt.one w5 kpk kp kq
          have hb := balloc (Below.refl w5.heap.size w5) (.cells #[.string kpk, .int .i64 kp, .int .i64 kq] 34)
          obtain ⟨W, hW⟩ : ∃ W, w5.alloc (.cells #[.string kpk, .int .i64 kp, .int .i64 kq] 34) = W := ⟨_, rfl⟩
          rw [hW] at hda hb
          have hcl := lclean_any (HS5.out.below hb) (by have := HXN.out; omega) (fun d => by have := HKP.out.len d; have := HXN.out; omega) (xm, xt) _ [(kpk, (kp, kq))] (by simp) (fun d hd => by
            obtain rfl : d = (kpk, (kp, kq)) := List.mem_singleton.1 hd
            exact HPK.out) hda
          have HWW : Hid (Wr A w3 W) := Lib.hid (HW5.out.step hb)
          have HK2 : Hid (Kp R' (cleanF F (xm, xt) [(kpk, (kp, kq))]) (k + 1)) := Lib.hid ((HKP.out.clean _ _).mono (by omega))
          generalize cleanF F (xm, xt) [(kpk, (kp, kq))] = F2 at hcl HK2
          dsimp only [sv] at hcl
          clear hda hb
          go_wp2_with fail
          try rw [hW]
          refine hcl.mono ?_
          rintro e w7 ⟨rfl, hs7, hw7⟩
          have HF7 : Hid (Stp A b (k + 1) w3 w7) := Lib.hid ⟨R', F2, HRQ.out, (hs7.weak (fun j hj => hj)).mono (by omega), HK2.out, HWW.out.trans hw7⟩
          clear hs7 hw7 hcl hW
          go_wp2
          go_meet
          exact ⟨rfl, HF7.out⟩
        · have q5 : ¬ (kd : Int) = 5 := by omega
          by_cases h6 : kd = 6
          · subst h6
            go_wp2_with fail
            refine (ranges13_any k2 _).mono ?_
            rintro e w6 ⟨v6, rfl, ho6, hb6⟩
            have hmv := lmove_any (HS5.out.below hb6) v6 (rngsOf k2) (by have := rngsOf_len k2; omega) (RowAt.of_own kr_ok ho6)
            obtain ⟨a6, q6, rfl⟩ := ho6.shape
            have HW6 : Hid (Wr A w3 w6) := Lib.hid (HW5.out.step hb6)
            have HR6 : Hid ((rngsOf k2).length ≤ 100) := Lib.hid (by have := rngsOf_len k2; omega)
            generalize rngsOf k2 = R2 at hmv HR6
            have HK2 : Hid (Kp R2 (cutF F (ownsK R2)) (k + 1)) := Lib.hid (HKP.out.cut.mono (by omega))
            generalize cutF F (ownsK R2) = F2 at hmv HK2
            clear ho6 hb6
            go_wp2_with fail
            refine hmv.mono ?_
            rintro e w7 ⟨rfl, hs7, hw7⟩
            have HF7 : Hid (Stp A b (k + 1) w3 w7) := Lib.hid ⟨R2, F2, HR6.out, hs7.mono (by omega), HK2.out, HW6.out.trans hw7⟩
            clear hs7 hw7 hmv
            go_wp2
            go_meet
            exact ⟨rfl, HF7.out⟩
          · have q6 : ¬ (kd : Int) = 6 := by omega
            have hput := lput_any HSM.out HRQ.out (by have := HXN.out; omega) (⟨xk, xv, xg, (xm, xt), xp⟩, xa, xc) (by have := HKP.out.len xk; have := HXN.out; show (F xk).length ≤ _; omega) (HVB.out _) HVP.out
            have HPF : Hid ((ownsK R' xk && putOk (F xk) (⟨xk, xv, xg, (xm, xt), xp⟩, xa, xc)) = true → (lastP (isS (xm, xt)) (putF R' F (⟨xk, xv, xg, (xm, xt), xp⟩, xa, xc) xk)).isSome = true ∧ ((lastP (isS (xm, xt)) (putF R' F (⟨xk, xv, xg, (xm, xt), xp⟩, xa, xc) xk)).getD vw0) = (⟨xk, xv, xg, (xm, xt), xp⟩, xa, xc)) := Lib.hid (fun h => put_found (x := (⟨xk, xv, xg, (xm, xt), xp⟩, xa, xc)) h)
            have HK2 : Hid (Kp R' (putF R' F (⟨xk, xv, xg, (xm, xt), xp⟩, xa, xc)) (k + 1)) := Lib.hid (HKP.out.put HVB.out HVP.out)
            dsimp only at hput
            generalize (ownsK R' xk && putOk (F xk) (⟨xk, xv, xg, (xm, xt), xp⟩, xa, xc)) = is at hput HPF
            generalize putF R' F (⟨xk, xv, xg, (xm, xt), xp⟩, xa, xc) = F2 at hput HPF HK2
            dsimp only [wV, wcs, wvs, pw] at hput
            go_wp2_with fail
            refine hput.mono ?_
            rintro e w6 ⟨rfl, hs6, hw6⟩
            have hkA : ∀ (j : Nat) (u : Value), w5.cell? ⟨VB, j, none⟩ = some u → w6.cell? ⟨VB, j, none⟩ = some u := fun j u h => hw6.cell (fun hn => hn (.inr HVL.out)) h
            have z0 := hkA _ _ x0
            have z1 := hkA _ _ x1
            have z2 := hkA _ _ x2
            have z3 := hkA _ _ x3
            have z4 := hkA _ _ x4
            have z5 := hkA _ _ x5
            have HS6 := Lib.hid (hs6.weak (A' := A) (fun j hj => .inl hj))
            have HW6 : Hid (Wr A w3 w6) := Lib.hid (HW5.out.trans (hw6.mono (fun j hj ha => hj (.inl ha))))
            have hat := fun W (h : Below w6.heap.size w6 W) => lat_any (HS6.out.below h) xk (xm, xt) HXN.out.2 (by have := HK2.out.len xk; have := HXN.out; omega)
            have HYB : Hid (∀ W, VwB W ((lastP (isS (xm, xt)) (F2 xk)).getD vw0)) := Lib.hid (fun W => lastP_bd (HK2.out.bd W xk))
            generalize (lastP (isS (xm, xt)) (F2 xk)).getD vw0 = Y at hat HYB HPF
            generalize (lastP (isS (xm, xt)) (F2 xk)).isSome = also at hat HPF
            have hsm := fun W => refWSameB_any ⟨xk, xv, xg, (xm, xt), xp⟩ Y.1 (.slice xa xp.length xc) (pw Y) W (HVB.out W).1 (HYB.out W).1
            have HSR : Hid (is = true → sameW ⟨xk, xv, xg, (xm, xt), xp⟩ Y.1 = true) := Lib.hid (fun h => by rw [(HPF.out h).2]; exact sameW_self _)
            have HAL : Hid (is = true → also = true) := Lib.hid (fun h => (HPF.out h).1)
            generalize sameW ⟨xk, xv, xg, (xm, xt), xp⟩ Y.1 = r at hsm HSR
            clear HPF
            obtain ⟨⟨yk, yv, yg, ⟨ym, yt⟩, yp⟩, ya, yc⟩ := Y
            dsimp only [wV, wcs, wvs, pw, sv] at hat hsm
            clear hs6 hw6 hput hkA x0 x1 x2 x3 x4 x5
            go_wp2_with fail
            refine (hat _ (Below.refl _ _)).mono ?_
            rintro e w7 ⟨rfl, hb7⟩
            have HB7 := Lib.hid hb7
            have z0 := kc hb7 z0
            have z1 := kc hb7 z1
            have z2 := kc hb7 z2
            have z3 := kc hb7 z3
            have z4 := kc hb7 z4
            have z5 := kc hb7 z5
            clear hb7 hat
            obtain ⟨w8, hw8⟩ : ∃ w8, w7.alloc (.cells #[.string yk, .string yv, .bool yg, .int .i64 ym, .int .i64 yt, .slice ya yp.length yc] 32) = w8 := ⟨_, rfl⟩
            have hba : Below w7.heap.size w7 w8 := by rw [← hw8]; exact balloc (Below.refl _ _) _
            obtain ⟨t0, t1, t2, t3, t4, t5, _⟩ : VwP w8 w7.heap.size ⟨yk, yv, yg, (ym, yt), yp⟩ (.slice ya yp.length yc) := by rw [← hw8]; exact VwP.new w7 ⟨yk, yv, yg, (ym, yt), yp⟩ (.slice ya yp.length yc) 32
            dsimp only at t0 t1 t2 t3 t4 t5
            have HB8 : Hid (Below w6.heap.size w6 w8) := Lib.hid (bstep HB7.out hba)
            have z0 := kc hba z0
            have z1 := kc hba z1
            have z2 := kc hba z2
            have z3 := kc hba z3
            have z4 := kc hba z4
            have z5 := kc hba z5
            clear hba
            go_upto_region 13 with fail
            try rw [hw8]
            clear hw8
            generalize w7.heap.size = TB at t0 t1 t2 t3 t4 t5 ⊢
            go_wp2_with fail
            refine (hsm _).mono ?_
            rintro e w9 ⟨rfl, hb9⟩
            have HB9 := Lib.hid (bstep HB8.out hb9)
            have HF9 : Hid (Stp A b (k + 1) w3 w9) := Lib.hid ⟨R', F2, HRQ.out, HS6.out.below HB9.out, HK2.out, HW6.out.step HB9.out⟩
            clear hb9 hsm HB8
            cases is with
            | false =>
              go_wp2
              go_meet
              exact ⟨rfl, HF9.out⟩
            | true =>
              obtain rfl : also = true := HAL.out rfl
              obtain rfl : r = true := HSR.out rfl
              go_wp2
              go_meet
              exact ⟨rfl, HF9.out⟩
      case rest =>
        obtain ⟨rfl, hstp⟩ := hcut
        obtain ⟨wR, hwR⟩ : ∃ wR, wR = wc := ⟨_, rfl⟩
        subst hwR
        obtain ⟨R2, F2, hRL2, hsh2, hkp2, hwr2⟩ := hstp
        have HS2 := Lib.hid hsh2
        have HK2 := Lib.hid hkp2
        have HW2 := Lib.hid hwr2
        have HR2 := Lib.hid hRL2
        have hky := lkeys_any hsh2 (by have := HLK.out; omega)
        clear hsh2 hkp2 hwr2 hRL2 y0 y2 y11 y12 y13 x0 x1 x2 x3 x4 x5 HY5 HV5 HVL HB5 HS5 HW5 HSM HSH HKP HWR HRQ HVB HVP HPK hand hkd8 hki hlt hkN
        go_wp2_with fail
        refine hky.mono ?_
        rintro e w6 ⟨v6, M, hkl, hLn, hks, rfl, ho6, hb6⟩
        have hhv := lhave_any (HS2.out.below hb6) (by have := HLK.out; omega) (fun d => by have := HK2.out.len d; have := HLK.out; omega)
        have HKL2 := Lib.hid hkl
        have HLN := Lib.hid hLn
        have HKS := Lib.hid hks
        have HO6 := Lib.hid ho6
        have HB6 := Lib.hid hb6
        obtain ⟨la, lc, rfl⟩ := ho6.shape
        clear ho6 hb6 hkl hLn hks hky
        go_wp2_with fail
        refine hhv.mono ?_
        rintro e w7 ⟨v7, M', hkl', hLn', rfl, ho7, hb7⟩
        rw [hkl'.uniq HKL2.out] at ho7
        have HO7 := Lib.hid ho7
        have HB7 := Lib.hid hb7
        obtain ⟨ha, hc, rfl⟩ := ho7.shape
        rw [haveL_len]
        have HL := Lib.hid ((RowIn.of_own ks_ok HO6.out).below hb7)
        have HH : Hid (DepIn w7 ha (haveL F2 M)) := Lib.hid (by
          obtain ⟨a', c', e', _, _, _, h⟩ := DepAt.of_own ho7
          cases e'
          exact h)
        have HS7 : Hid (ShA w7 A (k + 1) b R2 F2) := Lib.hid ((HS2.out.below HB6.out).below hb7)
        have HW7 : Hid (Wr A w3 w7) := Lib.hid ((HW2.out.step HB6.out).step hb7)
        have HCP : Hid (M.length ≤ lc ∧ M.length ≤ hc) := Lib.hid ⟨HO6.out.caps.1, by
          obtain ⟨a', c', e', h', _⟩ := DepAt.of_own ho7
          cases e'
          rw [haveL_len] at h'
          exact h'⟩
        clear ho7 hb7 hkl' hLn' hhv
        have hML : M.length ≤ 51 := by have := HLN.out; have := HLK.out; omega
        have HML := Lib.hid hML
        go_upto_region 24 with fail
        go_wp2
        go_loopw [16] (fun i wx => ∃ x : Nat, x ≤ M.length ∧ i = .int .i64 x ∧ Below w7.heap.size w7 wx) (fun i _ => M.length - (intOf i).toNat)
        case atStart => exact ⟨0, by omega, rfl, Below.refl _ _⟩
        case round =>
          obtain ⟨x, hxl, rfl, hbx⟩ := hrel
          have HBX := Lib.hid hbx
          obtain ⟨wX, hwX⟩ : ∃ wX : World, wX = wr := ⟨_, rfl⟩
          subst hwX
          clear hbx
          by_cases hlt : x < M.length
          · obtain ⟨lb, loff, hla, hlbl, l0⟩ := (HL.out.below HBX.out).str x hlt
            obtain ⟨hb, hoff, hha, hhbl, h0, h1, h2⟩ := (HH.out.below HBX.out) x (by rw [haveL_len]; exact hlt)
            have hHx : (haveL F2 M)[x]'(by rw [haveL_len]; exact hlt) = (M[x], (headOf F2 M[x]).1.st) := by simp [haveL]
            rw [hHx] at h0 h1 h2
            have HKY := Lib.hid (HK2.out.key HKL2.out (List.getElem_mem hlt))
            have HKZ := Lib.hid (HKS.out _ (List.getElem_mem hlt))
            have HPV : Hid (∀ y : Nat, y + 1 = x → ∃ (p : ByteArray), wX.cell? ⟨lb, loff + y, none⟩ = some (.string p) ∧ Op.bytesLess p.data.toList M[x].data.toList = true) := Lib.hid (fun y hy => by
              obtain ⟨lb', loff', e', _, l0'⟩ := (HL.out.below HBX.out).str y (by omega)
              rw [hla] at e'
              cases e'
              exact ⟨_, l0', keyL_step HKL2.out y x hy hlt⟩)
            subst hla hha
            have hxi : (x : Int) < (M.length : Int) := by omega
            have hxc : (x : Int) < (lc : Int) := by have := HCP.out; omega
            have hxh : (x : Int) < (hc : Int) := by have := HCP.out; omega
            clear hHx
            generalize M[x] = key at l0 h0 h1 h2 HKY HKZ HPV
            have hhd := fun W (h : Below w7.heap.size w7 W) => lhead_any (HS7.out.below h) key HKZ.out (by have := HK2.out.len key; have := HLK.out; omega)
            have hmem := HKY.out.2
            rw [hmem] at hhd
            clear hmem
            generalize headOf F2 key = Y at hhd h1 h2
            obtain ⟨⟨yk, yv, yg, ⟨ym, yt⟩, yp⟩, ya, yc⟩ := Y
            dsimp only [wV, wcs, wvs, pw] at hhd h1 h2
            go_wp2_with fail
            refine (hhd _ HBX.out).mono ?_
            rintro e w8 ⟨rfl, hb8⟩
            obtain ⟨w9, hw9⟩ : ∃ w9, w8.alloc (.cells #[.string yk, .string yv, .bool yg, .int .i64 ym, .int .i64 yt, .slice ya yp.length yc] 32) = w9 := ⟨_, rfl⟩
            have hba : Below w8.heap.size w8 w9 := by rw [← hw9]; exact balloc (Below.refl _ _) _
            have t3 : w9.cell? ⟨w8.heap.size, 3, none⟩ = some (.int .i64 ym) := by rw [← hw9]; simp
            have t4 : w9.cell? ⟨w8.heap.size, 4, none⟩ = some (.int .i64 yt) := by rw [← hw9]; simp
            have hb9 := bstep hb8 hba
            have l0 := kc hb9 l0
            have h0 := kc hb9 h0
            have h1 := kc hb9 h1
            have h2 := kc hb9 h2
            have HPV9 : Hid (∀ y : Nat, y + 1 = x → ∃ (p : ByteArray), w9.cell? ⟨lb, loff + y, none⟩ = some (.string p) ∧ Op.bytesLess p.data.toList key.data.toList = true) := Lib.hid (fun y hy => by
              obtain ⟨p, hp, hl⟩ := HPV.out y hy
              exact ⟨p, kc hb9 hp, hl⟩)
            have HB9 := Lib.hid (bstep HBX.out hb9)
            have hrg := fun W (h : Below w9.heap.size w9 W) => lranges_any (HS7.out.below (bstep HB9.out h)) HR2.out
            have heq : ∀ w', (binOp .neq 29 (.agg #[.int .i64 ym, .int .i64 yt]) (.agg #[.int .i64 ym, .int .i64 yt])).run Try.prog w' = .ok (.bool false) w' := fun w' => by rw [ne_stamp]; simp
            clear hb8 hba hhd hb9 HPV
            go_upto_region 28 with fail
            try rw [hw9]
            clear hw9
            generalize w8.heap.size = TB at t3 t4 ⊢
            go_cut [157] (fun s wx => s = .bool false ∧ Below w9.heap.size w9 wx)
            case first =>
              by_cases hx0 : x = 0
              · have HQ0 : Hid (decide ((0 : Int) < (x : Int)) = false ∧ decide (0 < x) = false) := Lib.hid ⟨by simp; omega, by simp; omega⟩
                have g0 : w9.drew.cell? ⟨lb, loff + x, none⟩ = some (.string key) ∧ w9.drew.cell? ⟨hb, hoff + x * 3, none⟩ = some (.string key) ∧ w9.drew.cell? ⟨hb, hoff + x * 3 + 1, none⟩ = some (.int .i64 ym) ∧ w9.drew.cell? ⟨hb, hoff + x * 3 + 2, none⟩ = some (.int .i64 yt) ∧ w9.drew.cell? ⟨TB, 3, none⟩ = some (.int .i64 ym) ∧ w9.drew.cell? ⟨TB, 4, none⟩ = some (.int .i64 yt) := ⟨l0, h0, h1, h2, t3, t4⟩
                clear l0 h0 h1 h2 t3 t4 hx0
                refine wp_region_held_drew (S := fun w' => w'.cell? ⟨lb, loff + x, none⟩ = some (.string key) ∧ w'.cell? ⟨hb, hoff + x * 3, none⟩ = some (.string key) ∧ w'.cell? ⟨hb, hoff + x * 3 + 1, none⟩ = some (.int .i64 ym) ∧ w'.cell? ⟨hb, hoff + x * 3 + 2, none⟩ = some (.int .i64 yt) ∧ w'.cell? ⟨TB, 3, none⟩ = some (.int .i64 ym) ∧ w'.cell? ⟨TB, 4, none⟩ = some (.int .i64 yt)) (by kernel_rfl) (g0) (fun hHeld => ?_)
                refine wpAnyH_take (i := 0) (v := ?vm0) rfl (by kernel_rfl) (by kernel_rfl) (by kernel_rfl) (fun _ _ _ h => h) (Or.inl ⟨by rfl, ?ym0⟩) (by assumption) ?rm0
                case ym0 => (intro w hSw; (try dsimp only at hSw); go_simp; try with_reducible rfl)
                try simp only [Act.put, List.setIfInBounds_toArray, List.set_cons_zero, List.set_cons_succ, List.getElem_toArray, List.getElem_cons_zero, List.getElem_cons_succ]
                refine wpAnyH_take (i := 2) (v := ?vm2) rfl (by kernel_rfl) (by kernel_rfl) (by kernel_rfl) (fun _ _ _ h => h) (Or.inl ⟨by rfl, ?ym2⟩) (by assumption) ?rm2
                case ym2 => (intro w hSw; (try dsimp only at hSw); go_simp; try with_reducible rfl)
                try simp only [Act.put, List.setIfInBounds_toArray, List.set_cons_zero, List.set_cons_succ, List.getElem_toArray, List.getElem_cons_zero, List.getElem_cons_succ]
                refine wpAnyH_take (i := 3) (v := ?vm3) rfl (by kernel_rfl) (by kernel_rfl) (by kernel_rfl) (fun _ _ _ h => h) (Or.inl ⟨by rfl, ?ym3⟩) (by assumption) ?rm3
                case ym3 => (intro w hSw; (try dsimp only at hSw); go_simp; try with_reducible rfl)
                try simp only [Act.put, List.setIfInBounds_toArray, List.set_cons_zero, List.set_cons_succ, List.getElem_toArray, List.getElem_cons_zero, List.getElem_cons_succ]
                refine wpAnyH_take (i := 4) (v := ?vm4) rfl (by kernel_rfl) (by kernel_rfl) (by kernel_rfl) (fun _ _ _ h => h) (Or.inl ⟨by rfl, ?ym4⟩) (by assumption) ?rm4
                case ym4 => (intro w hSw; (try dsimp only at hSw); go_simp; try with_reducible rfl)
                try simp only [Act.put, List.setIfInBounds_toArray, List.set_cons_zero, List.set_cons_succ, List.getElem_toArray, List.getElem_cons_zero, List.getElem_cons_succ]
                refine wpAnyH_take (i := 5) (v := ?vm5) rfl (by kernel_rfl) (by kernel_rfl) (by kernel_rfl) (fun _ _ _ h => h) (Or.inl ⟨by rfl, ?ym5⟩) (by assumption) ?rm5
                case ym5 => (intro w hSw; (try dsimp only at hSw); go_simp; try with_reducible rfl)
                try simp only [Act.put, List.setIfInBounds_toArray, List.set_cons_zero, List.set_cons_succ, List.getElem_toArray, List.getElem_cons_zero, List.getElem_cons_succ]
                refine wpAnyH_ready (rs := [1]) (by kernel_rfl) (by simp) ?_
                refine AllReadyH.cons rfl (fun K hK => ?_) AllReadyH.nil
                go_simp
                go_at_call 22
                refine (hrg _ ((Below.refl _ _).drew)).mono ?_
                rintro e w10 ⟨v10, rfl, ho10, hb10⟩
                obtain ⟨ra, rc, rfl⟩ := ho10.shape
                have g1 : w10.cell? ⟨lb, loff + x, none⟩ = some (.string key) ∧ w10.cell? ⟨hb, hoff + x * 3, none⟩ = some (.string key) ∧ w10.cell? ⟨hb, hoff + x * 3 + 1, none⟩ = some (.int .i64 ym) ∧ w10.cell? ⟨hb, hoff + x * 3 + 2, none⟩ = some (.int .i64 yt) ∧ w10.cell? ⟨TB, 3, none⟩ = some (.int .i64 ym) ∧ w10.cell? ⟨TB, 4, none⟩ = some (.int .i64 yt) := ⟨kc hb10 g0.1, kc hb10 g0.2.1, kc hb10 g0.2.2.1, kc hb10 g0.2.2.2.1, kc hb10 g0.2.2.2.2.1, kc hb10 g0.2.2.2.2.2⟩
                go_wp2_with fail
                refine hK.out _ _ (g1) (fun hHeld => ?_)
                clear hK K
                try simp only [Act.put, List.setIfInBounds_toArray, List.set_cons_zero, List.set_cons_succ, List.getElem_toArray, List.getElem_cons_zero, List.getElem_cons_succ]
                refine wpAnyH_ready (rs := [6]) (by kernel_rfl) (by simp) ?_
                refine AllReadyH.cons rfl (fun K hK => ?_) AllReadyH.nil
                go_simp
                go_at_call 21
                refine (rfind_any ra rc R2 key _ HR2.out (RowAt.of_own kr_ok ho10)).mono ?_
                rintro e w11 ⟨z, rfl, hz, hb11⟩
                have HZ0 : Hid (decide (z < 0) = false) := Lib.hid (by have h := hz.trans HKY.out.1; simp at h; simp; omega)
                have g2 : w11.cell? ⟨lb, loff + x, none⟩ = some (.string key) ∧ w11.cell? ⟨hb, hoff + x * 3, none⟩ = some (.string key) ∧ w11.cell? ⟨hb, hoff + x * 3 + 1, none⟩ = some (.int .i64 ym) ∧ w11.cell? ⟨hb, hoff + x * 3 + 2, none⟩ = some (.int .i64 yt) ∧ w11.cell? ⟨TB, 3, none⟩ = some (.int .i64 ym) ∧ w11.cell? ⟨TB, 4, none⟩ = some (.int .i64 yt) := ⟨kc hb11 g1.1, kc hb11 g1.2.1, kc hb11 g1.2.2.1, kc hb11 g1.2.2.2.1, kc hb11 g1.2.2.2.2.1, kc hb11 g1.2.2.2.2.2⟩
                go_wp2_with fail
                refine hK.out _ _ (g2) (fun hHeld => ?_)
                clear hK K
                have hz1 := HZ0.out
                obtain ⟨hq1, hq2⟩ := HQ0.out
                try simp only [Act.put, List.setIfInBounds_toArray, List.set_cons_zero, List.set_cons_succ, List.getElem_toArray, List.getElem_cons_zero, List.getElem_cons_succ]
                refine wpAnyH_take (i := 7) (v := ?vm7) rfl (by kernel_rfl) (by kernel_rfl) (by kernel_rfl) (fun _ _ _ h => h) (Or.inl ⟨by rfl, ?ym7⟩) (by assumption) ?rm7
                case ym7 => (intro w hSw; (try dsimp only at hSw); go_simp; try with_reducible rfl)
                try simp only [Act.put, List.setIfInBounds_toArray, List.set_cons_zero, List.set_cons_succ, List.getElem_toArray, List.getElem_cons_zero, List.getElem_cons_succ]
                refine wpAnyH_take (i := 8) (v := ?vm8) rfl (by kernel_rfl) (by kernel_rfl) (by kernel_rfl) (fun _ _ _ h => h) (Or.inl ⟨by rfl, ?ym8⟩) (by assumption) ?rm8
                case ym8 => (intro w hSw; (try dsimp only at hSw); go_simp; try with_reducible rfl)
                try simp only [Act.put, List.setIfInBounds_toArray, List.set_cons_zero, List.set_cons_succ, List.getElem_toArray, List.getElem_cons_zero, List.getElem_cons_succ]
                refine wpAnyH_take (i := 9) (v := ?vm9) rfl (by kernel_rfl) (by kernel_rfl) (by kernel_rfl) (fun _ _ _ h => h) (Or.inl ⟨by rfl, ?ym9⟩) (by assumption) ?rm9
                case ym9 => (intro w hSw; (try dsimp only at hSw); go_simp; try with_reducible rfl)
                try simp only [Act.put, List.setIfInBounds_toArray, List.set_cons_zero, List.set_cons_succ, List.getElem_toArray, List.getElem_cons_zero, List.getElem_cons_succ]
                refine wpAnyH_take (i := 10) (v := ?vm10) rfl (by kernel_rfl) (by kernel_rfl) (by kernel_rfl) (fun _ _ _ h => h) (Or.inl ⟨by rfl, ?ym10⟩) (by assumption) ?rm10
                case ym10 => (intro w hSw; (try dsimp only at hSw); go_simp; try with_reducible rfl)
                try simp only [Act.put, List.setIfInBounds_toArray, List.set_cons_zero, List.set_cons_succ, List.getElem_toArray, List.getElem_cons_zero, List.getElem_cons_succ]
                refine wpAnyH_take (i := 11) (v := ?vm11) rfl (by kernel_rfl) (by kernel_rfl) (by kernel_rfl) (fun _ _ _ h => h) (Or.inl ⟨by rfl, ?ym11⟩) (by assumption) ?rm11
                case ym11 => (intro w hSw; (try dsimp only at hSw); go_simp; try with_reducible rfl)
                try simp only [Act.put, List.setIfInBounds_toArray, List.set_cons_zero, List.set_cons_succ, List.getElem_toArray, List.getElem_cons_zero, List.getElem_cons_succ]
                refine wpAnyH_take (i := 12) (v := ?vm12) rfl (by kernel_rfl) (by kernel_rfl) (by kernel_rfl) (fun _ _ _ h => h) (Or.inl ⟨by rfl, ?ym12⟩) (by assumption) ?rm12
                case ym12 => (intro w hSw; (try dsimp only at hSw); go_simp; try with_reducible rfl)
                try simp only [Act.put, List.setIfInBounds_toArray, List.set_cons_zero, List.set_cons_succ, List.getElem_toArray, List.getElem_cons_zero, List.getElem_cons_succ]
                refine wpAnyH_take (i := 13) (v := ?vm13) rfl (by kernel_rfl) (by kernel_rfl) (by kernel_rfl) (fun _ _ _ h => h) (Or.inl ⟨by rfl, ?ym13⟩) (by assumption) ?rm13
                case ym13 => (intro w hSw; (try dsimp only at hSw); go_simp; try with_reducible rfl)
                try simp only [Act.put, List.setIfInBounds_toArray, List.set_cons_zero, List.set_cons_succ, List.getElem_toArray, List.getElem_cons_zero, List.getElem_cons_succ]
                refine wpAnyH_take (i := 14) (v := ?vm14) rfl (by kernel_rfl) (by kernel_rfl) (by kernel_rfl) (fun _ _ _ h => h) (Or.inl ⟨by rfl, ?ym14⟩) (by assumption) ?rm14
                case ym14 => (intro w hSw; (try dsimp only at hSw); go_simp; try with_reducible rfl)
                try simp only [Act.put, List.setIfInBounds_toArray, List.set_cons_zero, List.set_cons_succ, List.getElem_toArray, List.getElem_cons_zero, List.getElem_cons_succ]
                refine wpAnyH_take (i := 15) (v := ?vm15) rfl (by kernel_rfl) (by kernel_rfl) (by kernel_rfl) (fun _ _ _ h => h) (Or.inl ⟨by rfl, ?ym15⟩) (by assumption) ?rm15
                case ym15 => (intro w hSw; (try dsimp only at hSw); go_simp; try with_reducible rfl)
                try simp only [Act.put, List.setIfInBounds_toArray, List.set_cons_zero, List.set_cons_succ, List.getElem_toArray, List.getElem_cons_zero, List.getElem_cons_succ]
                refine wpAnyH_take (i := 16) (v := ?vm16) rfl (by kernel_rfl) (by kernel_rfl) (by kernel_rfl) (fun _ _ _ h => h) (Or.inl ⟨by rfl, ?ym16⟩) (by assumption) ?rm16
                case ym16 => (intro w hSw; (try dsimp only at hSw); go_simp; try with_reducible rfl)
                try simp only [Act.put, List.setIfInBounds_toArray, List.set_cons_zero, List.set_cons_succ, List.getElem_toArray, List.getElem_cons_zero, List.getElem_cons_succ]
                refine wpAnyH_take (i := 17) (v := ?vm17) rfl (by kernel_rfl) (by kernel_rfl) (by kernel_rfl) (fun _ _ _ h => h) (Or.inl ⟨by rfl, ?ym17⟩) (by assumption) ?rm17
                case ym17 => (intro w hSw; (try dsimp only at hSw); go_simp; try with_reducible rfl)
                try simp only [Act.put, List.setIfInBounds_toArray, List.set_cons_zero, List.set_cons_succ, List.getElem_toArray, List.getElem_cons_zero, List.getElem_cons_succ]
                refine wpAnyH_take (i := 18) (v := ?vm18) rfl (by kernel_rfl) (by kernel_rfl) (by kernel_rfl) (fun _ _ _ h => h) (Or.inl ⟨by rfl, ?ym18⟩) (by assumption) ?rm18
                case ym18 => (intro w hSw; (try dsimp only at hSw); go_simp; try with_reducible rfl)
                try simp only [Act.put, List.setIfInBounds_toArray, List.set_cons_zero, List.set_cons_succ, List.getElem_toArray, List.getElem_cons_zero, List.getElem_cons_succ]
                refine wpAnyH_take (i := 19) (v := ?vm19) rfl (by kernel_rfl) (by kernel_rfl) (by kernel_rfl) (fun _ _ _ h => h) (Or.inl ⟨by rfl, ?ym19⟩) (by assumption) ?rm19
                case ym19 => (intro w hSw; (try dsimp only at hSw); go_simp; try with_reducible rfl)
                try simp only [Act.put, List.setIfInBounds_toArray, List.set_cons_zero, List.set_cons_succ, List.getElem_toArray, List.getElem_cons_zero, List.getElem_cons_succ]
                refine wpAnyH_take (i := 20) (v := ?vm20) rfl (by kernel_rfl) (by kernel_rfl) (by kernel_rfl) (fun _ _ _ h => h) (Or.inl ⟨by rfl, ?ym20⟩) (by assumption) ?rm20
                case ym20 => (intro w hSw; (try dsimp only at hSw); go_simp; try with_reducible rfl)
                try simp only [Act.put, List.setIfInBounds_toArray, List.set_cons_zero, List.set_cons_succ, List.getElem_toArray, List.getElem_cons_zero, List.getElem_cons_succ]
                refine wpAnyH_take (i := 21) (v := ?vm21) rfl (by kernel_rfl) (by kernel_rfl) (by kernel_rfl) (fun _ _ _ h => h) (Or.inl ⟨by rfl, ?ym21⟩) (by assumption) ?rm21
                case ym21 => (intro w hSw; (try dsimp only at hSw); go_simp; try with_reducible rfl)
                try simp only [Act.put, List.setIfInBounds_toArray, List.set_cons_zero, List.set_cons_succ, List.getElem_toArray, List.getElem_cons_zero, List.getElem_cons_succ]
                refine wpAnyH_take (i := 22) (v := ?vm22) rfl (by kernel_rfl) (by kernel_rfl) (by kernel_rfl) (fun _ _ _ h => h) (Or.inl ⟨by rfl, ?ym22⟩) (by assumption) ?rm22
                case ym22 => (intro w hSw; (try dsimp only at hSw); go_simp; try with_reducible rfl)
                try simp only [Act.put, List.setIfInBounds_toArray, List.set_cons_zero, List.set_cons_succ, List.getElem_toArray, List.getElem_cons_zero, List.getElem_cons_succ]
                refine wpAnyH_take (i := 23) (v := ?vm23) rfl (by kernel_rfl) (by kernel_rfl) (by kernel_rfl) (fun _ _ _ h => h) (Or.inl ⟨by rfl, ?ym23⟩) (by assumption) ?rm23
                case ym23 => (intro w hSw; (try dsimp only at hSw); go_simp; try with_reducible rfl)
                try simp only [Act.put, List.setIfInBounds_toArray, List.set_cons_zero, List.set_cons_succ, List.getElem_toArray, List.getElem_cons_zero, List.getElem_cons_succ]
                refine wpAnyH_take (i := 24) (v := ?vm24) rfl (by kernel_rfl) (by kernel_rfl) (by kernel_rfl) (fun _ _ _ h => h) (Or.inl ⟨by rfl, ?ym24⟩) (by assumption) ?rm24
                case ym24 => (intro w hSw; (try dsimp only at hSw); go_simp; try with_reducible rfl)
                try simp only [Act.put, List.setIfInBounds_toArray, List.set_cons_zero, List.set_cons_succ, List.getElem_toArray, List.getElem_cons_zero, List.getElem_cons_succ]
                refine wpAnyH_take (i := 25) (v := ?vm25) rfl (by kernel_rfl) (by kernel_rfl) (by kernel_rfl) (fun _ _ _ h => h) (Or.inl ⟨by rfl, ?ym25⟩) (by assumption) ?rm25
                case ym25 => (intro w hSw; (try dsimp only at hSw); go_simp; try with_reducible rfl)
                try simp only [Act.put, List.setIfInBounds_toArray, List.set_cons_zero, List.set_cons_succ, List.getElem_toArray, List.getElem_cons_zero, List.getElem_cons_succ]
                refine wpAnyH_take (i := 26) (v := ?vm26) rfl (by kernel_rfl) (by kernel_rfl) (by kernel_rfl) (fun _ _ _ h => h) (Or.inl ⟨by rfl, ?ym26⟩) (by assumption) ?rm26
                case ym26 => (intro w hSw; (try dsimp only at hSw); go_simp; try with_reducible rfl)
                try simp only [Act.put, List.setIfInBounds_toArray, List.set_cons_zero, List.set_cons_succ, List.getElem_toArray, List.getElem_cons_zero, List.getElem_cons_succ]
                refine wpAnyH_take (i := 27) (v := ?vm27) rfl (by kernel_rfl) (by kernel_rfl) (by kernel_rfl) (fun _ _ _ h => h) (Or.inl ⟨by rfl, ?ym27⟩) (by assumption) ?rm27
                case ym27 => (intro w hSw; (try dsimp only at hSw); go_simp; try with_reducible rfl)
                try simp only [Act.put, List.setIfInBounds_toArray, List.set_cons_zero, List.set_cons_succ, List.getElem_toArray, List.getElem_cons_zero, List.getElem_cons_succ]
                refine wpAnyH_take (i := 28) (v := ?vm28) rfl (by kernel_rfl) (by kernel_rfl) (by kernel_rfl) (fun _ _ _ h => h) (Or.inl ⟨by rfl, ?ym28⟩) (by assumption) ?rm28
                case ym28 => (intro w hSw; (try dsimp only at hSw); go_simp; try with_reducible rfl)
                try simp only [Act.put, List.setIfInBounds_toArray, List.set_cons_zero, List.set_cons_succ, List.getElem_toArray, List.getElem_cons_zero, List.getElem_cons_succ]
                refine wpAnyH_take (i := 29) (v := ?vm29) rfl (by kernel_rfl) (by kernel_rfl) (by kernel_rfl) (fun _ _ _ h => h) (Or.inl ⟨by rfl, ?ym29⟩) (by assumption) ?rm29
                case ym29 => (intro w hSw; (try dsimp only at hSw); go_simp; try with_reducible rfl)
                try simp only [Act.put, List.setIfInBounds_toArray, List.set_cons_zero, List.set_cons_succ, List.getElem_toArray, List.getElem_cons_zero, List.getElem_cons_succ]
                refine wpAnyH_take (i := 30) (v := ?vm30) rfl (by kernel_rfl) (by kernel_rfl) (by kernel_rfl) (fun _ _ _ h => h) (Or.inl ⟨by rfl, ?ym30⟩) (by assumption) ?rm30
                case ym30 => (intro w hSw; (try dsimp only at hSw); go_simp; try with_reducible rfl)
                try simp only [Act.put, List.setIfInBounds_toArray, List.set_cons_zero, List.set_cons_succ, List.getElem_toArray, List.getElem_cons_zero, List.getElem_cons_succ]
                refine wpAnyH_take (i := 31) (v := ?vm31) rfl (by kernel_rfl) (by kernel_rfl) (by kernel_rfl) (fun _ _ _ h => h) (Or.inl ⟨by rfl, ?ym31⟩) (by assumption) ?rm31
                case ym31 => (intro w hSw; (try dsimp only at hSw); go_simp; try with_reducible rfl)
                try simp only [Act.put, List.setIfInBounds_toArray, List.set_cons_zero, List.set_cons_succ, List.getElem_toArray, List.getElem_cons_zero, List.getElem_cons_succ]
                refine wpAnyH_take (i := 32) (v := ?vm32) rfl (by kernel_rfl) (by kernel_rfl) (by kernel_rfl) (fun _ _ _ h => h) (Or.inl ⟨by rfl, ?ym32⟩) (by assumption) ?rm32
                case ym32 => (intro w hSw; (try dsimp only at hSw); go_simp; try with_reducible rfl)
                try simp only [Act.put, List.setIfInBounds_toArray, List.set_cons_zero, List.set_cons_succ, List.getElem_toArray, List.getElem_cons_zero, List.getElem_cons_succ]
                refine wpAnyH_take (i := 33) (v := ?vm33) rfl (by kernel_rfl) (by kernel_rfl) (by kernel_rfl) (fun _ _ _ h => h) (Or.inl ⟨by rfl, ?ym33⟩) (by assumption) ?rm33
                case ym33 => (intro w hSw; (try dsimp only at hSw); go_simp; try with_reducible rfl)
                try simp only [Act.put, List.setIfInBounds_toArray, List.set_cons_zero, List.set_cons_succ, List.getElem_toArray, List.getElem_cons_zero, List.getElem_cons_succ]
                refine wpAnyH_take (i := 34) (v := ?vm34) rfl (by kernel_rfl) (by kernel_rfl) (by kernel_rfl) (fun _ _ _ h => h) (Or.inl ⟨by rfl, ?ym34⟩) (by assumption) ?rm34
                case ym34 => (intro w hSw; (try dsimp only at hSw); go_simp; try with_reducible rfl)
                try simp only [Act.put, List.setIfInBounds_toArray, List.set_cons_zero, List.set_cons_succ, List.getElem_toArray, List.getElem_cons_zero, List.getElem_cons_succ]
                refine wpAnyH_take (i := 35) (v := ?vm35) rfl (by kernel_rfl) (by kernel_rfl) (by kernel_rfl) (fun _ _ _ h => h) (Or.inl ⟨by rfl, ?ym35⟩) (by assumption) ?rm35
                case ym35 => (intro w hSw; (try dsimp only at hSw); go_simp; try with_reducible rfl)
                try simp only [Act.put, List.setIfInBounds_toArray, List.set_cons_zero, List.set_cons_succ, List.getElem_toArray, List.getElem_cons_zero, List.getElem_cons_succ]
                refine wpAnyH_take (i := 36) (v := ?vm36) rfl (by kernel_rfl) (by kernel_rfl) (by kernel_rfl) (fun _ _ _ h => h) (Or.inl ⟨by rfl, ?ym36⟩) (by assumption) ?rm36
                case ym36 => (intro w hSw; (try dsimp only at hSw); go_simp; try with_reducible rfl)
                try simp only [Act.put, List.setIfInBounds_toArray, List.set_cons_zero, List.set_cons_succ, List.getElem_toArray, List.getElem_cons_zero, List.getElem_cons_succ]
                refine wpAnyH_take (i := 37) (v := ?vm37) rfl (by kernel_rfl) (by kernel_rfl) (by kernel_rfl) (fun _ _ _ h => h) (Or.inl ⟨by rfl, ?ym37⟩) (by assumption) ?rm37
                case ym37 => (intro w hSw; (try dsimp only at hSw); go_simp; try with_reducible rfl)
                try simp only [Act.put, List.setIfInBounds_toArray, List.set_cons_zero, List.set_cons_succ, List.getElem_toArray, List.getElem_cons_zero, List.getElem_cons_succ]
                refine wpAnyH_take (i := 38) (v := undef) rfl (by kernel_rfl) (by kernel_rfl) (by kernel_rfl) (fun _ _ _ h => h) (Or.inr ⟨by rfl, rfl⟩) (by assumption) ?_
                try simp only [Act.put, List.setIfInBounds_toArray, List.set_cons_zero, List.set_cons_succ, List.getElem_toArray, List.getElem_cons_zero, List.getElem_cons_succ]
                refine wpAnyH_take (i := 39) (v := undef) rfl (by kernel_rfl) (by kernel_rfl) (by kernel_rfl) (fun _ _ _ h => h) (Or.inr ⟨by rfl, rfl⟩) (by assumption) ?_
                try simp only [Act.put, List.setIfInBounds_toArray, List.set_cons_zero, List.set_cons_succ, List.getElem_toArray, List.getElem_cons_zero, List.getElem_cons_succ]
                refine wpAnyH_take (i := 40) (v := undef) rfl (by kernel_rfl) (by kernel_rfl) (by kernel_rfl) (fun _ _ _ h => h) (Or.inr ⟨by rfl, rfl⟩) (by assumption) ?_
                try simp only [Act.put, List.setIfInBounds_toArray, List.set_cons_zero, List.set_cons_succ, List.getElem_toArray, List.getElem_cons_zero, List.getElem_cons_succ]
                refine wpAnyH_take (i := 41) (v := undef) rfl (by kernel_rfl) (by kernel_rfl) (by kernel_rfl) (fun _ _ _ h => h) (Or.inr ⟨by rfl, rfl⟩) (by assumption) ?_
                try simp only [Act.put, List.setIfInBounds_toArray, List.set_cons_zero, List.set_cons_succ, List.getElem_toArray, List.getElem_cons_zero, List.getElem_cons_succ]
                refine wpAnyH_take (i := 42) (v := undef) rfl (by kernel_rfl) (by kernel_rfl) (by kernel_rfl) (fun _ _ _ h => h) (Or.inr ⟨by rfl, rfl⟩) (by assumption) ?_
                try simp only [Act.put, List.setIfInBounds_toArray, List.set_cons_zero, List.set_cons_succ, List.getElem_toArray, List.getElem_cons_zero, List.getElem_cons_succ]
                refine wpAnyH_take (i := 43) (v := undef) rfl (by kernel_rfl) (by kernel_rfl) (by kernel_rfl) (fun _ _ _ h => h) (Or.inr ⟨by rfl, rfl⟩) (by assumption) ?_
                try simp only [Act.put, List.setIfInBounds_toArray, List.set_cons_zero, List.set_cons_succ, List.getElem_toArray, List.getElem_cons_zero, List.getElem_cons_succ]
                refine wpAnyH_take (i := 44) (v := undef) rfl (by kernel_rfl) (by kernel_rfl) (by kernel_rfl) (fun _ _ _ h => h) (Or.inr ⟨by rfl, rfl⟩) (by assumption) ?_
                try simp only [Act.put, List.setIfInBounds_toArray, List.set_cons_zero, List.set_cons_succ, List.getElem_toArray, List.getElem_cons_zero, List.getElem_cons_succ]
                refine wpAnyH_take (i := 45) (v := undef) rfl (by kernel_rfl) (by kernel_rfl) (by kernel_rfl) (fun _ _ _ h => h) (Or.inr ⟨by rfl, rfl⟩) (by assumption) ?_
                try simp only [Act.put, List.setIfInBounds_toArray, List.set_cons_zero, List.set_cons_succ, List.getElem_toArray, List.getElem_cons_zero, List.getElem_cons_succ]
                refine wpAnyH_take (i := 46) (v := undef) rfl (by kernel_rfl) (by kernel_rfl) (by kernel_rfl) (fun _ _ _ h => h) (Or.inr ⟨by rfl, rfl⟩) (by assumption) ?_
                try simp only [Act.put, List.setIfInBounds_toArray, List.set_cons_zero, List.set_cons_succ, List.getElem_toArray, List.getElem_cons_zero, List.getElem_cons_succ]
                refine wpAnyH_take (i := 47) (v := undef) rfl (by kernel_rfl) (by kernel_rfl) (by kernel_rfl) (fun _ _ _ h => h) (Or.inr ⟨by rfl, rfl⟩) (by assumption) ?_
                try simp only [Act.put, List.setIfInBounds_toArray, List.set_cons_zero, List.set_cons_succ, List.getElem_toArray, List.getElem_cons_zero, List.getElem_cons_succ]
                refine wpAnyH_take (i := 48) (v := ?vm48) rfl (by kernel_rfl) (by kernel_rfl) (by kernel_rfl) (fun _ _ _ h => h) (Or.inl ⟨by rfl, ?ym48⟩) (by assumption) ?rm48
                case ym48 => (intro w hSw; (try dsimp only at hSw); go_simp; try with_reducible rfl)
                try simp only [Act.put, List.setIfInBounds_toArray, List.set_cons_zero, List.set_cons_succ, List.getElem_toArray, List.getElem_cons_zero, List.getElem_cons_succ]
                refine wpAnyH_take (i := 49) (v := ?vm49) rfl (by kernel_rfl) (by kernel_rfl) (by kernel_rfl) (fun _ _ _ h => h) (Or.inl ⟨by rfl, ?ym49⟩) (by assumption) ?rm49
                case ym49 => (intro w hSw; (try dsimp only at hSw); go_simp; try with_reducible rfl)
                try simp only [Act.put, List.setIfInBounds_toArray, List.set_cons_zero, List.set_cons_succ, List.getElem_toArray, List.getElem_cons_zero, List.getElem_cons_succ]
                refine wpAnyH_done (by kernel_rfl) ?_ _
                go_wp2
                go_meet
                exact ⟨rfl, ((Below.refl _ w9).drew.trans hb10).trans (hb11.mono (by have := hb10.size; simpa using this))⟩
              · obtain ⟨y, hy⟩ : ∃ y : Nat, y + 1 = x := ⟨x - 1, by omega⟩
                have HQ0 : Hid (decide ((0 : Int) < (x : Int)) = true ∧ decide (0 < x) = true) := Lib.hid ⟨by simp; omega, by simp; omega⟩
                obtain ⟨p, l1, hpl⟩ := HPV9.out y hy
                have HYW : Hid (IntKind.i64.wrap ((x : Int) - 1) = (y : Int) ∧ (y : Int) < (M.length : Int) ∧ (y : Int) < (lc : Int) ∧ Op.bytesLess p.toList key.toList = true) := Lib.hid ⟨by rw [IntWalk.i64_in _ (by omega)]; omega, by omega, by omega, by rw [Lib.toList_data, Lib.toList_data]; exact hpl⟩
                clear hpl
                have g0 : w9.drew.cell? ⟨lb, loff + x, none⟩ = some (.string key) ∧ w9.drew.cell? ⟨hb, hoff + x * 3, none⟩ = some (.string key) ∧ w9.drew.cell? ⟨hb, hoff + x * 3 + 1, none⟩ = some (.int .i64 ym) ∧ w9.drew.cell? ⟨hb, hoff + x * 3 + 2, none⟩ = some (.int .i64 yt) ∧ w9.drew.cell? ⟨TB, 3, none⟩ = some (.int .i64 ym) ∧ w9.drew.cell? ⟨TB, 4, none⟩ = some (.int .i64 yt) ∧ w9.drew.cell? ⟨lb, loff + y, none⟩ = some (.string p) := ⟨l0, h0, h1, h2, t3, t4, l1⟩
                clear l0 h0 h1 h2 t3 t4 hx0 l1 hy
                refine wp_region_held_drew (S := fun w' => w'.cell? ⟨lb, loff + x, none⟩ = some (.string key) ∧ w'.cell? ⟨hb, hoff + x * 3, none⟩ = some (.string key) ∧ w'.cell? ⟨hb, hoff + x * 3 + 1, none⟩ = some (.int .i64 ym) ∧ w'.cell? ⟨hb, hoff + x * 3 + 2, none⟩ = some (.int .i64 yt) ∧ w'.cell? ⟨TB, 3, none⟩ = some (.int .i64 ym) ∧ w'.cell? ⟨TB, 4, none⟩ = some (.int .i64 yt) ∧ w'.cell? ⟨lb, loff + y, none⟩ = some (.string p)) (by kernel_rfl) (g0) (fun hHeld => ?_)
                refine wpAnyH_take (i := 0) (v := ?vn0) rfl (by kernel_rfl) (by kernel_rfl) (by kernel_rfl) (fun _ _ _ h => h) (Or.inl ⟨by rfl, ?yn0⟩) (by assumption) ?rn0
                case yn0 => (intro w hSw; (try dsimp only at hSw); go_simp; try with_reducible rfl)
                try simp only [Act.put, List.setIfInBounds_toArray, List.set_cons_zero, List.set_cons_succ, List.getElem_toArray, List.getElem_cons_zero, List.getElem_cons_succ]
                refine wpAnyH_take (i := 2) (v := ?vn2) rfl (by kernel_rfl) (by kernel_rfl) (by kernel_rfl) (fun _ _ _ h => h) (Or.inl ⟨by rfl, ?yn2⟩) (by assumption) ?rn2
                case yn2 => (intro w hSw; (try dsimp only at hSw); go_simp; try with_reducible rfl)
                try simp only [Act.put, List.setIfInBounds_toArray, List.set_cons_zero, List.set_cons_succ, List.getElem_toArray, List.getElem_cons_zero, List.getElem_cons_succ]
                refine wpAnyH_take (i := 3) (v := ?vn3) rfl (by kernel_rfl) (by kernel_rfl) (by kernel_rfl) (fun _ _ _ h => h) (Or.inl ⟨by rfl, ?yn3⟩) (by assumption) ?rn3
                case yn3 => (intro w hSw; (try dsimp only at hSw); go_simp; try with_reducible rfl)
                try simp only [Act.put, List.setIfInBounds_toArray, List.set_cons_zero, List.set_cons_succ, List.getElem_toArray, List.getElem_cons_zero, List.getElem_cons_succ]
                refine wpAnyH_take (i := 4) (v := ?vn4) rfl (by kernel_rfl) (by kernel_rfl) (by kernel_rfl) (fun _ _ _ h => h) (Or.inl ⟨by rfl, ?yn4⟩) (by assumption) ?rn4
                case yn4 => (intro w hSw; (try dsimp only at hSw); go_simp; try with_reducible rfl)
                try simp only [Act.put, List.setIfInBounds_toArray, List.set_cons_zero, List.set_cons_succ, List.getElem_toArray, List.getElem_cons_zero, List.getElem_cons_succ]
                refine wpAnyH_take (i := 5) (v := ?vn5) rfl (by kernel_rfl) (by kernel_rfl) (by kernel_rfl) (fun _ _ _ h => h) (Or.inl ⟨by rfl, ?yn5⟩) (by assumption) ?rn5
                case yn5 => (intro w hSw; (try dsimp only at hSw); go_simp; try with_reducible rfl)
                try simp only [Act.put, List.setIfInBounds_toArray, List.set_cons_zero, List.set_cons_succ, List.getElem_toArray, List.getElem_cons_zero, List.getElem_cons_succ]
                refine wpAnyH_ready (rs := [1]) (by kernel_rfl) (by simp) ?_
                refine AllReadyH.cons rfl (fun K hK => ?_) AllReadyH.nil
                go_simp
                go_at_call 22
                refine (hrg _ ((Below.refl _ _).drew)).mono ?_
                rintro e w10 ⟨v10, rfl, ho10, hb10⟩
                obtain ⟨ra, rc, rfl⟩ := ho10.shape
                have g1 : w10.cell? ⟨lb, loff + x, none⟩ = some (.string key) ∧ w10.cell? ⟨hb, hoff + x * 3, none⟩ = some (.string key) ∧ w10.cell? ⟨hb, hoff + x * 3 + 1, none⟩ = some (.int .i64 ym) ∧ w10.cell? ⟨hb, hoff + x * 3 + 2, none⟩ = some (.int .i64 yt) ∧ w10.cell? ⟨TB, 3, none⟩ = some (.int .i64 ym) ∧ w10.cell? ⟨TB, 4, none⟩ = some (.int .i64 yt) ∧ w10.cell? ⟨lb, loff + y, none⟩ = some (.string p) := ⟨kc hb10 g0.1, kc hb10 g0.2.1, kc hb10 g0.2.2.1, kc hb10 g0.2.2.2.1, kc hb10 g0.2.2.2.2.1, kc hb10 g0.2.2.2.2.2.1, kc hb10 g0.2.2.2.2.2.2⟩
                go_wp2_with fail
                refine hK.out _ _ (g1) (fun hHeld => ?_)
                clear hK K
                try simp only [Act.put, List.setIfInBounds_toArray, List.set_cons_zero, List.set_cons_succ, List.getElem_toArray, List.getElem_cons_zero, List.getElem_cons_succ]
                refine wpAnyH_ready (rs := [6]) (by kernel_rfl) (by simp) ?_
                refine AllReadyH.cons rfl (fun K hK => ?_) AllReadyH.nil
                go_simp
                go_at_call 21
                refine (rfind_any ra rc R2 key _ HR2.out (RowAt.of_own kr_ok ho10)).mono ?_
                rintro e w11 ⟨z, rfl, hz, hb11⟩
                have HZ0 : Hid (decide (z < 0) = false) := Lib.hid (by have h := hz.trans HKY.out.1; simp at h; simp; omega)
                have g2 : w11.cell? ⟨lb, loff + x, none⟩ = some (.string key) ∧ w11.cell? ⟨hb, hoff + x * 3, none⟩ = some (.string key) ∧ w11.cell? ⟨hb, hoff + x * 3 + 1, none⟩ = some (.int .i64 ym) ∧ w11.cell? ⟨hb, hoff + x * 3 + 2, none⟩ = some (.int .i64 yt) ∧ w11.cell? ⟨TB, 3, none⟩ = some (.int .i64 ym) ∧ w11.cell? ⟨TB, 4, none⟩ = some (.int .i64 yt) ∧ w11.cell? ⟨lb, loff + y, none⟩ = some (.string p) := ⟨kc hb11 g1.1, kc hb11 g1.2.1, kc hb11 g1.2.2.1, kc hb11 g1.2.2.2.1, kc hb11 g1.2.2.2.2.1, kc hb11 g1.2.2.2.2.2.1, kc hb11 g1.2.2.2.2.2.2⟩
                go_wp2_with fail
                refine hK.out _ _ (g2) (fun hHeld => ?_)
                clear hK K
                have hz1 := HZ0.out
                obtain ⟨hq1, hq2⟩ := HQ0.out
                obtain ⟨hyw, hyi, hyc, hpl⟩ := HYW.out
                try simp only [Act.put, List.setIfInBounds_toArray, List.set_cons_zero, List.set_cons_succ, List.getElem_toArray, List.getElem_cons_zero, List.getElem_cons_succ]
                refine wpAnyH_take (i := 7) (v := ?vn7) rfl (by kernel_rfl) (by kernel_rfl) (by kernel_rfl) (fun _ _ _ h => h) (Or.inl ⟨by rfl, ?yn7⟩) (by assumption) ?rn7
                case yn7 => (intro w hSw; (try dsimp only at hSw); go_simp; try with_reducible rfl)
                try simp only [Act.put, List.setIfInBounds_toArray, List.set_cons_zero, List.set_cons_succ, List.getElem_toArray, List.getElem_cons_zero, List.getElem_cons_succ]
                refine wpAnyH_take (i := 8) (v := ?vn8) rfl (by kernel_rfl) (by kernel_rfl) (by kernel_rfl) (fun _ _ _ h => h) (Or.inl ⟨by rfl, ?yn8⟩) (by assumption) ?rn8
                case yn8 => (intro w hSw; (try dsimp only at hSw); go_simp; try with_reducible rfl)
                try simp only [Act.put, List.setIfInBounds_toArray, List.set_cons_zero, List.set_cons_succ, List.getElem_toArray, List.getElem_cons_zero, List.getElem_cons_succ]
                refine wpAnyH_take (i := 9) (v := ?vn9) rfl (by kernel_rfl) (by kernel_rfl) (by kernel_rfl) (fun _ _ _ h => h) (Or.inl ⟨by rfl, ?yn9⟩) (by assumption) ?rn9
                case yn9 => (intro w hSw; (try dsimp only at hSw); go_simp; try with_reducible rfl)
                try simp only [Act.put, List.setIfInBounds_toArray, List.set_cons_zero, List.set_cons_succ, List.getElem_toArray, List.getElem_cons_zero, List.getElem_cons_succ]
                refine wpAnyH_take (i := 10) (v := ?vn10) rfl (by kernel_rfl) (by kernel_rfl) (by kernel_rfl) (fun _ _ _ h => h) (Or.inl ⟨by rfl, ?yn10⟩) (by assumption) ?rn10
                case yn10 => (intro w hSw; (try dsimp only at hSw); go_simp; try with_reducible rfl)
                try simp only [Act.put, List.setIfInBounds_toArray, List.set_cons_zero, List.set_cons_succ, List.getElem_toArray, List.getElem_cons_zero, List.getElem_cons_succ]
                refine wpAnyH_take (i := 11) (v := ?vn11) rfl (by kernel_rfl) (by kernel_rfl) (by kernel_rfl) (fun _ _ _ h => h) (Or.inl ⟨by rfl, ?yn11⟩) (by assumption) ?rn11
                case yn11 => (intro w hSw; (try dsimp only at hSw); go_simp; try with_reducible rfl)
                try simp only [Act.put, List.setIfInBounds_toArray, List.set_cons_zero, List.set_cons_succ, List.getElem_toArray, List.getElem_cons_zero, List.getElem_cons_succ]
                refine wpAnyH_take (i := 12) (v := ?vn12) rfl (by kernel_rfl) (by kernel_rfl) (by kernel_rfl) (fun _ _ _ h => h) (Or.inl ⟨by rfl, ?yn12⟩) (by assumption) ?rn12
                case yn12 => (intro w hSw; (try dsimp only at hSw); go_simp; try with_reducible rfl)
                try simp only [Act.put, List.setIfInBounds_toArray, List.set_cons_zero, List.set_cons_succ, List.getElem_toArray, List.getElem_cons_zero, List.getElem_cons_succ]
                refine wpAnyH_take (i := 13) (v := ?vn13) rfl (by kernel_rfl) (by kernel_rfl) (by kernel_rfl) (fun _ _ _ h => h) (Or.inl ⟨by rfl, ?yn13⟩) (by assumption) ?rn13
                case yn13 => (intro w hSw; (try dsimp only at hSw); go_simp; try with_reducible rfl)
                try simp only [Act.put, List.setIfInBounds_toArray, List.set_cons_zero, List.set_cons_succ, List.getElem_toArray, List.getElem_cons_zero, List.getElem_cons_succ]
                refine wpAnyH_take (i := 14) (v := ?vn14) rfl (by kernel_rfl) (by kernel_rfl) (by kernel_rfl) (fun _ _ _ h => h) (Or.inl ⟨by rfl, ?yn14⟩) (by assumption) ?rn14
                case yn14 => (intro w hSw; (try dsimp only at hSw); go_simp; try with_reducible rfl)
                try simp only [Act.put, List.setIfInBounds_toArray, List.set_cons_zero, List.set_cons_succ, List.getElem_toArray, List.getElem_cons_zero, List.getElem_cons_succ]
                refine wpAnyH_take (i := 15) (v := ?vn15) rfl (by kernel_rfl) (by kernel_rfl) (by kernel_rfl) (fun _ _ _ h => h) (Or.inl ⟨by rfl, ?yn15⟩) (by assumption) ?rn15
                case yn15 => (intro w hSw; (try dsimp only at hSw); go_simp; try with_reducible rfl)
                try simp only [Act.put, List.setIfInBounds_toArray, List.set_cons_zero, List.set_cons_succ, List.getElem_toArray, List.getElem_cons_zero, List.getElem_cons_succ]
                refine wpAnyH_take (i := 16) (v := ?vn16) rfl (by kernel_rfl) (by kernel_rfl) (by kernel_rfl) (fun _ _ _ h => h) (Or.inl ⟨by rfl, ?yn16⟩) (by assumption) ?rn16
                case yn16 => (intro w hSw; (try dsimp only at hSw); go_simp; try with_reducible rfl)
                try simp only [Act.put, List.setIfInBounds_toArray, List.set_cons_zero, List.set_cons_succ, List.getElem_toArray, List.getElem_cons_zero, List.getElem_cons_succ]
                refine wpAnyH_take (i := 17) (v := ?vn17) rfl (by kernel_rfl) (by kernel_rfl) (by kernel_rfl) (fun _ _ _ h => h) (Or.inl ⟨by rfl, ?yn17⟩) (by assumption) ?rn17
                case yn17 => (intro w hSw; (try dsimp only at hSw); go_simp; try with_reducible rfl)
                try simp only [Act.put, List.setIfInBounds_toArray, List.set_cons_zero, List.set_cons_succ, List.getElem_toArray, List.getElem_cons_zero, List.getElem_cons_succ]
                refine wpAnyH_take (i := 18) (v := ?vn18) rfl (by kernel_rfl) (by kernel_rfl) (by kernel_rfl) (fun _ _ _ h => h) (Or.inl ⟨by rfl, ?yn18⟩) (by assumption) ?rn18
                case yn18 => (intro w hSw; (try dsimp only at hSw); go_simp; try with_reducible rfl)
                try simp only [Act.put, List.setIfInBounds_toArray, List.set_cons_zero, List.set_cons_succ, List.getElem_toArray, List.getElem_cons_zero, List.getElem_cons_succ]
                refine wpAnyH_take (i := 19) (v := ?vn19) rfl (by kernel_rfl) (by kernel_rfl) (by kernel_rfl) (fun _ _ _ h => h) (Or.inl ⟨by rfl, ?yn19⟩) (by assumption) ?rn19
                case yn19 => (intro w hSw; (try dsimp only at hSw); go_simp; try with_reducible rfl)
                try simp only [Act.put, List.setIfInBounds_toArray, List.set_cons_zero, List.set_cons_succ, List.getElem_toArray, List.getElem_cons_zero, List.getElem_cons_succ]
                refine wpAnyH_take (i := 20) (v := ?vn20) rfl (by kernel_rfl) (by kernel_rfl) (by kernel_rfl) (fun _ _ _ h => h) (Or.inl ⟨by rfl, ?yn20⟩) (by assumption) ?rn20
                case yn20 => (intro w hSw; (try dsimp only at hSw); go_simp; try with_reducible rfl)
                try simp only [Act.put, List.setIfInBounds_toArray, List.set_cons_zero, List.set_cons_succ, List.getElem_toArray, List.getElem_cons_zero, List.getElem_cons_succ]
                refine wpAnyH_take (i := 21) (v := ?vn21) rfl (by kernel_rfl) (by kernel_rfl) (by kernel_rfl) (fun _ _ _ h => h) (Or.inl ⟨by rfl, ?yn21⟩) (by assumption) ?rn21
                case yn21 => (intro w hSw; (try dsimp only at hSw); go_simp; try with_reducible rfl)
                try simp only [Act.put, List.setIfInBounds_toArray, List.set_cons_zero, List.set_cons_succ, List.getElem_toArray, List.getElem_cons_zero, List.getElem_cons_succ]
                refine wpAnyH_take (i := 22) (v := ?vn22) rfl (by kernel_rfl) (by kernel_rfl) (by kernel_rfl) (fun _ _ _ h => h) (Or.inl ⟨by rfl, ?yn22⟩) (by assumption) ?rn22
                case yn22 => (intro w hSw; (try dsimp only at hSw); go_simp; try with_reducible rfl)
                try simp only [Act.put, List.setIfInBounds_toArray, List.set_cons_zero, List.set_cons_succ, List.getElem_toArray, List.getElem_cons_zero, List.getElem_cons_succ]
                refine wpAnyH_take (i := 23) (v := ?vn23) rfl (by kernel_rfl) (by kernel_rfl) (by kernel_rfl) (fun _ _ _ h => h) (Or.inl ⟨by rfl, ?yn23⟩) (by assumption) ?rn23
                case yn23 => (intro w hSw; (try dsimp only at hSw); go_simp; try with_reducible rfl)
                try simp only [Act.put, List.setIfInBounds_toArray, List.set_cons_zero, List.set_cons_succ, List.getElem_toArray, List.getElem_cons_zero, List.getElem_cons_succ]
                refine wpAnyH_take (i := 24) (v := ?vn24) rfl (by kernel_rfl) (by kernel_rfl) (by kernel_rfl) (fun _ _ _ h => h) (Or.inl ⟨by rfl, ?yn24⟩) (by assumption) ?rn24
                case yn24 => (intro w hSw; (try dsimp only at hSw); go_simp; try with_reducible rfl)
                try simp only [Act.put, List.setIfInBounds_toArray, List.set_cons_zero, List.set_cons_succ, List.getElem_toArray, List.getElem_cons_zero, List.getElem_cons_succ]
                refine wpAnyH_take (i := 25) (v := ?vn25) rfl (by kernel_rfl) (by kernel_rfl) (by kernel_rfl) (fun _ _ _ h => h) (Or.inl ⟨by rfl, ?yn25⟩) (by assumption) ?rn25
                case yn25 => (intro w hSw; (try dsimp only at hSw); go_simp; try with_reducible rfl)
                try simp only [Act.put, List.setIfInBounds_toArray, List.set_cons_zero, List.set_cons_succ, List.getElem_toArray, List.getElem_cons_zero, List.getElem_cons_succ]
                refine wpAnyH_take (i := 26) (v := ?vn26) rfl (by kernel_rfl) (by kernel_rfl) (by kernel_rfl) (fun _ _ _ h => h) (Or.inl ⟨by rfl, ?yn26⟩) (by assumption) ?rn26
                case yn26 => (intro w hSw; (try dsimp only at hSw); go_simp; try with_reducible rfl)
                try simp only [Act.put, List.setIfInBounds_toArray, List.set_cons_zero, List.set_cons_succ, List.getElem_toArray, List.getElem_cons_zero, List.getElem_cons_succ]
                refine wpAnyH_take (i := 27) (v := ?vn27) rfl (by kernel_rfl) (by kernel_rfl) (by kernel_rfl) (fun _ _ _ h => h) (Or.inl ⟨by rfl, ?yn27⟩) (by assumption) ?rn27
                case yn27 => (intro w hSw; (try dsimp only at hSw); go_simp; try with_reducible rfl)
                try simp only [Act.put, List.setIfInBounds_toArray, List.set_cons_zero, List.set_cons_succ, List.getElem_toArray, List.getElem_cons_zero, List.getElem_cons_succ]
                refine wpAnyH_take (i := 28) (v := ?vn28) rfl (by kernel_rfl) (by kernel_rfl) (by kernel_rfl) (fun _ _ _ h => h) (Or.inl ⟨by rfl, ?yn28⟩) (by assumption) ?rn28
                case yn28 => (intro w hSw; (try dsimp only at hSw); go_simp; try with_reducible rfl)
                try simp only [Act.put, List.setIfInBounds_toArray, List.set_cons_zero, List.set_cons_succ, List.getElem_toArray, List.getElem_cons_zero, List.getElem_cons_succ]
                refine wpAnyH_take (i := 29) (v := ?vn29) rfl (by kernel_rfl) (by kernel_rfl) (by kernel_rfl) (fun _ _ _ h => h) (Or.inl ⟨by rfl, ?yn29⟩) (by assumption) ?rn29
                case yn29 => (intro w hSw; (try dsimp only at hSw); go_simp; try with_reducible rfl)
                try simp only [Act.put, List.setIfInBounds_toArray, List.set_cons_zero, List.set_cons_succ, List.getElem_toArray, List.getElem_cons_zero, List.getElem_cons_succ]
                refine wpAnyH_take (i := 30) (v := ?vn30) rfl (by kernel_rfl) (by kernel_rfl) (by kernel_rfl) (fun _ _ _ h => h) (Or.inl ⟨by rfl, ?yn30⟩) (by assumption) ?rn30
                case yn30 => (intro w hSw; (try dsimp only at hSw); go_simp; try with_reducible rfl)
                try simp only [Act.put, List.setIfInBounds_toArray, List.set_cons_zero, List.set_cons_succ, List.getElem_toArray, List.getElem_cons_zero, List.getElem_cons_succ]
                refine wpAnyH_take (i := 31) (v := ?vn31) rfl (by kernel_rfl) (by kernel_rfl) (by kernel_rfl) (fun _ _ _ h => h) (Or.inl ⟨by rfl, ?yn31⟩) (by assumption) ?rn31
                case yn31 => (intro w hSw; (try dsimp only at hSw); go_simp; try with_reducible rfl)
                try simp only [Act.put, List.setIfInBounds_toArray, List.set_cons_zero, List.set_cons_succ, List.getElem_toArray, List.getElem_cons_zero, List.getElem_cons_succ]
                refine wpAnyH_take (i := 32) (v := ?vn32) rfl (by kernel_rfl) (by kernel_rfl) (by kernel_rfl) (fun _ _ _ h => h) (Or.inl ⟨by rfl, ?yn32⟩) (by assumption) ?rn32
                case yn32 => (intro w hSw; (try dsimp only at hSw); go_simp; try with_reducible rfl)
                try simp only [Act.put, List.setIfInBounds_toArray, List.set_cons_zero, List.set_cons_succ, List.getElem_toArray, List.getElem_cons_zero, List.getElem_cons_succ]
                refine wpAnyH_take (i := 33) (v := ?vn33) rfl (by kernel_rfl) (by kernel_rfl) (by kernel_rfl) (fun _ _ _ h => h) (Or.inl ⟨by rfl, ?yn33⟩) (by assumption) ?rn33
                case yn33 => (intro w hSw; (try dsimp only at hSw); go_simp; try with_reducible rfl)
                try simp only [Act.put, List.setIfInBounds_toArray, List.set_cons_zero, List.set_cons_succ, List.getElem_toArray, List.getElem_cons_zero, List.getElem_cons_succ]
                refine wpAnyH_take (i := 34) (v := ?vn34) rfl (by kernel_rfl) (by kernel_rfl) (by kernel_rfl) (fun _ _ _ h => h) (Or.inl ⟨by rfl, ?yn34⟩) (by assumption) ?rn34
                case yn34 => (intro w hSw; (try dsimp only at hSw); go_simp; try with_reducible rfl)
                try simp only [Act.put, List.setIfInBounds_toArray, List.set_cons_zero, List.set_cons_succ, List.getElem_toArray, List.getElem_cons_zero, List.getElem_cons_succ]
                refine wpAnyH_take (i := 35) (v := ?vn35) rfl (by kernel_rfl) (by kernel_rfl) (by kernel_rfl) (fun _ _ _ h => h) (Or.inl ⟨by rfl, ?yn35⟩) (by assumption) ?rn35
                case yn35 => (intro w hSw; (try dsimp only at hSw); go_simp; try with_reducible rfl)
                try simp only [Act.put, List.setIfInBounds_toArray, List.set_cons_zero, List.set_cons_succ, List.getElem_toArray, List.getElem_cons_zero, List.getElem_cons_succ]
                refine wpAnyH_take (i := 36) (v := ?vn36) rfl (by kernel_rfl) (by kernel_rfl) (by kernel_rfl) (fun _ _ _ h => h) (Or.inl ⟨by rfl, ?yn36⟩) (by assumption) ?rn36
                case yn36 => (intro w hSw; (try dsimp only at hSw); go_simp; try with_reducible rfl)
                try simp only [Act.put, List.setIfInBounds_toArray, List.set_cons_zero, List.set_cons_succ, List.getElem_toArray, List.getElem_cons_zero, List.getElem_cons_succ]
                refine wpAnyH_take (i := 37) (v := ?vn37) rfl (by kernel_rfl) (by kernel_rfl) (by kernel_rfl) (fun _ _ _ h => h) (Or.inl ⟨by rfl, ?yn37⟩) (by assumption) ?rn37
                case yn37 => (intro w hSw; (try dsimp only at hSw); go_simp; try with_reducible rfl)
                try simp only [Act.put, List.setIfInBounds_toArray, List.set_cons_zero, List.set_cons_succ, List.getElem_toArray, List.getElem_cons_zero, List.getElem_cons_succ]
                refine wpAnyH_take (i := 38) (v := ?vn38) rfl (by kernel_rfl) (by kernel_rfl) (by kernel_rfl) (fun _ _ _ h => h) (Or.inl ⟨by rfl, ?yn38⟩) (by assumption) ?rn38
                case yn38 => (intro w hSw; (try dsimp only at hSw); go_simp; try with_reducible rfl)
                try simp only [Act.put, List.setIfInBounds_toArray, List.set_cons_zero, List.set_cons_succ, List.getElem_toArray, List.getElem_cons_zero, List.getElem_cons_succ]
                refine wpAnyH_take (i := 39) (v := ?vn39) rfl (by kernel_rfl) (by kernel_rfl) (by kernel_rfl) (fun _ _ _ h => h) (Or.inl ⟨by rfl, ?yn39⟩) (by assumption) ?rn39
                case yn39 => (intro w hSw; (try dsimp only at hSw); go_simp; try with_reducible rfl)
                try simp only [Act.put, List.setIfInBounds_toArray, List.set_cons_zero, List.set_cons_succ, List.getElem_toArray, List.getElem_cons_zero, List.getElem_cons_succ]
                refine wpAnyH_take (i := 40) (v := ?vn40) rfl (by kernel_rfl) (by kernel_rfl) (by kernel_rfl) (fun _ _ _ h => h) (Or.inl ⟨by rfl, ?yn40⟩) (by assumption) ?rn40
                case yn40 => (intro w hSw; (try dsimp only at hSw); go_simp; try with_reducible rfl)
                try simp only [Act.put, List.setIfInBounds_toArray, List.set_cons_zero, List.set_cons_succ, List.getElem_toArray, List.getElem_cons_zero, List.getElem_cons_succ]
                refine wpAnyH_take (i := 41) (v := ?vn41) rfl (by kernel_rfl) (by kernel_rfl) (by kernel_rfl) (fun _ _ _ h => h) (Or.inl ⟨by rfl, ?yn41⟩) (by assumption) ?rn41
                case yn41 => (intro w hSw; (try dsimp only at hSw); go_simp; try with_reducible rfl)
                try simp only [Act.put, List.setIfInBounds_toArray, List.set_cons_zero, List.set_cons_succ, List.getElem_toArray, List.getElem_cons_zero, List.getElem_cons_succ]
                refine wpAnyH_take (i := 42) (v := ?vn42) rfl (by kernel_rfl) (by kernel_rfl) (by kernel_rfl) (fun _ _ _ h => h) (Or.inl ⟨by rfl, ?yn42⟩) (by assumption) ?rn42
                case yn42 => (intro w hSw; (try dsimp only at hSw); go_simp; try with_reducible rfl)
                try simp only [Act.put, List.setIfInBounds_toArray, List.set_cons_zero, List.set_cons_succ, List.getElem_toArray, List.getElem_cons_zero, List.getElem_cons_succ]
                refine wpAnyH_take (i := 43) (v := ?vn43) rfl (by kernel_rfl) (by kernel_rfl) (by kernel_rfl) (fun _ _ _ h => h) (Or.inl ⟨by rfl, ?yn43⟩) (by assumption) ?rn43
                case yn43 => (intro w hSw; (try dsimp only at hSw); go_simp; try with_reducible rfl)
                try simp only [Act.put, List.setIfInBounds_toArray, List.set_cons_zero, List.set_cons_succ, List.getElem_toArray, List.getElem_cons_zero, List.getElem_cons_succ]
                refine wpAnyH_take (i := 44) (v := ?vn44) rfl (by kernel_rfl) (by kernel_rfl) (by kernel_rfl) (fun _ _ _ h => h) (Or.inl ⟨by rfl, ?yn44⟩) (by assumption) ?rn44
                case yn44 => (intro w hSw; (try dsimp only at hSw); go_simp; try with_reducible rfl)
                try simp only [Act.put, List.setIfInBounds_toArray, List.set_cons_zero, List.set_cons_succ, List.getElem_toArray, List.getElem_cons_zero, List.getElem_cons_succ]
                refine wpAnyH_take (i := 45) (v := ?vn45) rfl (by kernel_rfl) (by kernel_rfl) (by kernel_rfl) (fun _ _ _ h => h) (Or.inl ⟨by rfl, ?yn45⟩) (by assumption) ?rn45
                case yn45 => (intro w hSw; (try dsimp only at hSw); go_simp; try with_reducible rfl)
                try simp only [Act.put, List.setIfInBounds_toArray, List.set_cons_zero, List.set_cons_succ, List.getElem_toArray, List.getElem_cons_zero, List.getElem_cons_succ]
                refine wpAnyH_take (i := 46) (v := ?vn46) rfl (by kernel_rfl) (by kernel_rfl) (by kernel_rfl) (fun _ _ _ h => h) (Or.inl ⟨by rfl, ?yn46⟩) (by assumption) ?rn46
                case yn46 => (intro w hSw; (try dsimp only at hSw); go_simp; try with_reducible rfl)
                try simp only [Act.put, List.setIfInBounds_toArray, List.set_cons_zero, List.set_cons_succ, List.getElem_toArray, List.getElem_cons_zero, List.getElem_cons_succ]
                refine wpAnyH_take (i := 47) (v := ?vn47) rfl (by kernel_rfl) (by kernel_rfl) (by kernel_rfl) (fun _ _ _ h => h) (Or.inl ⟨by rfl, ?yn47⟩) (by assumption) ?rn47
                case yn47 => (intro w hSw; (try dsimp only at hSw); go_simp; try with_reducible rfl)
                try simp only [Act.put, List.setIfInBounds_toArray, List.set_cons_zero, List.set_cons_succ, List.getElem_toArray, List.getElem_cons_zero, List.getElem_cons_succ]
                refine wpAnyH_take (i := 48) (v := ?vn48) rfl (by kernel_rfl) (by kernel_rfl) (by kernel_rfl) (fun _ _ _ h => h) (Or.inl ⟨by rfl, ?yn48⟩) (by assumption) ?rn48
                case yn48 => (intro w hSw; (try dsimp only at hSw); go_simp; try with_reducible rfl)
                try simp only [Act.put, List.setIfInBounds_toArray, List.set_cons_zero, List.set_cons_succ, List.getElem_toArray, List.getElem_cons_zero, List.getElem_cons_succ]
                refine wpAnyH_take (i := 49) (v := ?vn49) rfl (by kernel_rfl) (by kernel_rfl) (by kernel_rfl) (fun _ _ _ h => h) (Or.inl ⟨by rfl, ?yn49⟩) (by assumption) ?rn49
                case yn49 => (intro w hSw; (try dsimp only at hSw); go_simp; try with_reducible rfl)
                try simp only [Act.put, List.setIfInBounds_toArray, List.set_cons_zero, List.set_cons_succ, List.getElem_toArray, List.getElem_cons_zero, List.getElem_cons_succ]
                refine wpAnyH_done (by kernel_rfl) ?_ _
                go_wp2
                go_meet
                exact ⟨rfl, ((Below.refl _ w9).drew.trans hb10).trans (hb11.mono (by have := hb10.size; simpa using this))⟩
            case rest =>
              obtain ⟨rfl, hbw⟩ := hcut
              have HBN := Lib.hid (bstep HB9.out hbw)
              clear hbw l0 h0 h1 h2 t3 t4 hrg heq
              go_wp2
              go_roundw
              case rel => exact ⟨x + 1, by omega, by go_num, HBN.out⟩
              case measure => simp [intOf]; omega
          · obtain rfl : x = M.length := by omega
            have hki : ¬ (M.length : Int) < (M.length : Int) := by omega
            have hk50 : k < 50 := HLK.out.2
            go_wp2
            go_roundw
            case rel => exact ⟨k + 1, by have := HLK.out; omega, by have := HLK.out; omega, by go_num, R2, F2, HR2.out, HS7.out.below HBX.out, HK2.out, HW7.out.step HBX.out⟩
            case measure => have := HLK.out; simp [intOf]; omega
end Go.Proofs.Ytjfmgplhcinkfaa
