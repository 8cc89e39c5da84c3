/- ShardPut, walked. -/
import Derived.Test.YtjfmgplhcinkfaaGS28
import Derived.Deep.RegionHeld3
import Derived.Deep.DeepCutAuto
namespace Go.Proofs.Ytjfmgplhcinkfaa
open Go.RowKit Go.Shelf
set_option linter.unusedVariables false
set_option linter.unusedSimpArgs false

set_option maxRecDepth 100000 in
set_option maxHeartbeats 6400000 in
theorem walkShardPut (w : World) (a : Option Addr) (l : List O13) (cap : Nat) (hl : l.length ≤ 9223372036854775807) (hin : ∀ o ∈ l, o.In) (hr : RowIn KO13 w a l) (oo : O13) (hoo : oo.In) (n : Int) (hnw : (Lit.int .i64 n).wf = true) :
    Calls Try.prog 8 #[.slice a l.length cap, .agg (cs13 oo).toArray, .int .i64 n] w fun e w' => e = .returned (.bool true) ∧ Below w.heap.size w w' := by
  have HR := Lib.hid hr
  have HIN := Lib.hid hin
  have HVE := Lib.hid (fun W => version13_any oo hoo W)
  have HVB : Hid (∀ W, VwB W (verO oo)) := Lib.hid (fun W => verO_bd oo hoo)
  have HVP := Lib.hid (verO_past oo)
  generalize verO oo = X at HVE HVB HVP
  obtain ⟨g0, g1, g2, g3, gr, gv, gw, gg, ⟨gs, gt⟩, ⟨gpa, gpn, gpc⟩, gpk, gp, gq⟩ := oo
  dsimp only [cs13] at *
  clear hr hin hoo hnw
  obtain ⟨wb, hwb⟩ : ∃ wb, w.alloc (.cells #[.int .i64 g0, .int .i64 g1, .int .i64 g2, .int .i64 g3, .bool gr, .string gv, .string gw, .bool gg, .int .i64 gs, .int .i64 gt, .slice gpa gpn gpc, .string gpk, .int .i64 gp, .int .i64 gq] 36) = wb := ⟨_, rfl⟩
  have HBB : Hid (Below w.heap.size w wb) := Lib.hid (by rw [← hwb]; exact balloc (Below.refl _ _) _)
  have HCB : Hid (∀ j u, ([.int .i64 g0, .int .i64 g1, .int .i64 g2, .int .i64 g3, .bool gr, .string gv, .string gw, .bool gg, .int .i64 gs, .int .i64 gt, .slice gpa gpn gpc, .string gpk, .int .i64 gp, .int .i64 gq] : List Value)[j]? = some u → wb.cell? ⟨w.heap.size, j, none⟩ = some u) := Lib.hid (fun j u hu => by rw [← hwb]; simpa using hu)
  have HZB : Hid (wb.heap.size = w.heap.size + 1) := Lib.hid (by rw [← hwb]; simp)
  go_enter Try.func8, Try.ntmps8
  go_upto_region 1 with fail
  try rw [hwb]
  clear hwb
  go_wp2_with fail
  refine (awake13_any _).mono ?_
  rintro e w1 ⟨rfl, hb1⟩
  have HB1b := Lib.hid hb1
  have HB1 : Hid (Below w.heap.size w w1) := Lib.hid (bstep HBB.out hb1)
  clear hb1
  go_wp2_with fail
  refine (ranges13_any 0 _).mono ?_
  rintro e w2 ⟨v2, rfl, ho2, hb2⟩
  have HB2 := Lib.hid (bstep HB1.out hb2)
  have hnew := snew_any v2 (rngsOf 0) w2 (by have := rngsOf_len 0; omega) (RowAt.of_own kr_ok ho2)
  obtain ⟨ra, rc, rfl⟩ := ho2.shape
  have HRL : Hid ((rngsOf 0).length ≤ 100) := Lib.hid (by have := rngsOf_len 0; omega)
  have HB2b := Lib.hid (bstep HB1b.out hb2)
  clear ho2 hb2
  generalize rngsOf 0 = R at hnew HRL
  go_wp2_with fail
  refine hnew.mono ?_
  rintro e w3 ⟨b, S, rfl, hsd, hS, hb3⟩
  have HN0 := ShA.of_new hsd hS hb3.size
  have HN23 : Hid (∀ (p : Addr) (u : Value), w2.cell? p = some u → w3.cell? p = some u) := Lib.hid (fun p u h => kcell13 hb3 h)
  have HB3 := Lib.hid (bstep HB2.out hb3)
  obtain ⟨A, hA⟩ : ∃ A : Nat → Prop, A = fun j => j < w2.heap.size := ⟨_, rfl⟩
  rw [← hA] at HN0
  have HN := Lib.hid HN0
  have HAA : Hid (∀ j, j < w2.heap.size → A j) := Lib.hid (fun j hj => by rw [hA]; exact hj)
  have HAW : Hid (∀ j, j < w.heap.size → A j) := Lib.hid (fun j hj => HAA.out j (by have := HB2.out.size; omega))
  clear hsd hS hb3 HN0 hnew hA
  go_wp2
  go_loopw [9] (fun i wr => ∃ k : Nat, k ≤ l.length ∧ k ≤ 30 ∧ i = .int .i64 k ∧ ShA wr A k b R (putAll R (l.take k)) ∧ Wr A w3 wr) (fun i _ => 30 - (intOf i).toNat)
  case atStart => exact ⟨0, by omega, by omega, rfl, HN.out, Mv.refl _ _⟩
  case round =>
    obtain ⟨k, hkl, hkN, rfl, hsh, hwr⟩ := hrel
    have HSH := Lib.hid hsh
    have HWR := Lib.hid hwr
    have HKL := Lib.hid (And.intro hkl hkN)
    clear hsh hwr hkl hkN HN
    go_upto_region 6 with (fail)
    go_cut [34] (fun t wx => ∃ c : Bool, t = .bool c ∧ Hid (c = true → k < l.length ∧ k < 30) ∧ wx = wr)
    case first =>
      obtain ⟨hkl, hkN⟩ := HKL.out
      by_cases hxl : k < l.length
      · have hxli : (k : Int) < (l.length : Int) := by omega
        by_cases hx10 : k < 30
        · have hxi : (k : Int) < 30 := by omega
          have HC : Hid (k < l.length ∧ k < 30) := Lib.hid ⟨hxl, hx10⟩
          go_wp2
          go_meet
          exact ⟨_, rfl, Lib.hid (fun _ => HC.out), rfl⟩
        · have q1 : decide ((k : Int) < 30) = false := by simp; omega
          go_wp2
          go_meet
          exact ⟨false, rfl, Lib.hid (fun h => by cases h), rfl⟩
      · have q1 : decide ((k : Int) < (l.length : Int)) = false := by simp; omega
        have q2 : decide (k < l.length) = false := by simp; omega
        go_wp2
        go_meet
        exact ⟨false, rfl, Lib.hid (fun h => by cases h), rfl⟩
    case rest =>
      obtain ⟨c, rfl, HC, rfl⟩ := hcut
      obtain ⟨wr, hwr0⟩ : ∃ wr, wr = wc := ⟨_, rfl⟩
      subst hwr0
      cases c with
      | true =>
        obtain ⟨hlt, hkN⟩ := HC.out rfl
        have HBW : Hid (Below w.heap.size w wr) := Lib.hid (HB3.out.trans (HWR.out.below (fun j hj => HAW.out j hj) HB3.out.size))
        obtain ⟨ab, aoff, rfl, hbl, hcell⟩ := (HR.out.below HBW.out).op13 k hlt
        have HOI := Lib.hid (HIN.out _ (List.getElem_mem hlt))
        have HTK : Hid (putAll R (l.take (k + 1)) = putF R (putAll R (l.take k)) (verO l[k])) := Lib.hid (by rw [List.take_succ_eq_append_getElem hlt, putAll_snoc])
        have HLN : Hid (∀ d, (putAll R (l.take k) d).length ≤ k) := Lib.hid (fun d => Nat.le_trans (putAll_len R _ d) (List.length_take_le _ _))
        generalize l[k] = o at hcell HOI HTK
        generalize putAll R (l.take k) = F at HSH HTK HLN
        have hve := fun W => version13_any o HOI.out W
        have HVB : Hid (∀ W, VwB W (verO o)) := Lib.hid (fun W => verO_bd o HOI.out)
        have HVP := Lib.hid (verO_past o)
        generalize verO o = x at hve HTK HVB HVP
        obtain ⟨k0, k1, k2, k3, kr, kv, kw, kg, ⟨ks, kt⟩, ⟨kpa, kpn, kpc⟩, kpk, kp, kq⟩ := o
        have c0 := hcell 0 _ rfl
        have c1 := hcell 1 _ rfl
        have c2 := hcell 2 _ rfl
        have c3 := hcell 3 _ rfl
        have c4 := hcell 4 _ rfl
        have c5 := hcell 5 _ rfl
        have c6 := hcell 6 _ rfl
        have c7 := hcell 7 _ rfl
        have c8 := hcell 8 _ rfl
        have c9 := hcell 9 _ rfl
        have c10 := hcell 10 _ rfl
        have c11 := hcell 11 _ rfl
        have c12 := hcell 12 _ rfl
        have c13 := hcell 13 _ rfl
        dsimp only [cs13] at c0 c1 c2 c3 c4 c5 c6 c7 c8 c9 c10 c11 c12 c13 hve
        simp only [Nat.add_zero] at c0
        clear hcell hbl
        have hki : (k : Int) < (l.length : Int) := by omega
        have hk9 : k < 30 := hkN
        have hput := fun W (h : Below wr.heap.size wr W) => lput_any (HSH.out.below h) HRL.out (by omega) x (by have := HLN.out x.1.key; omega) (HVB.out W) HVP.out
        generalize (ownsK R x.1.key && putOk (F x.1.key) x) = is at hput
        have HPUT := Lib.hid hput
        clear hput
        obtain ⟨⟨xk, xv, xg, ⟨xm, xt⟩, xp⟩, xa, xc⟩ := x
        dsimp only [wV, wcs, wvs, pw] at hve HPUT
        go_wp2_with fail
        refine (hve _).mono ?_
        rintro e w4 ⟨rfl, hb4⟩
        have hput := HPUT.out _ hb4
        have HB4 := Lib.hid hb4
        clear hve HPUT c0 c1 c2 c3 c4 c5 c6 c7 c8 c9 c10 c11 c12 c13 hb4
        go_wp2_with fail
        refine hput.mono ?_
        rintro e w5 ⟨rfl, hs5, hw5⟩
        have HS5 := Lib.hid hs5
        have HW5 : Hid (Wr A w3 w5) := Lib.hid ((HWR.out.step HB4.out).trans hw5)
        clear hs5 hw5 hput
        go_wp2
        go_roundw
        case rel => exact ⟨k + 1, by omega, by omega, by go_num, by rw [HTK.out]; exact HS5.out, HW5.out⟩
        case measure => simp [intOf]; omega
      | false =>
        have HFL : Hid (∀ d, (putAll R (l.take k) d).length ≤ 30) := Lib.hid (fun d => by
          have h1 := putAll_len R (l.take k) d
          have h2 := List.length_take_le k l
          have := HKL.out.2
          omega)
        have HFB : Hid (∀ W d, ∀ x ∈ putAll R (l.take k) d, VwB W x) := Lib.hid (fun W d x hx => putAll_bd (fun o ho => HIN.out o (List.mem_of_mem_take ho)) W d x hx)
        generalize putAll R (l.take k) = F at HSH HFL HFB
        have HS0 := Lib.hid (HSH.out.mono HKL.out.2)
        clear HSH HC
        have HBW : Hid (Below w.heap.size w wr) := Lib.hid (HB3.out.trans (HWR.out.below (fun j hj => HAW.out j hj) HB3.out.size))

        have HCR : Hid (∀ j u, ([.int .i64 g0, .int .i64 g1, .int .i64 g2, .int .i64 g3, .bool gr, .string gv, .string gw, .bool gg, .int .i64 gs, .int .i64 gt, .slice gpa gpn gpc, .string gpk, .int .i64 gp, .int .i64 gq] : List Value)[j]? = some u → wr.cell? ⟨w.heap.size, j, none⟩ = some u) := Lib.hid (fun j u hu => by
          have h1 := kc HB2b.out (HCB.out j u hu)
          have hz := HZB.out
          have h2 : w.heap.size < w2.heap.size := lt_of_cellN h1
          have h3 : w3.cell? ⟨w.heap.size, j, none⟩ = some u := HN23.out _ _ h1
          exact HWR.out.cell (fun hn => hn (HAA.out _ h2)) h3)
        have hcell := HCR.out
        have c0 := hcell 0 _ rfl
        have c1 := hcell 1 _ rfl
        have c2 := hcell 2 _ rfl
        have c3 := hcell 3 _ rfl
        have c4 := hcell 4 _ rfl
        have c5 := hcell 5 _ rfl
        have c6 := hcell 6 _ rfl
        have c7 := hcell 7 _ rfl
        have c8 := hcell 8 _ rfl
        have c9 := hcell 9 _ rfl
        have c10 := hcell 10 _ rfl
        have c11 := hcell 11 _ rfl
        have c12 := hcell 12 _ rfl
        have c13 := hcell 13 _ rfl
        have hve := HVE.out wr
        have HM : Hid ((ownsK R X.1.key && putOk (F X.1.key) X) = false → putF R F X = F) := Lib.hid putF_no
        have HA1 : Hid ((ownsK R X.1.key && putOk (F X.1.key) X) = true → lastP (isS X.1.st) (putF R F X X.1.key) = some X) := Lib.hid put_at
        have HA2 := Lib.hid (put_again R F X)
        have HA3 : Hid ((ownsK R X.1.key && putOk (F X.1.key) X) = true → (lastP (isS X.1.st) (F X.1.key)).isSome = false) := Lib.hid put_there
        have HOT : Hid (∀ d, d ≠ X.1.key → putF R F X d = F d) := Lib.hid (fun d hd => put_other R F X hd)
        have HKS : Hid (X.1.key.size ≤ maxLen) := Lib.hid (by have := (HVB.out w).1.key; unfold maxLen; exact this)
        have HFL2 : Hid (∀ d, (putF R F X d).length ≤ 31) := Lib.hid (putF_len R F X HFL.out)
        have hsW := fun W => refWSameB_any X.1 X.1 (pw X) (pw X) W (HVB.out W).1 (HVB.out W).1
        rw [sameW_self] at hsW
        have HPU := Lib.hid (fun (W : World) (A' : Nat → Prop) (N : Nat) (F' : Ch) (h : ShA W A' N b R F') (hN : N ≤ 100) (hl : (F' X.1.key).length ≤ 31) => lput_any h HRL.out (by omega) X (by omega) (HVB.out W) HVP.out)
        have HAT := Lib.hid (fun (W : World) (A' : Nat → Prop) (N : Nat) (F' : Ch) (h : ShA W A' N b R F') (hl : (F' X.1.key).length ≤ 31) => lat_any h X.1.key X.1.st HKS.out (by omega))
        have HSW := Lib.hid hsW
        have HVN := Lib.hid (fun W => VwP.new W X.1 (pw X) 32)
        have HFB2 := Lib.hid (putF_bd (R := R) HFB.out HVB.out)
        generalize hF' : putF R F X = F' at HM HA1 HA2 HOT HFL2 HFB2
        have HFE := Lib.hid hF'
        clear hF'
        have HFLX : Hid ((F X.1.key).length ≤ 31) := Lib.hid (by have := HFL.out X.1.key; omega)
        have HFLY : Hid ((F' X.1.key).length ≤ 31) := Lib.hid (HFL2.out _)
        have hpu1 := HPU.out
        generalize hI : (ownsK R X.1.key && putOk (F X.1.key) X) = I at HM HA1 HA3
        have HII := Lib.hid hI
        have HXX : Hid (∀ W, VwB W X) := HVB
        clear hI hsW HVE hpu1
        generalize hT : (lastP (isS X.1.st) (F X.1.key)).isSome = T at HA3
        have HTT := Lib.hid hT
        clear hT
        obtain ⟨⟨xk, xv, xg, ⟨xm, xt⟩, xp⟩, xa, xc⟩ := X
        dsimp only [wV, wcs, wvs, pw] at hve HPU HAT HSW HVN HM HA1 HA2 HA3 HOT HKS HFLX HFLY HII HTT HFE
        go_wp2_with fail
        refine hve.mono ?_
        rintro e w4 ⟨rfl, hb4⟩
        have hX := HVN.out w4
        obtain ⟨w5, hw5⟩ : ∃ w5, w4.alloc (.cells #[.string xk, .string xv, .bool xg, .int .i64 xm, .int .i64 xt, .slice xa xp.length xc] 32) = w5 := ⟨_, rfl⟩
        rw [hw5] at hX
        have hb5 : Below w4.heap.size w4 w5 := by rw [← hw5]; exact balloc (Below.refl _ _) _
        have HX5 := Lib.hid hX
        have HB5 := Lib.hid (bstep hb4 hb5)
        have HLO : Hid (wr.heap.size ≤ w4.heap.size ∧ w4.heap.size < w5.heap.size) := Lib.hid ⟨hb4.size, HX5.out.lt⟩
        clear c0 c1 c2 c3 c4 c5 c6 c7 c8 c9 c10 c11 c12 c13 hve hb4 hb5 hX hcell HVN
        go_upto_region 10 with fail
        try rw [hw5]
        clear hw5
        go_wp2_with fail
        refine (word13_any n _).mono ?_
        rintro e w6 ⟨rfl, hb6⟩
        have HKZ : Hid ((wordK n).size ≤ maxLen) := Lib.hid (by rw [wordK_size]; unfold maxLen; omega)
        generalize wordK n = K at HKZ
        have hch := lchain_any ((HS0.out.below HB5.out).below hb6) K HKZ.out (by have := HFL.out K; omega)
        have HB6 := Lib.hid (bstep HB5.out hb6)
        have HX6 := Lib.hid (HX5.out.keep hb6)
        clear hb6 HX5
        go_wp2_with fail
        refine hch.mono ?_
        rintro e w7 ⟨v7, rfl, ho7, hb7⟩
        obtain ⟨a7, q7, rfl⟩ := ho7.shape
        have HB7 := Lib.hid (bstep HB6.out hb7)
        have HX7 := Lib.hid (HX6.out.keep hb7)
        have HO7 : Hid (OwnR KW w7 wr.heap.size (.slice a7 (F K).length q7) (F K)) := Lib.hid (ho7.mono (by have := HB6.out.size; omega))
        clear ho7 hb7 HX6 hch
        obtain ⟨x0, x1, x2, x3, x4, x5, _⟩ := HX7.out
        dsimp only at x0 x1 x2 x3 x4 x5
        have hat := HAT.out w7 _ _ _ (HS0.out.below HB7.out) HFLX.out
        rw [HTT.out] at hat
        generalize (lastP (isS (xm, xt)) (F xk)).getD vw0 = Y at hat
        obtain ⟨⟨yk, yv, yg, ⟨ym, yt⟩, yp⟩, ya, yc⟩ := Y
        dsimp only [wV, wcs, wvs, pw] at hat
        go_wp2_with fail
        refine hat.mono ?_
        rintro e w8 ⟨rfl, hb8⟩
        obtain ⟨w9, hw9⟩ : ∃ w9, w8.alloc (.cells #[.string yk, .string yv, .bool yg, .int .i64 ym, .int .i64 yt, .slice ya yp.length yc] 32) = w9 := ⟨_, rfl⟩
        have hb9 : Below w8.heap.size w8 w9 := by rw [← hw9]; exact balloc (Below.refl _ _) _
        have HB9 := Lib.hid (bstep HB7.out (bstep hb8 hb9))
        have HX9 := Lib.hid (HX7.out.keep (bstep hb8 hb9))
        have HO9 := Lib.hid (HO7.out.below (bstep hb8 hb9))
        have HS9 := Lib.hid (HS0.out.more HB9.out)
        clear x0 x1 x2 x3 x4 x5 hat hb8 hb9 HX7 HO7
        go_upto_region 13 with fail
        try rw [hw9]
        clear hw9
        obtain ⟨x0, x1, x2, x3, x4, x5, _⟩ := HX9.out
        dsimp only at x0 x1 x2 x3 x4 x5
        have hput := HPU.out w9 _ _ _ HS9.out (by omega) HFLX.out
        rw [HII.out] at hput
        go_wp2_with fail
        refine hput.mono ?_
        rintro e w10 ⟨rfl, hs10, hw10⟩
        rw [HFE.out] at hs10
        have HLL := HLO.out
        have HL9 : Hid (w4.heap.size < w9.heap.size) := Lib.hid HX9.out.lt
        have HX10 := Lib.hid (HX9.out.mv hw10 (fun hn => hn (.inr ⟨HLL.1, HX9.out.lt⟩)))
        have HO10 := Lib.hid (Wr.own hw10 HO9.out (fun j h1 h2 => .inr ⟨h1, h2⟩))
        have HB10 : Hid (Below w.heap.size w w10) := Lib.hid ((bstep HBW.out HB9.out).trans (hw10.below (fun j hj => .inl (HAW.out j hj)) (by have := HBW.out.size; have := HB9.out.size; omega)))
        have HS10 := Lib.hid hs10
        clear x0 x1 x2 x3 x4 x5 hput hs10 hw10 HX9 HO9
        have hch := lchain_any HS10.out K HKZ.out (by have := HFL2.out K; omega)
        go_wp2_with fail
        refine hch.mono ?_
        rintro e w11 ⟨v11, rfl, ho11, hb11⟩
        obtain ⟨a11, q11, rfl⟩ := ho11.shape
        have hsm := rsame_any (.slice a7 (F K).length q7) (.slice a11 (F' K).length q11) (F K) (F' K) w11 (by have := HFL.out K; omega) (by have := HFL2.out K; omega) (WRow.of_own (HO10.out.below hb11) (HFB.out w11 K)) (WRow.of_own ho11 (HFB2.out w11 K))
        have HSM : Hid (F' K = F K → sameL (F K) (F' K) = true) := Lib.hid (fun h => by rw [h]; exact sameL_self _)
        generalize sameL (F K) (F' K) = sm at hsm HSM
        have HB11 := Lib.hid hb11
        clear hch ho11 hb11 HO10
        go_wp2_with fail
        refine hsm.mono ?_
        rintro e w12 ⟨rfl, hb12⟩
        have HB12 := Lib.hid (bstep HB11.out hb12)
        have HX12 := Lib.hid (HX10.out.keep HB12.out)
        obtain ⟨x0, x1, x2, x3, x4, x5, _⟩ := HX12.out
        dsimp only at x0 x1 x2 x3 x4 x5
        have hat := HAT.out w12 _ _ _ (HS10.out.below HB12.out) HFLY.out
        have HG : Hid (I = true → (lastP (isS (xm, xt)) (F' xk)).isSome = true) := Lib.hid (fun h => by rw [HA1.out h]; rfl)
        generalize (lastP (isS (xm, xt)) (F' xk)).isSome = G at hat HG
        have HEQ : Hid (I = true → sameW ⟨xk, xv, xg, (xm, xt), xp⟩ ((lastP (isS (xm, xt)) (F' xk)).getD vw0).1 = true) := Lib.hid (fun h => by rw [HA1.out h]; exact sameW_self _)
        have hsW := fun W => refWSameB_any ⟨xk, xv, xg, (xm, xt), xp⟩ ((lastP (isS (xm, xt)) (F' xk)).getD vw0).1 (.slice xa xp.length xc) (pw ((lastP (isS (xm, xt)) (F' xk)).getD vw0)) W (HXX.out W).1 (lastP_bd (HFB2.out W xk)).1
        generalize sameW ⟨xk, xv, xg, (xm, xt), xp⟩ ((lastP (isS (xm, xt)) (F' xk)).getD vw0).1 = E at hsW HEQ
        generalize (lastP (isS (xm, xt)) (F' xk)).getD vw0 = Y2 at hat hsW
        obtain ⟨⟨zk, zv, zg, ⟨zm, zt⟩, zp⟩, za, zc⟩ := Y2
        dsimp only [wV, wcs, wvs, pw] at hat hsW
        have HSW2 := Lib.hid hsW
        clear hsm hb12 hsW HA1 HSW
        go_wp2_with fail
        refine hat.mono ?_
        rintro e w13 ⟨rfl, hb13⟩
        obtain ⟨w14, hw14⟩ : ∃ w14, w13.alloc (.cells #[.string zk, .string zv, .bool zg, .int .i64 zm, .int .i64 zt, .slice za zp.length zc] 32) = w14 := ⟨_, rfl⟩
        have hZ := VwP.new w13 ⟨zk, zv, zg, (zm, zt), zp⟩ (.slice za zp.length zc) 32
        dsimp only [wvs] at hZ
        rw [hw14] at hZ
        have hb14 : Below w13.heap.size w13 w14 := by rw [← hw14]; exact balloc (Below.refl _ _) _
        have HB14 := Lib.hid (bstep HB12.out (bstep hb13 hb14))
        have HX14 := Lib.hid (HX12.out.keep (bstep hb13 hb14))
        have HZ := Lib.hid hZ
        clear x0 x1 x2 x3 x4 x5 hat hb13 hb14 HX10 HX12 hZ
        go_upto_region 17 with fail
        try rw [hw14]
        clear hw14
        obtain ⟨x0, x1, x2, x3, x4, x5, _⟩ := HX14.out
        dsimp only at x0 x1 x2 x3 x4 x5
        obtain ⟨z0, z1, z2, z3, z4, z5, _⟩ := HZ.out
        dsimp only at z0 z1 z2 z3 z4 z5
        go_wp2_with fail
        refine (HSW2.out _).mono ?_
        rintro e w15 ⟨rfl, hb15⟩
        have HX15 := Lib.hid (HX14.out.keep hb15)
        have hput := HPU.out w15 _ _ _ (HS10.out.below (bstep HB14.out hb15)) (by omega) HFLY.out
        rw [HA2.out] at hput
        have HB15 : Hid (Below w.heap.size w w15) := Lib.hid (bstep HB10.out (bstep HB14.out hb15))
        clear x0 x1 x2 x3 x4 x5 z0 z1 z2 z3 z4 z5 hb15
        obtain ⟨x0, x1, x2, x3, x4, x5, _⟩ := HX15.out
        dsimp only at x0 x1 x2 x3 x4 x5
        go_wp2_with fail
        refine hput.mono ?_
        rintro e w16 ⟨rfl, hs16, hw16⟩
        have HX16 := Lib.hid (HX15.out.mv hw16 (fun hn => hn (.inr ⟨HLL.1, HL9.out⟩)))
        have HB16 : Hid (Below w.heap.size w w16) := Lib.hid (HB15.out.trans (hw16.below (fun j hj => .inl (HAW.out j hj)) HB15.out.size))
        clear x0 x1 x2 x3 x4 x5 hput hs16 hw16 HX14 HX15 HLL
        have x0 := HX16.out.c0
        dsimp only at x0
        cases I with
        | false =>
          have hsm : sm = true := HSM.out (by rw [HM.out rfl])
          subst hsm
          by_cases hk : K = xk
          · subst hk
            go_wp2
            go_ret
            exact ⟨rfl, HB16.out⟩
          · have hk2 : ¬ K.toList = xk.toList := fun e => hk (ba_inj (by rw [← Lib.toList_data, ← Lib.toList_data]; exact e))
            go_wp2
            go_ret
            exact ⟨rfl, HB16.out⟩
        | true =>
          have hT := HA3.out rfl
          have hG := HG.out rfl
          have hE := HEQ.out rfl
          subst hT
          subst hG
          subst hE
          by_cases hk : K = xk
          · subst hk
            go_wp2
            go_ret
            exact ⟨rfl, HB16.out⟩
          · have hk2 : ¬ K.toList = xk.toList := fun e => hk (ba_inj (by rw [← Lib.toList_data, ← Lib.toList_data]; exact e))
            have hsm : sm = true := HSM.out (HOT.out K hk)
            subst hsm
            go_wp2
            go_ret
            exact ⟨rfl, HB16.out⟩
