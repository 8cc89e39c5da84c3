/- ShardMoves, walked. -/
import Derived.Test.YtjfmgplhcinkfaaGS28
import Derived.Deep.RegionHeld3
import Derived.Deep.DeepCutAuto
namespace Go.Proofs.Ytjfmgplhcinkfaa
open Go.RowKit Go.Shelf
set_option linter.unusedVariables false
set_option linter.unusedSimpArgs false

set_option maxRecDepth 100000 in
set_option maxHeartbeats 6400000 in
theorem walkShardMoves (w : World) (a : Option Addr) (l : List O13) (cap : Nat) (hl : l.length ≤ 9223372036854775807) (hin : ∀ o ∈ l, o.In) (hr : RowIn KO13 w a l) (p0 p1 : Int) (hp0 : -9223372036854775808 ≤ p0 ∧ p0 ≤ 9223372036854775807) (hp1 : -9223372036854775808 ≤ p1 ∧ p1 ≤ 9223372036854775807) (n : Int) (hnw : (Lit.int .i64 n).wf = true) :
    Calls Try.prog 6 #[.slice a l.length cap, .agg #[.int .i64 p0, .int .i64 p1], .int .i64 n] w fun e w' => e = .returned (.bool true) ∧ Below w.heap.size w w' := by
  have HR := Lib.hid hr
  have HIN := Lib.hid hin
  clear hr hin hnw hp0 hp1
  obtain ⟨wb, hwb⟩ : ∃ wb, w.alloc (.cells #[.int .i64 p0, .int .i64 p1] 61) = wb := ⟨_, rfl⟩
  have HBB : Hid (Below w.heap.size w wb) := Lib.hid (by rw [← hwb]; exact balloc (Below.refl _ _) _)
  have HCB : Hid (wb.cell? ⟨w.heap.size, 0, none⟩ = some (.int .i64 p0) ∧ wb.cell? ⟨w.heap.size, 1, none⟩ = some (.int .i64 p1)) := Lib.hid (by rw [← hwb]; exact ⟨by simp, by simp⟩)
  go_enter Try.func6, Try.ntmps6
  go_upto_region 1 with fail
  try rw [hwb]
  clear hwb
  go_wp2_with fail
  refine (awake13_any _).mono ?_
  rintro e w1 ⟨rfl, hb1⟩
  have HB1b := Lib.hid hb1
  have HB1 : Hid (Below w.heap.size w w1) := Lib.hid (bstep HBB.out hb1)
  clear hb1
  go_wp2_with fail
  refine (ranges13_any 0 _).mono ?_
  rintro e w2 ⟨v2, rfl, ho2, hb2⟩
  have HB2 := Lib.hid (bstep HB1.out hb2)
  have hnew := snew_any v2 (rngsOf 0) w2 (by have := rngsOf_len 0; omega) (RowAt.of_own kr_ok ho2)
  obtain ⟨ra, rc, rfl⟩ := ho2.shape
  have HRL : Hid ((rngsOf 0).length ≤ 100) := Lib.hid (by have := rngsOf_len 0; omega)
  have HB2b := Lib.hid (bstep HB1b.out hb2)
  clear ho2 hb2
  generalize rngsOf 0 = R at hnew HRL
  go_wp2_with fail
  refine hnew.mono ?_
  rintro e w3 ⟨b, S, rfl, hsd, hS, hb3⟩
  have HN0 := ShA.of_new hsd hS hb3.size
  have HN23 : Hid (∀ (p : Addr) (u : Value), w2.cell? p = some u → w3.cell? p = some u) := Lib.hid (fun p u h => kcell13 hb3 h)
  have HB3 := Lib.hid (bstep HB2.out hb3)
  obtain ⟨A, hA⟩ : ∃ A : Nat → Prop, A = fun j => j < w2.heap.size := ⟨_, rfl⟩
  rw [← hA] at HN0
  have HN := Lib.hid HN0
  have HAA : Hid (∀ j, j < w2.heap.size → A j) := Lib.hid (fun j hj => by rw [hA]; exact hj)
  have HAW : Hid (∀ j, j < w.heap.size → A j) := Lib.hid (fun j hj => HAA.out j (by have := HB2.out.size; omega))
  clear hsd hS hb3 HN0 hnew hA
  go_wp2
  go_loopw [9] (fun i wr => ∃ k : Nat, k ≤ l.length ∧ k ≤ 30 ∧ i = .int .i64 k ∧ ShA wr A k b R (putAll R (l.take k)) ∧ Wr A w3 wr) (fun i _ => 30 - (intOf i).toNat)
  case atStart => exact ⟨0, by omega, by omega, rfl, HN.out, Mv.refl _ _⟩
  case round =>
    obtain ⟨k, hkl, hkN, rfl, hsh, hwr⟩ := hrel
    have HSH := Lib.hid hsh
    have HWR := Lib.hid hwr
    have HKL := Lib.hid (And.intro hkl hkN)
    clear hsh hwr hkl hkN HN
    go_upto_region 6 with (fail)
    go_cut [30] (fun t wx => ∃ c : Bool, t = .bool c ∧ Hid (c = true → k < l.length ∧ k < 30) ∧ wx = wr)
    case first =>
      obtain ⟨hkl, hkN⟩ := HKL.out
      by_cases hxl : k < l.length
      · have hxli : (k : Int) < (l.length : Int) := by omega
        by_cases hx10 : k < 30
        · have hxi : (k : Int) < 30 := by omega
          have HC : Hid (k < l.length ∧ k < 30) := Lib.hid ⟨hxl, hx10⟩
          go_wp2
          go_meet
          exact ⟨_, rfl, Lib.hid (fun _ => HC.out), rfl⟩
        · have q1 : decide ((k : Int) < 30) = false := by simp; omega
          go_wp2
          go_meet
          exact ⟨false, rfl, Lib.hid (fun h => by cases h), rfl⟩
      · have q1 : decide ((k : Int) < (l.length : Int)) = false := by simp; omega
        have q2 : decide (k < l.length) = false := by simp; omega
        go_wp2
        go_meet
        exact ⟨false, rfl, Lib.hid (fun h => by cases h), rfl⟩
    case rest =>
      obtain ⟨c, rfl, HC, rfl⟩ := hcut
      obtain ⟨wr, hwr0⟩ : ∃ wr, wr = wc := ⟨_, rfl⟩
      subst hwr0
      cases c with
      | true =>
        obtain ⟨hlt, hkN⟩ := HC.out rfl
        have HBW : Hid (Below w.heap.size w wr) := Lib.hid (HB3.out.trans (HWR.out.below (fun j hj => HAW.out j hj) HB3.out.size))
        obtain ⟨ab, aoff, rfl, hbl, hcell⟩ := (HR.out.below HBW.out).op13 k hlt
        have HOI := Lib.hid (HIN.out _ (List.getElem_mem hlt))
        have HTK : Hid (putAll R (l.take (k + 1)) = putF R (putAll R (l.take k)) (verO l[k])) := Lib.hid (by rw [List.take_succ_eq_append_getElem hlt, putAll_snoc])
        have HLN : Hid (∀ d, (putAll R (l.take k) d).length ≤ k) := Lib.hid (fun d => Nat.le_trans (putAll_len R _ d) (List.length_take_le _ _))
        generalize l[k] = o at hcell HOI HTK
        generalize putAll R (l.take k) = F at HSH HTK HLN
        have hve := fun W => version13_any o HOI.out W
        have HVB : Hid (∀ W, VwB W (verO o)) := Lib.hid (fun W => verO_bd o HOI.out)
        have HVP := Lib.hid (verO_past o)
        generalize verO o = x at hve HTK HVB HVP
        obtain ⟨k0, k1, k2, k3, kr, kv, kw, kg, ⟨ks, kt⟩, ⟨kpa, kpn, kpc⟩, kpk, kp, kq⟩ := o
        have c0 := hcell 0 _ rfl
        have c1 := hcell 1 _ rfl
        have c2 := hcell 2 _ rfl
        have c3 := hcell 3 _ rfl
        have c4 := hcell 4 _ rfl
        have c5 := hcell 5 _ rfl
        have c6 := hcell 6 _ rfl
        have c7 := hcell 7 _ rfl
        have c8 := hcell 8 _ rfl
        have c9 := hcell 9 _ rfl
        have c10 := hcell 10 _ rfl
        have c11 := hcell 11 _ rfl
        have c12 := hcell 12 _ rfl
        have c13 := hcell 13 _ rfl
        dsimp only [cs13] at c0 c1 c2 c3 c4 c5 c6 c7 c8 c9 c10 c11 c12 c13 hve
        simp only [Nat.add_zero] at c0
        clear hcell hbl
        have hki : (k : Int) < (l.length : Int) := by omega
        have hk9 : k < 30 := hkN
        have hput := fun W (h : Below wr.heap.size wr W) => lput_any (HSH.out.below h) HRL.out (by omega) x (by have := HLN.out x.1.key; omega) (HVB.out W) HVP.out
        generalize (ownsK R x.1.key && putOk (F x.1.key) x) = is at hput
        have HPUT := Lib.hid hput
        clear hput
        obtain ⟨⟨xk, xv, xg, ⟨xm, xt⟩, xp⟩, xa, xc⟩ := x
        dsimp only [wV, wcs, wvs, pw] at hve HPUT
        go_wp2_with fail
        refine (hve _).mono ?_
        rintro e w4 ⟨rfl, hb4⟩
        have hput := HPUT.out _ hb4
        have HB4 := Lib.hid hb4
        clear hve HPUT c0 c1 c2 c3 c4 c5 c6 c7 c8 c9 c10 c11 c12 c13 hb4
        go_wp2_with fail
        refine hput.mono ?_
        rintro e w5 ⟨rfl, hs5, hw5⟩
        have HS5 := Lib.hid hs5
        have HW5 : Hid (Wr A w3 w5) := Lib.hid ((HWR.out.step HB4.out).trans hw5)
        clear hs5 hw5 hput
        go_wp2
        go_roundw
        case rel => exact ⟨k + 1, by omega, by omega, by go_num, by rw [HTK.out]; exact HS5.out, HW5.out⟩
        case measure => simp [intOf]; omega
      | false =>
        have HFL : Hid (∀ d, (putAll R (l.take k) d).length ≤ 30) := Lib.hid (fun d => by
          have h1 := putAll_len R (l.take k) d
          have h2 := List.length_take_le k l
          have := HKL.out.2
          omega)
        have HFB : Hid (∀ W d, ∀ x ∈ putAll R (l.take k) d, VwB W x) := Lib.hid (fun W d x hx => putAll_bd (fun o ho => HIN.out o (List.mem_of_mem_take ho)) W d x hx)
        generalize putAll R (l.take k) = F at HSH HFL HFB
        have HS0 := Lib.hid (HSH.out.mono HKL.out.2)
        clear HSH HC
        have HBW : Hid (Below w.heap.size w wr) := Lib.hid (HB3.out.trans (HWR.out.below (fun j hj => HAW.out j hj) HB3.out.size))

        have HQR : Hid (w.heap.size < w2.heap.size ∧ wr.cell? ⟨w.heap.size, 0, none⟩ = some (.int .i64 p0) ∧ wr.cell? ⟨w.heap.size, 1, none⟩ = some (.int .i64 p1)) := Lib.hid (by
          have h0 := kc HB2b.out HCB.out.1
          have h1 := kc HB2b.out HCB.out.2
          have h2 : w.heap.size < w2.heap.size := lt_of_cellN h0
          exact ⟨h2, HWR.out.cell (fun hn => hn (HAA.out _ h2)) (HN23.out _ _ h0), HWR.out.cell (fun hn => hn (HAA.out _ h2)) (HN23.out _ _ h1)⟩)
        obtain ⟨R1, hR1⟩ : ∃ R1, rngsOf p0 = R1 := ⟨_, rfl⟩
        obtain ⟨R2, hR2⟩ : ∃ R2, rngsOf p1 = R2 := ⟨_, rfl⟩
        have hrn1 := fun W => ranges13_any p0 W
        have hrn2 := fun W => ranges13_any p1 W
        rw [hR1] at hrn1
        rw [hR2] at hrn2
        have HR1 : Hid (R1.length ≤ 100) := Lib.hid (by rw [← hR1]; have := rngsOf_len p0; omega)
        have HR2 : Hid (R2.length ≤ 100) := Lib.hid (by rw [← hR2]; have := rngsOf_len p1; omega)
        have HG1 := Lib.hid hrn1
        have HG2 := Lib.hid hrn2
        clear hR1 hR2 hrn1 hrn2
        go_wp2_with fail
        refine (word13_any n _).mono ?_
        rintro e w4 ⟨rfl, hb4⟩
        have HKZ : Hid ((wordK n).size ≤ maxLen) := Lib.hid (by rw [wordK_size]; unfold maxLen; omega)
        generalize wordK n = K at HKZ
        have hch := lchain_any (HS0.out.below hb4) K HKZ.out (by have := HFL.out K; omega)
        have HB4 := Lib.hid hb4
        clear hb4
        go_wp2_with fail
        refine hch.mono ?_
        rintro e w5 ⟨v5, rfl, ho5, hb5⟩
        obtain ⟨a5, q5, rfl⟩ := ho5.shape
        have HB5 := Lib.hid (bstep HB4.out hb5)
        have HO5 : Hid (OwnR KW w5 wr.heap.size (.slice a5 (F K).length q5) (F K)) := Lib.hid (ho5.mono HB4.out.size)
        have hq0 := kc HB5.out HQR.out.2.1
        clear hb5 ho5 hch
        go_wp2_with fail
        refine (HG1.out _).mono ?_
        rintro e w6 ⟨v6, rfl, ho6, hb6⟩
        have HB6 := Lib.hid (bstep HB5.out hb6)
        have HS6 := Lib.hid (HS0.out.more HB6.out)
        have hmv := lmove_any HS6.out v6 R1 HR1.out (RowAt.of_own kr_ok ho6)
        obtain ⟨a6, q6, rfl⟩ := ho6.shape
        have HO6 := Lib.hid (HO5.out.below hb6)
        have HQ6 := Lib.hid (And.intro (kc HB6.out HQR.out.2.1) (kc HB6.out HQR.out.2.2))
        clear hq0 ho6 hb6 HO5
        go_wp2_with fail
        refine hmv.mono ?_
        rintro e w7 ⟨rfl, hs7, hw7⟩
        have HPB : Hid (∀ g, (Value.slice a5 (F K).length q5).ownBlock = some g → wr.heap.size ≤ g ∧ g < w6.heap.size) := Lib.hid (fun g hg => HO6.out.lt g hg)
        have HO7 := Lib.hid (Wr.own hw7 HO6.out (fun j h1 h2 => .inr ⟨h1, h2⟩))
        have hq0 := hw7.cell (fun hn => hn (.inl (HAA.out _ HQR.out.1))) HQ6.out.1
        have hq1 := hw7.cell (fun hn => hn (.inl (HAA.out _ HQR.out.1))) HQ6.out.2
        have HQ7 := Lib.hid (And.intro hq0 hq1)
        have HB7 : Hid (Below w.heap.size w w7) := Lib.hid ((bstep HBW.out HB6.out).trans (hw7.below (fun j hj => .inl (HAW.out j hj)) (by have := HBW.out.size; have := HB6.out.size; omega)))
        have HS7 := Lib.hid (hs7.weak (A' := A) (fun j hj => .inl hj))
        have HA7 := Lib.hid hs7
        have HL7 : Hid (wr.heap.size ≤ w7.heap.size) := Lib.hid (by have := hw7.size; have := HB6.out.size; omega)
        have HE1 : Hid (∀ o, ownsK R1 K = o → cutF F (ownsK R1) K = if o = true then F K else []) := Lib.hid (fun o h => by unfold cutF; rw [h])
        have HFL1 := Lib.hid (cutF_len (p := ownsK R1) HFL.out)
        have HFB1 := Lib.hid (cutF_bd (p := ownsK R1) HFB.out)
        generalize hF1 : cutF F (ownsK R1) = F1 at HS7 HA7 HE1 HFL1 HFB1
        clear hmv hs7 hw7 HO6 HQ6 hF1 hq1
        -- what the first ranges have
        go_wp2_with fail
        refine (HG1.out _).mono ?_
        rintro e w8 ⟨v8, rfl, ho8, hb8⟩
        obtain ⟨a8, q8, rfl⟩ := ho8.shape
        have hfi := rfind_any a8 q8 R1 K w8 HR1.out (RowAt.of_own kr_ok ho8)
        have HB8 := Lib.hid hb8
        clear ho8 hb8 hq0
        go_wp2_with fail
        refine hfi.mono ?_
        rintro e w9 ⟨z9, rfl, hz9, hb9⟩
        have HB9 := Lib.hid (bstep HB8.out hb9)
        have HZ9 := Lib.hid hz9
        clear hb9 hz9 hfi
        have hch := lchain_any (HA7.out.below HB9.out) K HKZ.out (by have := HFL1.out K; omega)
        go_upto_region 13 with fail
        obtain ⟨o1, ho1⟩ : ∃ o1, decide (0 ≤ z9) = o1 := ⟨_, rfl⟩
        rw [ho1]
        have HE := Lib.hid (HE1.out o1 (by rw [← HZ9.out, ho1]))
        clear HE1 HZ9 ho1
        go_wp2_with fail
        refine hch.mono ?_
        rintro e w10 ⟨v10, rfl, ho10, hb10⟩
        obtain ⟨a10, q10, rfl⟩ := ho10.shape
        have HB10 := Lib.hid (bstep HB9.out hb10)
        have HO10 : Hid (OwnR KW w10 w7.heap.size (.slice a10 (F1 K).length q10) (F1 K)) := Lib.hid (ho10.mono HB9.out.size)
        have HP10 := Lib.hid (HO7.out.below HB10.out)
        have hq1 := kc HB10.out HQ7.out.2
        clear ho10 hb10 hch
        go_wp2_with fail
        refine (HG2.out _).mono ?_
        rintro e w11 ⟨v11, rfl, ho11, hb11⟩
        have HB11 := Lib.hid (bstep HB10.out hb11)
        have hsz : wr.heap.size ≤ w7.heap.size := HL7.out
        have HS11 := Lib.hid (HA7.out.more HB11.out)
        have hmv := lmove_any HS11.out v11 R2 HR2.out (RowAt.of_own kr_ok ho11)
        obtain ⟨a11, q11, rfl⟩ := ho11.shape
        have HO11 := Lib.hid (HO10.out.below hb11)
        have HP11 := Lib.hid (HP10.out.below hb11)
        have HQ11 := Lib.hid (kc hb11 hq1)
        clear hq1 ho11 hb11 HO10 HP10
        go_wp2_with fail
        refine hmv.mono ?_
        rintro e w12 ⟨rfl, hs12, hw12⟩
        have HO12 := Lib.hid (Wr.own hw12 HO11.out (fun j h1 h2 => .inr ⟨h1, h2⟩))
        have HP12 : Hid (OwnR KW w12 wr.heap.size (.slice a5 (F K).length q5) (F K)) := Lib.hid (HP11.out.block (fun g hg => hw12.block g (HP11.out.lt g hg).2 (fun hn => hn (.inl (.inr (HPB.out g hg))))))
        have hq1 := hw12.cell (fun hn => hn (.inl (.inl (HAA.out _ HQR.out.1)))) HQ11.out
        have HB12 : Hid (Below w.heap.size w w12) := Lib.hid ((bstep HB7.out HB11.out).trans (hw12.below (fun j hj => .inl (.inl (HAW.out j hj))) (by have := HB7.out.size; have := HB11.out.size; omega)))
        have HS12 := Lib.hid (hs12.weak (A' := A) (fun j hj => .inl (.inl hj)))
        have HE2 : Hid (∀ o, ownsK R2 K = o → cutF F1 (ownsK R2) K = if o = true then F1 K else []) := Lib.hid (fun o h => by unfold cutF; rw [h])
        have HFL2 := Lib.hid (cutF_len (p := ownsK R2) HFL1.out)
        have HFB2 := Lib.hid (cutF_bd (p := ownsK R2) HFB1.out)
        generalize hF2 : cutF F1 (ownsK R2) = F2 at HS12 HE2 HFL2 HFB2
        clear hmv hs12 hw12 HO11 HP11 HQ11 hF2 hsz HPB HA7 HS11
        go_wp2_with fail
        refine (HG2.out _).mono ?_
        rintro e w13 ⟨v13, rfl, ho13, hb13⟩
        obtain ⟨a13, q13, rfl⟩ := ho13.shape
        have hfi := rfind_any a13 q13 R2 K w13 HR2.out (RowAt.of_own kr_ok ho13)
        have HB13 := Lib.hid hb13
        clear ho13 hb13 hq1
        go_wp2_with fail
        refine hfi.mono ?_
        rintro e w14 ⟨z14, rfl, hz14, hb14⟩
        have HB14 := Lib.hid (bstep HB13.out hb14)
        have HZ14 := Lib.hid hz14
        clear hb14 hz14 hfi
        have hch := lchain_any (HS12.out.below HB14.out) K HKZ.out (by have := HFL2.out K; omega)
        go_upto_region 16 with fail
        obtain ⟨o2, ho2'⟩ : ∃ o2, decide (0 ≤ z14) = o2 := ⟨_, rfl⟩
        rw [ho2']
        have HEE := Lib.hid (HE2.out o2 (by rw [← HZ14.out, ho2']))
        clear HE2 HZ14 ho2'
        go_wp2_with fail
        refine hch.mono ?_
        rintro e w15 ⟨v15, rfl, ho15, hb15⟩
        obtain ⟨a15, q15, rfl⟩ := ho15.shape
        have HB15 := Lib.hid (bstep HB14.out hb15)
        have HX15 : Hid (WRow w15 (.slice a15 (F2 K).length q15) (F2 K)) := Lib.hid (WRow.of_own ho15 (HFB2.out w15 K))
        have HM15 : Hid (WRow w15 (.slice a10 (F1 K).length q10) (F1 K)) := Lib.hid (WRow.of_own (HO12.out.below HB15.out) (HFB1.out w15 K))
        have HH15 : Hid (WRow w15 (.slice a5 (F K).length q5) (F K)) := Lib.hid (WRow.of_own (HP12.out.below HB15.out) (HFB.out w15 K))
        have HBF : Hid (Below w.heap.size w w15) := Lib.hid (bstep HB12.out HB15.out)
        have hsm := fun W (h : Below w15.heap.size w15 W) => rsame_any _ _ (F1 K) (F K) W (by have := HFL1.out K; omega) (by have := HFL.out K; omega) (HM15.out.below h) (HH15.out.below h)
        have hkp := fun W (h : Below w15.heap.size w15 W) => rsame_any _ _ (F2 K) (F K) W (by have := HFL2.out K; omega) (by have := HFL.out K; omega) (HX15.out.below h) (HH15.out.below h)
        have HSM : Hid (F1 K = F K → sameL (F1 K) (F K) = true) := Lib.hid (fun h => by rw [h]; exact sameL_self _)
        have HKP : Hid (F2 K = F K → sameL (F2 K) (F K) = true) := Lib.hid (fun h => by rw [h]; exact sameL_self _)
        generalize sameL (F1 K) (F K) = s1 at hsm HSM
        generalize sameL (F2 K) (F K) = s2 at hkp HKP
        clear ho15 hb15 hch HO12 HP12
        cases o1 with
        | true =>
          have he1 : F1 K = F K := HE.out
          have hs1 : s1 = true := HSM.out he1
          subst hs1
          have HE1' := Lib.hid he1
          clear he1
          go_wp2_with fail
          refine (hsm _ (Below.refl _ _)).mono ?_
          rintro e w16 ⟨rfl, hb16⟩
          have hk1 := hkp _ hb16
          have HB16 := Lib.hid (bstep HBF.out hb16)
          clear hsm hkp hb16
          go_wp2_with fail
          refine hk1.mono ?_
          rintro e w17 ⟨rfl, hb17⟩
          have HB17 := Lib.hid (bstep HB16.out hb17)
          clear hb17 hk1
          cases o2 with
          | true =>
            have he2 : F2 K = F1 K := HEE.out
            have hs2 : s2 = true := HKP.out (he2.trans HE1'.out)
            subst hs2
            clear he2
            go_wp2
            go_ret
            exact ⟨rfl, HB17.out⟩
          | false =>
            have he2 : F2 K = [] := HEE.out
            have hl2 : (F2 K).length = 0 := by rw [he2]; rfl
            clear he2
            go_wp2
            go_ret
            exact ⟨rfl, HB17.out⟩
        | false =>
          have he1 : F1 K = [] := HE.out
          have hl1 : (F1 K).length = 0 := by rw [he1]; rfl
          have he2 : F2 K = [] := by
            have h := HEE.out
            rw [he1] at h
            cases o2 <;> exact h
          have HL2 : Hid ((F2 K).length = 0) := Lib.hid (by rw [he2]; rfl)
          clear he1 he2 hsm
          go_upto_region 23 with fail
          clear hl1
          go_wp2_with fail
          refine (hkp _ (Below.refl _ _)).mono ?_
          rintro e w17 ⟨rfl, hb17⟩
          have HB17 := Lib.hid (bstep HBF.out hb17)
          have hl2 := HL2.out
          clear hb17 hkp
          go_wp2
          go_ret
          exact ⟨rfl, HB17.out⟩
end Go.Proofs.Ytjfmgplhcinkfaa
