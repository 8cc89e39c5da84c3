/- The walk of the law WireEnds. -/
import Derived.Test.YtllagelopdedfaaGW27
namespace Go.Proofs.Ytllagelopdedfaa
open Go.RowKit
set_option linter.unusedVariables false
set_option linter.unusedSimpArgs false

theorem bad_no {c : Rw} (h : okRw c = true) : okRw ⟨c.rs, c.ow.set 0 0, c.pa⟩ = false := by
  cases hk : okRw ⟨c.rs, c.ow.set 0 0, c.pa⟩ with
  | false => rfl
  | true =>
    obtain ⟨⟨k1, k2, k3, k4⟩, k5, k6, k7⟩ := okRw_parts hk
    obtain ⟨us, hu, _⟩ := whole_chain k5
    have hl : 1 ≤ c.rs.length := by
      dsimp only at hu
      rw [hu, wbas_len, Km.chain_len]
      omega
    dsimp only at k4
    have h0 : 0 < (c.ow.set 0 0).length := by omega
    have := k7 ((c.ow.set 0 0)[0]) (List.getElem_mem h0)
    rw [List.getElem_set_self] at this
    omega

set_option maxRecDepth 100000 in
set_option maxHeartbeats 6400000 in
theorem walkWireEnds (w : World) (a0 b0 c0 : Value) (l0 m0 n0 : List Int) (w0 : RowAt KI w a0 l0 ∧ ∀ z ∈ l0, -9223372036854775808 ≤ z ∧ z ≤ 9223372036854775807) (x0 : RowAt KI w b0 m0 ∧ ∀ z ∈ m0, -9223372036854775808 ≤ z ∧ z ≤ 9223372036854775807) (y0 : RowAt KI w c0 n0 ∧ ∀ z ∈ n0, -9223372036854775808 ≤ z ∧ z ≤ 9223372036854775807) :
    Calls Try.prog 11 #[.agg #[a0, b0, c0]] w fun e w' => e = .returned (.bool true) ∧ Below w.heap.size w w' := by
  obtain ⟨w0, w0b⟩ := w0
  obtain ⟨x0, x0b⟩ := x0
  obtain ⟨y0, y0b⟩ := y0
  have hrow := fun W hb' => row6_any a0 b0 c0 l0 m0 n0 W (w0.below hb') (x0.below hb') (y0.below hb') w0b x0b y0b
  obtain ⟨i0, j0, rfl, _⟩ := w0
  obtain ⟨i1, j1, rfl, _⟩ := x0
  obtain ⟨i2, j2, rfl, _⟩ := y0
  clear w0b x0b y0b
  have hb : Below w.heap.size w (w.alloc (.cells #[.slice i0 l0.length j0, .slice i1 m0.length j1, .slice i2 n0.length j2] 52)) := balloc (Below.refl _ _) _
  have hS0 := VrP.new w (.slice i0 l0.length j0) (.slice i1 m0.length j1) (.slice i2 n0.length j2) 52
  go_enter Try.func11, Try.ntmps11
  go_wp2_with fail
  generalize w.alloc (.cells #[.slice i0 l0.length j0, .slice i1 m0.length j1, .slice i2 n0.length j2] 52) = wb at *
  refine (wawake_any _).mono ?_
  rintro e wa ⟨rfl, hba⟩
  obtain ⟨p0, p1, p2, _⟩ := hS0.keep hba
  have HBA := Lib.hid (bstep hb hba)
  clear hb hba hS0
  go_wp2_with fail
  refine (hrow _ HBA.out).mono ?_
  rintro e wS ⟨c, u0, u1, u2, rfl, hRO, hok, hbr⟩
  have HBR := Lib.hid (bstep HBA.out hbr)
  have hR := hRO.at
  have HOK := Lib.hid hok
  clear hrow p0 p1 p2 hbr hRO hok
  obtain ⟨⟨k1, k2, k3, k4⟩, k5, _, _⟩ := okRw_parts HOK.out
  have hpos : 1 ≤ c.rs.length := by
    obtain ⟨us, hu, _⟩ := whole_chain k5
    rw [hu, wbas_len, Km.chain_len]
    omega
  have hwh : Km.whGo true [] (tls c.rs) = true := by
    unfold Km.whole at k5
    simp only [Bool.and_eq_true] at k5
    exact k5.2
  have HWH := Lib.hid hwh
  obtain ⟨z0, t0, rfl, _⟩ := id hR.rs
  obtain ⟨z1, t1, rfl, _⟩ := id hR.ow
  obtain ⟨z2, t2, rfl, _⟩ := id hR.pa
  have hV := VrP.new wS (.slice z0 c.rs.length t0) (.slice z1 c.ow.length t1) (.slice z2 c.pa.length t2) 25
  have hbv := balloc (Below.refl _ wS) (.cells #[.slice z0 c.rs.length t0, .slice z1 c.ow.length t1, .slice z2 c.pa.length t2] 25)
  have HR := Lib.hid (hR.below hbv)
  have HV := Lib.hid hV
  have HBV := Lib.hid (bstep HBR.out hbv)
  have HK4 := Lib.hid k4
  clear hbv hV hR k1 k2 k4 k5 hwh HBR
  go_upto_region 3 with fail
  generalize wS.alloc (.cells #[.slice z0 c.rs.length t0, .slice z1 c.ow.length t1, .slice z2 c.pa.length t2] 25) = wv at *
  have hV0 := HV.out.lt
  generalize wS.heap.size = B at *
  obtain ⟨S, hS⟩ : ∃ S : ByteArray, S = ⟨(rowB c).toArray⟩ := ⟨_, rfl⟩
  have hSl : S.data.toList = rowB c := by rw [hS]
  have hlen : S.size ≤ 5000 := by show S.data.toList.length ≤ 5000; rw [hSl]; exact rowB_len HOK.out
  have hrb := fun W h => rowBytes_any c (.slice z0 c.rs.length t0) (.slice z1 c.ow.length t1) (.slice z2 c.pa.length t2) W h
  have e1 : rowbV c = rowB c := by unfold rowbV; rw [if_pos HOK.out]
  rw [e1, ← hS] at hrb
  have hr0 := fun W => readRow_any S W (by omega)
  rw [hSl, readRW_back HOK.out] at hr0
  dsimp only [gotR, Option.isSome] at hr0
  clear e1 hSl hS hlen
  obtain ⟨d0, d1, d2, _⟩ := HV.out
  go_wp2_with fail
  refine (hrb _ HR.out).mono ?_
  rintro e w1 ⟨rfl, hb1⟩
  have HV1 := Lib.hid (HV.out.keep hb1)
  have HR1 := Lib.hid (HR.out.below hb1)
  have HB1 := Lib.hid (bstep HBV.out hb1)
  clear d0 d1 d2 hb1 HV HR HBV hrb
  go_wp2_with fail
  refine (hr0 _).mono ?_
  rintro e w2 ⟨v0, v1, v2, rfl, hd2, hb2⟩
  obtain ⟨y0, s0, rfl, _, _, _, hdr⟩ := id hd2.rs
  obtain ⟨y1, s1, rfl, _⟩ := id hd2.ow
  obtain ⟨y2, s2, rfl, _⟩ := id hd2.pa
  have hN := VrP.new w2 (.slice y0 c.rs.length s0) (.slice y1 c.ow.length s1) (.slice y2 c.pa.length s2) 25
  have hbn := balloc (Below.refl _ w2) (.cells #[.slice y0 c.rs.length s0, .slice y1 c.ow.length s1, .slice y2 c.pa.length s2] 25)
  have HV2 := Lib.hid ((HV1.out.keep hb2).keep hbn)
  have HR2 := Lib.hid ((HR1.out.below hb2).below hbn)
  have HD2 := Lib.hid (RowIn.rng (hdr.below hbn))
  have HB2 := Lib.hid (bstep (bstep HB1.out hb2) hbn)
  have HN := Lib.hid hN
  clear hN hbn hd2 hb2 hr0 HV1 HR1 HB1 hdr
  go_upto_region 4 with fail
  generalize w2.alloc (.cells #[.slice y0 c.rs.length s0, .slice y1 c.ow.length s1, .slice y2 c.pa.length s2] 25) = w3 at *
  have hNl := HN.out.lt
  generalize w2.heap.size = D at *
  obtain ⟨e0, e1, e2, _⟩ := HV2.out
  obtain ⟨f0, f1, f2, _⟩ := HN.out
  obtain ⟨R, hR⟩ : ∃ R, R = c.rs.length := ⟨_, rfl⟩
  have HOL : Hid (c.ow.length = R) := Lib.hid (by rw [hR]; exact HK4.out)
  have HRR : Hid (c.rs.length = R) := Lib.hid hR.symm
  rw [← hR] at e0 f0 hpos k3
  clear hR
  go_wp2_with fail
  go_loop [7, 8] (fun s i => ∃ (k : Nat) (X : ByteArray), k ≤ R ∧ i = .int .i64 k ∧ s = .string X ∧ Km.whGo (decide (k = 0)) X.data.toList ((tls c.rs).drop k) = true) (fun _ i => R - (intOf i).toNat)
  case atStart => exact ⟨0, ⟨#[]⟩, by omega, rfl, rfl, HWH.out⟩
  case round =>
    obtain ⟨k, X, hk, rfl, rfl, hgo⟩ := hrel
    by_cases hlt : k < R
    · have hki : (k : Int) < (R : Int) := by omega
      have hkr : k < c.rs.length := by have := HRR.out; omega
      rw [wh_step hkr] at hgo
      simp only [Bool.and_eq_true] at hgo
      obtain ⟨⟨⟨_, g2⟩, g3⟩, g4⟩ := hgo
      obtain ⟨b, off, rfl, _, x0, x1⟩ := HD2.out k hkr
      generalize c.rs[k].1 = r1 at x0 g2
      generalize c.rs[k].2 = r2 at x1 g4
      have hX : X = r1 := ba_inj (by have : r1.data.toList = X.data.toList := by simpa using g2
                                     exact this.symm)
      subst hX
      have HG4 : Hid (Km.whGo (decide (k + 1 = 0)) r2.data.toList ((tls c.rs).drop (k + 1)) = true) := Lib.hid (by rw [decide_eq_false (by omega)]; exact g4)
      have hkk : k = 0 ∨ (0 < (k : Int) ∧ X.toList.isEmpty = false) := by
        by_cases h0 : k = 0
        · exact .inl h0
        · refine .inr ⟨by omega, ?_⟩
          rw [decide_eq_false h0] at g3
          rw [Lib.toList_data]
          simpa using g3
      clear g2 g3 g4
      rcases hkk with rfl | ⟨hk0, hne⟩
      · simp only [Nat.zero_mul, Nat.add_zero] at x0 x1
        go_wp2
        go_round
        case rel => exact ⟨1, r2, by omega, by go_num, rfl, HG4.out⟩
        case measure => simp [intOf]; omega
      · go_wp2
        go_round
        case rel => exact ⟨k + 1, r2, by omega, by go_num, rfl, HG4.out⟩
        case measure => simp [intOf]; omega
    · obtain rfl : k = R := by omega
      have hX : X = ⟨#[]⟩ := by
        rw [List.drop_of_length_le (by rw [tls_len]; have := HRR.out; omega), Km.whGo] at hgo
        exact ba_inj (by simpa using hgo)
      subst hX
      clear hgo hlt hk HD2
      have hX0 : (⟨#[]⟩ : ByteArray).toList.isEmpty = true := by rw [Lib.toList_data]; rfl
      have hV9 := VrP.new w3 (.slice z0 k t0) (.slice z1 c.ow.length t1) (.slice z2 c.pa.length t2) 25
      have hb4 := balloc (Below.refl _ w3) (.cells #[.slice z0 k t0, .slice z1 c.ow.length t1, .slice z2 c.pa.length t2] 25)
      have HV9 := Lib.hid hV9
      have HB44 := Lib.hid hb4
      clear hNl hV9 hb4
      go_upto_region 14 with fail
      clear e0 e1 e2 f0 f1 f2
      generalize hw4 : w3.alloc (.cells #[.slice z0 k t0, .slice z1 c.ow.length t1, .slice z2 c.pa.length t2] 25) = w4 at *
      have HW4 : Hid (w4.heap.size = w3.heap.size + 1) := Lib.hid (by rw [← hw4]; simp)
      clear hw4
      have hlo := own_lit6 ki_ok w4 w4.heap.size 0 [] #[] rfl rfl (Nat.le_refl _) (by omega)
      have hbl := balloc (Below.refl _ w4) (.cells #[] 3)
      have HLO := Lib.hid hlo
      have HRX := Lib.hid ((HR2.out.below HB44.out).below hbl)
      have e1 := (HV2.out.keep HB44.out).keep hbl
      obtain ⟨e80, e81, e82, _⟩ := e1
      have hlow : w3.heap.size < w4.heap.size := by have := HW4.out; omega
      have hO1 : 1 ≤ c.ow.length := by have := HOL.out; omega
      have HO8 : Hid (c.ow.length ≤ 8) := Lib.hid (by have := HOL.out; omega)
      have HBL := Lib.hid hbl
      clear hlo hbl
      go_upto_region 15 with (at_builtin; refine wp_appI rfl _ _ rfl w4.heap.size (.slice (some ⟨w4.heap.size, 0, none⟩) 0 0) (.slice z1 c.ow.length t1) [] c.ow rfl HLO.out rfl HRX.out.ow (by have := HO8.out; simp; omega) (by simp) ?_; intro v' w5 ho5 hb5 hk5; rw [List.nil_append] at ho5; obtain ⟨g, cap, rfl, hgg⟩ := ownI_some ho5 hO1; have HO5 := Lib.hid ho5; have HB5 := Lib.hid ((HBL.out.trans hb5 : Below w4.heap.size w4 w5)); clear ho5 hb5 hk5 e80 e81 e82; have hv5 := HV9.out.block (HB5.out.block w3.heap.size hlow); obtain ⟨f0, f1, f2, ff⟩ := id hv5; have ffz := ff 1 (by decide); have HV5 := Lib.hid hv5; clear hv5 ff)
      have hlg : w3.heap.size < g := by omega
      have hv6 := HV5.out.put1 (.slice (some ⟨g, 0, none⟩) c.ow.length cap)
      have hb6 : Below w3.heap.size w3 (w5.setCell ⟨w3.heap.size, 1, none⟩ (.slice (some ⟨g, 0, none⟩) c.ow.length cap)) := (HB44.out.trans (HB5.out.mono (Nat.le_of_lt hlow))).setCell (p := ⟨w3.heap.size, 1, none⟩) (Nat.le_refl _) _
      have ho6 : OwnR KI (w5.setCell ⟨w3.heap.size, 1, none⟩ (.slice (some ⟨g, 0, none⟩) c.ow.length cap)) w4.heap.size (.slice (some ⟨g, 0, none⟩) c.ow.length cap) c.ow := HO5.out.put7 (HO5.out.lo hlow)
      clear f0 f1 f2 ffz HRX HBL
      generalize w5.setCell ⟨w3.heap.size, 1, none⟩ (.slice (some ⟨g, 0, none⟩) c.ow.length cap) = w6 at *
      have e2 := ownI_cell ho6 0 (by omega)
      have e3 := ownI_frozen ho6 0
      have e1 := hv6.c1
      have hki : (0 : Int) < (c.ow.length : Int) := by omega
      have HV6 := Lib.hid hv6
      have HO6 := Lib.hid ho6
      have HB6 := Lib.hid hb6
      clear hv6 ho6 hb6 HV5 HO5 HB5 HV9 HB44 HLO
      go_upto_region 16 with fail
      have ho7 := ownI_set HO6.out 0 0
      have hb7 := HB6.out.setCell (p := ⟨g, 0, none⟩) (Nat.le_of_lt hlg) (.int .i64 0)
      have hv7 : VrP (w6.setCell ⟨g, 0, none⟩ (.int .i64 0)) w3.heap.size (.slice z0 k t0) (.slice (some ⟨g, 0, none⟩) c.ow.length cap) (.slice z2 c.pa.length t2) := HV6.out.block (((Below.refl g w6).setCell (p := ⟨g, 0, none⟩) (Nat.le_refl _) _).block w3.heap.size hlg)
      clear e1 e2 e3 HO6 HB6 HV6
      generalize w6.setCell ⟨g, 0, none⟩ (.int .i64 0) = w7 at *
      have hr7 := HR2.out.below hb7
      have hl0 : (c.ow.set 0 0).length = c.ow.length := List.length_set
      have hG : RwAt w7 (.slice z0 k t0) (.slice (some ⟨g, 0, none⟩) c.ow.length cap) (.slice z2 c.pa.length t2) ⟨c.rs, c.ow.set 0 0, c.pa⟩ := ⟨by have := hr7.rs; rw [HRR.out] at this; exact this, RowAt.of_own ki_ok ho7, hr7.pa, hr7.sz⟩
      have hrb := rowBytes_any ⟨c.rs, c.ow.set 0 0, c.pa⟩ _ _ _ w7 hG
      have e9 : rowbV ⟨c.rs, c.ow.set 0 0, c.pa⟩ = [] := by unfold rowbV; rw [bad_no HOK.out]; rfl
      rw [e9] at hrb
      have HB7 := Lib.hid (bstep HB2.out hb7)
      obtain ⟨d0, d1, d2, _⟩ := hv7
      clear hl0 hG hr7 hb7 ho7 e9
      go_wp2_with fail
      refine hrb.mono ?_
      rintro e w8 ⟨rfl, hb8⟩
      go_wp2
      go_ret
      exact ⟨rfl, bstep HB7.out hb8⟩
end Go.Proofs.Ytllagelopdedfaa
