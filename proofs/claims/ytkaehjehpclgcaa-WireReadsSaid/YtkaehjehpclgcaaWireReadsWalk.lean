/- WireReads, walked: any bytes are read as a version, or not. -/
import Derived.Test.YtkaehjehpclgcaaGW20
import Derived.Test.YtkaehjehpclgcaaWireRefRead
import Derived.Test.YtkaehjehpclgcaaBytesPut
import Derived.StillTailTactics
import Derived.BigQuiet
namespace Go.Proofs.Ytkaehjehpclgcaa
open Go.RowKit
set_option linter.unusedVariables false
set_option linter.unusedSimpArgs false

theorem bidx9 (q : Int) (L : Nat) (h0 : 0 < L) (h1 : L ≤ 100000) : ∃ k : Nat, (wrap64 (q.tmod (L : Int) + (L : Int))).tmod (L : Int) = (k : Int) ∧ k < L := by
  have a1 := Int.tmod_lt_of_pos q (b := (L : Int)) (by omega)
  have a2 : -(L : Int) < q.tmod (L : Int) := by
    exact Int.lt_tmod_of_pos q (b := (L : Int)) (by omega)
  have a3 : wrap64 (q.tmod (L : Int) + (L : Int)) = q.tmod (L : Int) + (L : Int) := by unfold wrap64; omega
  rw [a3]
  have b1 := Int.tmod_lt_of_pos (q.tmod (L : Int) + (L : Int)) (b := (L : Int)) (by omega)
  have b2 := Int.tmod_nonneg (L : Int) (a := q.tmod (L : Int) + (L : Int)) (by omega)
  exact ⟨((q.tmod (L : Int) + (L : Int)).tmod (L : Int)).toNat, by omega, by omega⟩

set_option maxRecDepth 100000 in
set_option maxHeartbeats 3200000 in
theorem walkWireReads (w : World) (v1 : Wv) (u1 : Value) (hk1 : v1.key.size ≤ 9223372036854775807) (hv1 : v1.val.size ≤ 9223372036854775807) (hz1 : Szd v1.past) (hd1 : DepAt w u1 v1.past) (s : ByteArray) (hs : s.size ≤ maxLen) (q0 q1 q2 : Int) (hq0 : -9223372036854775808 ≤ q0 ∧ q0 ≤ 9223372036854775807) (hq1 : -9223372036854775808 ≤ q1 ∧ q1 ≤ 9223372036854775807) (hq2 : -9223372036854775808 ≤ q2 ∧ q2 ≤ 9223372036854775807) :
    Calls Try.prog 4 #[.agg (wvs v1 u1), .string s, .agg #[.int .i64 q0, .int .i64 q1, .int .i64 q2]] w fun e w' => e = .returned (.bool true) ∧ Below w.heap.size w w' := by
  unfold maxLen at hs
  have hi1 : WvIn w v1 u1 := ⟨hk1, hv1, hz1, hd1⟩
  have hbA : Below w.heap.size w (w.alloc (.cells (wvs v1 u1) 26)) := balloc (Below.refl _ w) _
  have hA := VwP.new w v1 u1 26
  have hbB := balloc (Below.refl _ (w.alloc (.cells (wvs v1 u1) 26))) (.cells #[.int .i64 q0, .int .i64 q1, .int .i64 q2] 32)
  have hQ := Var3.new (w.alloc (.cells (wvs v1 u1) 26)) 32 (.int .i64 q0) (.int .i64 q1) (.int .i64 q2)
  rw [World.size_alloc] at hQ
  have hA2 := hA.keep hbB
  have hbw := bstep hbA hbB
  have hf1 := fun W (h : WvIn W v1 u1) => wfew_any v1 u1 W h.key h.val h.szd h.at_
  have hok1 : ∀ W u, DepAt W u (fewW v1).past → WvOk W (fewW v1) u := fun W u h => fewW_ok h
  generalize fewW v1 = f1 at hf1 hok1
  have HOK1 := Lib.hid hok1
  have HI1 := Lib.hid hi1
  have hp1 := hd1
  obtain ⟨pa1, pc1, hu1, _⟩ := hp1
  clear hok1 hi1 hk1 hv1 hz1 hd1 hA hbA hbB
  subst hu1
  dsimp only [wvs] at *
  go_enter Try.func4, Try.ntmps4
  go_upto_region 1 with fail
  generalize (w.alloc (.cells #[.string v1.key, .string v1.val, .bool v1.gone, .int .i64 v1.st.1, .int .i64 v1.st.2, (.slice pa1 v1.past.length pc1)] 26)).alloc (.cells #[.int .i64 q0, .int .i64 q1, .int .i64 q2] 32) = w2 at *
  have HA := Lib.hid hA2
  have HBW := Lib.hid hbw
  clear hA2 hbw
  go_wp2_with fail
  refine (wawake_any _).mono ?_
  rintro e w3 ⟨rfl, hb3⟩
  have hQ3 := hQ.keep hb3
  have HA3 := Lib.hid (HA.out.keep hb3)
  have HBW3 := Lib.hid (bstep HBW.out hb3)
  obtain ⟨c0, c1, c2, _, _, _⟩ := id hQ3
  clear HA HBW hb3 hQ
  go_upto_if 18 with (fail)
  go_cut [1] (fun s1 wx => ∃ C : ByteArray, C.size ≤ 80 ∧ s1 = .string C ∧ wx = w3)
  case first =>
    by_cases h6 : 80 < s.size
    · have h6i : (80 : Int) < (s.size : Int) := by omega
      go_wp2
      go_meet
      exact ⟨_, by simp; omega, rfl, rfl⟩
    · have h6i : ¬ (80 : Int) < (s.size : Int) := by omega
      go_wp2
      go_meet
      exact ⟨s, by omega, rfl, rfl⟩
  case rest =>
    obtain ⟨C, hC, rfl, rfl⟩ := hcut
    clear hs
    go_upto_if 24 with (fail)
    go_cut [1] (fun s1 wx => ∃ (S : ByteArray), S.size ≤ 6000 ∧ s1 = .string S ∧ Below w.heap.size w wx)
    case first =>
      obtain ⟨x0, x1, x2, x3, x4, x5, _⟩ := HA3.out
      go_wp2_with fail
      · refine (hf1 _ (HI1.out.below HBW3.out)).mono ?_
        rintro e w4 ⟨u1', rfl, hd4, hn4, hb4⟩
        have hQ4 := hQ3.keep hb4
        have hbel4 := bstep HBW3.out hb4
        have HO4 := Lib.hid (HOK1.out _ _ hd4)
        obtain ⟨pa4, pc4, rfl, _⟩ := id hd4
        obtain ⟨B, hB⟩ : ∃ B : ByteArray, B = ⟨(wbV f1).toArray⟩ := ⟨_, rfl⟩
        have hBs : B.size ≤ 5000 := by
          rw [hB]
          show (Array.size _) ≤ _
          rw [List.size_toArray]
          cases hq : okW f1 with
          | true => exact wbV_len hq
          | false => rw [wbV_no hq]; simp
        have hpb := refWBytes_any f1 _ w4 HO4.out
        rw [← hB] at hpb
        dsimp only [wvs] at hpb
        clear hB hd4 hn4 hb4 x0 x1 x2 x3 x4 x5 hf1 HA3 hQ3
        go_wp2_with fail
        refine hpb.mono ?_
        rintro e w5 ⟨rfl, hb5⟩
        have hQ5 := hQ4.keep hb5
        have hbel5 := bstep hbel4 hb5
        obtain ⟨cp, wb, hcb, hb6, hby, hfr, hsz⟩ := conv_bytes B w5
        have hQ5l := lt_of_cellN hQ5.c0
        have hQ6 := hQ5.keep hb6
        have hbel6 := bstep hbel5 hb6
        have HBY := Lib.hid hby
        have HFR := Lib.hid hfr
        clear hpb hb5 hQ4 hbel4 hQ5 hbel5 hb6 hby hfr c0 c1 c2 HO4
        obtain ⟨c0, c1, c2, _, _, _⟩ := id hQ6
        by_cases hB0 : B.size = 0
        · have hBi : ¬ (0 : Int) < (B.size : Int) := by omega
          clear hB0
          go_wp2
          go_meet
          exact ⟨C, by omega, rfl, hbel6⟩
        · have hBi : (0 : Int) < (B.size : Int) := by omega
          have hBz : ((B.size : Int) == 0) = false := beq_eq_false_iff_ne.2 (by omega)
          obtain ⟨k, hk, hkl⟩ := bidx9 q1 B.size (by omega) (by omega)
          clear hB0
          go_wp2_with fail
          clear hk hcb
          have hcell := HBY.out k hkl
          rw [Nat.zero_add] at hcell
          have hfro := HFR.out k hkl
          have hk0 : (0 : Int) ≤ (k : Int) := by omega
          have hk1 : (k : Int) < (B.size : Int) := by omega
          generalize B[k] = x at hcell
          go_still_tail 11, (by kernel_rfl)
          generalize hX : bits BinOp.xor IntKind.u8 _ _ = X
          obtain ⟨y, hy⟩ : ∃ y : UInt8, X = (y.toNat : Int) := by rw [← hX]; exact xor_u8 _ _
          clear hX
          subst hy
          obtain ⟨S, hS, hSB0⟩ := bytes_put (w := wb) (b := w5.heap.size) (B := B) HBY.out hkl y
          have hSB : Lib.Bytes (wb.setCell ⟨w5.heap.size, k, none⟩ (.int .u8 (y.toNat : Int))).drew w5.heap.size 0 S := fun i hi => hSB0 i hi
          have hcs := Lib.run_convert_whole (P := Try.prog) _ 33 5 9 Try.underlying33 Try.underlying5 Try.underlying9 w5.heap.size 0 S hSB cp
          rw [hS] at hcs
          have hbel7 : Below w.heap.size w (wb.setCell ⟨w5.heap.size, k, none⟩ (.int .u8 (y.toNat : Int))).drew := (hbel6.setCell (p := ⟨w5.heap.size, k, none⟩) (show w.heap.size ≤ w5.heap.size by omega) _).drew
          have HB7 := Lib.hid hbel7
          have HSS := Lib.hid hS
          have hkS : (k : Int) ≤ (S.size : Int) := by omega
          have hkSn : k ≤ S.size := by omega
          have hqc : ((wb.setCell ⟨w5.heap.size, k, none⟩ (.int .u8 (y.toNat : Int))).cell? ⟨w.heap.size + 1, 0, none⟩) = some (.int .i64 q0) := by
            rw [World.cell?_of_block (Below.heap_setCell _ _ _ _ (show w.heap.size + 1 ≠ w5.heap.size by omega))]; exact c0
          clear hbel7 hSB hSB0 HBY HFR hbel6 hS
          go_wp2
          · go_meet
            exact ⟨_, by simp; have := HSS.out; omega, rfl, HB7.out⟩
          · go_meet
            exact ⟨S, by have := HSS.out; omega, rfl, HB7.out⟩
      · go_meet
        exact ⟨C, by omega, rfl, HBW3.out⟩
    case rest =>
      obtain ⟨S, hS, rfl, hbel⟩ := hcut
      clear hQ3 c0 c1 c2 hf1 HA3 HBW3
      have hpr := fun W => wread_any S W (by omega)
      have hrr := fun W => refWRead_any S W (by omega)
      have hgo : ∀ W u, DepAt W u (gotW (readW S.data.toList)).past → WvOk W (gotW (readW S.data.toList)) u := by
        intro W u h
        cases hq : readW S.data.toList with
        | none => rw [hq] at h; exact ⟨by show (0 : Nat) ≤ _; omega, by show (0 : Nat) ≤ _; omega, by simp [gotW, wz], by simp [gotW, wz, Szd], h⟩
        | some v =>
          rw [hq] at h
          obtain ⟨ho, _⟩ := readW_iff.1 hq
          obtain ⟨o1, o2, o3, o4, o5, o6, o7⟩ := okW_parts ho
          have hp := chkD_parts o5
          exact ⟨by show v.key.size ≤ _; omega, by show v.val.size ≤ _; omega, by show v.past.length ≤ _; omega, fun d hd => by have := srt_sizes hp.2 d hd; omega, h⟩
      have HGO := Lib.hid hgo
      clear hgo
      generalize gotW (readW S.data.toList) = r at hpr hrr HGO
      generalize (readW S.data.toList).isSome = rb at hpr hrr
      dsimp only [wvs] at hpr hrr
      go_wp2_with fail
      refine (hpr _).mono ?_
      rintro e w8 ⟨ua, rfl, hda, hb8⟩
      obtain ⟨paa, pca, rfl, _⟩ := id hda
      have hbel8 := bstep hbel hb8
      have hN := VwP.new w8 r (.slice paa r.past.length pca) 26
      have hbn := balloc (Below.refl _ w8) (.cells #[.string r.key, .string r.val, .bool r.gone, .int .i64 r.st.1, .int .i64 r.st.2, (.slice paa r.past.length pca)] 26)
      have hda9 := hda.below hbn
      have hbel9 := bstep hbel8 hbn
      clear hb8 hbel8 hbel hda hpr
      go_upto_region 13 with fail
      dsimp only [wvs] at hN
      generalize w8.alloc (.cells #[.string r.key, .string r.val, .bool r.gone, .int .i64 r.st.1, .int .i64 r.st.2, (.slice paa r.past.length pca)] 26) = w9 at *
      generalize w8.heap.size = B8 at *
      have HN := Lib.hid hN
      have HDA := Lib.hid hda9
      have HB9 := Lib.hid hbel9
      clear hN hda9 hbel9 hbn
      go_wp2_with fail
      refine (hrr _).mono ?_
      rintro e wa ⟨ub, rfl, hdb, hba⟩
      obtain ⟨pab, pcb, rfl, _⟩ := id hdb
      have hbela := bstep HB9.out hba
      have hNa := HN.out.keep hba
      have hM := VwP.new wa r (.slice pab r.past.length pcb) 26
      have hbm := balloc (Below.refl _ wa) (.cells #[.string r.key, .string r.val, .bool r.gone, .int .i64 r.st.1, .int .i64 r.st.2, (.slice pab r.past.length pcb)] 26)
      have HDA' := Lib.hid ((HDA.out.below hba).below hbm)
      have HDB' := Lib.hid (hdb.below hbm)
      have hNb := hNa.keep hbm
      have HBb := Lib.hid (bstep hbela hbm)
      clear hba hbela hdb hrr HN HDA HB9 hNa
      go_upto_region 14 with fail
      dsimp only [wvs] at hM
      generalize wa.alloc (.cells #[.string r.key, .string r.val, .bool r.gone, .int .i64 r.st.1, .int .i64 r.st.2, (.slice pab r.past.length pcb)] 26) = wc at *
      generalize wa.heap.size = B9 at *
      clear hbm
      obtain ⟨x0, x1, x2, x3, x4, x5, _⟩ := hNb
      obtain ⟨y0, y1, y2, y3, y4, y5, _⟩ := hM
      go_wp2_with fail
      refine (refWSame_any r r (.slice paa r.past.length pca) (.slice pab r.past.length pcb) _ (HGO.out _ _ HDA'.out) (HGO.out _ _ HDB'.out)).mono ?_
      rintro e wd ⟨rfl, hbd⟩
      rw [sameW_self]
      go_wp2
      go_ret
      exact ⟨ret_bool (by simp), bstep HBb.out hbd⟩
end Go.Proofs.Ytkaehjehpclgcaa
