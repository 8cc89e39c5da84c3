/- The walk of the law NearestLeft. -/
import Derived.Test.YtfnfpanmbmkhmaaGN517
import Derived.Deep.DeepCutAuto
import Derived.Test.YtfnfpanmbmkhmaaNearRefReduce
namespace Go.Proofs.Ytfnfpanmbmkhmaa
open Go.RowKit Go.Maps
set_option linter.unusedVariables false
set_option linter.unusedSimpArgs false

theorem nodup_at {l : List De} (h : l.Nodup) {i j : Nat} (hi : i < l.length) (hj : j < l.length) (hne : i ≠ j) : l[i] ≠ l[j] := by
  intro e
  rcases Nat.lt_trichotomy i j with q | q | q
  · exact absurd e (List.pairwise_iff_getElem.1 h i j hi hj q)
  · exact hne q
  · exact absurd e.symm (List.pairwise_iff_getElem.1 h j i hj hi q)

set_option maxRecDepth 100000 in
set_option maxHeartbeats 12800000 in
theorem walkNearestLeft (w : World) (a : Option Addr) (ws : List Wr) (cap : Nat) (hl : ws.length ≤ 9223372036854775807) (hr : WrIn w a ws) :
    Calls Try.prog 5 #[.slice a ws.length cap] w fun e w' => e = .returned (.bool true) ∧ Below w.heap.size w w' := by
  have heq : ∀ (w' : World) (n s m t : Int), (binOp .eql 24 (.agg #[.int .i64 n, .int .i64 s]) (.agg #[.int .i64 m, .int .i64 t])).run Try.prog w' = .ok (.bool (decide ((n, s) = (m, t)))) w' := eq_stamp
  have HEQ := Lib.hid heq
  have HR := Lib.hid hr
  clear hr heq
  go_enter Try.func5, Try.ntmps5
  go_wp2_with fail
  refine (awake5_any _).mono ?_
  rintro e w1 ⟨rfl, hb1⟩
  go_wp2_with fail
  refine (made5_any a cap ws w1 hl (HR.out.below hb1)).mono ?_
  rintro e w2 ⟨u2, xs, rfl, hmap, hvm, hb2⟩
  have HM2 : Hid (Made w2 u2 xs ws) := Lib.hid ⟨hvm.row, hmap⟩
  have hbel2 := bstep hb1 hb2
  obtain ⟨sa, sc, rfl⟩ := hvm.own.shape
  have hxl := HM2.out.len
  clear hvm hmap hb1 hb2
  go_wp2_with fail
  refine (all5_any _ xs w2 (by omega) HM2.out.ok HM2.out.row).mono ?_
  rintro e w3 ⟨u3, rfl, hd3, hb3⟩
  have HA3 := Lib.hid hd3
  obtain ⟨aa, ac, rfl, _, _, _, _⟩ := hd3
  have HM3 := Lib.hid (HM2.out.below hb3)
  have hal := allV_len HM3.out.inv
  have HAS := Lib.hid (allV_srt (xs.map Prod.fst))
  have hbel3 := bstep hbel2 hb3
  clear hb3 HM2 hbel2
  generalize allV (xs.map Prod.fst) = al at HA3 hal HAS
  go_wp2_with fail
  refine (reduce_any _ _ al xs w3 (by omega) HAS.out (by omega) HM3.out.ok HA3.out HM3.out.row).mono ?_
  rintro e w4 ⟨u4, rfl, ho4, hb4⟩
  have HN4 := Lib.hid (DepAt.of_own ho4)
  obtain ⟨na, nc, rfl⟩ := ho4.shape
  have HM4 := Lib.hid (HM3.out.below hb4)
  have HA4 := Lib.hid (HA3.out.below hb4)
  have HOK := Lib.hid HM4.out.ok
  have HV4 := Lib.hid HM4.out.row
  have hbel4 := bstep hbel3 hb4
  have hrl := red_len al (xs.map Prod.fst)
  have HLI := Lib.hid (fun y (hy : y ∈ al) => left_iff (l := xs.map Prod.fst) HAS.out hy)
  have HLN := Lib.hid (fun (x y : De) (hx : x ∈ redL al (xs.map Prod.fst)) (hy : y ∈ redL al (xs.map Prod.fst)) (hne : x ≠ y) => left_none hx hy hne)
  have HND := Lib.hid (srt_nodup HAS.out)
  have HNR := Lib.hid (srt_nodup (red_srt HAS.out (l := xs.map Prod.fst)))
  generalize redL al (xs.map Prod.fst) = rd at HN4 hrl HLI HLN HNR
  clear ho4 hb4 HM3 HA3 hbel3 HM4 HAS
  go_wp2
  go_loopw [7] (fun j wr => ∃ k : Nat, k ≤ rd.length ∧ j = .int .i64 k ∧ Below w4.heap.size w4 wr) (fun j _ => rd.length - (intOf j).toNat)
  case atStart => exact ⟨0, by omega, rfl, Below.refl _ _⟩
  case round =>
    obtain ⟨i, hi, rfl, hbel⟩ := hrel
    by_cases hlt : i < rd.length
    · have hii : (i : Int) < (rd.length : Int) := by omega
      have hii0 : (0 : Int) ≤ (i : Int) := by omega
      obtain ⟨a', c', e', _, _, _, hdi⟩ := HN4.out.below hbel
      cases e'
      obtain ⟨b', off', rfl, hbl', d0, d1, d2⟩ := hdi i hlt
      have HNE : Hid (∀ k (h : k < rd.length), k ≠ i → (fnd (xs.map Prod.fst) rd[i]).isSome = true → Sm.less (gtD (pastOf (xs.map Prod.fst) rd[i]) rd[k].1) rd[k].2 = true) := Lib.hid (fun k h hne hs => by
        have h1 := HLN.out rd[i] rd[k] (List.getElem_mem hlt) (List.getElem_mem h) (nodup_at HNR.out hlt h (fun e => hne e.symm))
        unfold impB at h1
        rw [hs] at h1
        simpa using h1)
      generalize rd[i] = d at d0 d1 d2 HNE
      obtain ⟨dx, dy, dz⟩ := d
      dsimp only at d0 d1 d2
      have HPL := Lib.hid (fpast_len HOK.out (dx, dy, dz))
      have hC := fun W hW => find5_any (.slice sa xs.length sc) xs dx dy dz W (by omega) hW
      have hD := fun (W : World) (hW : Below w4.heap.size w4 W) => (HV4.out.below hW).fpast (dx, dy, dz)
      rw [← fndP_isSome, ← fndP_past] at HNE
      generalize (fndP xs (dx, dy, dz)).isSome = b1 at hC HNE
      generalize (fndP xs (dx, dy, dz)).getD vz = r at hC hD HNE HPL
      have HD := Lib.hid hD
      clear hD hdi
      obtain ⟨⟨key, val, gone, ⟨n1, s1⟩, past⟩, pa, pc⟩ := r
      dsimp only [vv, vcs, pu, sv] at hC HD HNE HPL
      go_wp2_with fail
      refine (hC _ (HV4.out.below hbel)).mono ?_
      rintro e w5 ⟨rfl, hb5⟩
      have hc5 : (w5.alloc (.cells #[.string key, .string val, .bool gone, .int .i64 n1, .int .i64 s1, .slice pa past.length pc] 34)).cell? ⟨w5.heap.size, 5, none⟩ = some (.slice pa past.length pc) := by simp
      have hbel5 := balloc (bstep hbel hb5) (.cells #[.string key, .string val, .bool gone, .int .i64 n1, .int .i64 s1, .slice pa past.length pc] 34)
      have hlt5 : w5.heap.size < (w5.alloc (.cells #[.string key, .string val, .bool gone, .int .i64 n1, .int .i64 s1, .slice pa past.length pc] 34)).heap.size := by simp
      clear hC hb5 d0 d1 d2 hbel
      go_wp2
      generalize w5.alloc (.cells #[.string key, .string val, .bool gone, .int .i64 n1, .int .i64 s1, .slice pa past.length pc] 34) = w6 at *
      generalize w5.heap.size = bx at *
      go_loopw [10] (fun j wr => ∃ k : Nat, k ≤ rd.length ∧ j = .int .i64 k ∧ Below w6.heap.size w6 wr) (fun j _ => rd.length - (intOf j).toNat)
      case atStart => exact ⟨0, by omega, rfl, Below.refl _ _⟩
      case round =>
        obtain ⟨k, hk, rfl, hbr⟩ := hrel
        have hbelr := bstep hbel5 hbr
        by_cases hkl : k < rd.length
        · obtain ⟨a', c', e', _, _, _, hdi⟩ := HN4.out.below hbelr
          cases e'
          obtain ⟨b8, off8, e8, hbl8, d0, d1, d2⟩ := hdi k hkl
          cases e8
          have HNK := Lib.hid (HNE.out k hkl)
          obtain ⟨dk, hdk⟩ : ∃ dk, rd[k] = dk := ⟨_, rfl⟩
          have HDK := Lib.hid hdk
          rw [hdk] at d0 d1 d2 HNK
          clear hdi hdk
          obtain ⟨kx, y, z⟩ := dk
          dsimp only at d0 d1 d2 HNK
          have hG := fun W hW => refPGet_any (.slice pa past.length pc) past kx W (by have := HPL.out; omega) hW
          generalize gtD past kx = gg at hG HNK
          obtain ⟨g0, g1⟩ := gg
          dsimp only [sv] at hG
          have HG := Lib.hid hG
          have HDP := Lib.hid (HD.out _ hbelr)
          have g0s : wr.cell? ⟨bx, 5, none⟩ = some (.slice pa past.length pc) ∧ wr.cell? ⟨b', off' + k * 3, none⟩ = some (.string kx) := ⟨kc hbr hc5, d0⟩
          have hki1 : (k : Int) < (rd.length : Int) := by omega
          have hki0 : (0 : Int) ≤ (k : Int) := by omega
          clear d0 d1 d2 hG
          go_upto_region 12 with fail
          go_cut [11] (fun s wx => ∃ B, s = .pointer (some ⟨B, 0, none⟩) ∧ wx.cell? ⟨B, 0, none⟩ = some (.int .i64 g0) ∧ wx.cell? ⟨B, 1, none⟩ = some (.int .i64 g1) ∧ Below wr.heap.size wr wx)
          case first =>
            have hG := HG.out
            clear HG
            go_wp2_with fail
            refine wp_region_held_drew (S := fun w' => w'.cell? ⟨bx, 5, none⟩ = some (.slice pa past.length pc) ∧ w'.cell? ⟨b', off' + k * 3, none⟩ = some (.string kx)) (by kernel_rfl) (g0s) (fun hHeld => ?_)
            refine wpAnyH_take (i := 0) (v := ?vk1) rfl (by kernel_rfl) (by kernel_rfl) (by kernel_rfl) (fun _ _ _ h => h) (Or.inl ⟨by rfl, ?yk1⟩) (by assumption) ?rk1
            case yk1 => (intro w hSw; (try dsimp only at hSw); go_simp; try with_reducible rfl)
            try simp only [Act.put, List.setIfInBounds_toArray, List.set_cons_zero, List.set_cons_succ, List.getElem_toArray, List.getElem_cons_zero, List.getElem_cons_succ]
            refine wpAnyH_take (i := 1) (v := ?vk2) rfl (by kernel_rfl) (by kernel_rfl) (by kernel_rfl) (fun _ _ _ h => h) (Or.inl ⟨by rfl, ?yk2⟩) (by assumption) ?rk2
            case yk2 => (intro w hSw; (try dsimp only at hSw); go_simp; try with_reducible rfl)
            try simp only [Act.put, List.setIfInBounds_toArray, List.set_cons_zero, List.set_cons_succ, List.getElem_toArray, List.getElem_cons_zero, List.getElem_cons_succ]
            refine wpAnyH_take (i := 2) (v := ?vk3) rfl (by kernel_rfl) (by kernel_rfl) (by kernel_rfl) (fun _ _ _ h => h) (Or.inl ⟨by rfl, ?yk3⟩) (by assumption) ?rk3
            case yk3 => (intro w hSw; (try dsimp only at hSw); go_simp; try with_reducible rfl)
            try simp only [Act.put, List.setIfInBounds_toArray, List.set_cons_zero, List.set_cons_succ, List.getElem_toArray, List.getElem_cons_zero, List.getElem_cons_succ]
            refine wpAnyH_take (i := 3) (v := ?vk4) rfl (by kernel_rfl) (by kernel_rfl) (by kernel_rfl) (fun _ _ _ h => h) (Or.inl ⟨by rfl, ?yk4⟩) (by assumption) ?rk4
            case yk4 => (intro w hSw; (try dsimp only at hSw); go_simp; try with_reducible rfl)
            try simp only [Act.put, List.setIfInBounds_toArray, List.set_cons_zero, List.set_cons_succ, List.getElem_toArray, List.getElem_cons_zero, List.getElem_cons_succ]
            refine wpAnyH_take (i := 4) (v := ?vk5) rfl (by kernel_rfl) (by kernel_rfl) (by kernel_rfl) (fun _ _ _ h => h) (Or.inl ⟨by rfl, ?yk5⟩) (by assumption) ?rk5
            case yk5 => (intro w hSw; (try dsimp only at hSw); go_simp; try with_reducible rfl)
            try simp only [Act.put, List.setIfInBounds_toArray, List.set_cons_zero, List.set_cons_succ, List.getElem_toArray, List.getElem_cons_zero, List.getElem_cons_succ]
            refine wpAnyH_take (i := 5) (v := ?vk6) rfl (by kernel_rfl) (by kernel_rfl) (by kernel_rfl) (fun _ _ _ h => h) (Or.inl ⟨by rfl, ?yk6⟩) (by assumption) ?rk6
            case yk6 => (intro w hSw; (try dsimp only at hSw); go_simp; try with_reducible rfl)
            try simp only [Act.put, List.setIfInBounds_toArray, List.set_cons_zero, List.set_cons_succ, List.getElem_toArray, List.getElem_cons_zero, List.getElem_cons_succ]
            refine wpAnyH_take (i := 6) (v := ?vk7) rfl (by kernel_rfl) (by kernel_rfl) (by kernel_rfl) (fun _ _ _ h => h) (Or.inl ⟨by rfl, ?yk7⟩) (by assumption) ?rk7
            case yk7 => (intro w hSw; (try dsimp only at hSw); go_simp; try with_reducible rfl)
            try simp only [Act.put, List.setIfInBounds_toArray, List.set_cons_zero, List.set_cons_succ, List.getElem_toArray, List.getElem_cons_zero, List.getElem_cons_succ]
            refine wpAnyH_ready (rs := [7, 8]) (by kernel_rfl) (by simp) ?_
            refine AllReadyH.cons rfl (fun K hK => ?_) (AllReadyH.cons rfl (fun K hK => ?_) AllReadyH.nil)
            · go_simp
              go_at_call 24
              refine (hG _ (HDP.out.drew)).mono ?_
              rintro e wa ⟨rfl, ha⟩
              have g1s := And.intro (kc ha g0s.1) (kc ha g0s.2)
              go_wp2_with fail
              refine hK.out _ _ (g1s) (fun hHeld => ?_)
              clear hK K
              try simp only [Act.put, List.setIfInBounds_toArray, List.set_cons_zero, List.set_cons_succ, List.getElem_toArray, List.getElem_cons_zero, List.getElem_cons_succ]
              have g2s := And.intro (kc (balloc (Below.refl _ wa) (.cells #[.int .i64 0, .int .i64 0] 24)) g1s.1) (kc (balloc (Below.refl _ wa) (.cells #[.int .i64 0, .int .i64 0] 24)) g1s.2)
              have hne1 : bx ≠ wa.heap.size := by have := lt_of_cellN g1s.1; omega
              have hne2 : b' ≠ wa.heap.size := by have := lt_of_cellN g1s.2; omega
              refine wpAnyH_ready (rs := [8]) (by kernel_rfl) (by simp) ?_
              refine AllReadyH.cons rfl (fun K hK => ?_) AllReadyH.nil
              go_simp
              refine hK.out _ _ (g2s) (fun hHeld => ?_)
              clear hK K
              try simp only [Act.put, List.setIfInBounds_toArray, List.set_cons_zero, List.set_cons_succ, List.getElem_toArray, List.getElem_cons_zero, List.getElem_cons_succ]
              refine wpAnyH_ready (rs := [9]) (by kernel_rfl) (by simp) ?_
              refine AllReadyH.cons rfl (fun K hK => ?_) AllReadyH.nil
              go_simp
              refine hK.out _ _ (And.intro (kc (balloc (Below.refl _ wa) (.cells #[.int .i64 g0, .int .i64 g1] 24)) g1s.1) (kc (balloc (Below.refl _ wa) (.cells #[.int .i64 g0, .int .i64 g1] 24)) g1s.2)) (fun hHeld => ?_)
              clear hK K
              try simp only [Act.put, List.setIfInBounds_toArray, List.set_cons_zero, List.set_cons_succ, List.getElem_toArray, List.getElem_cons_zero, List.getElem_cons_succ]
              refine wpAnyH_done (by kernel_rfl) ?_ _
              have hBW : Below wr.heap.size wr (wa.alloc (.cells #[.int .i64 g0, .int .i64 g1] 24)) := balloc (bstep (Below.refl _ _).drew ha) _
              go_wp2
              go_meet
              exact ⟨wa.heap.size, rfl, by simp, by simp, hBW⟩
            · go_simp
              have hbZ : Below wr.heap.size wr ((wr.alloc (.cells #[.int .i64 0, .int .i64 0] 24)).drew) := ((balloc (Below.refl _ _) _).drew)
              have gz := And.intro (kc hbZ g0s.1) (kc hbZ g0s.2)
              refine hK.out _ _ (gz) (fun hHeld => ?_)
              clear hK K
              try simp only [Act.put, List.setIfInBounds_toArray, List.set_cons_zero, List.set_cons_succ, List.getElem_toArray, List.getElem_cons_zero, List.getElem_cons_succ]
              refine wpAnyH_ready (rs := [7]) (by kernel_rfl) (by simp) ?_
              refine AllReadyH.cons rfl (fun K hK => ?_) AllReadyH.nil
              go_simp
              go_at_call 24
              refine (hG _ (HDP.out.below hbZ)).mono ?_
              rintro e wa ⟨rfl, ha⟩
              have g1s := And.intro (kc ha gz.1) (kc ha gz.2)
              have hvB : Var2 ((wr.alloc (.cells #[.int .i64 0, .int .i64 0] 24)).drew) (wr.heap.size) (0, 0) := ⟨by simp, by simp, by simp, by simp⟩
              obtain ⟨p0, p1, f0, f1⟩ := hvB.keep ha
              have hvP := Var2.put (p := (0, 0)) ⟨p0, p1, f0, f1⟩ g0 g1
              have hneA : bx ≠ wr.heap.size := by have := lt_of_cellN g0s.1; omega
              have hneB : b' ≠ wr.heap.size := by have := lt_of_cellN g0s.2; omega
              go_wp2_with fail
              refine hK.out _ _ (g1s) (fun hHeld => ?_)
              clear hK K
              try simp only [Act.put, List.setIfInBounds_toArray, List.set_cons_zero, List.set_cons_succ, List.getElem_toArray, List.getElem_cons_zero, List.getElem_cons_succ]
              refine wpAnyH_ready (rs := [9]) (by kernel_rfl) (by simp) ?_
              refine AllReadyH.cons rfl (fun K hK => ?_) AllReadyH.nil
              go_simp
              refine hK.out _ _ (And.intro (by rw [World.cell?_setCell_other _ _ _ _ (by simp [hneA]), World.cell?_setCell_other _ _ _ _ (by simp [hneA])]; exact g1s.1) (by rw [World.cell?_setCell_other _ _ _ _ (by simp [hneB]), World.cell?_setCell_other _ _ _ _ (by simp [hneB])]; exact g1s.2)) (fun hHeld => ?_)
              clear hK K
              try simp only [Act.put, List.setIfInBounds_toArray, List.set_cons_zero, List.set_cons_succ, List.getElem_toArray, List.getElem_cons_zero, List.getElem_cons_succ]
              refine wpAnyH_done (by kernel_rfl) ?_ _
              have hBW : Below wr.heap.size wr ((wa.setCell ⟨wr.heap.size, 0, none⟩ (.int .i64 g0)).setCell ⟨wr.heap.size, 1, none⟩ (.int .i64 g1)) := ((bstep hbZ ha).setCell (Nat.le_refl _) _).setCell (Nat.le_refl _) _
              go_wp2
              go_meet
              exact ⟨wr.heap.size, rfl, hvP.c0, hvP.c1, hBW⟩
          case rest =>
            obtain ⟨B, rfl, q0, q1, hbc⟩ := hcut
            have hbcr := bstep hbr hbc
            obtain ⟨a', c', e', _, _, _, hdi⟩ := HN4.out.below (bstep hbelr hbc)
            cases e'
            obtain ⟨b8, off8, e8, hbl8, k0, k1, k2⟩ := hdi k hkl
            cases e8
            rw [HDK.out] at k0 k1 k2
            dsimp only at k0 k1 k2
            clear hdi g0s HG
            by_cases hki : k = i
            · skip
              have hkd : decide ((k : Int) = (i : Int)) = true := by simp [hki]
              have hkb : ((k : Int) == (i : Int)) = true := by simp [hki]
              have hkn : ((k : Int) != (i : Int)) = false := by simp [hki]
              have hke : (k : Int) = (i : Int) := by omega
              cases b1 with
              | false =>
                go_wp2_with fail
                go_quiet (fail)
                go_wp2
                go_roundw
                case rel => exact ⟨k + 1, by omega, by go_num, bstep hbcr (bdrewN _ _)⟩
                case measure => simp [intOf]; omega
              | true =>
                go_wp2_with fail
                go_quiet (fail)
                go_wp2
                go_roundw
                case rel => exact ⟨k + 1, by omega, by go_num, bstep hbcr (bdrewN _ _)⟩
                case measure => simp [intOf]; omega
            · skip
              have hkd : decide ((k : Int) = (i : Int)) = false := by simp; omega
              have hkb : ((k : Int) == (i : Int)) = false := by simp; omega
              have hkn : ((k : Int) != (i : Int)) = true := by simp; omega
              have hke : ¬ (k : Int) = (i : Int) := by omega
              cases b1 with
              | false =>
                go_wp2_with fail
                go_quiet (fail)
                go_wp2
                go_roundw
                case rel => exact ⟨k + 1, by omega, by go_num, bstep hbcr (bdrewN _ _)⟩
                case measure => simp [intOf]; omega
              | true =>
                have hLs := fun W' => refLess_any g0 g1 y z W'
                rw [HNK.out hki rfl] at hLs
                have g9 : wc.cell? ⟨B, 0, none⟩ = some (.int .i64 g0) ∧ wc.cell? ⟨B, 1, none⟩ = some (.int .i64 g1) ∧ wc.cell? ⟨b', off' + k * 3 + 1, none⟩ = some (.int .i64 y) ∧ wc.cell? ⟨b', off' + k * 3 + 2, none⟩ = some (.int .i64 z) := ⟨q0, q1, k1, k2⟩
                clear q0 q1 k0 k1 k2
                go_wp2_with fail
                go_region_held3 (fun w' => w'.cell? ⟨B, 0, none⟩ = some (.int .i64 g0) ∧ w'.cell? ⟨B, 1, none⟩ = some (.int .i64 g1) ∧ w'.cell? ⟨b', off' + k * 3 + 1, none⟩ = some (.int .i64 y) ∧ w'.cell? ⟨b', off' + k * 3 + 2, none⟩ = some (.int .i64 z))
                  (first | exact g9 | exact g10)
                  (first
                    | (go_at_call 25; ((refine (hLs _).mono ?_); rintro e w9 ⟨rfl, h9⟩; have g10 := keep22 h9 g9)))
                have hb9 := bstep hbcr (bstep ((Below.refl _ _).drew) h9)
                go_wp2
                go_roundw
                case rel => exact ⟨k + 1, by omega, by go_num, hb9⟩
                case measure => simp [intOf]; omega
        · obtain rfl : k = rd.length := by omega
          go_wp2
          go_roundw
          case rel => exact ⟨i + 1, by omega, by go_num, hbelr⟩
          case measure => simp [intOf]; omega
    · obtain rfl : i = rd.length := by omega
      clear HLN HNR
      go_wp2
      go_loopw [12] (fun j wr => ∃ k : Nat, k ≤ al.length ∧ j = .int .i64 k ∧ Below w4.heap.size w4 wr) (fun j _ => al.length - (intOf j).toNat)
      case atStart => exact ⟨0, by omega, rfl, hbel⟩
      case round =>
        clear hbel
        obtain ⟨i, hi, rfl, hbel⟩ := hrel
        by_cases hlt : i < al.length
        · have hii : (i : Int) < (al.length : Int) := by omega
          have hii0 : (0 : Int) ≤ (i : Int) := by omega
          obtain ⟨a', c', e', _, _, _, hdi⟩ := HA4.out.below hbel
          cases e'
          obtain ⟨b', off', rfl, hbl', d0, d1, d2⟩ := hdi i hlt
          have HALL := Lib.hid (fun t (h : ToldI al (xs.map Prod.fst) i al.length t) => h.all hlt HND.out)
          have HST := Lib.hid (fun (k : Nat) (t : Bool) (hk : k < al.length) (h : ToldI al (xs.map Prod.fst) i k t) => h.step hlt hk)
          have HLE := Lib.hid (HLI.out al[i] (List.getElem_mem hlt))
          obtain ⟨di, hdi2⟩ : ∃ di, al[i] = di := ⟨_, rfl⟩
          rw [hdi2] at d0 d1 d2 HALL HST HLE
          have HDI := Lib.hid hdi2
          clear hdi hdi2
          obtain ⟨x, y, z⟩ := di
          dsimp only at d0 d1 d2 HLE
          have hG := fun W hW => refPGet_any (.slice na rd.length nc) rd x W (by omega) hW
          generalize gtD rd x = gg at hG HLE
          obtain ⟨g0, g1⟩ := gg
          dsimp only [sv] at hG
          have heq1 := fun w' => HEQ.out w' g0 g1 y z
          have HLF : Hid (decide ((g0, g1) = (y, z)) = !(al.any fun x' => decide (x' ≠ (x, y, z)) && impB (xs.map Prod.fst) x' (x, y, z))) := Lib.hid HLE.out
          clear HLE
          generalize decide (((g0, g1) : Int × Int) = (y, z)) = lf at heq1 HLF
          have g0r : wr.cell? ⟨b', off' + i * 3, none⟩ = some (.string x) ∧ wr.cell? ⟨b', off' + i * 3 + 1, none⟩ = some (.int .i64 y) ∧ wr.cell? ⟨b', off' + i * 3 + 2, none⟩ = some (.int .i64 z) := ⟨d0, d1, d2⟩
          have HNr := Lib.hid (HN4.out.below hbel)
          clear d0 d1 d2
          go_wp2_with fail
          go_region_held3 (fun w' => w'.cell? ⟨b', off' + i * 3, none⟩ = some (.string x) ∧ w'.cell? ⟨b', off' + i * 3 + 1, none⟩ = some (.int .i64 y) ∧ w'.cell? ⟨b', off' + i * 3 + 2, none⟩ = some (.int .i64 z))
            (first | exact g0r | exact g1r)
            (first
              | (go_at_call 24; ((refine (hG _ HNr.out.drew).mono ?_); rintro e w5 ⟨rfl, h5⟩; have g1r := keepA3 h5 g0r)))
          have hb5 := bstep hbel (bstep ((Below.refl _ _).drew) h5)
          clear hG heq1 g0r g1r HNr h5 hbel
          go_wp2
          go_loopw [14, 15] (fun t j wr => ∃ (k : Nat) (td : Bool), k ≤ al.length ∧ j = .int .i64 k ∧ t = .bool td ∧ ToldI al (xs.map Prod.fst) i k td ∧ Below w4.heap.size w4 wr) (fun _ j _ => al.length - (intOf j).toNat)
          case atStart => exact ⟨0, false, by omega, rfl, rfl, by unfold ToldI; simp, hb5⟩
          case round =>
            clear hb5
            obtain ⟨k, td, hk2, rfl, rfl, htd, hbel⟩ := hrel
            have HTD0 := Lib.hid htd
            clear htd
            by_cases hkl : k < al.length
            · obtain ⟨a', c', e', _, _, _, hdi⟩ := HA4.out.below hbel
              cases e'
              obtain ⟨b8, off8, e8, hbl8, d0, d1, d2⟩ := hdi k hkl
              cases e8
              have HIMP : Hid (impB (xs.map Prod.fst) al[k] al[i] = true ↔ ((fndP xs al[k]).isSome = true ∧ (!Sm.less (gtD ((fndP xs al[k]).getD vz).1.past x) (y, z)) = true)) := Lib.hid (by
                unfold impB
                rw [Bool.and_eq_true, ← fndP_isSome, ← fndP_past, HDI.out])
              have HSTEP := Lib.hid (fun r h1 h2 => HST.out k td hkl HTD0.out r h1 h2)
              rw [HDI.out] at HIMP
              clear hdi HST
              generalize al[k] = d at d0 d1 d2 HIMP HSTEP
              obtain ⟨dx, dy, dz⟩ := d
              dsimp only at d0 d1 d2
              have HPL := Lib.hid (fpast_len HOK.out (dx, dy, dz))
              have hC := fun W hW => find5_any (.slice sa xs.length sc) xs dx dy dz W (by omega) hW
              have hD := fun (W : World) (hW : Below w4.heap.size w4 W) => (HV4.out.below hW).fpast (dx, dy, dz)
              have hG := fun W hW => refPGet_any (pu ((fndP xs (dx, dy, dz)).getD vz)) ((fndP xs (dx, dy, dz)).getD vz).1.past x W (by have := HPL.out; omega) hW
              generalize (fndP xs (dx, dy, dz)).isSome = b1 at hC HIMP
              generalize (fndP xs (dx, dy, dz)).getD vz = r at hC hD hG HIMP
              have HD := Lib.hid hD
              generalize gtD r.1.past x = gg at hG HIMP
              obtain ⟨g0, g1⟩ := gg
              have HSTEP : Hid (∀ (r : Bool), (k ≠ i ∧ b1 = true ∧ (!Sm.less (g0, g1) (y, z)) = true → r = true) → (r = true → k ≠ i ∧ b1 = true ∧ (!Sm.less (g0, g1) (y, z)) = true) → ToldI al (xs.map Prod.fst) i (k + 1) (td || r)) := Lib.hid (fun r h1 h2 => HSTEP.out r (fun h => h1 ⟨h.1, HIMP.out.1 h.2⟩) (fun h => ⟨(h2 h).1, HIMP.out.2 (h2 h).2⟩))
              clear hD HPL HIMP
              obtain ⟨⟨key, val, gone, ⟨n1, s1⟩, past⟩, pa, pc⟩ := r
              dsimp only [vv, vcs, pu, sv] at hC hG HD
              have HG := Lib.hid hG
              have hki1 : (k : Int) < (al.length : Int) := by omega
              have hki0 : (0 : Int) ≤ (k : Int) := by omega
              clear hG
              go_wp2_with fail
              refine (hC _ (HV4.out.below hbel)).mono ?_
              rintro e w5 ⟨rfl, hb5⟩
              have hc5 : (w5.alloc (.cells #[.string key, .string val, .bool gone, .int .i64 n1, .int .i64 s1, .slice pa past.length pc] 34)).cell? ⟨w5.heap.size, 5, none⟩ = some (.slice pa past.length pc) := by simp
              have hbel5 := balloc (bstep hbel hb5) (.cells #[.string key, .string val, .bool gone, .int .i64 n1, .int .i64 s1, .slice pa past.length pc] 34)
              have hlt5 : w5.heap.size < (w5.alloc (.cells #[.string key, .string val, .bool gone, .int .i64 n1, .int .i64 s1, .slice pa past.length pc] 34)).heap.size := by simp
              clear hC hb5 d0 d1 d2 hbel
              go_wp2_with fail
              generalize w5.alloc (.cells #[.string key, .string val, .bool gone, .int .i64 n1, .int .i64 s1, .slice pa past.length pc] 34) = w6 at *
              generalize w5.heap.size = bx at *
              have HDP := Lib.hid (HD.out _ hbel5)
              obtain ⟨a9, c9, e9, _, _, _, hd9⟩ := HA4.out.below hbel5
              cases e9
              obtain ⟨b9, off9, e9, _, k0, k1, k2⟩ := hd9 i hlt
              cases e9
              rw [HDI.out] at k0 k1 k2
              dsimp only at k0 k1 k2
              have g0s : w6.cell? ⟨bx, 5, none⟩ = some (.slice pa past.length pc) ∧ w6.cell? ⟨b', off' + i * 3, none⟩ = some (.string x) := ⟨hc5, k0⟩
              clear hd9 k0 k1 k2 HD
              go_upto_region 24 with fail
              go_cut [18] (fun s wx => ∃ B, s = .pointer (some ⟨B, 0, none⟩) ∧ wx.cell? ⟨B, 0, none⟩ = some (.int .i64 g0) ∧ wx.cell? ⟨B, 1, none⟩ = some (.int .i64 g1) ∧ Below w6.heap.size w6 wx)
              case first =>
                have hG := HG.out
                clear HG
                go_wp2_with fail
                refine wp_region_held_drew (S := fun w' => w'.cell? ⟨bx, 5, none⟩ = some (.slice pa past.length pc) ∧ w'.cell? ⟨b', off' + i * 3, none⟩ = some (.string x)) (by kernel_rfl) (g0s) (fun hHeld => ?_)
                refine wpAnyH_take (i := 0) (v := ?vk8) rfl (by kernel_rfl) (by kernel_rfl) (by kernel_rfl) (fun _ _ _ h => h) (Or.inl ⟨by rfl, ?yk8⟩) (by assumption) ?rk8
                case yk8 => (intro w hSw; (try dsimp only at hSw); go_simp; try with_reducible rfl)
                try simp only [Act.put, List.setIfInBounds_toArray, List.set_cons_zero, List.set_cons_succ, List.getElem_toArray, List.getElem_cons_zero, List.getElem_cons_succ]
                refine wpAnyH_take (i := 1) (v := ?vk9) rfl (by kernel_rfl) (by kernel_rfl) (by kernel_rfl) (fun _ _ _ h => h) (Or.inl ⟨by rfl, ?yk9⟩) (by assumption) ?rk9
                case yk9 => (intro w hSw; (try dsimp only at hSw); go_simp; try with_reducible rfl)
                try simp only [Act.put, List.setIfInBounds_toArray, List.set_cons_zero, List.set_cons_succ, List.getElem_toArray, List.getElem_cons_zero, List.getElem_cons_succ]
                refine wpAnyH_take (i := 2) (v := ?vk10) rfl (by kernel_rfl) (by kernel_rfl) (by kernel_rfl) (fun _ _ _ h => h) (Or.inl ⟨by rfl, ?yk10⟩) (by assumption) ?rk10
                case yk10 => (intro w hSw; (try dsimp only at hSw); go_simp; try with_reducible rfl)
                try simp only [Act.put, List.setIfInBounds_toArray, List.set_cons_zero, List.set_cons_succ, List.getElem_toArray, List.getElem_cons_zero, List.getElem_cons_succ]
                refine wpAnyH_take (i := 3) (v := ?vk11) rfl (by kernel_rfl) (by kernel_rfl) (by kernel_rfl) (fun _ _ _ h => h) (Or.inl ⟨by rfl, ?yk11⟩) (by assumption) ?rk11
                case yk11 => (intro w hSw; (try dsimp only at hSw); go_simp; try with_reducible rfl)
                try simp only [Act.put, List.setIfInBounds_toArray, List.set_cons_zero, List.set_cons_succ, List.getElem_toArray, List.getElem_cons_zero, List.getElem_cons_succ]
                refine wpAnyH_take (i := 4) (v := ?vk12) rfl (by kernel_rfl) (by kernel_rfl) (by kernel_rfl) (fun _ _ _ h => h) (Or.inl ⟨by rfl, ?yk12⟩) (by assumption) ?rk12
                case yk12 => (intro w hSw; (try dsimp only at hSw); go_simp; try with_reducible rfl)
                try simp only [Act.put, List.setIfInBounds_toArray, List.set_cons_zero, List.set_cons_succ, List.getElem_toArray, List.getElem_cons_zero, List.getElem_cons_succ]
                refine wpAnyH_take (i := 5) (v := ?vk13) rfl (by kernel_rfl) (by kernel_rfl) (by kernel_rfl) (fun _ _ _ h => h) (Or.inl ⟨by rfl, ?yk13⟩) (by assumption) ?rk13
                case yk13 => (intro w hSw; (try dsimp only at hSw); go_simp; try with_reducible rfl)
                try simp only [Act.put, List.setIfInBounds_toArray, List.set_cons_zero, List.set_cons_succ, List.getElem_toArray, List.getElem_cons_zero, List.getElem_cons_succ]
                refine wpAnyH_take (i := 6) (v := ?vk14) rfl (by kernel_rfl) (by kernel_rfl) (by kernel_rfl) (fun _ _ _ h => h) (Or.inl ⟨by rfl, ?yk14⟩) (by assumption) ?rk14
                case yk14 => (intro w hSw; (try dsimp only at hSw); go_simp; try with_reducible rfl)
                try simp only [Act.put, List.setIfInBounds_toArray, List.set_cons_zero, List.set_cons_succ, List.getElem_toArray, List.getElem_cons_zero, List.getElem_cons_succ]
                refine wpAnyH_ready (rs := [7, 8]) (by kernel_rfl) (by simp) ?_
                refine AllReadyH.cons rfl (fun K hK => ?_) (AllReadyH.cons rfl (fun K hK => ?_) AllReadyH.nil)
                · go_simp
                  go_at_call 24
                  refine (hG _ (HDP.out.drew)).mono ?_
                  rintro e wa ⟨rfl, ha⟩
                  have g1s := And.intro (kc ha g0s.1) (kc ha g0s.2)
                  go_wp2_with fail
                  refine hK.out _ _ (g1s) (fun hHeld => ?_)
                  clear hK K
                  try simp only [Act.put, List.setIfInBounds_toArray, List.set_cons_zero, List.set_cons_succ, List.getElem_toArray, List.getElem_cons_zero, List.getElem_cons_succ]
                  have g2s := And.intro (kc (balloc (Below.refl _ wa) (.cells #[.int .i64 0, .int .i64 0] 24)) g1s.1) (kc (balloc (Below.refl _ wa) (.cells #[.int .i64 0, .int .i64 0] 24)) g1s.2)
                  have hne1 : bx ≠ wa.heap.size := by have := lt_of_cellN g1s.1; omega
                  have hne2 : b' ≠ wa.heap.size := by have := lt_of_cellN g1s.2; omega
                  refine wpAnyH_ready (rs := [8]) (by kernel_rfl) (by simp) ?_
                  refine AllReadyH.cons rfl (fun K hK => ?_) AllReadyH.nil
                  go_simp
                  refine hK.out _ _ (g2s) (fun hHeld => ?_)
                  clear hK K
                  try simp only [Act.put, List.setIfInBounds_toArray, List.set_cons_zero, List.set_cons_succ, List.getElem_toArray, List.getElem_cons_zero, List.getElem_cons_succ]
                  refine wpAnyH_ready (rs := [9]) (by kernel_rfl) (by simp) ?_
                  refine AllReadyH.cons rfl (fun K hK => ?_) AllReadyH.nil
                  go_simp
                  refine hK.out _ _ (And.intro (kc (balloc (Below.refl _ wa) (.cells #[.int .i64 g0, .int .i64 g1] 24)) g1s.1) (kc (balloc (Below.refl _ wa) (.cells #[.int .i64 g0, .int .i64 g1] 24)) g1s.2)) (fun hHeld => ?_)
                  clear hK K
                  try simp only [Act.put, List.setIfInBounds_toArray, List.set_cons_zero, List.set_cons_succ, List.getElem_toArray, List.getElem_cons_zero, List.getElem_cons_succ]
                  refine wpAnyH_done (by kernel_rfl) ?_ _
                  have hBW : Below w6.heap.size w6 (wa.alloc (.cells #[.int .i64 g0, .int .i64 g1] 24)) := balloc (bstep (Below.refl _ _).drew ha) _
                  go_wp2
                  go_meet
                  exact ⟨wa.heap.size, rfl, by simp, by simp, hBW⟩
                · go_simp
                  have hbZ : Below w6.heap.size w6 ((w6.alloc (.cells #[.int .i64 0, .int .i64 0] 24)).drew) := ((balloc (Below.refl _ _) _).drew)
                  have gz := And.intro (kc hbZ g0s.1) (kc hbZ g0s.2)
                  refine hK.out _ _ (gz) (fun hHeld => ?_)
                  clear hK K
                  try simp only [Act.put, List.setIfInBounds_toArray, List.set_cons_zero, List.set_cons_succ, List.getElem_toArray, List.getElem_cons_zero, List.getElem_cons_succ]
                  refine wpAnyH_ready (rs := [7]) (by kernel_rfl) (by simp) ?_
                  refine AllReadyH.cons rfl (fun K hK => ?_) AllReadyH.nil
                  go_simp
                  go_at_call 24
                  refine (hG _ (HDP.out.below hbZ)).mono ?_
                  rintro e wa ⟨rfl, ha⟩
                  have g1s := And.intro (kc ha gz.1) (kc ha gz.2)
                  have hvB : Var2 ((w6.alloc (.cells #[.int .i64 0, .int .i64 0] 24)).drew) (w6.heap.size) (0, 0) := ⟨by simp, by simp, by simp, by simp⟩
                  obtain ⟨p0, p1, f0, f1⟩ := hvB.keep ha
                  have hvP := Var2.put (p := (0, 0)) ⟨p0, p1, f0, f1⟩ g0 g1
                  have hneA : bx ≠ w6.heap.size := by have := lt_of_cellN g0s.1; omega
                  have hneB : b' ≠ w6.heap.size := by have := lt_of_cellN g0s.2; omega
                  go_wp2_with fail
                  refine hK.out _ _ (g1s) (fun hHeld => ?_)
                  clear hK K
                  try simp only [Act.put, List.setIfInBounds_toArray, List.set_cons_zero, List.set_cons_succ, List.getElem_toArray, List.getElem_cons_zero, List.getElem_cons_succ]
                  refine wpAnyH_ready (rs := [9]) (by kernel_rfl) (by simp) ?_
                  refine AllReadyH.cons rfl (fun K hK => ?_) AllReadyH.nil
                  go_simp
                  refine hK.out _ _ (And.intro (by rw [World.cell?_setCell_other _ _ _ _ (by simp [hneA]), World.cell?_setCell_other _ _ _ _ (by simp [hneA])]; exact g1s.1) (by rw [World.cell?_setCell_other _ _ _ _ (by simp [hneB]), World.cell?_setCell_other _ _ _ _ (by simp [hneB])]; exact g1s.2)) (fun hHeld => ?_)
                  clear hK K
                  try simp only [Act.put, List.setIfInBounds_toArray, List.set_cons_zero, List.set_cons_succ, List.getElem_toArray, List.getElem_cons_zero, List.getElem_cons_succ]
                  refine wpAnyH_done (by kernel_rfl) ?_ _
                  have hBW : Below w6.heap.size w6 ((wa.setCell ⟨w6.heap.size, 0, none⟩ (.int .i64 g0)).setCell ⟨w6.heap.size, 1, none⟩ (.int .i64 g1)) := ((bstep hbZ ha).setCell (Nat.le_refl _) _).setCell (Nat.le_refl _) _
                  go_wp2
                  go_meet
                  exact ⟨w6.heap.size, rfl, hvP.c0, hvP.c1, hBW⟩
              case rest =>
                obtain ⟨B, rfl, q0, q1, hbc⟩ := hcut
                have hbcr := bstep hbel5 hbc
                obtain ⟨a9, c9, e9, _, _, _, hd9⟩ := HA4.out.below hbcr
                cases e9
                obtain ⟨b9, off9, e9, _, k0, k1, k2⟩ := hd9 i hlt
                cases e9
                rw [HDI.out] at k0 k1 k2
                dsimp only at k0 k1 k2
                clear hd9 g0s HG HDP
                by_cases hki : k = i
                · skip
                  have hkd : decide ((k : Int) = (i : Int)) = true := by simp [hki]
                  have hkb : ((k : Int) == (i : Int)) = true := by simp [hki]
                  have hkn : ((k : Int) != (i : Int)) = false := by simp [hki]
                  have hke : (k : Int) = (i : Int) := by omega
                  have HTD := Lib.hid (HSTEP.out false (fun h => absurd hki h.1) (fun h => by cases h))
                  go_wp2_with fail
                  go_quiet (fail)
                  go_wp2
                  go_roundw
                  case rel => exact ⟨k + 1, td, by omega, by go_num, rfl, by simpa using HTD.out, bstep hbcr (bdrewN _ _)⟩
                  case measure => simp [intOf]; omega
                · skip
                  have hkd : decide ((k : Int) = (i : Int)) = false := by simp; omega
                  have hkb : ((k : Int) == (i : Int)) = false := by simp; omega
                  have hkn : ((k : Int) != (i : Int)) = true := by simp; omega
                  have hke : ¬ (k : Int) = (i : Int) := by omega
                  cases b1 with
                  | false =>
                    have HTD := Lib.hid (HSTEP.out false (fun h => by cases h.2.1) (fun h => by cases h))
                    go_wp2_with fail
                    go_quiet (fail)
                    go_wp2
                    go_roundw
                    case rel => exact ⟨k + 1, td, by omega, by go_num, rfl, by simpa using HTD.out, bstep hbcr (bdrewN _ _)⟩
                    case measure => simp [intOf]; omega
                  | true =>
                    have hLs := fun W' => refLess_any g0 g1 y z W'
                    have HTD := Lib.hid (HSTEP.out (!Sm.less (g0, g1) (y, z)) (fun h => h.2.2) (fun h => ⟨hki, rfl, h⟩))
                    generalize Sm.less (g0, g1) (y, z) = ls at hLs HTD
                    have g9 : wc.cell? ⟨B, 0, none⟩ = some (.int .i64 g0) ∧ wc.cell? ⟨B, 1, none⟩ = some (.int .i64 g1) ∧ wc.cell? ⟨b', off' + i * 3 + 1, none⟩ = some (.int .i64 y) ∧ wc.cell? ⟨b', off' + i * 3 + 2, none⟩ = some (.int .i64 z) := ⟨q0, q1, k1, k2⟩
                    clear q0 q1 k0 k1 k2
                    go_wp2_with fail
                    go_region_held3 (fun w' => w'.cell? ⟨B, 0, none⟩ = some (.int .i64 g0) ∧ w'.cell? ⟨B, 1, none⟩ = some (.int .i64 g1) ∧ w'.cell? ⟨b', off' + i * 3 + 1, none⟩ = some (.int .i64 y) ∧ w'.cell? ⟨b', off' + i * 3 + 2, none⟩ = some (.int .i64 z))
                      (first | exact g9 | exact g10)
                      (first
                        | (go_at_call 25; ((refine (hLs _).mono ?_); rintro e w9 ⟨rfl, h9⟩; have g10 := keep22 h9 g9)))
                    have hb9 := bstep hbcr (bstep ((Below.refl _ _).drew) h9)
                    cases ls with
                    | true =>
                      go_wp2
                      go_roundw
                      case rel => exact ⟨k + 1, td, by omega, by go_num, rfl, by simpa using HTD.out, hb9⟩
                      case measure => simp [intOf]; omega
                    | false =>
                      go_wp2
                      go_roundw
                      case rel => exact ⟨k + 1, true, by omega, by go_num, rfl, by simpa using HTD.out, hb9⟩
                      case measure => simp [intOf]; omega
            · obtain rfl : k = al.length := by omega
              have hlf : lf = !td := by rw [HLF.out, HALL.out td HTD0.out]
              subst hlf
              cases td with
              | false =>
                go_wp2
                go_roundw
                case rel => exact ⟨i + 1, by omega, by go_num, hbel⟩
                case measure => simp [intOf]; omega
              | true =>
                go_wp2
                go_roundw
                case rel => exact ⟨i + 1, by omega, by go_num, hbel⟩
                case measure => simp [intOf]; omega
        · obtain rfl : i = al.length := by omega
          go_wp2
          go_ret
          exact ⟨rfl, bstep hbel4 hbel⟩
end Go.Proofs.Ytfnfpanmbmkhmaa
