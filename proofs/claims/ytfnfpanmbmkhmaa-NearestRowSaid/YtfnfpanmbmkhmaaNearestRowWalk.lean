/- The walk of the law NearestRow. -/
import Derived.Test.YtfnfpanmbmkhmaaNearWMade
import Derived.Deep.DeepCutAuto
namespace Go.Proofs.Ytfnfpanmbmkhmaa
open Go.RowKit Go.Maps
set_option linter.unusedVariables false
set_option linter.unusedSimpArgs false

set_option maxRecDepth 100000 in
set_option maxHeartbeats 6400000 in
theorem walkNearestRow (w : World) (n : Int) :
    Calls Try.prog 6 #[.int .i64 n] w fun e w' => e = .returned (.bool true) ∧ Below w.heap.size w w' := by
  obtain ⟨m, hm, hm8⟩ : ∃ m : Nat, n % 8 = (m : Int) ∧ m < 8 := ⟨(n % 8).toNat, by omega, by omega⟩
  have hand : bits .and .i64 n 7 = (m : Int) := by rw [i64_and7]; exact hm
  have HF := Lib.hid (row_facts ⟨m, hm8⟩)
  have HL := Lib.hid (row_last ⟨m, hm8⟩)
  dsimp only at HF HL
  clear hm
  go_enter Try.func6, Try.ntmps6
  go_wp2_with fail
  refine (awake5_any _).mono ?_
  rintro e w1 ⟨rfl, hb1⟩
  go_wp2
  go_loopw [4, 6] (fun l j wr => ∃ (k : Nat) (xs : List Wp), k ≤ m + 1 ∧ j = .int .i64 k ∧ xs.map Prod.fst = rowW k ∧ WMade wr w1.heap.size l xs ∧ Below w1.heap.size w1 wr) (fun _ j _ => m + 1 - (intOf j).toNat)
  case atStart => exact ⟨0, [], by omega, rfl, rfl, WMade.nil _ _, Below.refl _ _⟩
  case round =>
    obtain ⟨k, xs, hk, rfl, hmap, hvm, hbel⟩ := hrel
    have HXL : Hid (xs.length = k) := Lib.hid (by rw [← List.length_map (f := Prod.fst), hmap, rowW_len])
    have HK := Lib.hid hk
    have hk8 : k ≤ 8 := by omega
    have hkw : wrap64 ((k : Int) - 1) = (k : Int) - 1 := by unfold wrap64; omega
    have HMAP := Lib.hid hmap
    have HVM := Lib.hid hvm
    obtain ⟨sa, sc, rfl⟩ := hvm.own.shape
    clear hmap hvm hk
    cases hdk : decide ((k : Int) < 1 + (m : Int)) with
    | true =>
      have HLT : Hid (k < m + 1) := Lib.hid (by rw [decide_eq_true_eq] at hdk; omega)
      have HS := Lib.hid (rowW_snoc k)
      go_upto_if 23 with (fail)
      go_cut [7] (fun s7 wx => s7 = .pointer (some ⟨wr.heap.size, 0, none⟩) ∧ ∃ (sw : List Int) (ia : Option Addr) (ic : Nat), sw = (if 0 < k then [(k : Int) - 1] else []) ∧ wx.cell? ⟨wr.heap.size, 0, none⟩ = some (.int .i64 k) ∧ wx.cell? ⟨wr.heap.size, 1, none⟩ = some (.int .i64 0) ∧ wx.cell? ⟨wr.heap.size, 2, none⟩ = some (.slice ia sw.length ic) ∧ IntsIn wx ia sw ∧ (sw = [] ∨ ∀ g, (Value.slice ia sw.length ic).ownBlock = some g → wr.heap.size ≤ g) ∧ Below wr.heap.size wr wx)
      case first =>
        by_cases hk0 : 0 < k
        · have hk0i : (0 : Int) < (k : Int) := by omega
          have hdg : decide ((0 : Int) < (k : Int)) = true := decide_eq_true hk0i
          go_wp2
          go_meet
          refine ⟨rfl, [(k : Int) - 1], some ⟨wr.heap.size + 1, 0, none⟩, 1, by rw [if_pos hk0], ?_, ?_, ?_, ?_, ?_, ?_⟩
          · simp
          · simp
          · simp
          · intro i hi
            simp at hi
            subst hi
            exact ⟨wr.heap.size + 1, 0, rfl, by simp, by simp [hkw]⟩
          · right
            intro g hg
            simp [Value.ownBlock] at hg
            omega
          · exact balloc (balloc (Below.refl _ wr) _) _
        · have hk0i : ¬ (0 : Int) < (k : Int) := by omega
          have hdg : decide ((0 : Int) < (k : Int)) = false := decide_eq_false hk0i
          go_wp2
          go_meet
          exact ⟨rfl, [], none, 0, by rw [if_neg hk0], by simp, by simp, by simp, fun i hi => absurd hi (by simp), .inl rfl, balloc (Below.refl _ wr) _⟩
      case rest =>
        obtain ⟨rfl, sw, ia, ic, hsw, c0, c1, c2, hints, hoff, hb⟩ := hcut
        have HVC := Lib.hid (HVM.out.below hb)
        have HSW := Lib.hid hsw
        have HI := Lib.hid hints
        have HO : Hid (sw = [] ∨ ∀ g, (Value.slice sa xs.length sc).ownBlock = some g → (Value.slice ia sw.length ic).ownBlock ≠ some g) := Lib.hid (by
          rcases hoff with h | h
          · exact .inl h
          · refine .inr (fun g h1 h2 => ?_)
            have h3 := (HVM.out.own.lt g h1).2
            have h4 := h g h2
            omega)
        have hswl : sw.length ≤ 1 := by rw [hsw]; split <;> simp
        have hbs := hbel.size
        have hbs2 := hb.size
        have hbw := bstep hbel hb
        clear hsw hints hoff HVM hb hbel
        go_wp2_with (at_builtin; refine wp_pushR kwr_ok (wr := wc) rfl _ _ rfl w1.heap.size (.slice sa xs.length sc) xs (⟨(k : Int), 0, sw⟩, ia, ic) #[.int .i64 k, .int .i64 0, .slice ia sw.length ic] rfl rfl HVC.out.own rfl (by have := HXL.out; have := HK.out; omega) (by omega) ?_; intro g6 cap6 w6 ho6 hb6 hk6 hat6 hlt6)
        have HV6 := Lib.hid (HVC.out.push ho6 hk6 hb6.size hat6 ⟨HI.out, by show sw.length ≤ 9223372036854775807; omega⟩ HO.out)
        go_wp2
        go_roundw
        case rel => exact ⟨k + 1, xs ++ [(⟨(k : Int), 0, sw⟩, ia, ic)], by have := HLT.out; omega, by go_num, by rw [HS.out, List.map_append, HMAP.out, HSW.out]; rfl, by first | exact HV6.out | simpa using HV6.out, hbw.trans (hb6)⟩
        case measure => have := HLT.out; simp [intOf]; omega
    | false =>
      have HKM : Hid (k = m + 1) := Lib.hid (by have := HK.out; rw [decide_eq_false_iff_not] at hdk; omega)
      have hM := made5_any sa sc (xs.map Prod.fst) wr (by rw [List.length_map]; have := HXL.out; have := HK.out; omega) HVM.out.wr
      rw [List.length_map] at hM
      clear HVM
      go_wp2_with fail
      refine hM.mono ?_
      rintro e w2 ⟨u2, ys, rfl, hmap, hvm, hb2⟩
      have HM2 : Hid (Made w2 u2 ys (xs.map Prod.fst)) := Lib.hid ⟨hvm.row, hmap⟩
      rw [HMAP.out, HKM.out] at hmap HM2
      rw [← hmap] at HF HL
      rw [List.length_map] at HF
      obtain ⟨va, vc, rfl⟩ := hvm.own.shape
      have HYL : Hid (ys.length = m + 1) := Lib.hid HF.out.1
      have hym : m < ys.length := by have := HYL.out; omega
      have hym2 : ys.length ≤ 8 := by have := HYL.out; omega
      have hbel2 := bstep (bstep hb1 hbel) hb2
      clear hvm hb2 hM hbel
      go_wp2_with fail
      refine (all5_any _ ys w2 (by omega) HM2.out.ok HM2.out.row).mono ?_
      rintro e w3 ⟨u3, rfl, hd3, hb3⟩
      have HA3 := Lib.hid hd3
      obtain ⟨aa, ac, rfl, _, _, _, _⟩ := hd3
      have HM3 := Lib.hid (HM2.out.below hb3)
      have HAL : Hid ((allV (ys.map Prod.fst)).length = m + 1) := Lib.hid HF.out.2.1
      have hal2 : (allV (ys.map Prod.fst)).length ≤ 8 := by have := HAL.out; omega
      have HAS := Lib.hid (allV_srt (ys.map Prod.fst))
      have HAC : Hid (clB (allV (ys.map Prod.fst)) (ys.map Prod.fst) = true) := Lib.hid HF.out.2.2.2
      have hbel3 := bstep hbel2 hb3
      clear hb3 HM2 hbel2
      have hRd := reduce_any _ _ (allV (ys.map Prod.fst)) ys w3 (by omega) HAS.out (by omega) HM3.out.ok HA3.out HM3.out.row
      have HRD : Hid ((redL (allV (ys.map Prod.fst)) (ys.map Prod.fst)).map (fun d => d.1.data.toList) = [(keyAt m).data.toList]) := Lib.hid HF.out.2.2.1
      generalize allV (ys.map Prod.fst) = al at HA3 HAL hal2 HAS HAC HRD hRd
      generalize redL al (ys.map Prod.fst) = rd at HRD hRd
      have hrl : rd.length = 1 := by have := congrArg List.length HRD.out; simpa using this
      match rd, hrl with
      | [(rk, rn, rs)], _ =>
      go_wp2_with fail
      refine hRd.mono ?_
      rintro e w4 ⟨u4, rfl, ho4, hb4⟩
      have hd4 := DepAt.of_own ho4
      obtain ⟨na, nc, rfl⟩ := ho4.shape
      obtain ⟨a', c', e', _, _, _, hd4i⟩ := hd4
      cases e'
      obtain ⟨b4, off4, rfl, _, d0, d1, d2⟩ := hd4i 0 (by simp)
      simp only [List.getElem_cons_zero, Nat.zero_mul, Nat.add_zero] at d0 d1 d2
      have HM4 := Lib.hid (HM3.out.below hb4)
      have HA4 := Lib.hid (HA3.out.below hb4)
      obtain ⟨b, off, rfl, hbl, ⟨e0, _, _, _, _, _⟩, _⟩ := HM4.out.row.at m (by omega)
      have hkey : ys[m].1.key = rk := by
        have h1 := HL.out
        rw [List.getElem?_map, List.getElem?_eq_getElem (by omega)] at h1
        have h2 := HRD.out
        simp at h1 h2
        rw [← h2] at h1
        exact ByteArray.ext h1
      rw [hkey] at e0
      have hbel4 := bstep hbel3 hb4
      have hCl := fun W hW => closed5_any (.slice aa al.length ac) (.slice (some ⟨b, off, none⟩) ys.length vc) al ys W (by omega) HAS.out (by omega) HM4.out.ok (HA4.out.below hW) (HM4.out.row.below hW)
      rw [HAC.out] at hCl
      have m0 : w4.cell? ⟨b4, off4, none⟩ = some (.string rk) ∧ w4.cell? ⟨b, off + m * 6, none⟩ = some (.string rk) := ⟨d0, e0⟩
      have q3 : (m : Int) < (ys.length : Int) := by omega
      have q4 : (0 : Int) ≤ (m : Int) := by omega
      have q5 : m < ys.length := by omega
      have hw26 : IntKind.i64.wrap (1 + (m : Int) - 1) = (m : Int) := by rw [IntKind.wrap_i64]; omega
      have d1 : decide ((ys.length : Int) = 1 + (m : Int)) = true := by have := HYL.out; simp; omega
      have d2 : decide ((al.length : Int) = 1 + (m : Int)) = true := by have := HAL.out; simp; omega
      have d3 : ((ys.length : Int) == 1 + (m : Int)) = true := by have := HYL.out; simp; omega
      have d4 : ((al.length : Int) == 1 + (m : Int)) = true := by have := HAL.out; simp; omega
      clear hRd ho4 hd4i d0 HM3 HA3 hb4 hbel3 e0 hkey HRD HF HL hmap
      go_wp2_with fail
      refine wp_region_held_drew (S := fun w' => w'.cell? ⟨b4, off4, none⟩ = some (.string rk) ∧ w'.cell? ⟨b, off + m * 6, none⟩ = some (.string rk)) (by kernel_rfl) (m0) (fun hHeld => ?_)
      refine wpAnyH_take (i := 0) (v := ?vc0) rfl (by kernel_rfl) (by kernel_rfl) (by kernel_rfl) (fun _ _ _ h => h) (Or.inl ⟨by rfl, ?yc0⟩) (by assumption) ?rc0
      case yc0 => (intro w hSw; (try dsimp only at hSw); go_simp; try with_reducible rfl)
      try simp only [Act.put, List.setIfInBounds_toArray, List.set_cons_zero, List.set_cons_succ, List.getElem_toArray, List.getElem_cons_zero, List.getElem_cons_succ]
      refine wpAnyH_take (i := 1) (v := ?vc1) rfl (by kernel_rfl) (by kernel_rfl) (by kernel_rfl) (fun _ _ _ h => h) (Or.inl ⟨by rfl, ?yc1⟩) (by assumption) ?rc1
      case yc1 => (intro w hSw; (try dsimp only at hSw); go_simp; try with_reducible rfl)
      try simp only [Act.put, List.setIfInBounds_toArray, List.set_cons_zero, List.set_cons_succ, List.getElem_toArray, List.getElem_cons_zero, List.getElem_cons_succ]
      refine wpAnyH_take (i := 2) (v := ?vc2) rfl (by kernel_rfl) (by kernel_rfl) (by kernel_rfl) (fun _ _ _ h => h) (Or.inl ⟨by rfl, ?yc2⟩) (by assumption) ?rc2
      case yc2 => (intro w hSw; (try dsimp only at hSw); go_simp; try with_reducible rfl)
      try simp only [Act.put, List.setIfInBounds_toArray, List.set_cons_zero, List.set_cons_succ, List.getElem_toArray, List.getElem_cons_zero, List.getElem_cons_succ]
      refine wpAnyH_take (i := 3) (v := ?vc3) rfl (by kernel_rfl) (by kernel_rfl) (by kernel_rfl) (fun _ _ _ h => h) (Or.inl ⟨by rfl, ?yc3⟩) (by assumption) ?rc3
      case yc3 => (intro w hSw; (try dsimp only at hSw); go_simp; try with_reducible rfl)
      try simp only [Act.put, List.setIfInBounds_toArray, List.set_cons_zero, List.set_cons_succ, List.getElem_toArray, List.getElem_cons_zero, List.getElem_cons_succ]
      refine wpAnyH_take (i := 4) (v := ?vc4) rfl (by kernel_rfl) (by kernel_rfl) (by kernel_rfl) (fun _ _ _ h => h) (Or.inl ⟨by rfl, ?yc4⟩) (by assumption) ?rc4
      case yc4 => (intro w hSw; (try dsimp only at hSw); go_simp; try with_reducible rfl)
      try simp only [Act.put, List.setIfInBounds_toArray, List.set_cons_zero, List.set_cons_succ, List.getElem_toArray, List.getElem_cons_zero, List.getElem_cons_succ]
      refine wpAnyH_take (i := 5) (v := ?vc5) rfl (by kernel_rfl) (by kernel_rfl) (by kernel_rfl) (fun _ _ _ h => h) (Or.inl ⟨by rfl, ?yc5⟩) (by assumption) ?rc5
      case yc5 => (intro w hSw; (try dsimp only at hSw); go_simp; try with_reducible rfl)
      try simp only [Act.put, List.setIfInBounds_toArray, List.set_cons_zero, List.set_cons_succ, List.getElem_toArray, List.getElem_cons_zero, List.getElem_cons_succ]
      refine wpAnyH_take (i := 6) (v := ?vc6) rfl (by kernel_rfl) (by kernel_rfl) (by kernel_rfl) (fun _ _ _ h => h) (Or.inl ⟨by rfl, ?yc6⟩) (by assumption) ?rc6
      case yc6 => (intro w hSw; (try dsimp only at hSw); go_simp; try with_reducible rfl)
      try simp only [Act.put, List.setIfInBounds_toArray, List.set_cons_zero, List.set_cons_succ, List.getElem_toArray, List.getElem_cons_zero, List.getElem_cons_succ]
      refine wpAnyH_take (i := 7) (v := ?vc7) rfl (by kernel_rfl) (by kernel_rfl) (by kernel_rfl) (fun _ _ _ h => h) (Or.inl ⟨by rfl, ?yc7⟩) (by assumption) ?rc7
      case yc7 => (intro w hSw; (try dsimp only at hSw); go_simp; try with_reducible rfl)
      try simp only [Act.put, List.setIfInBounds_toArray, List.set_cons_zero, List.set_cons_succ, List.getElem_toArray, List.getElem_cons_zero, List.getElem_cons_succ]
      refine wpAnyH_take (i := 8) (v := ?vc8) rfl (by kernel_rfl) (by kernel_rfl) (by kernel_rfl) (fun _ _ _ h => h) (Or.inl ⟨by rfl, ?yc8⟩) (by assumption) ?rc8
      case yc8 => (intro w hSw; (try dsimp only at hSw); go_simp; try with_reducible rfl)
      try simp only [Act.put, List.setIfInBounds_toArray, List.set_cons_zero, List.set_cons_succ, List.getElem_toArray, List.getElem_cons_zero, List.getElem_cons_succ]
      refine wpAnyH_take (i := 9) (v := ?vc9) rfl (by kernel_rfl) (by kernel_rfl) (by kernel_rfl) (fun _ _ _ h => h) (Or.inl ⟨by rfl, ?yc9⟩) (by assumption) ?rc9
      case yc9 => (intro w hSw; (try dsimp only at hSw); go_simp; try with_reducible rfl)
      try simp only [Act.put, List.setIfInBounds_toArray, List.set_cons_zero, List.set_cons_succ, List.getElem_toArray, List.getElem_cons_zero, List.getElem_cons_succ]
      refine wpAnyH_take (i := 10) (v := ?vc10) rfl (by kernel_rfl) (by kernel_rfl) (by kernel_rfl) (fun _ _ _ h => h) (Or.inl ⟨by rfl, ?yc10⟩) (by assumption) ?rc10
      case yc10 => (intro w hSw; (try dsimp only at hSw); go_simp; try with_reducible rfl)
      try simp only [Act.put, List.setIfInBounds_toArray, List.set_cons_zero, List.set_cons_succ, List.getElem_toArray, List.getElem_cons_zero, List.getElem_cons_succ]
      refine wpAnyH_take (i := 11) (v := ?vc11) rfl (by kernel_rfl) (by kernel_rfl) (by kernel_rfl) (fun _ _ _ h => h) (Or.inl ⟨by rfl, ?yc11⟩) (by assumption) ?rc11
      case yc11 => (intro w hSw; (try dsimp only at hSw); go_simp; try with_reducible rfl)
      try simp only [Act.put, List.setIfInBounds_toArray, List.set_cons_zero, List.set_cons_succ, List.getElem_toArray, List.getElem_cons_zero, List.getElem_cons_succ]
      refine wpAnyH_take (i := 12) (v := ?vc12) rfl (by kernel_rfl) (by kernel_rfl) (by kernel_rfl) (fun _ _ _ h => h) (Or.inl ⟨by rfl, ?yc12⟩) (by assumption) ?rc12
      case yc12 => (intro w hSw; (try dsimp only at hSw); go_simp; try with_reducible rfl)
      try simp only [Act.put, List.setIfInBounds_toArray, List.set_cons_zero, List.set_cons_succ, List.getElem_toArray, List.getElem_cons_zero, List.getElem_cons_succ]
      refine wpAnyH_take (i := 13) (v := ?vc13) rfl (by kernel_rfl) (by kernel_rfl) (by kernel_rfl) (fun _ _ _ h => h) (Or.inl ⟨by rfl, ?yc13⟩) (by assumption) ?rc13
      case yc13 => (intro w hSw; (try dsimp only at hSw); go_simp; try with_reducible rfl)
      try simp only [Act.put, List.setIfInBounds_toArray, List.set_cons_zero, List.set_cons_succ, List.getElem_toArray, List.getElem_cons_zero, List.getElem_cons_succ]
      refine wpAnyH_take (i := 14) (v := ?vc14) rfl (by kernel_rfl) (by kernel_rfl) (by kernel_rfl) (fun _ _ _ h => h) (Or.inl ⟨by rfl, ?yc14⟩) (by assumption) ?rc14
      case yc14 => (intro w hSw; (try dsimp only at hSw); go_simp; try with_reducible rfl)
      try simp only [Act.put, List.setIfInBounds_toArray, List.set_cons_zero, List.set_cons_succ, List.getElem_toArray, List.getElem_cons_zero, List.getElem_cons_succ]
      refine wpAnyH_take (i := 15) (v := ?vc15) rfl (by kernel_rfl) (by kernel_rfl) (by kernel_rfl) (fun _ _ _ h => h) (Or.inl ⟨by rfl, ?yc15⟩) (by assumption) ?rc15
      case yc15 => (intro w hSw; (try dsimp only at hSw); go_simp; try with_reducible rfl)
      try simp only [Act.put, List.setIfInBounds_toArray, List.set_cons_zero, List.set_cons_succ, List.getElem_toArray, List.getElem_cons_zero, List.getElem_cons_succ]
      refine wpAnyH_take (i := 16) (v := ?vc16) rfl (by kernel_rfl) (by kernel_rfl) (by kernel_rfl) (fun _ _ _ h => h) (Or.inl ⟨by rfl, ?yc16⟩) (by assumption) ?rc16
      case yc16 => (intro w hSw; (try dsimp only at hSw); go_simp; try with_reducible rfl)
      try simp only [Act.put, List.setIfInBounds_toArray, List.set_cons_zero, List.set_cons_succ, List.getElem_toArray, List.getElem_cons_zero, List.getElem_cons_succ]
      refine wpAnyH_take (i := 17) (v := ?vc17) rfl (by kernel_rfl) (by kernel_rfl) (by kernel_rfl) (fun _ _ _ h => h) (Or.inl ⟨by rfl, ?yc17⟩) (by assumption) ?rc17
      case yc17 => (intro w hSw; (try dsimp only at hSw); go_simp; try with_reducible rfl)
      try simp only [Act.put, List.setIfInBounds_toArray, List.set_cons_zero, List.set_cons_succ, List.getElem_toArray, List.getElem_cons_zero, List.getElem_cons_succ]
      refine wpAnyH_take (i := 18) (v := ?vc18) rfl (by kernel_rfl) (by kernel_rfl) (by kernel_rfl) (fun _ _ _ h => h) (Or.inl ⟨by rfl, ?yc18⟩) (by assumption) ?rc18
      case yc18 => (intro w hSw; (try dsimp only at hSw); go_simp; try with_reducible rfl)
      try simp only [Act.put, List.setIfInBounds_toArray, List.set_cons_zero, List.set_cons_succ, List.getElem_toArray, List.getElem_cons_zero, List.getElem_cons_succ]
      refine wpAnyH_take (i := 19) (v := ?vc19) rfl (by kernel_rfl) (by kernel_rfl) (by kernel_rfl) (fun _ _ _ h => h) (Or.inl ⟨by rfl, ?yc19⟩) (by assumption) ?rc19
      case yc19 => (intro w hSw; (try dsimp only at hSw); go_simp; try with_reducible rfl)
      try simp only [Act.put, List.setIfInBounds_toArray, List.set_cons_zero, List.set_cons_succ, List.getElem_toArray, List.getElem_cons_zero, List.getElem_cons_succ]
      refine wpAnyH_take (i := 20) (v := ?vc20) rfl (by kernel_rfl) (by kernel_rfl) (by kernel_rfl) (fun _ _ _ h => h) (Or.inl ⟨by rfl, ?yc20⟩) (by assumption) ?rc20
      case yc20 => (intro w hSw; (try dsimp only at hSw); go_simp; try with_reducible rfl)
      try simp only [Act.put, List.setIfInBounds_toArray, List.set_cons_zero, List.set_cons_succ, List.getElem_toArray, List.getElem_cons_zero, List.getElem_cons_succ]
      refine wpAnyH_take (i := 21) (v := ?vc21) rfl (by kernel_rfl) (by kernel_rfl) (by kernel_rfl) (fun _ _ _ h => h) (Or.inl ⟨by rfl, ?yc21⟩) (by assumption) ?rc21
      case yc21 => (intro w hSw; (try dsimp only at hSw); go_simp; try with_reducible rfl)
      try simp only [Act.put, List.setIfInBounds_toArray, List.set_cons_zero, List.set_cons_succ, List.getElem_toArray, List.getElem_cons_zero, List.getElem_cons_succ]
      refine wpAnyH_take (i := 22) (v := ?vc22) rfl (by kernel_rfl) (by kernel_rfl) (by kernel_rfl) (fun _ _ _ h => h) (Or.inl ⟨by rfl, ?yc22⟩) (by assumption) ?rc22
      case yc22 => (intro w hSw; (try dsimp only at hSw); go_simp; try with_reducible rfl)
      try simp only [Act.put, List.setIfInBounds_toArray, List.set_cons_zero, List.set_cons_succ, List.getElem_toArray, List.getElem_cons_zero, List.getElem_cons_succ]
      refine wpAnyH_take (i := 23) (v := ?vc23) rfl (by kernel_rfl) (by kernel_rfl) (by kernel_rfl) (fun _ _ _ h => h) (Or.inl ⟨by rfl, ?yc23⟩) (by assumption) ?rc23
      case yc23 => (intro w hSw; (try dsimp only at hSw); go_simp; try with_reducible rfl)
      try simp only [Act.put, List.setIfInBounds_toArray, List.set_cons_zero, List.set_cons_succ, List.getElem_toArray, List.getElem_cons_zero, List.getElem_cons_succ]
      refine wpAnyH_take (i := 24) (v := ?vc24) rfl (by kernel_rfl) (by kernel_rfl) (by kernel_rfl) (fun _ _ _ h => h) (Or.inl ⟨by rfl, ?yc24⟩) (by assumption) ?rc24
      case yc24 => (intro w hSw; (try dsimp only at hSw); go_simp; try with_reducible rfl)
      try simp only [Act.put, List.setIfInBounds_toArray, List.set_cons_zero, List.set_cons_succ, List.getElem_toArray, List.getElem_cons_zero, List.getElem_cons_succ]
      refine wpAnyH_take (i := 25) (v := ?vc25) rfl (by kernel_rfl) (by kernel_rfl) (by kernel_rfl) (fun _ _ _ h => h) (Or.inl ⟨by rfl, ?yc25⟩) (by assumption) ?rc25
      case yc25 => (intro w hSw; (try dsimp only at hSw); go_simp; try with_reducible rfl)
      try simp only [Act.put, List.setIfInBounds_toArray, List.set_cons_zero, List.set_cons_succ, List.getElem_toArray, List.getElem_cons_zero, List.getElem_cons_succ]
      refine wpAnyH_take (i := 26) (v := ?vc26) rfl (by kernel_rfl) (by kernel_rfl) (by kernel_rfl) (fun _ _ _ h => h) (Or.inl ⟨by rfl, ?yc26⟩) (by assumption) ?rc26
      case yc26 => (intro w hSw; (try dsimp only at hSw); go_simp; try with_reducible rfl)
      try simp only [Act.put, List.setIfInBounds_toArray, List.set_cons_zero, List.set_cons_succ, List.getElem_toArray, List.getElem_cons_zero, List.getElem_cons_succ]
      refine wpAnyH_take (i := 27) (v := ?vc27) rfl (by kernel_rfl) (by kernel_rfl) (by kernel_rfl) (fun _ _ _ h => h) (Or.inl ⟨by rfl, ?yc27⟩) (by assumption) ?rc27
      case yc27 => (intro w hSw; (try dsimp only at hSw); go_simp; try with_reducible rfl)
      try simp only [Act.put, List.setIfInBounds_toArray, List.set_cons_zero, List.set_cons_succ, List.getElem_toArray, List.getElem_cons_zero, List.getElem_cons_succ]
      refine wpAnyH_take (i := 28) (v := ?vc28) rfl (by kernel_rfl) (by kernel_rfl) (by kernel_rfl) (fun _ _ _ h => h) (Or.inl ⟨by rfl, ?yc28⟩) (by assumption) ?rc28
      case yc28 => (intro w hSw; (try dsimp only at hSw); go_simp; try with_reducible rfl)
      try simp only [Act.put, List.setIfInBounds_toArray, List.set_cons_zero, List.set_cons_succ, List.getElem_toArray, List.getElem_cons_zero, List.getElem_cons_succ]
      refine wpAnyH_take (i := 29) (v := ?vc29) rfl (by kernel_rfl) (by kernel_rfl) (by kernel_rfl) (fun _ _ _ h => h) (Or.inl ⟨by rfl, ?yc29⟩) (by assumption) ?rc29
      case yc29 => (intro w hSw; (try dsimp only at hSw); go_simp; try with_reducible rfl)
      try simp only [Act.put, List.setIfInBounds_toArray, List.set_cons_zero, List.set_cons_succ, List.getElem_toArray, List.getElem_cons_zero, List.getElem_cons_succ]
      refine wpAnyH_take (i := 30) (v := ?vc30) rfl (by kernel_rfl) (by kernel_rfl) (by kernel_rfl) (fun _ _ _ h => h) (Or.inl ⟨by rfl, ?yc30⟩) (by assumption) ?rc30
      case yc30 => (intro w hSw; (try dsimp only at hSw); go_simp; try with_reducible rfl)
      try simp only [Act.put, List.setIfInBounds_toArray, List.set_cons_zero, List.set_cons_succ, List.getElem_toArray, List.getElem_cons_zero, List.getElem_cons_succ]
      refine wpAnyH_take (i := 31) (v := ?vc31) rfl (by kernel_rfl) (by kernel_rfl) (by kernel_rfl) (fun _ _ _ h => h) (Or.inl ⟨by rfl, ?yc31⟩) (by assumption) ?rc31
      case yc31 => (intro w hSw; (try dsimp only at hSw); go_simp; try with_reducible rfl)
      try simp only [Act.put, List.setIfInBounds_toArray, List.set_cons_zero, List.set_cons_succ, List.getElem_toArray, List.getElem_cons_zero, List.getElem_cons_succ]
      refine wpAnyH_take (i := 32) (v := ?vc32) rfl (by kernel_rfl) (by kernel_rfl) (by kernel_rfl) (fun _ _ _ h => h) (Or.inl ⟨by rfl, ?yc32⟩) (by assumption) ?rc32
      case yc32 => (intro w hSw; (try dsimp only at hSw); go_simp; try with_reducible rfl)
      try simp only [Act.put, List.setIfInBounds_toArray, List.set_cons_zero, List.set_cons_succ, List.getElem_toArray, List.getElem_cons_zero, List.getElem_cons_succ]
      refine wpAnyH_take (i := 33) (v := ?vc33) rfl (by kernel_rfl) (by kernel_rfl) (by kernel_rfl) (fun _ _ _ h => h) (Or.inl ⟨by rfl, ?yc33⟩) (by assumption) ?rc33
      case yc33 => (intro w hSw; (try dsimp only at hSw); go_simp; try with_reducible rfl)
      try simp only [Act.put, List.setIfInBounds_toArray, List.set_cons_zero, List.set_cons_succ, List.getElem_toArray, List.getElem_cons_zero, List.getElem_cons_succ]
      refine wpAnyH_ready (rs := [34]) (by kernel_rfl) (by simp) ?_
      refine AllReadyH.cons rfl (fun K hK => ?_) AllReadyH.nil
      go_simp
      go_at_call 22
      refine (hCl _ (Below.refl _ _).drew).mono ?_
      rintro e w9 ⟨rfl, h9⟩
      have m1 := And.intro (kc h9 m0.1) (kc h9 m0.2)
      go_wp2_with fail
      refine hK.out _ _ (m1) (fun hHeld => ?_)
      clear hK K
      try simp only [Act.put, List.setIfInBounds_toArray, List.set_cons_zero, List.set_cons_succ, List.getElem_toArray, List.getElem_cons_zero, List.getElem_cons_succ]
      refine wpAnyH_take (i := 35) (v := ?vc35) rfl (by kernel_rfl) (by kernel_rfl) (by kernel_rfl) (fun _ _ _ h => h) (Or.inl ⟨by rfl, ?yc35⟩) (by assumption) ?rc35
      case yc35 => (intro w hSw; (try dsimp only at hSw); go_simp; try with_reducible rfl)
      try simp only [Act.put, List.setIfInBounds_toArray, List.set_cons_zero, List.set_cons_succ, List.getElem_toArray, List.getElem_cons_zero, List.getElem_cons_succ]
      refine wpAnyH_take (i := 36) (v := ?vc36) rfl (by kernel_rfl) (by kernel_rfl) (by kernel_rfl) (fun _ _ _ h => h) (Or.inl ⟨by rfl, ?yc36⟩) (by assumption) ?rc36
      case yc36 => (intro w hSw; (try dsimp only at hSw); go_simp; try with_reducible rfl)
      try simp only [Act.put, List.setIfInBounds_toArray, List.set_cons_zero, List.set_cons_succ, List.getElem_toArray, List.getElem_cons_zero, List.getElem_cons_succ]
      refine wpAnyH_done (by kernel_rfl) ?_ _
      go_wp2
      go_ret
      exact ⟨rfl, bstep hbel4 (bstep ((Below.refl _ _).drew) h9)⟩
end Go.Proofs.Ytfnfpanmbmkhmaa
