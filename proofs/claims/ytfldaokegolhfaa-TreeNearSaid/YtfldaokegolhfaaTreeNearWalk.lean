/- The walk of the law TreeNear. -/
import Derived.Test.YtfldaokegolhfaaTreeHelp
import Derived.Test.YtfldaokegolhfaaTreeMade
import Derived.Test.YtfldaokegolhfaaOpenT
import Derived.Deep.QuietTactic
import Derived.BigQuiet
import Derived.IntWalk
namespace Go.Proofs.Ytfldaokegolhfaa
open Go.RowKit
set_option linter.unusedVariables false
set_option linter.unusedSimpArgs false

set_option maxRecDepth 100000 in
set_option maxHeartbeats 12800000 in
theorem walkTreeNear (w : World) (a : Option Addr) (len cap : Nat) (zs : List Int) (h0 : IsRow .i64 w a len cap zs) (turn : Int) (ws : (Lit.int .i64 turn).wf = true) (q0 q1 : Int) (hq0 : -9223372036854775808 ≤ q0 ∧ q0 ≤ 9223372036854775807) (hq1 : -9223372036854775808 ≤ q1 ∧ q1 ≤ 9223372036854775807) :
    Calls Try.prog 7 #[.slice a len cap, .int .i64 turn, .agg #[.int .i64 q0, .int .i64 q1]] w fun e w' => e = .returned (.bool true) ∧ Below w.heap.size w w' := by
  obtain ⟨l, rfl, hrow, _⟩ := isRow_rowT h0
  obtain ⟨_, _, e, hcap, hmx, _, hri⟩ := hrow
  cases e
  unfold maxLen at hmx
  have hl : l.length ≤ 9223372036854775807 := by omega
  have hmd := fun (W : World) hb => madeT_any l a cap turn W hl (hri.below hb)
  obtain ⟨a1, a2⟩ := hq0
  obtain ⟨b1, b2⟩ := hq1
  have HB0 := Lib.hid (balloc (Below.refl _ w) (.cells #[.int .i64 q0, .int .i64 q1] 34))
  have c0 : (w.alloc (.cells #[.int .i64 q0, .int .i64 q1] 34)).cell? ⟨w.heap.size, 0, none⟩ = some (.int .i64 q0) := by simp
  have c1 : (w.alloc (.cells #[.int .i64 q0, .int .i64 q1] 34)).cell? ⟨w.heap.size, 1, none⟩ = some (.int .i64 q1) := by simp
  clear h0 ws hri hcap hmx
  go_enter Try.func7, Try.ntmps7
  go_wp2_with fail
  generalize w.alloc (.cells #[.int .i64 q0, .int .i64 q1] 34) = w0 at *
  refine (awake8_any w0).mono ?_
  rintro e w1 ⟨rfl, hb1⟩
  have HC0 := Lib.hid (kc hb1 c0)
  have HC1 := Lib.hid (kc hb1 c1)
  clear c0 c1
  go_wp2_with fail
  refine (hmd w1 (HB0.out.trans (hb1.mono HB0.out.size))).mono ?_
  rintro e w2 ⟨p, g, rfl, htr, hpe, hpr, ho2, hb2⟩
  clear hpe hpr
  have HB2 := Lib.hid (bstep (bstep HB0.out hb1) hb2)
  have HD0 := Lib.hid (kc hb2 HC0.out)
  have HD1 := Lib.hid (kc hb2 HC1.out)
  have HRI := Lib.hid (RowIn.of_own ki_ok ho2)
  have HTR := Lib.hid htr
  have hn1 := htr.n1
  have hn6 := htr.n6
  clear hmd hb1 hb2 ho2 htr HC0 HC1
  have hck := (Tm.chkT_iff p).2 HTR.out
  have HNEAR := Lib.hid (fun (u : Nat) (hu : u < p.length) (W : World) (hb : Below w2.heap.size w2 W) => (show Calls Try.prog 12 #[.slice (some ⟨g, 0, none⟩) p.length p.length, .int .i64 (u : Int)] W fun e w' => ∃ v, e = .returned v ∧ OwnR KI w' W.heap.size v (Tm.ln (Tm.nearL p u)) ∧ Below W.heap.size W w' by
    have h := tnear_any p (some ⟨g, 0, none⟩) p.length (u : Int) W (by omega) (HRI.out.below hb)
    have e : Tm.nearI p (u : Int) = Tm.nearL p u := by
      unfold Tm.nearI
      rw [Tm.okS_nat hck hu, Int.toNat_natCast]
      rfl
    rw [e] at h
    exact h))
  have HFAR := Lib.hid (fun (u v : Nat) (hu : u < p.length) (hv : v < p.length) (W : World) (hb : Below w2.heap.size w2 W) => (show Calls Try.prog 20 #[.slice (some ⟨g, 0, none⟩) p.length p.length, .int .i64 (u : Int), .int .i64 (v : Int)] W fun e w' => e = .returned (.int .i64 (((Tm.way p u v).length : Int) - 1)) ∧ Below W.heap.size W w' by
    have h := tfar_any p (some ⟨g, 0, none⟩) p.length (u : Int) (v : Int) W (by omega) (HRI.out.below hb)
    unfold Tm.farI at h
    rw [Tm.pathI_nat hck hu hv] at h
    exact h))
  have HLEN : Hid (∀ u, (Tm.nearL p u).length ≤ 6) := Lib.hid (fun u => by
    have := Tm.nearK_len p u p.length
    rw [Tm.nearK_all] at this
    omega)
  clear hck
  go_wp2_with fail
  go_loopw [10, 11] (fun s i wr => ∃ k q : Nat, k ≤ p.length ∧ i = .int .i64 k ∧ s = .int .i64 (q : Int) ∧ q ≤ 6 * k ∧ Hid (q = Tm.sm (fun i => (Tm.nearL p i).length) k) ∧ Below w2.heap.size w2 wr) (fun _ i _ => p.length - (intOf i).toNat)
  case atStart => exact ⟨0, 0, by omega, rfl, rfl, by omega, Lib.hid rfl, Below.refl _ _⟩
  case round =>
    obtain ⟨i, q, hi, rfl, rfl, hq, HQ, hbel⟩ := hrel
    by_cases hlt : i < p.length
    · have hN := HNEAR.out i hlt wr hbel
      have hll6 := HLEN.out i
      have HQS : Hid (q + (Tm.nearL p i).length = Tm.sm (fun i => (Tm.nearL p i).length) (i + 1)) := Lib.hid (by rw [HQ.out]; rfl)
      have HAD : Hid (∀ j (hj : j < (Tm.nearL p i).length), (Tm.nearL p i)[j] < p.length ∧ (Tm.way p i (Tm.nearL p i)[j]).length = 2) := Lib.hid (fun j hj => by
        have h := Tm.nearL_mem.1 (List.getElem_mem hj)
        exact ⟨h.1, (HTR.out.far1 hlt h.1).2 h.2⟩)
      have HRS : Hid (∀ j k (hj : j < (Tm.nearL p i).length) (hk : k < (Tm.nearL p i).length), j < k → (Tm.nearL p i)[j] < (Tm.nearL p i)[k]) := Lib.hid (fun j k hj hk h => List.pairwise_iff_getElem.1 (Tm.nearL_rise p i) j k hj hk h)
      have HBE := Lib.hid hbel
      generalize Tm.nearL p i = L at *
      obtain ⟨wO, hwO⟩ : ∃ wO : World, wO = wr := ⟨wr, rfl⟩
      subst hwO
      clear hbel
      go_wp2_with fail
      refine hN.mono ?_
      rintro e w3 ⟨v1, rfl, ho1, hbl1⟩
      obtain ⟨va, vc, rfl⟩ := ho1.shape
      have HRL := Lib.hid (RowIn.of_own ki_ok ho1)
      have HB3 := Lib.hid (HBE.out.trans (hbl1.mono HBE.out.size))
      have ell : (Tm.ln L).length = L.length := Tm.ln_len L
      rw [ell]
      have hXat : ∀ (W : World) (j : Nat) (hj : j < L.length), Below w3.heap.size w3 W → ∃ b off, va = some ⟨b, off, none⟩ ∧ b < W.heap.size ∧ W.cell? ⟨b, off + j, none⟩ = some (.int .i64 (L[j] : Int)) := fun W j hj hb => by
        have h := (HRL.out.below hb).int j (by rw [Tm.ln_len]; exact hj)
        rw [Tm.ln_get] at h
        exact h
      have HXAT := Lib.hid hXat
      clear ho1 hbl1 hN ell hXat
      obtain ⟨m, hm⟩ : ∃ m, m = L.length := ⟨_, rfl⟩
      rw [← hm] at hll6 HQS ⊢
      have HM := Lib.hid hm.symm
      clear hm
      go_wp2_with fail
      go_loopw [13] (fun jj wr => ∃ j : Nat, j ≤ m ∧ jj = .int .i64 j ∧ Hid (Below w3.heap.size w3 wr)) (fun jj _ => m - (intOf jj).toNat)
      case atStart => exact ⟨0, by omega, rfl, Lib.hid (Below.refl _ _)⟩
      case round =>
        obtain ⟨j, hj, rfl, HBJ⟩ := hrel
        by_cases hjm : j < m
        · have hjL : j < L.length := by rw [HM.out]; exact hjm
          obtain ⟨b0, o0, rfl, _, cj⟩ := HXAT.out wr j hjL HBJ.out
          obtain ⟨hr, h2⟩ := HAD.out j hjL
          -- the test
          have HBW := Lib.hid (HB3.out.trans (HBJ.out.mono HB3.out.size))
          have HFC := Lib.hid (fun (W : World) (hb : Below w2.heap.size w2 W) => (show Calls Try.prog 20 #[.slice (some ⟨g, 0, none⟩) p.length p.length, .int .i64 (i : Int), .int .i64 (L[j] : Int)] W fun e w' => e = .returned (.int .i64 1) ∧ Below W.heap.size W w' by
            have h := HFAR.out i L[j] hlt hr W hb
            rw [h2] at h
            exact h))
          clear h2
          by_cases hj00 : j = 0
          · subst hj00
            · have hz0 : decide ((0 : Int) < ((0 : Nat) : Int)) = false := by simp
              generalize L[0] = v at *
              rw [Nat.add_zero] at cj
              have q1 : decide ((v : Int) < 0) = false := by simp
              have q2 : decide ((p.length : Int) ≤ (v : Int)) = false := by simp; omega
              have q2n : decide (p.length ≤ v) = false := by simp; omega
              have ha : wr.drew.cell? ⟨b0, o0, none⟩ = some (.int .i64 (v : Int)) := cj
              go_upto_region 13 with fail
              refine wp_region_held_drew (S := fun w' => w'.cell? ⟨b0, o0, none⟩ = some (.int .i64 (v : Int))) (by kernel_rfl) (ha) (fun hHeld => ?_)
              refine wpAnyH_take (i := 0) (v := ?va0) rfl (by kernel_rfl) (by kernel_rfl) (by kernel_rfl) (fun _ _ _ h => h) (Or.inl ⟨by rfl, ?ya0⟩) (by assumption) ?ra0
              case ya0 => (intro w hSw; (try dsimp only at hSw); go_simp; try with_reducible rfl)
              try simp only [Act.put, List.setIfInBounds_toArray, List.set_cons_zero, List.set_cons_succ, List.getElem_toArray, List.getElem_cons_zero, List.getElem_cons_succ]
              refine wpAnyH_take (i := 1) (v := ?va1) rfl (by kernel_rfl) (by kernel_rfl) (by kernel_rfl) (fun _ _ _ h => h) (Or.inl ⟨by rfl, ?ya1⟩) (by assumption) ?ra1
              case ya1 => (intro w hSw; (try dsimp only at hSw); go_simp; try with_reducible rfl)
              try simp only [Act.put, List.setIfInBounds_toArray, List.set_cons_zero, List.set_cons_succ, List.getElem_toArray, List.getElem_cons_zero, List.getElem_cons_succ]
              refine wpAnyH_take (i := 2) (v := ?va2) rfl (by kernel_rfl) (by kernel_rfl) (by kernel_rfl) (fun _ _ _ h => h) (Or.inl ⟨by rfl, ?ya2⟩) (by assumption) ?ra2
              case ya2 => (intro w hSw; (try dsimp only at hSw); go_simp; try with_reducible rfl)
              try simp only [Act.put, List.setIfInBounds_toArray, List.set_cons_zero, List.set_cons_succ, List.getElem_toArray, List.getElem_cons_zero, List.getElem_cons_succ]
              refine wpAnyH_take (i := 3) (v := ?va3) rfl (by kernel_rfl) (by kernel_rfl) (by kernel_rfl) (fun _ _ _ h => h) (Or.inl ⟨by rfl, ?ya3⟩) (by assumption) ?ra3
              case ya3 => (intro w hSw; (try dsimp only at hSw); go_simp; try with_reducible rfl)
              try simp only [Act.put, List.setIfInBounds_toArray, List.set_cons_zero, List.set_cons_succ, List.getElem_toArray, List.getElem_cons_zero, List.getElem_cons_succ]
              refine wpAnyH_take (i := 4) (v := ?va4) rfl (by kernel_rfl) (by kernel_rfl) (by kernel_rfl) (fun _ _ _ h => h) (Or.inl ⟨by rfl, ?ya4⟩) (by assumption) ?ra4
              case ya4 => (intro w hSw; (try dsimp only at hSw); go_simp; try with_reducible rfl)
              try simp only [Act.put, List.setIfInBounds_toArray, List.set_cons_zero, List.set_cons_succ, List.getElem_toArray, List.getElem_cons_zero, List.getElem_cons_succ]
              refine wpAnyH_take (i := 5) (v := ?va5) rfl (by kernel_rfl) (by kernel_rfl) (by kernel_rfl) (fun _ _ _ h => h) (Or.inl ⟨by rfl, ?ya5⟩) (by assumption) ?ra5
              case ya5 => (intro w hSw; (try dsimp only at hSw); go_simp; try with_reducible rfl)
              try simp only [Act.put, List.setIfInBounds_toArray, List.set_cons_zero, List.set_cons_succ, List.getElem_toArray, List.getElem_cons_zero, List.getElem_cons_succ]
              refine wpAnyH_take (i := 6) (v := ?va6) rfl (by kernel_rfl) (by kernel_rfl) (by kernel_rfl) (fun _ _ _ h => h) (Or.inl ⟨by rfl, ?ya6⟩) (by assumption) ?ra6
              case ya6 => (intro w hSw; (try dsimp only at hSw); go_simp; try with_reducible rfl)
              try simp only [Act.put, List.setIfInBounds_toArray, List.set_cons_zero, List.set_cons_succ, List.getElem_toArray, List.getElem_cons_zero, List.getElem_cons_succ]
              refine wpAnyH_take (i := 7) (v := ?va7) rfl (by kernel_rfl) (by kernel_rfl) (by kernel_rfl) (fun _ _ _ h => h) (Or.inl ⟨by rfl, ?ya7⟩) (by assumption) ?ra7
              case ya7 => (intro w hSw; (try dsimp only at hSw); go_simp; try with_reducible rfl)
              try simp only [Act.put, List.setIfInBounds_toArray, List.set_cons_zero, List.set_cons_succ, List.getElem_toArray, List.getElem_cons_zero, List.getElem_cons_succ]
              refine wpAnyH_take (i := 8) (v := ?va8) rfl (by kernel_rfl) (by kernel_rfl) (by kernel_rfl) (fun _ _ _ h => h) (Or.inl ⟨by rfl, ?ya8⟩) (by assumption) ?ra8
              case ya8 => (intro w hSw; (try dsimp only at hSw); go_simp; try with_reducible rfl)
              try simp only [Act.put, List.setIfInBounds_toArray, List.set_cons_zero, List.set_cons_succ, List.getElem_toArray, List.getElem_cons_zero, List.getElem_cons_succ]
              refine wpAnyH_take (i := 9) (v := ?va9) rfl (by kernel_rfl) (by kernel_rfl) (by kernel_rfl) (fun _ _ _ h => h) (Or.inl ⟨by rfl, ?ya9⟩) (by assumption) ?ra9
              case ya9 => (intro w hSw; (try dsimp only at hSw); go_simp; try with_reducible rfl)
              try simp only [Act.put, List.setIfInBounds_toArray, List.set_cons_zero, List.set_cons_succ, List.getElem_toArray, List.getElem_cons_zero, List.getElem_cons_succ]
              refine wpAnyH_take (i := 10) (v := ?va10) rfl (by kernel_rfl) (by kernel_rfl) (by kernel_rfl) (fun _ _ _ h => h) (Or.inl ⟨by rfl, ?ya10⟩) (by assumption) ?ra10
              case ya10 => (intro w hSw; (try dsimp only at hSw); go_simp; try with_reducible rfl)
              try simp only [Act.put, List.setIfInBounds_toArray, List.set_cons_zero, List.set_cons_succ, List.getElem_toArray, List.getElem_cons_zero, List.getElem_cons_succ]
              refine wpAnyH_take (i := 11) (v := ?va11) rfl (by kernel_rfl) (by kernel_rfl) (by kernel_rfl) (fun _ _ _ h => h) (Or.inl ⟨by rfl, ?ya11⟩) (by assumption) ?ra11
              case ya11 => (intro w hSw; (try dsimp only at hSw); go_simp; try with_reducible rfl)
              try simp only [Act.put, List.setIfInBounds_toArray, List.set_cons_zero, List.set_cons_succ, List.getElem_toArray, List.getElem_cons_zero, List.getElem_cons_succ]
              refine wpAnyH_take (i := 12) (v := ?va12) rfl (by kernel_rfl) (by kernel_rfl) (by kernel_rfl) (fun _ _ _ h => h) (Or.inl ⟨by rfl, ?ya12⟩) (by assumption) ?ra12
              case ya12 => (intro w hSw; (try dsimp only at hSw); go_simp; try with_reducible rfl)
              try simp only [Act.put, List.setIfInBounds_toArray, List.set_cons_zero, List.set_cons_succ, List.getElem_toArray, List.getElem_cons_zero, List.getElem_cons_succ]
              refine wpAnyH_take (i := 13) (v := ?va13) rfl (by kernel_rfl) (by kernel_rfl) (by kernel_rfl) (fun _ _ _ h => h) (Or.inl ⟨by rfl, ?ya13⟩) (by assumption) ?ra13
              case ya13 => (intro w hSw; (try dsimp only at hSw); go_simp; try with_reducible rfl)
              try simp only [Act.put, List.setIfInBounds_toArray, List.set_cons_zero, List.set_cons_succ, List.getElem_toArray, List.getElem_cons_zero, List.getElem_cons_succ]
              refine wpAnyH_take (i := 14) (v := ?va14) rfl (by kernel_rfl) (by kernel_rfl) (by kernel_rfl) (fun _ _ _ h => h) (Or.inl ⟨by rfl, ?ya14⟩) (by assumption) ?ra14
              case ya14 => (intro w hSw; (try dsimp only at hSw); go_simp; try with_reducible rfl)
              try simp only [Act.put, List.setIfInBounds_toArray, List.set_cons_zero, List.set_cons_succ, List.getElem_toArray, List.getElem_cons_zero, List.getElem_cons_succ]
              refine wpAnyH_take (i := 15) (v := ?va15) rfl (by kernel_rfl) (by kernel_rfl) (by kernel_rfl) (fun _ _ _ h => h) (Or.inl ⟨by rfl, ?ya15⟩) (by assumption) ?ra15
              case ya15 => (intro w hSw; (try dsimp only at hSw); go_simp; try with_reducible rfl)
              try simp only [Act.put, List.setIfInBounds_toArray, List.set_cons_zero, List.set_cons_succ, List.getElem_toArray, List.getElem_cons_zero, List.getElem_cons_succ]
              refine wpAnyH_take (i := 16) (v := ?va16) rfl (by kernel_rfl) (by kernel_rfl) (by kernel_rfl) (fun _ _ _ h => h) (Or.inl ⟨by rfl, ?ya16⟩) (by assumption) ?ra16
              case ya16 => (intro w hSw; (try dsimp only at hSw); go_simp; try with_reducible rfl)
              try simp only [Act.put, List.setIfInBounds_toArray, List.set_cons_zero, List.set_cons_succ, List.getElem_toArray, List.getElem_cons_zero, List.getElem_cons_succ]
              refine wpAnyH_take (i := 17) (v := ?va17) rfl (by kernel_rfl) (by kernel_rfl) (by kernel_rfl) (fun _ _ _ h => h) (Or.inl ⟨by rfl, ?ya17⟩) (by assumption) ?ra17
              case ya17 => (intro w hSw; (try dsimp only at hSw); go_simp; try with_reducible rfl)
              try simp only [Act.put, List.setIfInBounds_toArray, List.set_cons_zero, List.set_cons_succ, List.getElem_toArray, List.getElem_cons_zero, List.getElem_cons_succ]
              refine wpAnyH_take (i := 18) (v := ?va18) rfl (by kernel_rfl) (by kernel_rfl) (by kernel_rfl) (fun _ _ _ h => h) (Or.inl ⟨by rfl, ?ya18⟩) (by assumption) ?ra18
              case ya18 => (intro w hSw; (try dsimp only at hSw); go_simp; try with_reducible rfl)
              try simp only [Act.put, List.setIfInBounds_toArray, List.set_cons_zero, List.set_cons_succ, List.getElem_toArray, List.getElem_cons_zero, List.getElem_cons_succ]
              refine wpAnyH_take (i := 19) (v := ?va19) rfl (by kernel_rfl) (by kernel_rfl) (by kernel_rfl) (fun _ _ _ h => h) (Or.inl ⟨by rfl, ?ya19⟩) (by assumption) ?ra19
              case ya19 => (intro w hSw; (try dsimp only at hSw); go_simp; try with_reducible rfl)
              try simp only [Act.put, List.setIfInBounds_toArray, List.set_cons_zero, List.set_cons_succ, List.getElem_toArray, List.getElem_cons_zero, List.getElem_cons_succ]
              refine wpAnyH_ready (rs := [20]) (by kernel_rfl) (by simp) ?_
              refine AllReadyH.cons rfl (fun K hK => ?_) AllReadyH.nil
              go_simp
              go_at_call 20
              refine (HFC.out _ HBW.out.drew).mono ?_
              rintro e w5 ⟨rfl, hb5⟩
              have g1 := kc hb5 ha
              go_wp2_with fail
              refine hK.out _ _ (g1) (fun hHeld => ?_)
              clear hK K
              try simp only [Act.put, List.setIfInBounds_toArray, List.set_cons_zero, List.set_cons_succ, List.getElem_toArray, List.getElem_cons_zero, List.getElem_cons_succ]
              refine wpAnyH_take (i := 21) (v := ?va21) rfl (by kernel_rfl) (by kernel_rfl) (by kernel_rfl) (fun _ _ _ h => h) (Or.inl ⟨by rfl, ?ya21⟩) (by assumption) ?ra21
              case ya21 => (intro w hSw; (try dsimp only at hSw); go_simp; try with_reducible rfl)
              try simp only [Act.put, List.setIfInBounds_toArray, List.set_cons_zero, List.set_cons_succ, List.getElem_toArray, List.getElem_cons_zero, List.getElem_cons_succ]
              refine wpAnyH_take (i := 22) (v := ?va22) rfl (by kernel_rfl) (by kernel_rfl) (by kernel_rfl) (fun _ _ _ h => h) (Or.inl ⟨by rfl, ?ya22⟩) (by assumption) ?ra22
              case ya22 => (intro w hSw; (try dsimp only at hSw); go_simp; try with_reducible rfl)
              try simp only [Act.put, List.setIfInBounds_toArray, List.set_cons_zero, List.set_cons_succ, List.getElem_toArray, List.getElem_cons_zero, List.getElem_cons_succ]
              refine wpAnyH_take (i := 23) (v := ?va23) rfl (by kernel_rfl) (by kernel_rfl) (by kernel_rfl) (fun _ _ _ h => h) (Or.inl ⟨by rfl, ?ya23⟩) (by assumption) ?ra23
              case ya23 => (intro w hSw; (try dsimp only at hSw); go_simp; try with_reducible rfl)
              try simp only [Act.put, List.setIfInBounds_toArray, List.set_cons_zero, List.set_cons_succ, List.getElem_toArray, List.getElem_cons_zero, List.getElem_cons_succ]
              refine wpAnyH_take (i := 24) (v := ?va24) rfl (by kernel_rfl) (by kernel_rfl) (by kernel_rfl) (fun _ _ _ h => h) (Or.inl ⟨by rfl, ?ya24⟩) (by assumption) ?ra24
              case ya24 => (intro w hSw; (try dsimp only at hSw); go_simp; try with_reducible rfl)
              try simp only [Act.put, List.setIfInBounds_toArray, List.set_cons_zero, List.set_cons_succ, List.getElem_toArray, List.getElem_cons_zero, List.getElem_cons_succ]
              refine wpAnyH_take (i := 25) (v := ?va25) rfl (by kernel_rfl) (by kernel_rfl) (by kernel_rfl) (fun _ _ _ h => h) (Or.inl ⟨by rfl, ?ya25⟩) (by assumption) ?ra25
              case ya25 => (intro w hSw; (try dsimp only at hSw); go_simp; try with_reducible rfl)
              try simp only [Act.put, List.setIfInBounds_toArray, List.set_cons_zero, List.set_cons_succ, List.getElem_toArray, List.getElem_cons_zero, List.getElem_cons_succ]
              refine wpAnyH_take (i := 26) (v := ?va26) rfl (by kernel_rfl) (by kernel_rfl) (by kernel_rfl) (fun _ _ _ h => h) (Or.inl ⟨by rfl, ?ya26⟩) (by assumption) ?ra26
              case ya26 => (intro w hSw; (try dsimp only at hSw); go_simp; try with_reducible rfl)
              try simp only [Act.put, List.setIfInBounds_toArray, List.set_cons_zero, List.set_cons_succ, List.getElem_toArray, List.getElem_cons_zero, List.getElem_cons_succ]
              refine wpAnyH_take (i := 27) (v := undef) rfl (by kernel_rfl) (by kernel_rfl) (by kernel_rfl) (fun _ _ _ h => h) (Or.inr ⟨by rfl, rfl⟩) (by assumption) ?_
              try simp only [Act.put, List.setIfInBounds_toArray, List.set_cons_zero, List.set_cons_succ, List.getElem_toArray, List.getElem_cons_zero, List.getElem_cons_succ]
              refine wpAnyH_take (i := 28) (v := undef) rfl (by kernel_rfl) (by kernel_rfl) (by kernel_rfl) (fun _ _ _ h => h) (Or.inr ⟨by rfl, rfl⟩) (by assumption) ?_
              try simp only [Act.put, List.setIfInBounds_toArray, List.set_cons_zero, List.set_cons_succ, List.getElem_toArray, List.getElem_cons_zero, List.getElem_cons_succ]
              refine wpAnyH_take (i := 29) (v := undef) rfl (by kernel_rfl) (by kernel_rfl) (by kernel_rfl) (fun _ _ _ h => h) (Or.inr ⟨by rfl, rfl⟩) (by assumption) ?_
              try simp only [Act.put, List.setIfInBounds_toArray, List.set_cons_zero, List.set_cons_succ, List.getElem_toArray, List.getElem_cons_zero, List.getElem_cons_succ]
              refine wpAnyH_take (i := 30) (v := undef) rfl (by kernel_rfl) (by kernel_rfl) (by kernel_rfl) (fun _ _ _ h => h) (Or.inr ⟨by rfl, rfl⟩) (by assumption) ?_
              try simp only [Act.put, List.setIfInBounds_toArray, List.set_cons_zero, List.set_cons_succ, List.getElem_toArray, List.getElem_cons_zero, List.getElem_cons_succ]
              refine wpAnyH_take (i := 31) (v := undef) rfl (by kernel_rfl) (by kernel_rfl) (by kernel_rfl) (fun _ _ _ h => h) (Or.inr ⟨by rfl, rfl⟩) (by assumption) ?_
              try simp only [Act.put, List.setIfInBounds_toArray, List.set_cons_zero, List.set_cons_succ, List.getElem_toArray, List.getElem_cons_zero, List.getElem_cons_succ]
              refine wpAnyH_take (i := 32) (v := undef) rfl (by kernel_rfl) (by kernel_rfl) (by kernel_rfl) (fun _ _ _ h => h) (Or.inr ⟨by rfl, rfl⟩) (by assumption) ?_
              try simp only [Act.put, List.setIfInBounds_toArray, List.set_cons_zero, List.set_cons_succ, List.getElem_toArray, List.getElem_cons_zero, List.getElem_cons_succ]
              refine wpAnyH_take (i := 33) (v := undef) rfl (by kernel_rfl) (by kernel_rfl) (by kernel_rfl) (fun _ _ _ h => h) (Or.inr ⟨by rfl, rfl⟩) (by assumption) ?_
              try simp only [Act.put, List.setIfInBounds_toArray, List.set_cons_zero, List.set_cons_succ, List.getElem_toArray, List.getElem_cons_zero, List.getElem_cons_succ]
              refine wpAnyH_take (i := 34) (v := undef) rfl (by kernel_rfl) (by kernel_rfl) (by kernel_rfl) (fun _ _ _ h => h) (Or.inr ⟨by rfl, rfl⟩) (by assumption) ?_
              try simp only [Act.put, List.setIfInBounds_toArray, List.set_cons_zero, List.set_cons_succ, List.getElem_toArray, List.getElem_cons_zero, List.getElem_cons_succ]
              refine wpAnyH_take (i := 35) (v := undef) rfl (by kernel_rfl) (by kernel_rfl) (by kernel_rfl) (fun _ _ _ h => h) (Or.inr ⟨by rfl, rfl⟩) (by assumption) ?_
              try simp only [Act.put, List.setIfInBounds_toArray, List.set_cons_zero, List.set_cons_succ, List.getElem_toArray, List.getElem_cons_zero, List.getElem_cons_succ]
              refine wpAnyH_take (i := 36) (v := undef) rfl (by kernel_rfl) (by kernel_rfl) (by kernel_rfl) (fun _ _ _ h => h) (Or.inr ⟨by rfl, rfl⟩) (by assumption) ?_
              try simp only [Act.put, List.setIfInBounds_toArray, List.set_cons_zero, List.set_cons_succ, List.getElem_toArray, List.getElem_cons_zero, List.getElem_cons_succ]
              refine wpAnyH_take (i := 37) (v := ?va37) rfl (by kernel_rfl) (by kernel_rfl) (by kernel_rfl) (fun _ _ _ h => h) (Or.inl ⟨by rfl, ?ya37⟩) (by assumption) ?ra37
              case ya37 => (intro w hSw; (try dsimp only at hSw); go_simp; try with_reducible rfl)
              try simp only [Act.put, List.setIfInBounds_toArray, List.set_cons_zero, List.set_cons_succ, List.getElem_toArray, List.getElem_cons_zero, List.getElem_cons_succ]
              refine wpAnyH_take (i := 38) (v := ?va38) rfl (by kernel_rfl) (by kernel_rfl) (by kernel_rfl) (fun _ _ _ h => h) (Or.inl ⟨by rfl, ?ya38⟩) (by assumption) ?ra38
              case ya38 => (intro w hSw; (try dsimp only at hSw); go_simp; try with_reducible rfl)
              try simp only [Act.put, List.setIfInBounds_toArray, List.set_cons_zero, List.set_cons_succ, List.getElem_toArray, List.getElem_cons_zero, List.getElem_cons_succ]
              refine wpAnyH_done (by kernel_rfl) ?_ _
              have HB5 := Lib.hid (HBJ.out.trans ((Below.refl _ _).drew.trans hb5 |>.mono HBJ.out.size))
              clear hb5 g1 hHeld
              go_wp2
              go_roundw
              case rel => exact ⟨1, by omega, by go_num, HB5⟩
              case measure => simp [intOf]; omega
          · obtain ⟨jm, hjm2⟩ : ∃ jm, jm = j - 1 := ⟨_, rfl⟩
            have hjl1 : jm < j := by omega
            have hjl2 : (jm : Int) + 1 = (j : Int) := by omega
            clear hj00 hjm2
            · have hjL2 : jm < L.length := by omega
              obtain ⟨_, _, ee, _, cj2⟩ := HXAT.out wr jm hjL2 HBJ.out
              cases ee
              have hrs := HRS.out jm j hjL2 hjL hjl1
              generalize L[j] = v at *
              generalize L[jm] = u at *
              have q1 : decide ((v : Int) < 0) = false := by simp
              have q2 : decide ((p.length : Int) ≤ (v : Int)) = false := by simp; omega
              have q2n : decide (p.length ≤ v) = false := by simp; omega
              have q3 : decide ((v : Int) ≤ (u : Int)) = false := by simp; omega
              have q3n : decide (v ≤ u) = false := by simp; omega
              have hz0 : decide ((0 : Int) < (j : Int)) = true := by simp; omega
              have hz0n : decide (0 < j) = true := by simp; omega
              have hw3 : IntKind.i64.wrap ((j : Int) - 1) = (jm : Int) := by rw [IntWalk.i64_in _ (by omega)]; omega
              have hj0 : (0 : Int) ≤ (jm : Int) := by omega
              have hj1 : (jm : Int) < (m : Int) := by omega
              have HJL := Lib.hid hjl2
              clear hjl2
              have ha : wr.drew.cell? ⟨b0, o0 + j, none⟩ = some (.int .i64 (v : Int)) ∧ wr.drew.cell? ⟨b0, o0 + jm, none⟩ = some (.int .i64 (u : Int)) := ⟨cj, cj2⟩
              go_upto_region 13 with fail
              refine wp_region_held_drew (S := fun w' => w'.cell? ⟨b0, o0 + j, none⟩ = some (.int .i64 (v : Int)) ∧ w'.cell? ⟨b0, o0 + jm, none⟩ = some (.int .i64 (u : Int))) (by kernel_rfl) (ha) (fun hHeld => ?_)
              refine wpAnyH_take (i := 0) (v := ?vb0) rfl (by kernel_rfl) (by kernel_rfl) (by kernel_rfl) (fun _ _ _ h => h) (Or.inl ⟨by rfl, ?yb0⟩) (by assumption) ?rb0
              case yb0 => (intro w hSw; (try dsimp only at hSw); go_simp; try with_reducible rfl)
              try simp only [Act.put, List.setIfInBounds_toArray, List.set_cons_zero, List.set_cons_succ, List.getElem_toArray, List.getElem_cons_zero, List.getElem_cons_succ]
              refine wpAnyH_take (i := 1) (v := ?vb1) rfl (by kernel_rfl) (by kernel_rfl) (by kernel_rfl) (fun _ _ _ h => h) (Or.inl ⟨by rfl, ?yb1⟩) (by assumption) ?rb1
              case yb1 => (intro w hSw; (try dsimp only at hSw); go_simp; try with_reducible rfl)
              try simp only [Act.put, List.setIfInBounds_toArray, List.set_cons_zero, List.set_cons_succ, List.getElem_toArray, List.getElem_cons_zero, List.getElem_cons_succ]
              refine wpAnyH_take (i := 2) (v := ?vb2) rfl (by kernel_rfl) (by kernel_rfl) (by kernel_rfl) (fun _ _ _ h => h) (Or.inl ⟨by rfl, ?yb2⟩) (by assumption) ?rb2
              case yb2 => (intro w hSw; (try dsimp only at hSw); go_simp; try with_reducible rfl)
              try simp only [Act.put, List.setIfInBounds_toArray, List.set_cons_zero, List.set_cons_succ, List.getElem_toArray, List.getElem_cons_zero, List.getElem_cons_succ]
              refine wpAnyH_take (i := 3) (v := ?vb3) rfl (by kernel_rfl) (by kernel_rfl) (by kernel_rfl) (fun _ _ _ h => h) (Or.inl ⟨by rfl, ?yb3⟩) (by assumption) ?rb3
              case yb3 => (intro w hSw; (try dsimp only at hSw); go_simp; try with_reducible rfl)
              try simp only [Act.put, List.setIfInBounds_toArray, List.set_cons_zero, List.set_cons_succ, List.getElem_toArray, List.getElem_cons_zero, List.getElem_cons_succ]
              refine wpAnyH_take (i := 4) (v := ?vb4) rfl (by kernel_rfl) (by kernel_rfl) (by kernel_rfl) (fun _ _ _ h => h) (Or.inl ⟨by rfl, ?yb4⟩) (by assumption) ?rb4
              case yb4 => (intro w hSw; (try dsimp only at hSw); go_simp; try with_reducible rfl)
              try simp only [Act.put, List.setIfInBounds_toArray, List.set_cons_zero, List.set_cons_succ, List.getElem_toArray, List.getElem_cons_zero, List.getElem_cons_succ]
              refine wpAnyH_take (i := 5) (v := ?vb5) rfl (by kernel_rfl) (by kernel_rfl) (by kernel_rfl) (fun _ _ _ h => h) (Or.inl ⟨by rfl, ?yb5⟩) (by assumption) ?rb5
              case yb5 => (intro w hSw; (try dsimp only at hSw); go_simp; try with_reducible rfl)
              try simp only [Act.put, List.setIfInBounds_toArray, List.set_cons_zero, List.set_cons_succ, List.getElem_toArray, List.getElem_cons_zero, List.getElem_cons_succ]
              refine wpAnyH_take (i := 6) (v := ?vb6) rfl (by kernel_rfl) (by kernel_rfl) (by kernel_rfl) (fun _ _ _ h => h) (Or.inl ⟨by rfl, ?yb6⟩) (by assumption) ?rb6
              case yb6 => (intro w hSw; (try dsimp only at hSw); go_simp; try with_reducible rfl)
              try simp only [Act.put, List.setIfInBounds_toArray, List.set_cons_zero, List.set_cons_succ, List.getElem_toArray, List.getElem_cons_zero, List.getElem_cons_succ]
              refine wpAnyH_take (i := 7) (v := ?vb7) rfl (by kernel_rfl) (by kernel_rfl) (by kernel_rfl) (fun _ _ _ h => h) (Or.inl ⟨by rfl, ?yb7⟩) (by assumption) ?rb7
              case yb7 => (intro w hSw; (try dsimp only at hSw); go_simp; try with_reducible rfl)
              try simp only [Act.put, List.setIfInBounds_toArray, List.set_cons_zero, List.set_cons_succ, List.getElem_toArray, List.getElem_cons_zero, List.getElem_cons_succ]
              refine wpAnyH_take (i := 8) (v := ?vb8) rfl (by kernel_rfl) (by kernel_rfl) (by kernel_rfl) (fun _ _ _ h => h) (Or.inl ⟨by rfl, ?yb8⟩) (by assumption) ?rb8
              case yb8 => (intro w hSw; (try dsimp only at hSw); go_simp; try with_reducible rfl)
              try simp only [Act.put, List.setIfInBounds_toArray, List.set_cons_zero, List.set_cons_succ, List.getElem_toArray, List.getElem_cons_zero, List.getElem_cons_succ]
              refine wpAnyH_take (i := 9) (v := ?vb9) rfl (by kernel_rfl) (by kernel_rfl) (by kernel_rfl) (fun _ _ _ h => h) (Or.inl ⟨by rfl, ?yb9⟩) (by assumption) ?rb9
              case yb9 => (intro w hSw; (try dsimp only at hSw); go_simp; try with_reducible rfl)
              try simp only [Act.put, List.setIfInBounds_toArray, List.set_cons_zero, List.set_cons_succ, List.getElem_toArray, List.getElem_cons_zero, List.getElem_cons_succ]
              refine wpAnyH_take (i := 10) (v := ?vb10) rfl (by kernel_rfl) (by kernel_rfl) (by kernel_rfl) (fun _ _ _ h => h) (Or.inl ⟨by rfl, ?yb10⟩) (by assumption) ?rb10
              case yb10 => (intro w hSw; (try dsimp only at hSw); go_simp; try with_reducible rfl)
              try simp only [Act.put, List.setIfInBounds_toArray, List.set_cons_zero, List.set_cons_succ, List.getElem_toArray, List.getElem_cons_zero, List.getElem_cons_succ]
              refine wpAnyH_take (i := 11) (v := ?vb11) rfl (by kernel_rfl) (by kernel_rfl) (by kernel_rfl) (fun _ _ _ h => h) (Or.inl ⟨by rfl, ?yb11⟩) (by assumption) ?rb11
              case yb11 => (intro w hSw; (try dsimp only at hSw); go_simp; try with_reducible rfl)
              try simp only [Act.put, List.setIfInBounds_toArray, List.set_cons_zero, List.set_cons_succ, List.getElem_toArray, List.getElem_cons_zero, List.getElem_cons_succ]
              refine wpAnyH_take (i := 12) (v := ?vb12) rfl (by kernel_rfl) (by kernel_rfl) (by kernel_rfl) (fun _ _ _ h => h) (Or.inl ⟨by rfl, ?yb12⟩) (by assumption) ?rb12
              case yb12 => (intro w hSw; (try dsimp only at hSw); go_simp; try with_reducible rfl)
              try simp only [Act.put, List.setIfInBounds_toArray, List.set_cons_zero, List.set_cons_succ, List.getElem_toArray, List.getElem_cons_zero, List.getElem_cons_succ]
              refine wpAnyH_take (i := 13) (v := ?vb13) rfl (by kernel_rfl) (by kernel_rfl) (by kernel_rfl) (fun _ _ _ h => h) (Or.inl ⟨by rfl, ?yb13⟩) (by assumption) ?rb13
              case yb13 => (intro w hSw; (try dsimp only at hSw); go_simp; try with_reducible rfl)
              try simp only [Act.put, List.setIfInBounds_toArray, List.set_cons_zero, List.set_cons_succ, List.getElem_toArray, List.getElem_cons_zero, List.getElem_cons_succ]
              refine wpAnyH_take (i := 14) (v := ?vb14) rfl (by kernel_rfl) (by kernel_rfl) (by kernel_rfl) (fun _ _ _ h => h) (Or.inl ⟨by rfl, ?yb14⟩) (by assumption) ?rb14
              case yb14 => (intro w hSw; (try dsimp only at hSw); go_simp; try with_reducible rfl)
              try simp only [Act.put, List.setIfInBounds_toArray, List.set_cons_zero, List.set_cons_succ, List.getElem_toArray, List.getElem_cons_zero, List.getElem_cons_succ]
              refine wpAnyH_take (i := 15) (v := ?vb15) rfl (by kernel_rfl) (by kernel_rfl) (by kernel_rfl) (fun _ _ _ h => h) (Or.inl ⟨by rfl, ?yb15⟩) (by assumption) ?rb15
              case yb15 => (intro w hSw; (try dsimp only at hSw); go_simp; try with_reducible rfl)
              try simp only [Act.put, List.setIfInBounds_toArray, List.set_cons_zero, List.set_cons_succ, List.getElem_toArray, List.getElem_cons_zero, List.getElem_cons_succ]
              refine wpAnyH_take (i := 16) (v := ?vb16) rfl (by kernel_rfl) (by kernel_rfl) (by kernel_rfl) (fun _ _ _ h => h) (Or.inl ⟨by rfl, ?yb16⟩) (by assumption) ?rb16
              case yb16 => (intro w hSw; (try dsimp only at hSw); go_simp; try with_reducible rfl)
              try simp only [Act.put, List.setIfInBounds_toArray, List.set_cons_zero, List.set_cons_succ, List.getElem_toArray, List.getElem_cons_zero, List.getElem_cons_succ]
              refine wpAnyH_take (i := 17) (v := ?vb17) rfl (by kernel_rfl) (by kernel_rfl) (by kernel_rfl) (fun _ _ _ h => h) (Or.inl ⟨by rfl, ?yb17⟩) (by assumption) ?rb17
              case yb17 => (intro w hSw; (try dsimp only at hSw); go_simp; try with_reducible rfl)
              try simp only [Act.put, List.setIfInBounds_toArray, List.set_cons_zero, List.set_cons_succ, List.getElem_toArray, List.getElem_cons_zero, List.getElem_cons_succ]
              refine wpAnyH_take (i := 18) (v := ?vb18) rfl (by kernel_rfl) (by kernel_rfl) (by kernel_rfl) (fun _ _ _ h => h) (Or.inl ⟨by rfl, ?yb18⟩) (by assumption) ?rb18
              case yb18 => (intro w hSw; (try dsimp only at hSw); go_simp; try with_reducible rfl)
              try simp only [Act.put, List.setIfInBounds_toArray, List.set_cons_zero, List.set_cons_succ, List.getElem_toArray, List.getElem_cons_zero, List.getElem_cons_succ]
              refine wpAnyH_take (i := 19) (v := ?vb19) rfl (by kernel_rfl) (by kernel_rfl) (by kernel_rfl) (fun _ _ _ h => h) (Or.inl ⟨by rfl, ?yb19⟩) (by assumption) ?rb19
              case yb19 => (intro w hSw; (try dsimp only at hSw); go_simp; try with_reducible rfl)
              try simp only [Act.put, List.setIfInBounds_toArray, List.set_cons_zero, List.set_cons_succ, List.getElem_toArray, List.getElem_cons_zero, List.getElem_cons_succ]
              refine wpAnyH_ready (rs := [20]) (by kernel_rfl) (by simp) ?_
              refine AllReadyH.cons rfl (fun K hK => ?_) AllReadyH.nil
              go_simp
              go_at_call 20
              refine (HFC.out _ HBW.out.drew).mono ?_
              rintro e w5 ⟨rfl, hb5⟩
              have g1 := (⟨kc hb5 ha.1, kc hb5 ha.2⟩ : _ ∧ _)
              go_wp2_with fail
              refine hK.out _ _ (g1) (fun hHeld => ?_)
              clear hK K
              try simp only [Act.put, List.setIfInBounds_toArray, List.set_cons_zero, List.set_cons_succ, List.getElem_toArray, List.getElem_cons_zero, List.getElem_cons_succ]
              refine wpAnyH_take (i := 21) (v := ?vb21) rfl (by kernel_rfl) (by kernel_rfl) (by kernel_rfl) (fun _ _ _ h => h) (Or.inl ⟨by rfl, ?yb21⟩) (by assumption) ?rb21
              case yb21 => (intro w hSw; (try dsimp only at hSw); go_simp; try with_reducible rfl)
              try simp only [Act.put, List.setIfInBounds_toArray, List.set_cons_zero, List.set_cons_succ, List.getElem_toArray, List.getElem_cons_zero, List.getElem_cons_succ]
              refine wpAnyH_take (i := 22) (v := ?vb22) rfl (by kernel_rfl) (by kernel_rfl) (by kernel_rfl) (fun _ _ _ h => h) (Or.inl ⟨by rfl, ?yb22⟩) (by assumption) ?rb22
              case yb22 => (intro w hSw; (try dsimp only at hSw); go_simp; try with_reducible rfl)
              try simp only [Act.put, List.setIfInBounds_toArray, List.set_cons_zero, List.set_cons_succ, List.getElem_toArray, List.getElem_cons_zero, List.getElem_cons_succ]
              refine wpAnyH_take (i := 23) (v := ?vb23) rfl (by kernel_rfl) (by kernel_rfl) (by kernel_rfl) (fun _ _ _ h => h) (Or.inl ⟨by rfl, ?yb23⟩) (by assumption) ?rb23
              case yb23 => (intro w hSw; (try dsimp only at hSw); go_simp; try with_reducible rfl)
              try simp only [Act.put, List.setIfInBounds_toArray, List.set_cons_zero, List.set_cons_succ, List.getElem_toArray, List.getElem_cons_zero, List.getElem_cons_succ]
              refine wpAnyH_take (i := 24) (v := ?vb24) rfl (by kernel_rfl) (by kernel_rfl) (by kernel_rfl) (fun _ _ _ h => h) (Or.inl ⟨by rfl, ?yb24⟩) (by assumption) ?rb24
              case yb24 => (intro w hSw; (try dsimp only at hSw); go_simp; try with_reducible rfl)
              try simp only [Act.put, List.setIfInBounds_toArray, List.set_cons_zero, List.set_cons_succ, List.getElem_toArray, List.getElem_cons_zero, List.getElem_cons_succ]
              refine wpAnyH_take (i := 25) (v := ?vb25) rfl (by kernel_rfl) (by kernel_rfl) (by kernel_rfl) (fun _ _ _ h => h) (Or.inl ⟨by rfl, ?yb25⟩) (by assumption) ?rb25
              case yb25 => (intro w hSw; (try dsimp only at hSw); go_simp; try with_reducible rfl)
              try simp only [Act.put, List.setIfInBounds_toArray, List.set_cons_zero, List.set_cons_succ, List.getElem_toArray, List.getElem_cons_zero, List.getElem_cons_succ]
              refine wpAnyH_take (i := 26) (v := ?vb26) rfl (by kernel_rfl) (by kernel_rfl) (by kernel_rfl) (fun _ _ _ h => h) (Or.inl ⟨by rfl, ?yb26⟩) (by assumption) ?rb26
              case yb26 => (intro w hSw; (try dsimp only at hSw); go_simp; try with_reducible rfl)
              try simp only [Act.put, List.setIfInBounds_toArray, List.set_cons_zero, List.set_cons_succ, List.getElem_toArray, List.getElem_cons_zero, List.getElem_cons_succ]
              refine wpAnyH_take (i := 27) (v := ?vb27) rfl (by kernel_rfl) (by kernel_rfl) (by kernel_rfl) (fun _ _ _ h => h) (Or.inl ⟨by rfl, ?yb27⟩) (by assumption) ?rb27
              case yb27 => (intro w hSw; (try dsimp only at hSw); go_simp; try with_reducible rfl)
              try simp only [Act.put, List.setIfInBounds_toArray, List.set_cons_zero, List.set_cons_succ, List.getElem_toArray, List.getElem_cons_zero, List.getElem_cons_succ]
              refine wpAnyH_take (i := 28) (v := ?vb28) rfl (by kernel_rfl) (by kernel_rfl) (by kernel_rfl) (fun _ _ _ h => h) (Or.inl ⟨by rfl, ?yb28⟩) (by assumption) ?rb28
              case yb28 => (intro w hSw; (try dsimp only at hSw); go_simp; try with_reducible rfl)
              try simp only [Act.put, List.setIfInBounds_toArray, List.set_cons_zero, List.set_cons_succ, List.getElem_toArray, List.getElem_cons_zero, List.getElem_cons_succ]
              refine wpAnyH_take (i := 29) (v := ?vb29) rfl (by kernel_rfl) (by kernel_rfl) (by kernel_rfl) (fun _ _ _ h => h) (Or.inl ⟨by rfl, ?yb29⟩) (by assumption) ?rb29
              case yb29 => (intro w hSw; (try dsimp only at hSw); go_simp; try with_reducible rfl)
              try simp only [Act.put, List.setIfInBounds_toArray, List.set_cons_zero, List.set_cons_succ, List.getElem_toArray, List.getElem_cons_zero, List.getElem_cons_succ]
              refine wpAnyH_take (i := 30) (v := ?vb30) rfl (by kernel_rfl) (by kernel_rfl) (by kernel_rfl) (fun _ _ _ h => h) (Or.inl ⟨by rfl, ?yb30⟩) (by assumption) ?rb30
              case yb30 => (intro w hSw; (try dsimp only at hSw); go_simp; try with_reducible rfl)
              try simp only [Act.put, List.setIfInBounds_toArray, List.set_cons_zero, List.set_cons_succ, List.getElem_toArray, List.getElem_cons_zero, List.getElem_cons_succ]
              refine wpAnyH_take (i := 31) (v := ?vb31) rfl (by kernel_rfl) (by kernel_rfl) (by kernel_rfl) (fun _ _ _ h => h) (Or.inl ⟨by rfl, ?yb31⟩) (by assumption) ?rb31
              case yb31 => (intro w hSw; (try dsimp only at hSw); go_simp; try with_reducible rfl)
              try simp only [Act.put, List.setIfInBounds_toArray, List.set_cons_zero, List.set_cons_succ, List.getElem_toArray, List.getElem_cons_zero, List.getElem_cons_succ]
              refine wpAnyH_take (i := 32) (v := ?vb32) rfl (by kernel_rfl) (by kernel_rfl) (by kernel_rfl) (fun _ _ _ h => h) (Or.inl ⟨by rfl, ?yb32⟩) (by assumption) ?rb32
              case yb32 => (intro w hSw; (try dsimp only at hSw); go_simp; try with_reducible rfl)
              try simp only [Act.put, List.setIfInBounds_toArray, List.set_cons_zero, List.set_cons_succ, List.getElem_toArray, List.getElem_cons_zero, List.getElem_cons_succ]
              refine wpAnyH_take (i := 33) (v := ?vb33) rfl (by kernel_rfl) (by kernel_rfl) (by kernel_rfl) (fun _ _ _ h => h) (Or.inl ⟨by rfl, ?yb33⟩) (by assumption) ?rb33
              case yb33 => (intro w hSw; (try dsimp only at hSw); go_simp; try with_reducible rfl)
              try simp only [Act.put, List.setIfInBounds_toArray, List.set_cons_zero, List.set_cons_succ, List.getElem_toArray, List.getElem_cons_zero, List.getElem_cons_succ]
              refine wpAnyH_take (i := 34) (v := ?vb34) rfl (by kernel_rfl) (by kernel_rfl) (by kernel_rfl) (fun _ _ _ h => h) (Or.inl ⟨by rfl, ?yb34⟩) (by assumption) ?rb34
              case yb34 => (intro w hSw; (try dsimp only at hSw); go_simp; try with_reducible rfl)
              try simp only [Act.put, List.setIfInBounds_toArray, List.set_cons_zero, List.set_cons_succ, List.getElem_toArray, List.getElem_cons_zero, List.getElem_cons_succ]
              refine wpAnyH_take (i := 35) (v := ?vb35) rfl (by kernel_rfl) (by kernel_rfl) (by kernel_rfl) (fun _ _ _ h => h) (Or.inl ⟨by rfl, ?yb35⟩) (by assumption) ?rb35
              case yb35 => (intro w hSw; (try dsimp only at hSw); go_simp; try with_reducible rfl)
              try simp only [Act.put, List.setIfInBounds_toArray, List.set_cons_zero, List.set_cons_succ, List.getElem_toArray, List.getElem_cons_zero, List.getElem_cons_succ]
              refine wpAnyH_take (i := 36) (v := ?vb36) rfl (by kernel_rfl) (by kernel_rfl) (by kernel_rfl) (fun _ _ _ h => h) (Or.inl ⟨by rfl, ?yb36⟩) (by assumption) ?rb36
              case yb36 => (intro w hSw; (try dsimp only at hSw); go_simp; try with_reducible rfl)
              try simp only [Act.put, List.setIfInBounds_toArray, List.set_cons_zero, List.set_cons_succ, List.getElem_toArray, List.getElem_cons_zero, List.getElem_cons_succ]
              refine wpAnyH_take (i := 37) (v := ?vb37) rfl (by kernel_rfl) (by kernel_rfl) (by kernel_rfl) (fun _ _ _ h => h) (Or.inl ⟨by rfl, ?yb37⟩) (by assumption) ?rb37
              case yb37 => (intro w hSw; (try dsimp only at hSw); go_simp; try with_reducible rfl)
              try simp only [Act.put, List.setIfInBounds_toArray, List.set_cons_zero, List.set_cons_succ, List.getElem_toArray, List.getElem_cons_zero, List.getElem_cons_succ]
              refine wpAnyH_take (i := 38) (v := ?vb38) rfl (by kernel_rfl) (by kernel_rfl) (by kernel_rfl) (fun _ _ _ h => h) (Or.inl ⟨by rfl, ?yb38⟩) (by assumption) ?rb38
              case yb38 => (intro w hSw; (try dsimp only at hSw); go_simp; try with_reducible rfl)
              try simp only [Act.put, List.setIfInBounds_toArray, List.set_cons_zero, List.set_cons_succ, List.getElem_toArray, List.getElem_cons_zero, List.getElem_cons_succ]
              refine wpAnyH_done (by kernel_rfl) ?_ _
              have HB5 := Lib.hid (HBJ.out.trans ((Below.refl _ _).drew.trans hb5 |>.mono HBJ.out.size))
              clear hb5 g1 hHeld
              go_wp2
              go_roundw
              case rel => exact ⟨j + 1, by omega, by go_num, HB5⟩
              case measure => simp [intOf]; omega
        · obtain rfl : j = m := by omega
          have HBW := Lib.hid (HB3.out.trans (HBJ.out.mono HB3.out.size))
          go_wp2_with fail
          go_roundw
          case rel => exact ⟨i + 1, q + j, by omega, by go_num, by go_num, by omega, HQS, HBW.out⟩
          case measure => simp [intOf]; omega
    · have hqv : q = 2 * (p.length - 1) := by
        have e : i = p.length := by omega
        have h := HQ.out
        rw [e] at h
        exact h.trans HTR.out.pairs
      have hqe : ((q : Int) == 2 * ((p.length : Int) - 1)) = true := by simp; omega
      have HBL := Lib.hid hbel
      have c0 := kc hbel HD0.out
      have c1 := kc hbel HD1.out
      have hip : ¬ (i : Int) < (p.length : Int) := by omega
      obtain ⟨y1, y2⟩ := tmod_bdT q0 (p.length : Int) (by omega)
      generalize hy : q0.tmod (p.length : Int) = y at y1 y2
      obtain ⟨z1, z2⟩ := tmod_bdT q1 (p.length : Int) (by omega)
      generalize hz : q1.tmod (p.length : Int) = z at z1 z2
      clear hqv hbel
      go_upto_region 18 with fail
      have ho1 := Int.emod_nonneg (y + (p.length : Int)) (b := (p.length : Int)) (by omega)
      have ho2 := Int.emod_lt_of_pos (y + (p.length : Int)) (b := (p.length : Int)) (by omega)
      generalize (y + (p.length : Int)) % (p.length : Int) = o at *
      obtain ⟨A, rfl⟩ : ∃ A : Nat, o = (A : Int) := ⟨o.toNat, by omega⟩
      have ho3 := Int.emod_nonneg (z + (p.length : Int)) (b := (p.length : Int)) (by omega)
      have ho4 := Int.emod_lt_of_pos (z + (p.length : Int)) (b := (p.length : Int)) (by omega)
      generalize (z + (p.length : Int)) % (p.length : Int) = o2 at *
      obtain ⟨B, rfl⟩ : ∃ B : Nat, o2 = (B : Int) := ⟨o2.toNat, by omega⟩
      have hA : A < p.length := by omega
      have hB : B < p.length := by omega
      clear hy y1 y2 hz z1 z2 ho1 ho2 ho3 ho4 c0 c1
      have hN := HNEAR.out A hA wr HBL.out
      have hll6 := HLEN.out A
      have HFAB := Lib.hid (fun W hb => HFAR.out A B hA hB W hb)
      have HE1 : Hid (decide (B ∈ Tm.nearL p A) = ((((Tm.way p A B).length : Int) - 1) == 1)) := Lib.hid (by
        rw [Bool.eq_iff_iff, decide_eq_true_eq, Tm.nearL_mem, beq_iff_eq]
        have h := HTR.out.far1 hA hB
        constructor
        · intro h2
          have := h.2 h2.2
          omega
        · intro h2
          exact ⟨hB, h.1 (by omega)⟩)
      have HE0 : Hid (((A : Int) == (B : Int)) = ((((Tm.way p A B).length : Int) - 1) == 0)) := Lib.hid (by
        rw [Bool.eq_iff_iff, beq_iff_eq, beq_iff_eq]
        have h := HTR.out.far0 hA hB
        constructor
        · intro h2
          have := h.2 (by omega)
          omega
        · intro h2
          have := h.1 (by omega)
          omega)
      generalize (((Tm.way p A B).length : Int) - 1) = f at HFAB HE1 HE0
      have HT0 : Hid (decide (B ∈ (Tm.nearL p A).take 0) = false) := Lib.hid (by simp)
      have HTS : Hid (∀ k (hk : k < (Tm.nearL p A).length), decide (B ∈ (Tm.nearL p A).take (k + 1)) = (decide (B ∈ (Tm.nearL p A).take k) || ((Tm.nearL p A)[k] == B))) := Lib.hid (fun k hk => by
        rw [List.take_succ_eq_append_getElem hk, Bool.eq_iff_iff]
        simp only [decide_eq_true_eq, List.mem_append, List.mem_singleton, Bool.or_eq_true, beq_iff_eq]
        constructor
        · rintro (h | h)
          · exact .inl h
          · exact .inr h.symm
        · rintro (h | h)
          · exact .inl h
          · exact .inr h.symm)
      have HTL : Hid (decide (B ∈ (Tm.nearL p A).take (Tm.nearL p A).length) = decide (B ∈ Tm.nearL p A)) := Lib.hid (by rw [List.take_length])
      generalize decide (B ∈ Tm.nearL p A) = on at HE1 HTL
      obtain ⟨tk, htk⟩ : ∃ tk : Nat → Bool, ∀ k, tk k = decide (B ∈ (Tm.nearL p A).take k) := ⟨fun k => decide (B ∈ (Tm.nearL p A).take k), fun _ => rfl⟩
      have HU0 : Hid (tk 0 = false) := Lib.hid ((htk 0).trans HT0.out)
      have HUS : Hid (∀ k (hk : k < (Tm.nearL p A).length), tk (k + 1) = (tk k || ((Tm.nearL p A)[k] == B))) := Lib.hid (fun k hk => by rw [htk, htk]; exact HTS.out k hk)
      have HUL : Hid (tk (Tm.nearL p A).length = on) := Lib.hid ((htk _).trans HTL.out)
      clear htk HT0 HTS HTL
      generalize Tm.nearL p A = L at *
      go_wp2_with fail
      refine hN.mono ?_
      rintro e w3 ⟨v1, rfl, ho1, hbl1⟩
      obtain ⟨va, vc, rfl⟩ := ho1.shape
      have HRL := Lib.hid (RowIn.of_own ki_ok ho1)
      have HB3 := Lib.hid (HBL.out.trans (hbl1.mono HBL.out.size))
      have ell : (Tm.ln L).length = L.length := Tm.ln_len L
      rw [ell]
      have hfab := HFAB.out w3 HB3.out
      obtain ⟨ab, hab⟩ : ∃ ab : Bool, ab = ((A : Int) == (B : Int)) := ⟨_, rfl⟩
      have e1 : (f == 1) = on := HE1.out.symm
      have e0 : (f == 0) = ab := by rw [hab]; exact HE0.out.symm
      have eab : ((A : Int) == (B : Int)) = ab := hab.symm
      have eabn : (A == B) = ab := by
        rw [hab, Bool.eq_iff_iff, beq_iff_eq, beq_iff_eq]
        omega
      have HEQ := Lib.hid (And.intro e1 (And.intro e0 (And.intro eab eabn)))
      have HFB := Lib.hid hfab
      clear ho1 hbl1 hN ell hab e1 e0 eab eabn hfab
      go_wp2_with fail
      go_loop [16, 18] (fun o ii => ∃ k : Nat, k ≤ L.length ∧ ii = .int .i64 k ∧ o = .bool (tk k)) (fun _ ii => L.length - (intOf ii).toNat)
      case atStart => exact ⟨0, by omega, rfl, by rw [HU0.out]⟩
      case round =>
        obtain ⟨k, hk, rfl, rfl⟩ := hrel
        by_cases hkl : k < L.length
        · obtain ⟨b0, o0, rfl, _, ck⟩ := HRL.out.int k (by rw [Tm.ln_len]; exact hkl)
          rw [Tm.ln_get] at ck
          have HTK := Lib.hid (HUS.out k hkl)
          generalize L[k] = v at ck HTK
          generalize tk k = tb at HTK
          cases tb with
          | true =>
            have HTK2 : Hid (tk (k + 1) = true) := Lib.hid (by rw [HTK.out]; rfl)
            go_wp2_with fail
            go_round
            case rel => exact ⟨k + 1, by omega, by go_num, by rw [HTK2.out]⟩
            case measure => simp [intOf]; omega
          | false =>
            by_cases hv : v = B
            · have q1 : ((v : Int) == (B : Int)) = true := by simp [hv]
              have q2 : (v == B) = true := by simp [hv]
              have HTK2 : Hid (tk (k + 1) = true) := Lib.hid (by rw [HTK.out, q2]; rfl)
              clear hv
              go_wp2_with fail
              go_round
              case rel => exact ⟨k + 1, by omega, by go_num, by rw [HTK2.out]⟩
              case measure => simp [intOf]; omega
            · have q1 : ((v : Int) == (B : Int)) = false := by simpa using (show ¬ (v : Int) = B by omega)
              have q2 : (v == B) = false := by simpa using hv
              have HTK2 : Hid (tk (k + 1) = false) := Lib.hid (by rw [HTK.out, q2]; rfl)
              clear hv
              go_wp2_with fail
              go_round
              case rel => exact ⟨k + 1, by omega, by go_num, by rw [HTK2.out]⟩
              case measure => simp [intOf]; omega
        · obtain rfl : k = L.length := by omega
          rw [HUL.out]
          have hfb := HFB.out
          have HFC := Lib.hid (fun W hb => HFAB.out W hb)
          obtain ⟨e1, e0, eab, eabn⟩ := HEQ.out
          go_wp2_with fail
          refine hfb.mono ?_
          rintro e w5 ⟨rfl, hb5⟩
          go_wp2_with fail
          refine (HFC.out w5 (HB3.out.trans (hb5.mono HB3.out.size))).mono ?_
          rintro e w6 ⟨rfl, hb6⟩
          go_wp2
          go_ret
          refine ⟨ret_bool ?_, bstep HB2.out (HB3.out.trans ((bstep hb5 hb6).mono HB3.out.size))⟩
          simp
end Go.Proofs.Ytfldaokegolhfaa
