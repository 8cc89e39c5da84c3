/- The walk of the law TreeSides. -/
import Derived.Test.YtfldaokegolhfaaTreeSeen
namespace Go.Proofs.Ytfldaokegolhfaa
open Go.RowKit
set_option linter.unusedVariables false
set_option linter.unusedSimpArgs false

set_option maxRecDepth 100000 in
set_option maxHeartbeats 6400000 in
theorem walkTreeSides (w : World) (a : Option Addr) (len cap : Nat) (zs : List Int) (h0 : IsRow .i64 w a len cap zs) (turn : Int) (ws : (Lit.int .i64 turn).wf = true) (t : Int) (wt : (Lit.int .i64 t).wf = true) :
    Calls Try.prog 4 #[.slice a len cap, .int .i64 turn, .int .i64 t] w fun e w' => e = .returned (.bool true) ∧ Below w.heap.size w w' := by
  obtain ⟨l, rfl, hrow, _⟩ := isRow_rowT h0
  obtain ⟨_, _, e, hcap, hmx, _, hri⟩ := hrow
  cases e
  unfold maxLen at hmx
  have hl : l.length ≤ 9223372036854775807 := by omega
  have hmd := fun (W : World) hb => madeT_any l a cap turn W hl (hri.below hb)
  obtain ⟨ht1, ht2⟩ := bounds_i64 wt
  clear h0 ws wt hri hcap hmx
  go_enter Try.func4, Try.ntmps4
  go_wp2_with fail
  refine (awake8_any w).mono ?_
  rintro e w1 ⟨rfl, hb1⟩
  go_wp2_with fail
  refine (hmd w1 hb1).mono ?_
  rintro e w2 ⟨p, g, rfl, htr, hpe, hpr, ho2, hb2⟩
  clear hpe hpr
  have HRI := Lib.hid (RowIn.of_own ki_ok ho2)
  have HB2 := Lib.hid (bstep hb1 hb2)
  have HTR := Lib.hid htr
  have hn1 := htr.n1
  have hn6 := htr.n6
  obtain ⟨hy1, hy2⟩ := tmod_bdT t (p.length : Int) (by omega)
  generalize hy : t.tmod (p.length : Int) = y at hy1 hy2
  clear hmd hb1 hb2 ho2 htr
  go_upto_region 5 with fail
  have ho1 := Int.emod_nonneg (y + (p.length : Int)) (b := (p.length : Int)) (by omega)
  have ho2 := Int.emod_lt_of_pos (y + (p.length : Int)) (b := (p.length : Int)) (by omega)
  generalize (y + (p.length : Int)) % (p.length : Int) = o at *
  obtain ⟨x, rfl⟩ : ∃ x : Nat, o = (x : Int) := ⟨o.toNat, by omega⟩
  have hx : x < p.length := by omega
  have hck := (Tm.chkT_iff p).2 HTR.out
  have hN := tnear_any p (some ⟨g, 0, none⟩) p.length (x : Int) w2 (by omega) HRI.out
  have eN : Tm.nearI p (x : Int) = Tm.nearL p x := by
    unfold Tm.nearI
    rw [Tm.okS_nat hck hx, Int.toNat_natCast]
    rfl
  rw [eN] at hN
  clear hy hy1 hy2 ho1 ho2 eN
  have HMEM : Hid (∀ i (hi : i < (Tm.nearL p x).length), (Tm.nearL p x)[i] < p.length ∧ (Tm.nearL p x)[i] ≠ x) := Lib.hid (fun i hi => by
    have h := Tm.nearL_mem.1 (List.getElem_mem hi)
    exact ⟨h.1, fun e => HTR.out.adj_ne hx h.1 h.2 e.symm⟩)
  have HSU : Hid (∀ i (hi : i < (Tm.nearL p x).length) k, Tm.seenK p x (i + 1) k = Tm.seenK p x i k + if Tm.via p x (Tm.nearL p x)[i] k = true then 1 else 0) := Lib.hid (fun i hi k => Tm.seenK_succ hi k)
  have HSO : Hid (∀ i (hi : i < (Tm.nearL p x).length), Tm.seenK p x (i + 1) (Tm.nearL p x)[i] = 1) := Lib.hid (fun i hi => HTR.out.seen_own hx hi)
  have HSA : Hid (∀ k, k < p.length → Tm.seenK p x (Tm.nearL p x).length k = if k = x then 0 else 1) := Lib.hid (fun k hk => HTR.out.seen_all hx hk)
  have HSL : Hid (∀ i k, Tm.seenK p x i k ≤ i) := Lib.hid (fun i k => Tm.seenK_le p x i k)
  have HSZ : Hid (∀ k, Tm.seenK p x 0 k = 0) := Lib.hid (fun k => rfl)
  have HSI : Hid (∀ i (hi : i < (Tm.nearL p x).length), ∃ S : Nat, Tm.sideI p (x : Int) ((Tm.nearL p x)[i] : Int) = S ∧ S < 2 ^ p.length ∧ ∀ k, k < p.length → ((S / 2 ^ k % 2 = 1) ↔ Tm.via p x (Tm.nearL p x)[i] k = true)) := Lib.hid (fun i hi => ⟨Tm.sideN p x (Tm.nearL p x)[i], Tm.sideI_nat hck hx, Tm.sumB_lt _ _, fun k hk => Tm.bit_of rfl hk⟩)
  have hLl : (Tm.nearL p x).length ≤ 6 := by
    have := Tm.nearK_len p x p.length
    rw [Tm.nearK_all] at this
    omega
  have HCK := Lib.hid hck
  clear hck
  generalize Tm.nearL p x = L at *
  generalize Tm.seenK p x = sn at *
  generalize Tm.via p x = vi at *
  go_wp2_with fail
  refine hN.mono ?_
  rintro e wB ⟨v1, rfl, ho1, hbl1⟩
  obtain ⟨va, vc, rfl⟩ := ho1.shape
  have HO1 := Lib.hid (RowIn.of_own ki_ok ho1)
  have HRP := Lib.hid (HRI.out.below hbl1)
  have HBB := Lib.hid (bstep HB2.out hbl1)
  have hll : (Tm.ln L).length = L.length := Tm.ln_len L
  rw [hll]
  have HLL := Lib.hid hll
  have HSN := Lib.hid (SeenIn.new wB hn6)
  have HB0 := Lib.hid (balloc (Below.refl _ wB) (.cells #[.int .i64 0, .int .i64 0, .int .i64 0, .int .i64 0, .int .i64 0, .int .i64 0] 31))
  clear ho1 hbl1 hN hll
  go_upto_region 7 with fail
  generalize wB.alloc (.cells #[.int .i64 0, .int .i64 0, .int .i64 0, .int .i64 0, .int .i64 0, .int .i64 0] 31) = wS at *
  go_wp2_with fail
  go_loopw [13] (fun i wr => ∃ k : Nat, k ≤ L.length ∧ i = .int .i64 k ∧ Hid (SeenIn wr wB.heap.size p.length (sn k)) ∧ Below wB.heap.size wB wr) (fun i _ => L.length - (intOf i).toNat)
  case atStart => exact ⟨0, by omega, rfl, Lib.hid (HSN.out.cong (fun k _ => (HSZ.out k).symm)), HB0.out⟩
  case round =>
    obtain ⟨i, hi, rfl, HS, hbel⟩ := hrel
    by_cases hlt : i < L.length
    · obtain ⟨b0, off0, rfl, hbl0, c0⟩ := (HO1.out.below hbel).int i (by rw [HLL.out]; exact hlt)
      rw [Tm.ln_get] at c0
      obtain ⟨hsl, hsx⟩ := HMEM.out i hlt
      obtain ⟨S, hS, hSlt, hSb⟩ := HSI.out i hlt
      have hso := HSO.out i hlt
      have hsu := HSU.out i hlt
      generalize L[i] = b at c0 hsl hsx hS hSb hso hsu
      have hb1 : ((b : Int) == (x : Int)) = false := by simpa using (show ¬ (b : Int) = x by omega)
      have hb2 : (b == x) = false := by simpa using hsx
      have hside := tside_any p (some ⟨g, 0, none⟩) p.length (x : Int) (b : Int) wr (by omega) (HRP.out.below hbel)
      rw [hS] at hside
      have hp64 : 2 ^ p.length ≤ 64 := Nat.pow_le_pow_right (n := 2) (by omega) hn6
      have hS64 : S < 64 := by omega
      have HSB := Lib.hid hSb
      have HSLT := Lib.hid hSlt
      have HSO2 := Lib.hid hso
      have HSU2 := Lib.hid hsu
      obtain ⟨wO, hwO⟩ : ∃ wO : World, wO = wr := ⟨wr, rfl⟩
      subst hwO
      clear hS hSb hSlt hso hsu hp64 hsx
      go_wp2_with fail
      refine hside.mono ?_
      rintro e wI ⟨rfl, hbI⟩
      have HSI2 := Lib.hid (HS.out.below hbI)
      have HBI := Lib.hid (hbel.trans (hbI.mono hbel.size))
      clear hside hbI
      go_wp2_with fail
      go_loopw [15, 16] (fun s kk wr => ∃ (k q : Nat), k ≤ p.length ∧ kk = .int .i64 k ∧ s = .int .i64 (q : Int) ∧ q < 64 ∧ Hid (q = S / 2 ^ k) ∧ Hid (SeenIn wr wB.heap.size p.length (fun z => if z < k then sn (i + 1) z else sn i z)) ∧ Below wB.heap.size wB wr) (fun _ kk _ => p.length - (intOf kk).toNat)
      case atStart => exact ⟨0, S, by omega, rfl, rfl, hS64, Lib.hid (by simp), Lib.hid (HSI2.out.cong (fun k _ => by rw [if_neg (by omega)])), HBI.out⟩
      case round =>
        obtain ⟨k, q, hk, rfl, rfl, hq, HQ, HSK, hbk⟩ := hrel
        by_cases hkl : k < p.length
        · have hk6 : k < 6 := by omega
          have hcell := HSK.out.c k hkl
          have hfr := HSK.out.f k hkl
          simp only [Nat.lt_irrefl, if_false] at hcell
          have hsu := HSU2.out k
          have hsl := HSL.out i k
          have hbit := HSB.out k hkl
          rw [← HQ.out] at hbit
          have HQ2 : Hid (q / 2 = S / 2 ^ (k + 1)) := Lib.hid (by rw [HQ.out, Nat.div_div_eq_div_mul, ← Nat.pow_succ])
          have HST : Hid (∀ (W : World) m, m = sn (i + 1) k → SeenIn W wB.heap.size p.length (fun z => if z = k then m else if z < k then sn (i + 1) z else sn i z) → SeenIn W wB.heap.size p.length (fun z => if z < k + 1 then sn (i + 1) z else sn i z)) := Lib.hid (fun W m hm h => h.cong (fun z _ => by
            by_cases e : z = k
            · subst e
              rw [if_pos rfl, if_pos (by omega), hm]
            · rw [if_neg e]
              by_cases e2 : z < k
              · rw [if_pos e2, if_pos (by omega)]
              · rw [if_neg e2, if_neg (by omega)]))
          generalize hm0 : sn i k = m0 at *
          generalize hm1 : sn (i + 1) k = m1 at *
          have HM0 := Lib.hid hm0
          have HM1 := Lib.hid hm1
          generalize vi b k = vb at hsu hbit
          clear hm0 hm1
          by_cases hb : q % 2 = 1
          · have HM : Hid (m1 = m0 + 1) := Lib.hid (by rw [hsu, if_pos (hbit.1 hb)])
            have hbi : ((q : Int) % 2 == 1) = true := by simp; omega
            clear hsu hbit hb
            have HSS := Lib.hid (HSK.out.set hkl (m0 + 1))
            go_wp2
            go_roundw
            case rel => exact ⟨k + 1, q / 2, by omega, by go_num, by go_num, by omega, HQ2, Lib.hid (HST.out _ _ HM.out.symm HSS.out), hbk.setCell (p := ⟨wB.heap.size, k, none⟩) (Nat.le_refl _) _⟩
            case measure => simp [intOf]; omega
          · have HM : Hid (m1 = m0) := Lib.hid (by rw [hsu, if_neg (fun h => hb (hbit.2 h))]; rfl)
            have hbi : ((q : Int) % 2 == 1) = false := by simp; omega
            clear hsu hbit hb
            go_wp2
            go_roundw
            case rel => exact ⟨k + 1, q / 2, by omega, by go_num, by go_num, by omega, HQ2, Lib.hid (HSK.out.cong (fun z _ => by
              by_cases e : z = k
              · subst e
                rw [if_neg (by omega), if_pos (by omega), HM0.out, HM1.out, HM.out]
              · by_cases e2 : z < k
                · rw [if_pos e2, if_pos (by omega)]
                · rw [if_neg e2, if_neg (by omega)])), hbk⟩
            case measure => simp [intOf]; omega
        · have hkp : k = p.length := by omega
          have HQ0 : Hid (q = 0) := Lib.hid (by rw [HQ.out, hkp]; exact Nat.div_eq_of_lt HSLT.out)
          obtain rfl : q = 0 := HQ0.out
          have HSF : Hid (SeenIn wr wB.heap.size p.length (sn (i + 1))) := Lib.hid (HSK.out.cong (fun z hz => by rw [if_pos (by omega)]))
          have hcell := HSF.out.c b hsl
          rw [HSO2.out] at hcell
          clear hkp
          go_wp2
          go_roundw
          case rel => exact ⟨i + 1, by omega, by go_num, HSF, hbk⟩
          case measure => simp [intOf]; omega
    · obtain rfl : i = L.length := by omega
      have HSF : Hid (SeenIn wr wB.heap.size p.length (fun k => if k = x then 0 else 1)) := Lib.hid (HS.out.cong (fun k hk => HSA.out k hk))
      have hck := tcheck_any p (some ⟨g, 0, none⟩) p.length wr (by omega) (HRP.out.below hbel)
      rw [HCK.out] at hck
      have HBE := Lib.hid (HBB.out.trans (hbel.mono HBB.out.size))
      obtain ⟨wE, hwE⟩ : ∃ wE : World, wE = wr := ⟨wr, rfl⟩
      subst hwE
      clear hbel
      go_wp2
      go_loop [17] (fun kk => ∃ k : Nat, k ≤ p.length ∧ kk = .int .i64 k) (fun kk => p.length - (intOf kk).toNat)
      case atStart => exact ⟨0, by omega, rfl⟩
      case round =>
        obtain ⟨k, hk, rfl⟩ := hrel
        by_cases hkl : k < p.length
        · have hk6 : k < 6 := by omega
          have hcell := HSF.out.c k hkl
          by_cases hkx : k = x
          · have q1 : ((k : Int) == (x : Int)) = true := by simp [hkx]
            have q2 : (k == x) = true := by simp [hkx]
            rw [if_pos hkx] at hcell
            clear hkx
            go_wp2
            go_round
            case rel => exact ⟨k + 1, by omega, by go_num⟩
            case measure => simp [intOf]; omega
          · have q1 : ((k : Int) == (x : Int)) = false := by simpa using (show ¬ (k : Int) = x by omega)
            have q2 : (k == x) = false := by simpa using hkx
            rw [if_neg hkx] at hcell
            clear hkx
            go_wp2
            go_round
            case rel => exact ⟨k + 1, by omega, by go_num⟩
            case measure => simp [intOf]; omega
        · have hkp : k = p.length := by omega
          have hkpi : ¬ (k : Int) < (p.length : Int) := by omega
          clear hkp
          go_wp2_with (go_at_call 16; refine hck.mono ?_; rintro e w' ⟨rfl, rfl⟩)
          go_ret
          exact ⟨rfl, HBE.out⟩
end Go.Proofs.Ytfldaokegolhfaa
