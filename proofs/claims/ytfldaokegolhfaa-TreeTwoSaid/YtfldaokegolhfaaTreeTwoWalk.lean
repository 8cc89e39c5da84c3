/- The walk of the law TreeTwo. -/
import Derived.Test.YtfldaokegolhfaaTreeHelp
import Derived.Test.YtfldaokegolhfaaTreeMade
import Derived.Test.YtfldaokegolhfaaOpenT
namespace Go.Proofs.Ytfldaokegolhfaa
open Go.RowKit
set_option linter.unusedVariables false
set_option linter.unusedSimpArgs false

theorem and64T : ∀ m : Nat, m < 64 → ∀ q : Nat, q < 64 → bits .and .i64 (m : Int) (q : Int) = ((m &&& q : Nat) : Int) := by decide +kernel
/-- Both sides of a step. -/
theorem two_sides {p : List Int} (h : Tm.Tr p) {a b : Nat} (ha : a < p.length) (hb : b < p.length) (hab : Tm.adj p a b) :
    ∃ x y : Nat, Tm.sideI p (a : Int) (b : Int) = x ∧ Tm.sideI p (b : Int) (a : Int) = y ∧ x < 64 ∧ y < 64 ∧ 0 < x ∧ 0 < y ∧ bits .and .i64 (x : Int) (y : Int) = 0 ∧ bits .or .i64 (x : Int) (y : Int) = ((2 ^ p.length : Nat) : Int) - 1 := by
  have hc := (Tm.chkT_iff p).2 h
  have h6 := h.n6
  have hp : 2 ^ p.length ≤ 64 := Nat.pow_le_pow_right (n := 2) (by omega) (show p.length ≤ 6 by omega)
  have hp0 := Nat.two_pow_pos p.length
  have hx : Tm.sideN p a b < 2 ^ p.length := Tm.sumB_lt _ _
  have hy : Tm.sideN p b a < 2 ^ p.length := Tm.sumB_lt _ _
  obtain ⟨h1, h2⟩ := h.sides2 ha hb hab
  refine ⟨Tm.sideN p a b, Tm.sideN p b a, Tm.sideI_nat hc ha, Tm.sideI_nat hc hb, by omega, by omega, Tm.sumB_pos hb (h.via_near ha hb hab), Tm.sumB_pos ha (h.via_near hb ha hab.symm), ?_, ?_⟩
  · rw [and64T _ (by omega) _ (by omega), h1]; rfl
  · rw [or64T _ (by omega) _ (by omega), h2]; omega

set_option maxRecDepth 100000 in
set_option maxHeartbeats 3200000 in
theorem walkTreeTwo (w : World) (a : Option Addr) (len cap : Nat) (zs : List Int) (h0 : IsRow .i64 w a len cap zs) (turn : Int) (ws : (Lit.int .i64 turn).wf = true) (t : Int) (wt : (Lit.int .i64 t).wf = true) :
    Calls Try.prog 8 #[.slice a len cap, .int .i64 turn, .int .i64 t] w fun e w' => e = .returned (.bool true) ∧ Below w.heap.size w w' := by
  obtain ⟨l, rfl, hrow, _⟩ := isRow_rowT h0
  obtain ⟨_, _, e, hcap, hmx, _, hri⟩ := hrow
  cases e
  unfold maxLen at hmx
  have hl : l.length ≤ 9223372036854775807 := by omega
  have hmd := fun (W : World) hb => madeT_any l a cap turn W hl (hri.below hb)
  obtain ⟨ht1, ht2⟩ := bounds_i64 wt
  clear h0 ws wt hri hcap hmx
  go_enter Try.func8, Try.ntmps8
  go_wp2_with fail
  refine (awake8_any w).mono ?_
  rintro e w1 ⟨rfl, hb1⟩
  go_wp2_with fail
  refine (hmd w1 hb1).mono ?_
  rintro e w2 ⟨p, g, rfl, htr, hpe, hpr, ho2, hb2⟩
  clear hpe hpr
  have HRI := Lib.hid (RowIn.of_own ki_ok ho2)
  have HB2 := Lib.hid (bstep hb1 hb2)
  have HTR := Lib.hid htr
  have hn1 := htr.n1
  have hn6 := htr.n6
  have hck := tcheck_any p (some ⟨g, 0, none⟩) p.length w2 (by omega) HRI.out
  rw [(Tm.chkT_iff p).2 htr] at hck
  obtain ⟨hy1, hy2⟩ := tmod_bdT t (p.length : Int) (by omega)
  generalize hy : t.tmod (p.length : Int) = y at hy1 hy2
  clear hmd hb1 hb2 ho2 htr
  go_upto_region 5 with fail
  have ho1 := Int.emod_nonneg (y + (p.length : Int)) (b := (p.length : Int)) (by omega)
  have ho2 := Int.emod_lt_of_pos (y + (p.length : Int)) (b := (p.length : Int)) (by omega)
  generalize (y + (p.length : Int)) % (p.length : Int) = o at *
  obtain ⟨x, rfl⟩ : ∃ x : Nat, o = (x : Int) := ⟨o.toNat, by omega⟩
  have hx : x < p.length := by omega
  obtain ⟨b0, off0, e0, hbl, c0⟩ := HRI.out.int x hx
  cases e0
  rw [Nat.zero_add] at c0
  have HP := Lib.hid (Tm.par_get p x hx)
  have HLT := Lib.hid (HTR.out.lt x hx)
  generalize p[x] = d at c0 HP
  clear hy hy1 hy2 ho1 ho2
  rcases (show d < 0 ∨ ∃ z : Nat, d = (z : Int) ∧ z < p.length by
    have h1 := HLT.out
    rw [HP.out] at h1
    rcases h1 with e | ⟨z, hz, e⟩
    · exact .inl (by omega)
    · exact .inr ⟨z, e, hz⟩) with hd | ⟨z, rfl, hz⟩
  · go_wp2_with (go_at_call 16; refine hck.mono ?_; rintro e w' ⟨rfl, rfl⟩)
    go_ret
    exact ⟨rfl, HB2.out⟩
  · obtain ⟨sx, sy, e1, e2, hx64, hy64, hx0, hy0, hand, hor⟩ := two_sides HTR.out hz hx (.inr HP.out)
    have hs1 := tside_any p (some ⟨g, 0, none⟩) p.length (z : Int) (x : Int) w2 (by omega) HRI.out
    rw [e1] at hs1
    have HS2 := Lib.hid (fun (W : World) (hb : Below w2.heap.size w2 W) => tside_any p (some ⟨g, 0, none⟩) p.length (x : Int) (z : Int) W (by omega) (HRI.out.below hb))
    rw [e2] at HS2
    have HOR := Lib.hid hor
    have hpw : ∀ k, k ≤ p.length → 2 ^ k ≤ 64 := fun k hk => Nat.pow_le_pow_right (n := 2) (by omega) (show k ≤ 6 by omega)
    have HPW := Lib.hid hpw
    clear e1 e2 hor hpw hck
    go_wp2_with fail
    refine hs1.mono ?_
    rintro e w3 ⟨rfl, hb3⟩
    go_wp2_with fail
    refine (HS2.out w3 hb3).mono ?_
    rintro e w4 ⟨rfl, hb4⟩
    have HB4 := Lib.hid (bstep HB2.out (bstep hb3 hb4))
    generalize hn : p.length = n at *
    have HN := Lib.hid hn
    clear hb3 hb4 hs1 hn
    go_wp2
    go_loop [14, 15] (fun q i => ∃ k z : Nat, k ≤ n ∧ i = .int .i64 k ∧ q = .int .i64 (z : Int) ∧ z ≤ 64 ∧ Hid (z = 2 ^ k)) (fun _ i => n - (intOf i).toNat)
    case atStart => exact ⟨0, 1, by omega, rfl, rfl, by omega, Lib.hid rfl⟩
    case round =>
      obtain ⟨k, zz, hk, rfl, rfl, hzz, HZ⟩ := hrel
      by_cases hlt : k < n
      · go_wp2
        go_round
        case rel => exact ⟨k + 1, zz * 2, by omega, by go_num, by go_num, by have := HPW.out (k + 1) (by omega); rw [HZ.out, ← Nat.pow_succ]; exact this, Lib.hid (by rw [HZ.out, Nat.pow_succ])⟩
        case measure => simp [intOf]; omega
      · obtain rfl : k = n := by omega
        have hor : bits .or .i64 (sx : Int) (sy : Int) = (zz : Int) - 1 := by rw [HOR.out, HZ.out]
        go_wp2
        go_ret
        exact ⟨rfl, HB4.out⟩
end Go.Proofs.Ytfldaokegolhfaa
