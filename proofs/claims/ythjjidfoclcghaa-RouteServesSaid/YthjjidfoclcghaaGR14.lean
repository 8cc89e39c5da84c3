/- Texts of this proof, one behind the other: TabOwn, TreeCode, Shelf, TreeConc. -/
import Derived.Test.YthjjidfoclcghaaGR13
import Derived.Deep.RegionHeld3
import Derived.Deep.DeepCutAuto
import Derived.Shelf.Spec.SlicesGrow
import Derived.Test.YthjjidfoclcghaaProg
/- What table.Owners, Owns and First answer, and the document's. -/
namespace Go.Proofs.Ythjjidfoclcghaa
open Go.RowKit
set_option linter.unusedVariables false
set_option linter.unusedSimpArgs false

theorem own3 {W w' : World} {b0 o0 o1 b o : Nat} {x0 x1 x2 : Value} (hb : Below W.heap.size W w') (h0 : b0 < W.heap.size) (h1 : b < W.heap.size)
    (h : W.cell? ⟨b0, o0, none⟩ = some x0 ∧ W.cell? ⟨b0, o1, none⟩ = some x1 ∧ W.cell? ⟨b, o, none⟩ = some x2) :
    w'.cell? ⟨b0, o0, none⟩ = some x0 ∧ w'.cell? ⟨b0, o1, none⟩ = some x1 ∧ w'.cell? ⟨b, o, none⟩ = some x2 :=
  ⟨kcell hb h0 h.1, kcell hb h0 h.2.1, kcell hb h1 h.2.2⟩

set_option maxRecDepth 100000 in
set_option maxHeartbeats 1600000 in
theorem owners7_any (c : Rw) (u0 u1 u2 : Value) (key : ByteArray) (w : World) (h : RwAt w u0 u1 u2 c) :
    Calls Try.prog 31 #[.agg #[u0, u1, u2], .string key] w fun e w' => e = .returned (.int .i64 (ownN c key.data.toList : Int)) ∧ Below w.heap.size w w' := by
  have HW := Lib.hid h
  have hV := VrP.new w u0 u1 u2 29
  have hb0 : Below w.heap.size w (w.alloc (.cells #[u0, u1, u2] 29)) := balloc (Below.refl _ w) _
  clear h
  have hck := check7_any c u0 u1 u2 _ (HW.out.below hb0)
  cases hok : tOk c with
  | false =>
    rw [ownN_no hok]
    rw [hok] at hck
    clear hok
    go_enter Try.func31, Try.ntmps31
    go_wp2_with fail
    refine hck.mono ?_
    rintro e w1 ⟨rfl, hb1⟩
    go_wp2
    go_ret
    exact ⟨rfl, bstep hb0 hb1⟩
  | true =>
    rw [hok] at hck
    have hT := (tOk_iff c).1 hok
    obtain ⟨k, hk, hf⟩ := hT.find key.data.toList
    obtain ⟨ho, _, _⟩ := ownN_at hT hk hf
    have hol := hT.ol
    have hr8 := hT.r8
    obtain ⟨a0, cp0, hu0, hq0, hm0, _, hri0⟩ := HW.out.rs
    obtain ⟨a1, cp1, hu1, hq1, hm1, _, hri1⟩ := HW.out.ow
    unfold maxLen at hm0 hm1
    subst hu0 hu1
    obtain ⟨b, off, rfl, hbl, cc⟩ := hri1.int k (by omega)
    rw [← ho] at cc
    have HF := Lib.hid hf
    clear ho hf hT hok
    have hkl : k < c.ow.length := by omega
    have hll : c.ow.length ≤ 8 := by omega
    clear hol
    generalize ownN c key.data.toList = r at cc ⊢
    have HRI := Lib.hid hri0
    clear hri0 hri1
    generalize c.ow.length = n1 at *
    have hkn : k < 8 := by omega
    have hki : (k : Int) < (n1 : Int) := by omega
    go_enter Try.func31, Try.ntmps31
    go_wp2_with fail
    refine hck.mono ?_
    rintro e w1 ⟨rfl, hb1⟩
    have hbw := bstep hb0 hb1
    have hV1 := hV.keep hb1
    have cc1 := kcell hbw hbl cc
    have find7 : ∀ W, Below w.heap.size w W → Calls Try.prog 43 #[.slice a0 c.rs.length cp0, .string key] W fun e w' => e = .returned (.int .i64 (k : Int)) ∧ Below W.heap.size W w' := fun W hW => by
      have := find_any a0 cp0 c.rs key W (by omega) (RowIn.rng (HRI.out.below hW))
      rwa [HF.out] at this
    have hbd : Below w.heap.size w w1.drew := hbw.drew
    have HBW := Lib.hid hbw
    have hVl := hV1.lt
    obtain ⟨c0, c1, c2, _⟩ := hV1
    have hbl1 : b < w1.heap.size := by have := hbw.size; omega
    clear hb0 hb1 hbw cc hV hck
    have hg : w1.cell? ⟨w.heap.size, 0, none⟩ = some (.slice a0 c.rs.length cp0) ∧ w1.cell? ⟨w.heap.size, 1, none⟩ = some (.slice (some ⟨b, off, none⟩) n1 cp1) ∧ w1.cell? ⟨b, off + k, none⟩ = some (.int .i64 (r : Int)) := ⟨c0, c1, cc1⟩
    go_wp2_with fail
    go_region_held3 (fun w' => w'.cell? ⟨w.heap.size, 0, none⟩ = some (.slice a0 c.rs.length cp0) ∧ w'.cell? ⟨w.heap.size, 1, none⟩ = some (.slice (some ⟨b, off, none⟩) n1 cp1) ∧ w'.cell? ⟨b, off + k, none⟩ = some (.int .i64 (r : Int)))
      (first | exact hg | exact hg2)
      (first | (go_at_call 43; ((with_reducible refine (find7 _ hbd).mono ?_); rintro e w2 ⟨rfl, hb2⟩; have hg2 := own3 hb2 hVl hbl1 hg)))
    go_wp2
    go_ret
    exact ⟨rfl, bstep hbd hb2⟩

set_option maxRecDepth 100000 in
set_option maxHeartbeats 1600000 in
theorem refOwners7_any (c : Rw) (u0 u1 u2 : Value) (key : ByteArray) (w : World) (h : RwAt w u0 u1 u2 c) (hl : c.rs.length ≤ 100) :
    Calls Try.prog 24 #[.agg #[u0, u1, u2], .string key] w fun e w' => e = .returned (.int .i64 (ownN c key.data.toList : Int)) ∧ Below w.heap.size w w' := by
  have HW := Lib.hid h
  have hV := VrP.new w u0 u1 u2 29
  have hb0 : Below w.heap.size w (w.alloc (.cells #[u0, u1, u2] 29)) := balloc (Below.refl _ w) _
  clear h
  have hck := refCheck7_any c u0 u1 u2 _ (HW.out.below hb0) hl
  cases hok : tOk c with
  | false =>
    rw [ownN_no hok]
    rw [hok] at hck
    clear hok
    go_enter Try.func24, Try.ntmps24
    go_wp2_with fail
    refine hck.mono ?_
    rintro e w1 ⟨rfl, hb1⟩
    go_wp2
    go_ret
    exact ⟨rfl, bstep hb0 hb1⟩
  | true =>
    rw [hok] at hck
    have hT := (tOk_iff c).1 hok
    obtain ⟨k, hk, hf⟩ := hT.find key.data.toList
    obtain ⟨ho, _, _⟩ := ownN_at hT hk hf
    have hol := hT.ol
    have hr8 := hT.r8
    obtain ⟨a0, cp0, hu0, hq0, hm0, _, hri0⟩ := HW.out.rs
    obtain ⟨a1, cp1, hu1, hq1, hm1, _, hri1⟩ := HW.out.ow
    unfold maxLen at hm0 hm1
    subst hu0 hu1
    obtain ⟨b, off, rfl, hbl, cc⟩ := hri1.int k (by omega)
    rw [← ho] at cc
    have HF := Lib.hid hf
    clear ho hf hT hok
    have HOL := Lib.hid hol
    have hkl : k < c.ow.length := by omega
    have hll : c.ow.length ≤ 8 := by omega
    clear hol
    generalize ownN c key.data.toList = r at cc ⊢
    have HRI := Lib.hid hri0
    clear hri0 hri1
    generalize c.ow.length = n1 at *
    have hkn : k < 8 := by omega
    have hki : (k : Int) < (n1 : Int) := by omega
    go_enter Try.func24, Try.ntmps24
    go_wp2_with fail
    refine hck.mono ?_
    rintro e w1 ⟨rfl, hb1⟩
    have hbw := bstep hb0 hb1
    have hV1 := hV.keep hb1
    have cc1 := kcell hbw hbl cc
    have find7 : ∀ W, Below w.heap.size w W → Calls Try.prog 29 #[.slice a0 c.rs.length cp0, .string key] W fun e w' => e = .returned (.int .i64 (k : Int)) ∧ Below W.heap.size W w' := fun W hW => by
      have := refFind_any a0 cp0 c.rs key W (by omega) (RowIn.rng (HRI.out.below hW))
      rwa [HF.out] at this
    have HBW := Lib.hid hbw
    have hVl := hV1.lt
    obtain ⟨c0, c1, c2, _⟩ := hV1
    have hbl1 : b < w1.heap.size := by have := hbw.size; omega
    clear hb0 hb1 hbw cc hV hck
    go_wp2_with fail
    refine (find7 _ HBW.out).mono ?_
    rintro e w2 ⟨rfl, hb2⟩
    obtain ⟨d0, d1, d2⟩ := own3 hb2 hVl hbl1 ⟨c0, c1, cc1⟩
    have hbw2 := bstep HBW.out hb2
    clear c0 c1 c2 cc1 hb2
    go_wp2
    go_ret
    exact ⟨rfl, hbw2⟩

end Go.Proofs.Ythjjidfoclcghaa
/- What tree.isSite, rises, Check and Near answer. -/
namespace Go.Proofs.Ythjjidfoclcghaa
open Go.RowKit
set_option linter.unusedVariables false
set_option linter.unusedSimpArgs false

set_option maxRecDepth 100000 in
theorem isS_any (p : List Int) (a : Option Addr) (cap : Nat) (s : Int) (w : World) :
    Calls Try.prog 44 #[.slice a p.length cap, .int .i64 s] w fun e w' => e = .returned (.bool (Tm.isS p s)) ∧ w = w' := by
  by_cases h0 : 0 ≤ s
  · by_cases h1 : s < (p.length : Int)
    · have hs : Tm.isS p s = true := Tm.isS_iff.2 ⟨h0, h1⟩
      rw [hs]
      go_enter Try.func44, Try.ntmps44
      go_wp2
      go_ret
      exact ⟨rfl, rfl⟩
    · have hs : Tm.isS p s = false := Tm.isS_not.2 (by omega)
      rw [hs]
      go_enter Try.func44, Try.ntmps44
      go_wp2
      go_ret
      exact ⟨rfl, rfl⟩
  · have hs : Tm.isS p s = false := Tm.isS_not.2 (by omega)
    rw [hs]
    go_enter Try.func44, Try.ntmps44
    go_wp2
    go_ret
    exact ⟨rfl, rfl⟩

set_option maxRecDepth 100000 in
set_option maxHeartbeats 800000 in
theorem rises_any (p : List Int) (a : Option Addr) (cap : Nat) (s0 : Int) (w : World) (hl : p.length ≤ 1000000) (hr : RowIn KI w a p) :
    Calls Try.prog 51 #[.slice a p.length cap, .int .i64 s0] w fun e w' => e = .returned (.bool (Tm.riseB p s0)) ∧ w = w' := by
  have HR := Lib.hid hr
  have HX : Hid (Tm.riseF p (p.length - 0) s0 = Tm.riseB p s0) := Lib.hid rfl
  generalize Tm.riseB p s0 = X at HX ⊢
  clear hr
  go_enter Try.func51, Try.ntmps51
  go_wp2
  go_loop [1, 7] (fun q i => ∃ (k : Nat) (s : Int), k ≤ p.length ∧ i = .int .i64 k ∧ q = .int .i64 s ∧ Hid (Tm.riseF p (p.length - k) s = X)) (fun _ i => p.length - (intOf i).toNat)
  case atStart => exact ⟨0, s0, by omega, rfl, rfl, HX⟩
  case round =>
    obtain ⟨k, s, hk, rfl, rfl, HS⟩ := hrel
    by_cases hlt : k < p.length
    · have HK : Hid (p.length - k = (p.length - (k + 1)) + 1) := Lib.hid (by omega)
      have hcon := isS_any p a cap s w
      cases hs : Tm.isS p s with
      | false =>
        have HQ := Lib.hid hs
        rw [hs] at hcon
        clear hs
        go_wp2_with (go_at_call 44; refine hcon.mono ?_; rintro e w' ⟨rfl, rfl⟩)
        go_ret
        exact ⟨ret_bool (by rw [← HS.out]; exact (Tm.riseF_no HQ.out).symm), rfl⟩
      | true =>
        have HQ := Lib.hid hs
        rw [hs] at hcon
        obtain ⟨x, rfl, hx⟩ := Tm.isS_nat hs
        clear hs
        obtain ⟨b, off, rfl, hbl, c0⟩ := HR.out.int x hx
        have HP : Hid (Tm.par p ((x : Int).toNat) = p[x]) := Lib.hid (by rw [Int.toNat_natCast]; exact Tm.par_get p x hx)
        generalize p[x] = d at c0 HP
        by_cases hd : d = -1
        · have HD := Lib.hid hd
          have hb : (d == -1) = true := by simpa using hd
          clear hd
          go_wp2_with (go_at_call 44; refine hcon.mono ?_; rintro e w' ⟨rfl, rfl⟩)
          go_ret
          exact ⟨ret_bool (by rw [← HS.out, HK.out]; exact (Tm.riseF_root HQ.out (HP.out.trans HD.out)).symm), rfl⟩
        · have HD := Lib.hid hd
          have hb : (d == -1) = false := by simpa using hd
          clear hd
          go_wp2_with (go_at_call 44; refine hcon.mono ?_; rintro e w' ⟨rfl, rfl⟩)
          go_round
          case rel => exact ⟨k + 1, d, by omega, by go_num, rfl, Lib.hid (by rw [← HS.out, HK.out, Tm.riseF_up HQ.out (by rw [HP.out]; exact HD.out), HP.out])⟩
          case measure => simp [intOf]; omega
    · obtain rfl : k = p.length := by omega
      go_wp2
      go_ret
      exact ⟨ret_bool (by rw [← HS.out, Nat.sub_self]; rfl), rfl⟩

set_option maxRecDepth 100000 in
set_option maxHeartbeats 800000 in
theorem tcheck_any (p : List Int) (a : Option Addr) (cap : Nat) (w : World) (hl : p.length ≤ 9223372036854775807) (hr : RowIn KI w a p) :
    Calls Try.prog 37 #[.slice a p.length cap] w fun e w' => e = .returned (.bool (Tm.chkT p)) ∧ w = w' := by
  by_cases h6 : 6 < p.length
  · rw [Tm.chk_long h6]
    have h6i : (6 : Int) < (p.length : Int) := by omega
    go_enter Try.func37, Try.ntmps37
    go_wp2
    go_ret
    exact ⟨rfl, rfl⟩
  · have h6i : ¬ (6 : Int) < (p.length : Int) := by omega
    have HC : Hid (∀ i, i < p.length → Tm.riseB p (i : Int) = false → Tm.chkT p = false) := Lib.hid fun i hi hr => Tm.chk_fall hi hr
    have HE : Hid ((∀ i, i < p.length → Tm.riseB p (i : Int) = true) → Tm.chkT p = decide (p.count (-1) = 1)) := Lib.hid (Tm.chk_code (by omega))
    generalize Tm.chkT p = X at HC HE ⊢
    have HR := Lib.hid hr
    clear hr
    go_enter Try.func37, Try.ntmps37
    go_wp2
    go_loop [3, 11] (fun r i => ∃ (k c : Nat), k ≤ p.length ∧ i = .int .i64 k ∧ r = .int .i64 (c : Int) ∧ c ≤ k ∧ Hid ((p.take k).count (-1) = c) ∧ Hid (∀ i, i < k → Tm.riseB p (i : Int) = true)) (fun _ i => p.length - (intOf i).toNat)
    case atStart => exact ⟨0, 0, by omega, rfl, rfl, by omega, Lib.hid rfl, Lib.hid (fun i hi => by omega)⟩
    case round =>
      obtain ⟨k, c, hk, rfl, rfl, hck, HT, HA⟩ := hrel
      by_cases hlt : k < p.length
      · have hcon := rises_any p a cap (k : Int) w (by omega) HR.out
        obtain ⟨b, off, rfl, hbl, c0⟩ := HR.out.int k hlt
        have HP := Lib.hid (Tm.count_take hlt (-1))
        generalize p[k] = d at c0 HP
        cases hs : Tm.riseB p (k : Int) with
        | false =>
          have HQ := Lib.hid hs
          rw [hs] at hcon
          clear hs
          go_wp2_with (go_at_call 51; refine hcon.mono ?_; rintro e w' ⟨rfl, rfl⟩)
          go_ret
          exact ⟨ret_bool (HC.out k hlt HQ.out).symm, rfl⟩
        | true =>
          have HQ : Hid (∀ i, i < k + 1 → Tm.riseB p (i : Int) = true) := Lib.hid (fun i hi => by
            by_cases e : i = k
            · rw [e]; exact hs
            · exact HA.out i (by omega))
          rw [hs] at hcon
          clear hs
          by_cases hd : d = -1
          · have HD := Lib.hid hd
            have hb : (d == -1) = true := by simpa using hd
            clear hd
            go_wp2_with (go_at_call 51; refine hcon.mono ?_; rintro e w' ⟨rfl, rfl⟩)
            go_round
            case rel => exact ⟨k + 1, c + 1, by omega, by go_num, by go_num, by omega, Lib.hid (by rw [HP.out, HT.out, HD.out]; rfl), HQ⟩
            case measure => simp [intOf]; omega
          · have HD := Lib.hid hd
            have hb : (d == -1) = false := by simpa using hd
            clear hd
            go_wp2_with (go_at_call 51; refine hcon.mono ?_; rintro e w' ⟨rfl, rfl⟩)
            go_round
            case rel => exact ⟨k + 1, c, by omega, by go_num, rfl, by omega, Lib.hid (by rw [HP.out, HT.out, if_neg HD.out]; rfl), HQ⟩
            case measure => simp [intOf]; omega
      · obtain rfl : k = p.length := by omega
        go_wp2
        go_ret
        refine ⟨ret_bool ?_, rfl⟩
        rw [HE.out HA.out]
        have := HT.out
        rw [List.take_length] at this
        rw [this, Bool.eq_iff_iff]
        simp
        try omega

set_option maxRecDepth 100000 in
set_option maxHeartbeats 1600000 in
theorem tnear_any (p : List Int) (a : Option Addr) (cap : Nat) (s : Int) (w : World) (hl : p.length ≤ 9223372036854775807) (hr : RowIn KI w a p) :
    Calls Try.prog 32 #[.slice a p.length cap, .int .i64 s] w fun e w' => ∃ v, e = .returned v ∧ OwnR KI w' w.heap.size v (Tm.ln (Tm.nearI p s)) ∧ Below w.heap.size w w' := by
  have hc1 := tcheck_any p a cap w hl hr
  have hc2 := isS_any p a cap s w
  have HI : Hid (Tm.okS p s = (Tm.chkT p && Tm.isS p s)) := Lib.hid rfl
  have HR := Lib.hid hr
  clear hr
  cases hs : Tm.okS p s with
  | false =>
    have e : Tm.nearI p s = [] := by unfold Tm.nearI; rw [hs]; rfl
    rw [e]
    rw [HI.out] at hs
    clear HI
    cases h1 : Tm.chkT p with
    | false =>
      rw [h1] at hc1
      clear hs h1 e
      go_enter Try.func32, Try.ntmps32
      go_wp2_with fail
      go_step3
      go_wp2_with (go_at_call 37; refine hc1.mono ?_; rintro e w' ⟨rfl, rfl⟩)
      try rw [Exit.noGoto_ret]
      go_ret
      exact ⟨_, rfl, OwnR.nil _ _ _, Below.refl _ _⟩
    | true =>
      rw [h1] at hs hc1
      rw [Bool.true_and] at hs
      rw [hs] at hc2
      clear hs h1 e
      go_enter Try.func32, Try.ntmps32
      go_wp2_with fail
      go_step3
      go_wp2_with (first | (go_at_call 37; refine hc1.mono ?_; rintro e w' ⟨rfl, rfl⟩) | (go_at_call 44; refine hc2.mono ?_; rintro e w' ⟨rfl, rfl⟩))
      try rw [Exit.noGoto_ret]
      go_ret
      exact ⟨_, rfl, OwnR.nil _ _ _, Below.refl _ _⟩
  | true =>
    obtain ⟨ht, x, rfl, hx⟩ := Tm.okS_some hs
    have h6 := ht.n6
    have e : Tm.nearI p (x : Int) = Tm.nearL p x := by unfold Tm.nearI; rw [hs, Int.toNat_natCast]; rfl
    rw [e]
    rw [HI.out, Bool.and_eq_true] at hs
    rw [hs.1] at hc1
    rw [hs.2] at hc2
    have HN : Hid (Tm.nearK p x p.length = Tm.nearL p x) := Lib.hid rfl
    generalize Tm.nearL p x = R at HN ⊢
    clear hs HI e ht
    go_enter Try.func32, Try.ntmps32
    go_wp2_with fail
    go_step3
    go_wp2_with (first | (go_at_call 37; refine hc1.mono ?_; rintro e w' ⟨rfl, rfl⟩) | (go_at_call 44; refine hc2.mono ?_; rintro e w' ⟨rfl, rfl⟩))
    go_step3
    go_wp2
    go_loopw [5, 19] (fun o i wr => ∃ k : Nat, k ≤ p.length ∧ i = .int .i64 k ∧ OwnR KI wr w.heap.size o (Tm.ln (Tm.nearK p x k)) ∧ Below w.heap.size w wr) (fun _ i _ => p.length - (intOf i).toNat)
    case atStart => exact ⟨0, by omega, rfl, OwnR.nil _ _ _, Below.refl _ _⟩
    case round =>
      obtain ⟨k, hk, rfl, ho, hbel⟩ := hrel
      obtain ⟨sa, sc, rfl⟩ := ho.shape
      by_cases hlt : k < p.length
      · obtain ⟨b, off, rfl, hbl, c0⟩ := (HR.out.below hbel).int k hlt
        obtain ⟨b1, off1, e1, hbl1, c1⟩ := (HR.out.below hbel).int x hx
        cases e1
        have hP0 := Tm.par_get p k hlt
        have hP1 := Tm.par_get p x hx
        have hyes := @Tm.nearK_yes p x k
        have hno := @Tm.nearK_no p x k
        rw [hP0, hP1] at hyes hno
        have hlen := Tm.nearK_len p x k
        have hbs : w.heap.size ≤ wr.heap.size := hbel.size
        have hll : (Tm.ln (Tm.nearK p x k)).length ≤ 6 := by rw [Tm.ln_len]; omega
        have hoa := ho.below (balloc (Below.refl _ wr) (.cells #[.int .i64 (k : Int)] 3))
        have HY := Lib.hid hyes
        have HNO := Lib.hid hno
        have HO := Lib.hid ho
        generalize p[k] = d at c0 HY HNO
        generalize p[x] = u at c1 HY HNO
        clear hP0 hP1 hyes hno ho hoa hlen
        by_cases hd : d = (x : Int)
        · have HD := Lib.hid hd
          have hb : (d != (x : Int)) = false := by simpa using hd
          clear hd
          go_wp2_with (at_builtin; refine wp_pushR ki_ok (wr := wr) rfl _ _ rfl w.heap.size (.slice sa (Tm.ln (Tm.nearK p x k)).length sc) (Tm.ln (Tm.nearK p x k)) (k : Int) #[.int .i64 (k : Int)] rfl rfl HO.out rfl (by omega) hbs ?_; intro g4 cap4 w4 ho4 hb4 hk4 hat4 hlt4)
          go_roundw
          case rel => exact ⟨k + 1, by omega, by go_num, by rw [HY.out (.inr HD.out), Tm.ln_app]; exact ho4, hbel.trans hb4⟩
          case measure => simp [intOf]; omega
        · by_cases hu : u = (k : Int)
          · have HD := Lib.hid hu
            have hb : (d != (x : Int)) = true := by simpa using hd
            have hb2 : (u != (k : Int)) = false := by simpa using hu
            clear hd hu
            go_wp2_with (at_builtin; refine wp_pushR ki_ok (wr := wr) rfl _ _ rfl w.heap.size (.slice sa (Tm.ln (Tm.nearK p x k)).length sc) (Tm.ln (Tm.nearK p x k)) (k : Int) #[.int .i64 (k : Int)] rfl rfl HO.out rfl (by omega) hbs ?_; intro g4 cap4 w4 ho4 hb4 hk4 hat4 hlt4)
            go_roundw
            case rel => exact ⟨k + 1, by omega, by go_num, by rw [HY.out (.inl HD.out), Tm.ln_app]; exact ho4, hbel.trans hb4⟩
            case measure => simp [intOf]; omega
          · have hb : (d != (x : Int)) = true := by simpa using hd
            have hb2 : (u != (k : Int)) = true := by simpa using hu
            have HD := Lib.hid hd
            have HU := Lib.hid hu
            clear hd hu
            go_wp2
            go_roundw
            case rel => exact ⟨k + 1, by omega, by go_num, by rw [HNO.out HU.out HD.out]; exact HO.out, hbel⟩
            case measure => simp [intOf]; omega
      · obtain rfl : k = p.length := by omega
        have HO := Lib.hid ho
        clear ho
        go_wp2
        try rw [Exit.noGoto_ret]
        go_ret
        exact ⟨_, rfl, by rw [← HN.out]; exact HO.out, hbel⟩
end Go.Proofs.Ythjjidfoclcghaa
/- Contracts of the library's own functions at this program, laid by the kit's own tool. -/
namespace Go.Proofs
open Go.Shelf
def Try.growI_ren : Go.Shelf.Ren := ⟨fun | 4 => 64 | n => n, fun | 22 => 22 | 25 => 3 | 3 => 3 | 4 => 4 | 9 => 9 | 20 => 20 | 0 => 0 | n => n, fun | n => n⟩
theorem Try.growI : Go.Proofs.Lays8.n4 Try.prog Try.growI_ren := {
  mixed := by kernel_rfl
  f4 := ⟨Try.f64.name, by decide, Try.func64.trans (congrArg some (by kernel_rfl))⟩
  t0 := Try.underlying0
  a0 := Try.isAgg0
  z0 := Try.sizeOf0
  v0 := Try.zeroValue0
  t3 := Try.underlying3
  a3 := Try.isAgg3
  z3 := Try.sizeOf3
  v3 := Try.zeroValue3
  t4 := Try.underlying4
  a4 := Try.isAgg4
  z4 := Try.sizeOf4
  v4 := Try.zeroValue4
  t9 := Try.underlying9
  a9 := Try.isAgg9
  z9 := Try.sizeOf9
  v9 := Try.zeroValue9
  t20 := Try.underlying20
  a20 := Try.isAgg20
  z20 := Try.sizeOf20
  v20 := Try.zeroValue20
  t22 := Try.underlying22
  a22 := Try.isAgg22
  z22 := Try.sizeOf22
  v22 := Try.zeroValue22 }
end Go.Proofs
/- What slices.Grow and slices.Concat answer of rows of ints. -/
namespace Go.Proofs.Ythjjidfoclcghaa
open Go.RowKit
set_option linter.unusedVariables false
set_option linter.unusedSimpArgs false

/-- A row of slices in memory. -/
def RowsInI (w : World) (a : Option Addr) (vs : List Value) : Prop := ∀ i (h : i < vs.length), ∃ b off, a = some ⟨b, off, none⟩ ∧ b < w.heap.size ∧ w.cell? ⟨b, off + i, none⟩ = some vs[i]
theorem RowsInI.below {w w' : World} {a : Option Addr} {vs : List Value} (h : RowsInI w a vs) (hb : Below w.heap.size w w') : RowsInI w' a vs := by
  intro i hi
  obtain ⟨b, off, rfl, hlt, h0⟩ := h i hi
  exact ⟨b, off, rfl, by have := hb.size; omega, kc hb h0⟩
/-- They read as these rows. -/
def RowsAtI (w : World) (a : Option Addr) (ls : List (List Int)) : Prop := ∃ vs : List Value, vs.length = ls.length ∧ RowsInI w a vs ∧ ∀ i (h : i < vs.length) (h' : i < ls.length), RowAt KI w vs[i] ls[i]
theorem RowsAtI.below {w w' : World} {a : Option Addr} {ls : List (List Int)} (h : RowsAtI w a ls) (hb : Below w.heap.size w w') : RowsAtI w' a ls := by
  obtain ⟨vs, h1, h2, h3⟩ := h
  exact ⟨vs, h1, h2.below hb, fun i hi hi' => (h3 i hi hi').below hb⟩
theorem RowsAtI.get {w : World} {a : Option Addr} {ls : List (List Int)} (h : RowsAtI w a ls) (i : Nat) (hi : i < ls.length) : ∃ b off u, a = some ⟨b, off, none⟩ ∧ b < w.heap.size ∧ w.cell? ⟨b, off + i, none⟩ = some u ∧ RowAt KI w u ls[i] := by
  obtain ⟨vs, h1, h2, h3⟩ := h
  obtain ⟨b, off, e, hlt, hc⟩ := h2 i (by omega)
  exact ⟨b, off, vs[i]'(by omega), e, hlt, hc, h3 i (by omega) hi⟩
def totI (ls : List (List Int)) : Nat := (ls.map List.length).sum
theorem totI_take (ls : List (List Int)) (k : Nat) (h : k < ls.length) : totI (ls.take (k + 1)) = totI (ls.take k) + ls[k].length := by
  unfold totI
  rw [List.take_succ_eq_append_getElem h, List.map_append, List.sum_append, List.map_singleton, List.sum_singleton]
theorem totI_flat (ls : List (List Int)) : ls.flatten.length = totI ls := by simp [totI, List.length_flatten]
theorem flatI_take (ls : List (List Int)) (k : Nat) (h : k < ls.length) : (ls.take (k + 1)).flatten = (ls.take k).flatten ++ ls[k] := by
  rw [List.take_succ_eq_append_getElem h, List.flatten_append]
  simp only [List.flatten_cons, List.flatten_nil, List.append_nil]
theorem totI_mono (ls : List (List Int)) (k : Nat) : totI (ls.take k) ≤ totI ls := by
  unfold totI
  have h : (ls.map List.length).sum = ((ls.take k).map List.length).sum + ((ls.drop k).map List.length).sum := by
    rw [← List.sum_append, ← List.map_append, List.take_append_drop]
  omega

/-- slices.Grow of nil. -/
theorem growI_any (n : Nat) (w : World) (hn : n ≤ 1000000) :
    Calls Try.prog 64 #[.slice none 0 0, .int .i64 n] w fun e w' => ∃ v', e = .returned v' ∧ OwnR KI w' w.heap.size v' [] ∧ Below w.heap.size w w' := by
  obtain ⟨i0, hi, hz0, hz1, hz2⟩ := info_parts ki_ok.inf
  by_cases h0 : n = 0
  · subst h0
    have h := Any8.slices_Grow_room Try.growI none 0 0 0 w (by omega) (by omega) (by omega) (by omega)
    exact h.mono fun e w' ⟨he, hw⟩ => ⟨_, he, OwnR.nil _ _ _, by rw [hw]; exact Below.refl _ _⟩
  · have hz1' : i0.size = 1 := hz1
    have hz2' : i0.bytes = 8 := hz2
    have h := Any8.slices_Grow_grow Try.growI i0 _ hi hz0 (by rw [hz1']; omega) none 0 0 n [] w (by omega) (by omega) (by rw [hz2']; omega) (by omega) (by simp) (by simp) (by simp)
    refine h.mono fun e w' ⟨he, hw⟩ => ⟨_, he, ?_, ?_⟩
    · rw [hw]
      have hcap := grownCap_le_maxLen w (0 + n) 0 3 (by unfold maxLen; omega)
      have hge := grownCap_ge w (0 + n) 0 3
      refine ⟨by rfl, .inr ⟨_, _, _, rfl, Nat.le_refl _, heap_alloc_new _ _, by simp, hcap, ?_, by simp [rV]⟩⟩
      simp only [Builtin.zeroCells, Value.cells, Array.size_append, Array.size_map, Array.size_range, List.size_toArray, List.length_nil, List.length_cons]
      have e : Go.Shelf.Ren.t Try.growI_ren 25 = 3 := rfl
      have hge' : n ≤ grownCap w n 0 3 := by simpa using hge
      simp [KI, Value.cells]
      rw [e]
      omega
    · rw [hw]
      exact ((Below.refl _ w).drew).alloc (Nat.le_refl _) _

set_option maxRecDepth 100000 in
set_option maxHeartbeats 1600000 in
theorem concatI_any (a : Option Addr) (cap : Nat) (ls : List (List Int)) (w : World) (hn : ls.length ≤ 1000) (ht : totI ls ≤ 1000000) (hr : RowsAtI w a ls) :
    Calls Try.prog 60 #[.slice a ls.length cap] w fun e w' => ∃ v', e = .returned v' ∧ OwnR KI w' w.heap.size v' ls.flatten ∧ Below w.heap.size w w' := by
  have HR := Lib.hid hr
  clear hr
  go_enter Try.func60, Try.ntmps60
  go_wp2
  go_loopw [3, 11] (fun s3 i wr => ∃ k : Nat, k ≤ ls.length ∧ i = .int .i64 k ∧ s3 = .int .i64 (totI (ls.take k)) ∧ w = wr) (fun _ i _ => ls.length - (intOf i).toNat)
  case atStart => exact ⟨0, by omega, rfl, rfl, rfl⟩
  case round =>
    obtain ⟨k, hk, rfl, rfl, rfl⟩ := hrel
    by_cases hlt : k < ls.length
    · obtain ⟨b, off, u, rfl, hbl, hc, hd⟩ := HR.out.get k hlt
      have HT := Lib.hid (totI_take ls k hlt)
      have hm1 := totI_mono ls (k + 1)
      rw [HT.out] at hm1
      generalize ls[k] = m at hd HT hm1
      obtain ⟨ma, mc, rfl, _, _, _, _⟩ := hd
      generalize htk : totI (ls.take k) = q at HT hm1
      have HQ := Lib.hid htk
      clear htk
      have hw : IntKind.i64.wrap ((q : Int) + (m.length : Int)) = (q : Int) + (m.length : Int) := IntWalk.i64_in _ (by omega)
      have hw3 : ¬ (q : Int) + (m.length : Int) < 0 := by omega
      go_wp2
      go_roundw
      case rel => exact ⟨k + 1, by omega, by go_num, by rw [HT.out]; simp, (by first | rfl | trivial)⟩
      case measure => simp [intOf]; omega
    · obtain rfl : k = ls.length := by omega
      rw [List.take_length]
      go_wp2_with fail
      refine (growI_any (totI ls) _ ht).mono ?_
      rintro e w1 ⟨v1, rfl, ho1, hb1⟩
      obtain ⟨sa, sc, rfl⟩ := ho1.shape
      have HO1 := Lib.hid ho1
      clear ho1
      go_wp2
      go_loopw [6, 27] (fun o i wr => ∃ k : Nat, k ≤ ls.length ∧ i = .int .i64 k ∧ OwnR KI wr w.heap.size o (ls.take k).flatten ∧ Below w.heap.size w wr) (fun _ i _ => ls.length - (intOf i).toNat)
      case atStart => exact ⟨0, by omega, rfl, HO1.out, hb1⟩
      case round =>
        obtain ⟨k, hk, rfl, ho, hbel⟩ := hrel
        obtain ⟨va, vc, rfl⟩ := ho.shape
        have HO := Lib.hid ho
        clear ho
        by_cases hlt : k < ls.length
        · obtain ⟨b, off, u, rfl, hbl, hc, hd⟩ := (HR.out.below hbel).get k hlt
          have HF := Lib.hid (flatI_take ls k hlt)
          have hm1 := totI_mono ls (k + 1)
          rw [← totI_flat, HF.out, List.length_append] at hm1
          generalize ls[k] = m at hd HF hm1
          obtain ⟨ma, mc, rfl, _, _, _, _⟩ := id hd
          have HD := Lib.hid hd
          have hbs : w.heap.size ≤ wr.heap.size := hbel.size
          clear hd
          go_wp2_with (at_builtin; refine wp_appI rfl _ _ rfl w.heap.size (.slice va (ls.take k).flatten.length vc) (.slice ma m.length mc) (ls.take k).flatten m rfl HO.out rfl HD.out (by omega) hbs ?_; intro v' w2 ho2 hb2 hk2; obtain ⟨sa2, sc2, rfl⟩ := ho2.shape)
          go_roundw
          case rel => exact ⟨k + 1, by omega, by go_num, by rw [HF.out]; simpa using ho2, hbel.trans hb2⟩
          case measure => simp [intOf]; omega
        · obtain rfl : k = ls.length := by omega
          go_wp2
          go_ret
          exact ⟨.slice va (List.take ls.length ls).flatten.length vc, rfl, by have h := HO.out; rw [List.take_length] at h ⊢; exact h, hbel⟩
end Go.Proofs.Ythjjidfoclcghaa
