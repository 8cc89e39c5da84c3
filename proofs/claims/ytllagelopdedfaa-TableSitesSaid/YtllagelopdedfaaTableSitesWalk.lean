/- The walk of the law TableSites. -/
import Derived.Test.YtllagelopdedfaaTableSomeWalk
import Derived.Test.YtllagelopdedfaaAppI
namespace Go.Proofs.Ytllagelopdedfaa
open Go.RowKit Go.ChangeShapes Go.WideShapes Go.ChangeAt Go.Joins
set_option linter.unusedVariables false
set_option linter.unusedSimpArgs false

theorem bitN_out {m n : Nat} {s : Int} (hm : m < 2 ^ n) (h : (n : Int) ≤ s) : bitN m s = false := by
  unfold bitN
  rw [Nat.testBit_lt_two_pow (Nat.lt_of_lt_of_le hm (Nat.pow_le_pow_right (by omega) (by omega)))]
  simp
theorem rngsN_out {c : Rw} {s : Int} (h : s < 0 ∨ (c.pa.length : Int) ≤ s) : rngsN c s = [] := by
  by_cases hk : tOk c = true
  · have hT := (tOk_iff c).1 hk
    unfold rngsN
    rw [if_pos hk, List.map_eq_nil_iff, List.filter_eq_nil_iff]
    intro x hx
    have hm : x.2 ∈ c.ow := by
      obtain ⟨r, o⟩ := x
      exact (List.of_mem_zip hx).2
    have := hT.ob _ hm
    rcases h with h | h
    · rw [bitN_neg h]; simp
    · rw [bitN_out (n := c.pa.length) (by omega) h]; simp
  · exact rngsN_no (by simpa using hk) s
theorem ranges7_nil (c : Rw) (u0 u1 u2 : Value) (s : Int) (w : World) (h : RwAt w u0 u1 u2 c) (hs : -9223372036854775808 ≤ s ∧ s ≤ 9223372036854775807) (hn : rngsN c s = []) :
    Calls Try.prog 15 #[.agg #[u0, u1, u2], .int .i64 s] w fun e w' => (∃ a cp, e = .returned (.slice a 0 cp)) ∧ Below w.heap.size w w' := by
  refine (ranges7_any c u0 u1 u2 s w h hs).mono fun e w' ⟨v, he, ho, hb⟩ => ?_
  rw [hn] at ho
  obtain ⟨a, cp, rfl⟩ := ho.shape
  exact ⟨⟨a, cp, he⟩, hb⟩
theorem keep9 {W w' : World} {b1 b2 b3 : Nat} {x1 x2 x3 x4 x5 x6 x7 x8 x9 : Value} (hb : Below W.heap.size W w')
    (h : W.cell? ⟨b1, 0, none⟩ = some x1 ∧ W.cell? ⟨b1, 1, none⟩ = some x2 ∧ W.cell? ⟨b1, 2, none⟩ = some x3 ∧ W.cell? ⟨b2, 0, none⟩ = some x4 ∧ W.cell? ⟨b2, 1, none⟩ = some x5 ∧ W.cell? ⟨b2, 2, none⟩ = some x6 ∧ W.cell? ⟨b3, 0, none⟩ = some x7 ∧ W.cell? ⟨b3, 1, none⟩ = some x8 ∧ W.cell? ⟨b3, 2, none⟩ = some x9) :
    w'.cell? ⟨b1, 0, none⟩ = some x1 ∧ w'.cell? ⟨b1, 1, none⟩ = some x2 ∧ w'.cell? ⟨b1, 2, none⟩ = some x3 ∧ w'.cell? ⟨b2, 0, none⟩ = some x4 ∧ w'.cell? ⟨b2, 1, none⟩ = some x5 ∧ w'.cell? ⟨b2, 2, none⟩ = some x6 ∧ w'.cell? ⟨b3, 0, none⟩ = some x7 ∧ w'.cell? ⟨b3, 1, none⟩ = some x8 ∧ w'.cell? ⟨b3, 2, none⟩ = some x9 :=
  ⟨kc7 hb h.1, kc7 hb h.2.1, kc7 hb h.2.2.1, kc7 hb h.2.2.2.1, kc7 hb h.2.2.2.2.1, kc7 hb h.2.2.2.2.2.1, kc7 hb h.2.2.2.2.2.2.1, kc7 hb h.2.2.2.2.2.2.2.1, kc7 hb h.2.2.2.2.2.2.2.2⟩
theorem own_lit7 {α : Type} {K : RK α} (hK : K.Ok) (w : World) (base n : Nat) (l : List α) (cs : Array Value) (hcs : cs.toList = rV K l) (hn : l.length = n) (hb : base ≤ w.heap.size) (hm : n ≤ 1000) : OwnR K (w.alloc (.cells cs K.T)) base (.slice (some ⟨w.heap.size, 0, none⟩) n n) l := by
  subst hn
  have hl := rV_len hK l
  refine ⟨by rw [hl], .inr ⟨w.heap.size, l.length, cs, rfl, hb, heap_alloc_new w _, Nat.le_refl _, by unfold maxLen; omega, ?_, ?_⟩⟩
  · rw [← hl, ← hcs]; simp
  · rw [hcs, ← hl, List.take_length]

theorem make7_ints (w : World) : ∃ w1, (Instr.makeSlice 23 (.int .i64 7) (.int .i64 7)).run Try.prog w = .ok (.slice (some ⟨w.heap.size, 0, none⟩) 7 7) w1 ∧ Below w.heap.size w w1 ∧ OwnR KI w1 w.heap.size (.slice (some ⟨w.heap.size, 0, none⟩) 7 7) (List.replicate 7 0) := by
  obtain ⟨i0, hi, hz0, hz1, hz2⟩ := info_parts ki_ok.inf
  have h := run_makeSlice (P := Try.prog) (w := w) 23 3 i0 _ Try.underlying23 hi hz0 .i64 .i64 7 7 (by omega) (Int.le_refl _) (by rw [hz1]; decide) (by rw [hz2]; decide) (by omega)
  refine ⟨_, h, balloc (Below.refl _ _) _, ?_⟩
  rw [hz1]
  exact own_lit7 ki_ok w w.heap.size 7 (List.replicate 7 0) _ (by simp [madeCells, Value.cells, rV, KI, Nat.mod_one]; rfl) (by simp) (Nat.le_refl _) (by omega)

set_option maxRecDepth 100000 in
set_option maxHeartbeats 3200000 in
theorem walkTableSites (w : World) (a0 b0 : Value) (c0 : Int) (l0 m0 : List Int) (w0 : RowAt KI w a0 l0 ∧ ∀ z ∈ l0, -9223372036854775808 ≤ z ∧ z ≤ 9223372036854775807) (x0 : RowAt KI w b0 m0 ∧ ∀ z ∈ m0, -9223372036854775808 ≤ z ∧ z ≤ 9223372036854775807) (y0 : -9223372036854775808 ≤ c0 ∧ c0 ≤ 9223372036854775807) (site : Int) (ws : (Lit.int .i64 site).wf = true) (key : ByteArray) (w1 : key.size ≤ maxLen) :
    Calls Try.prog 6 #[.agg #[a0, b0, .int .i64 c0], .int .i64 site, .string key] w fun e w' => e = .returned (.bool true) ∧ Below w.heap.size w w' := by
  obtain ⟨ws1, ws2⟩ := bounds_i64 ws
  obtain ⟨w0, w0b⟩ := w0
  obtain ⟨x0, x0b⟩ := x0
  have hrow := fun W hb' => row7_any a0 b0 l0 m0 c0 W (w0.below hb') (x0.below hb') w0b x0b y0
  obtain ⟨i0, j0, rfl, _⟩ := w0
  obtain ⟨i1, j1, rfl, _⟩ := x0
  clear w0b x0b y0 ws w1
  have hb : Below w.heap.size w (w.alloc (.cells #[.slice i0 l0.length j0, .slice i1 m0.length j1, .int .i64 c0] 38)) := balloc (Below.refl _ _) _
  have p0 : (w.alloc (.cells #[.slice i0 l0.length j0, .slice i1 m0.length j1, .int .i64 c0] 38)).cell? ⟨w.heap.size, 0, none⟩ = some (.slice i0 l0.length j0) := by simp
  have p1 : (w.alloc (.cells #[.slice i0 l0.length j0, .slice i1 m0.length j1, .int .i64 c0] 38)).cell? ⟨w.heap.size, 1, none⟩ = some (.slice i1 m0.length j1) := by simp
  have p2 : (w.alloc (.cells #[.slice i0 l0.length j0, .slice i1 m0.length j1, .int .i64 c0] 38)).cell? ⟨w.heap.size, 2, none⟩ = some (.int .i64 c0) := by simp
  go_enter Try.func6, Try.ntmps6
  go_wp2_with fail
  generalize w.alloc (.cells #[.slice i0 l0.length j0, .slice i1 m0.length j1, .int .i64 c0] 38) = wb at *
  refine (awake7_any _).mono ?_
  rintro e wa ⟨rfl, hba⟩
  have p0' := kc7 hba p0
  have p1' := kc7 hba p1
  have p2' := kc7 hba p2
  have HBA := Lib.hid (bstep hb hba)
  clear p0 p1 p2 hb hba
  go_wp2_with fail
  refine (hrow _ HBA.out).mono ?_
  rintro e wS ⟨c, u0, u1, u2, rfl, hRO, hok, hbr⟩
  have HBR := Lib.hid (bstep HBA.out hbr)
  have hR := hRO.at
  clear hrow p0' p1' p2' hbr hRO
  obtain ⟨x0, y0, rfl, hq0, hm0, _⟩ := hR.rs
  obtain ⟨x1, y1, rfl, hq1, hm1, _⟩ := hR.ow
  obtain ⟨x2, y2, rfl, hq2, hm2, _⟩ := hR.pa
  have hT := (tOk_iff c).1 hok
  have HOL := Lib.hid hT.ol
  have hr8 := hT.r8
  have hn1 := hT.n1
  have hn6 := hT.n6
  have hpow := (own_pow hT key.data.toList).1
  have hlt := ownN_lt c key.data.toList
  have hV8 := VrP.new wS (.slice x0 c.rs.length y0) (.slice x1 c.ow.length y1) (.slice x2 c.pa.length y2) 25
  have hbv := balloc (Below.refl _ wS) (.cells #[.slice x0 c.rs.length y0, .slice x1 c.ow.length y1, .slice x2 c.pa.length y2] 25)
  have hRV := hR.below hbv
  have HBV := Lib.hid (bstep HBR.out hbv)
  clear hbv hR
  have HV8 := Lib.hid hV8
  clear hV8
  go_upto_region 3 with fail
  generalize hwv : wS.alloc (.cells #[.slice x0 c.rs.length y0, .slice x1 c.ow.length y1, .slice x2 c.pa.length y2] 25) = wv at *
  have HWV : Hid (wv.heap.size = wS.heap.size + 1) := Lib.hid (by rw [← hwv]; simp)
  clear hwv
  obtain ⟨d0, d1, d2, _⟩ := HV8.out
  obtain ⟨th, hth⟩ : ∃ th : Bool, th = decide (0 ≤ site ∧ site < (c.pa.length : Int)) := ⟨_, rfl⟩
  have HTH := Lib.hid hth
  clear hth
  go_cut [9] (fun s wx => s = .bool th ∧ wx = wv)
  case first =>
    by_cases k1 : 0 ≤ site
    · by_cases k2 : site < (c.pa.length : Int)
      · have e : th = true := by rw [HTH.out, decide_eq_true ⟨k1, k2⟩]
        subst e
        go_wp2
        go_meet
        exact ⟨rfl, rfl⟩
      · have e : th = false := by rw [HTH.out]; exact decide_eq_false (fun h => k2 h.2)
        subst e
        go_wp2
        go_meet
        exact ⟨rfl, rfl⟩
    · have e : th = false := by rw [HTH.out]; exact decide_eq_false (fun h => k1 h.1)
      subst e
      go_wp2
      go_meet
      exact ⟨rfl, rfl⟩
  case rest =>
    obtain ⟨rfl, hwx⟩ := hcut
    obtain rfl := hwx.symm
    have hV10 := VrP.new wv (.slice x0 c.rs.length y0) (.slice x1 c.ow.length y1) (.slice x2 c.pa.length y2) 25
    have hb4 := balloc (Below.refl _ wv) (.cells #[.slice x0 c.rs.length y0, .slice x1 c.ow.length y1, .slice x2 c.pa.length y2] 25)
    have HRV := Lib.hid hRV
    have HB44 := Lib.hid hb4
    clear d0 d1 d2 hRV
    have e0 := HV8.out.c0
    have e1 := HV8.out.c1
    have e2 := HV8.out.c2
    go_upto_region 5 with fail
    clear e0 e1 e2 hb4
    generalize hw4 : wv.alloc (.cells #[.slice x0 c.rs.length y0, .slice x1 c.ow.length y1, .slice x2 c.pa.length y2] 25) = w4 at *
    have HW4 : Hid (w4.heap.size = wv.heap.size + 1) := Lib.hid (by rw [← hw4]; simp)
    clear hw4
    have hlo := own_lit7 ki_ok w4 w4.heap.size 1 [1] #[.int .i64 1] rfl rfl (Nat.le_refl _) (by omega)
    have hbl := balloc (Below.refl _ w4) (.cells #[.int .i64 1] 3)
    have HLO := Lib.hid hlo
    have HRX := Lib.hid ((HRV.out.below HB44.out).below hbl)
    have e1 := (HV8.out.keep HB44.out).keep hbl
    obtain ⟨e80, e81, e82, _⟩ := e1
    have hlow : wv.heap.size < w4.heap.size := by have := HW4.out; omega
    have hl8 : c.ow.length ≤ 8 := by rw [HOL.out]; exact hr8
    have HV10 := Lib.hid hV10
    have HBL := Lib.hid hbl
    clear hlo hV10 hbl
    go_upto_region 6 with (at_builtin; refine wp_appI rfl _ _ rfl w4.heap.size (.slice (some ⟨w4.heap.size, 0, none⟩) 1 1) (.slice x1 c.ow.length y1) [1] c.ow rfl HLO.out rfl HRX.out.ow (by simp; omega) (by simp) ?_; intro v' w5 ho5 hb5 hk5; obtain ⟨z1, z2, rfl⟩ := ho5.shape; have hln : ([1] ++ c.ow).length = c.ow.length + 1 := (by simp); (try rw [hln] at ho5); (try rw [hln]); clear hln; have HO5 := Lib.hid ho5; have HB5 := Lib.hid ((HBL.out.trans hb5 : Below w4.heap.size w4 w5)); clear ho5 hb5 hk5 e80 e81 e82; have hv5 := HV10.out.block (HB5.out.block wv.heap.size hlow); obtain ⟨f0, f1, f2, ff⟩ := id hv5; have ffz := ff 1 (by decide); have HV5 := Lib.hid hv5; clear hv5 ff)
    have hv6 := HV5.out.put1 (.slice z1 (c.ow.length + 1) z2)
    have hb6 : Below wv.heap.size wv (w5.setCell ⟨wv.heap.size, 1, none⟩ (.slice z1 (c.ow.length + 1) z2)) := (HB44.out.trans (HB5.out.mono (Nat.le_of_lt hlow))).setCell (p := ⟨wv.heap.size, 1, none⟩) (Nat.le_refl _) _
    have hm6 : RowAt KI (w5.setCell ⟨wv.heap.size, 1, none⟩ (.slice z1 (c.ow.length + 1) z2)) (.slice z1 (c.ow.length + 1) z2) ([1] ++ c.ow) := RowAt.of_own ki_ok (HO5.out.put7 (HO5.out.lo hlow))
    have hv86 := HV8.out.keep hb6
    have hr6 := HRV.out.below hb6
    have hbb6 := bstep HBV.out hb6
    clear f0 f1 f2 ffz HRX HLO HBL
    generalize hw6 : w5.setCell ⟨wv.heap.size, 1, none⟩ (.slice z1 (c.ow.length + 1) z2) = w6 at *
    clear hw6 hb6
    have HM6 := Lib.hid hm6
    have HR6 := Lib.hid hr6
    have HV6 := Lib.hid hv6
    have HV86 := Lib.hid hv86
    have HB6 := Lib.hid hbb6
    have hV11 := VrP.new w6 (.slice x0 c.rs.length y0) (.slice x1 c.ow.length y1) (.slice x2 c.pa.length y2) 25
    have hba7 := balloc (Below.refl _ w6) (.cells #[.slice x0 c.rs.length y0, .slice x1 c.ow.length y1, .slice x2 c.pa.length y2] 25)
    obtain ⟨e80, e81, e82, _⟩ := hv86
    obtain ⟨w7, hmk, hb7, hm7⟩ := make7_ints (w6.alloc (.cells #[.slice x0 c.rs.length y0, .slice x1 c.ow.length y1, .slice x2 c.pa.length y2] 25))
    have HB67 : Hid (Below w6.heap.size w6 w7) := Lib.hid (bstep hba7 hb7)
    have hv117 := hV11.keep hb7
    have hv11 := hv117.put2 (.slice (some ⟨(w6.alloc (.cells #[.slice x0 c.rs.length y0, .slice x1 c.ow.length y1, .slice x2 c.pa.length y2] 25)).heap.size, 0, none⟩) 7 7)
    have hne7 : (w6.alloc (.cells #[.slice x0 c.rs.length y0, .slice x1 c.ow.length y1, .slice x2 c.pa.length y2] 25)).heap.size = w6.heap.size + 1 := by simp
    rw [hne7] at hm7 hmk hv11
    have hb8 : Below w6.heap.size w6 (w7.setCell ⟨w6.heap.size, 2, none⟩ (.slice (some ⟨w6.heap.size + 1, 0, none⟩) 7 7)) := HB67.out.setCell (p := ⟨w6.heap.size, 2, none⟩) (Nat.le_refl _) _
    have hm8 : RowAt KI (w7.setCell ⟨w6.heap.size, 2, none⟩ (.slice (some ⟨w6.heap.size + 1, 0, none⟩) 7 7)) (.slice (some ⟨w6.heap.size + 1, 0, none⟩) 7 7) (List.replicate 7 0) := RowAt.of_own ki_ok (hm7.put7 (hm7.lo (by omega)))
    have HV11 := Lib.hid hv11
    obtain ⟨g0, g1, g2, gf⟩ := id hv117
    have gf2 := gf 2 (by decide)
    clear hv11 hv117 hV11 hba7 hb7 hm6 hr6 hv6 hbb6 hne7 gf hm7
    go_upto_region 8 with fail
    have hr8' := HR6.out.below hb8
    have hM : RwAt (w7.setCell ⟨w6.heap.size, 2, none⟩ (.slice (some ⟨w6.heap.size + 1, 0, none⟩) 7 7)) (.slice x0 c.rs.length y0) (.slice z1 (c.ow.length + 1) z2) (.slice x2 c.pa.length y2) ⟨c.rs, [1] ++ c.ow, c.pa⟩ := ⟨hr8'.rs, HM6.out.below hb8, hr8'.pa, hr8'.sz⟩
    have hY : RwAt (w7.setCell ⟨w6.heap.size, 2, none⟩ (.slice (some ⟨w6.heap.size + 1, 0, none⟩) 7 7)) (.slice x0 c.rs.length y0) (.slice x1 c.ow.length y1) (.slice (some ⟨w6.heap.size + 1, 0, none⟩) 7 7) ⟨c.rs, c.ow, List.replicate 7 0⟩ := ⟨hr8'.rs, hr8'.ow, hm8, hr8'.sz⟩
    have hMn : tOk ⟨c.rs, [1] ++ c.ow, c.pa⟩ = false := by
      unfold tOk
      rw [decide_eq_false (by have := HOL.out; simp; omega)]
      rfl
    have hYn : tOk ⟨c.rs, c.ow, List.replicate 7 0⟩ = false := by
      unfold tOk
      rw [decide_eq_false (by simp)]
      rfl
    have gA : (w7.setCell ⟨w6.heap.size, 2, none⟩ (.slice (some ⟨w6.heap.size + 1, 0, none⟩) 7 7)).cell? ⟨wS.heap.size, 0, none⟩ = some (.slice x0 c.rs.length y0) ∧ (w7.setCell ⟨w6.heap.size, 2, none⟩ (.slice (some ⟨w6.heap.size + 1, 0, none⟩) 7 7)).cell? ⟨wS.heap.size, 1, none⟩ = some (.slice x1 c.ow.length y1) ∧ (w7.setCell ⟨w6.heap.size, 2, none⟩ (.slice (some ⟨w6.heap.size + 1, 0, none⟩) 7 7)).cell? ⟨wS.heap.size, 2, none⟩ = some (.slice x2 c.pa.length y2) ∧ (w7.setCell ⟨w6.heap.size, 2, none⟩ (.slice (some ⟨w6.heap.size + 1, 0, none⟩) 7 7)).cell? ⟨wv.heap.size, 0, none⟩ = some (.slice x0 c.rs.length y0) ∧ (w7.setCell ⟨w6.heap.size, 2, none⟩ (.slice (some ⟨w6.heap.size + 1, 0, none⟩) 7 7)).cell? ⟨wv.heap.size, 1, none⟩ = some (.slice z1 (c.ow.length + 1) z2) ∧ (w7.setCell ⟨w6.heap.size, 2, none⟩ (.slice (some ⟨w6.heap.size + 1, 0, none⟩) 7 7)).cell? ⟨wv.heap.size, 2, none⟩ = some (.slice x2 c.pa.length y2) ∧ (w7.setCell ⟨w6.heap.size, 2, none⟩ (.slice (some ⟨w6.heap.size + 1, 0, none⟩) 7 7)).cell? ⟨w6.heap.size, 0, none⟩ = some (.slice x0 c.rs.length y0) ∧ (w7.setCell ⟨w6.heap.size, 2, none⟩ (.slice (some ⟨w6.heap.size + 1, 0, none⟩) 7 7)).cell? ⟨w6.heap.size, 1, none⟩ = some (.slice x1 c.ow.length y1) ∧ (w7.setCell ⟨w6.heap.size, 2, none⟩ (.slice (some ⟨w6.heap.size + 1, 0, none⟩) 7 7)).cell? ⟨w6.heap.size, 2, none⟩ = some (.slice (some ⟨w6.heap.size + 1, 0, none⟩) 7 7) := by
      obtain ⟨a0, a1, a2, _⟩ := HV86.out.keep hb8
      obtain ⟨b0, b1, b2, _⟩ := HV6.out.keep hb8
      exact ⟨a0, a1, a2, b0, b1, b2, HV11.out.c0, HV11.out.c1, HV11.out.c2⟩
    have HB8 := Lib.hid (bstep HB6.out hb8)
    clear e80 e81 e82 g0 g1 g2 gf2 hmk HV11 hm8
    generalize w7.setCell ⟨w6.heap.size, 2, none⟩ (.slice (some ⟨w6.heap.size + 1, 0, none⟩) 7 7) = w8 at *
    have hst := fun W (hb : Below w8.heap.size w8 W) => sites_any c (.slice x0 c.rs.length y0) (.slice x1 c.ow.length y1) _ W (hr8'.below hb).pa
    have hck := fun W (hb : Below w8.heap.size w8 W) => check7_any c _ _ _ W (hr8'.below hb)
    have hcm := fun W (hb : Below w8.heap.size w8 W) => check7_any _ _ _ _ W (hM.below hb)
    have hcy := fun W (hb : Below w8.heap.size w8 W) => check7_any _ _ _ _ W (hY.below hb)
    have hom := fun W (hb : Below w8.heap.size w8 W) => owners7_any _ _ _ _ key W (hM.below hb)
    have hfy := fun W (hb : Below w8.heap.size w8 W) => first7_any _ _ _ _ key W (hY.below hb)
    rw [hok] at hck
    rw [hMn] at hcm
    rw [hYn] at hcy
    rw [ownN_no hMn, show ((0 : Nat) : Int) = 0 from rfl] at hom
    rw [ownN_no hYn, show firstN 0 = -1 from by decide +kernel] at hfy
    have hos := fun (hn : site < 0 ∨ (c.pa.length : Int) ≤ site) W (hb : Below w8.heap.size w8 W) => (show Calls Try.prog 22 #[.agg #[.slice x0 c.rs.length y0, .slice x1 c.ow.length y1, .slice x2 c.pa.length y2], .int .i64 site, .string key] W fun e w' => e = .returned (.bool false) ∧ Below W.heap.size W w' from by
      have h := owns7_any c _ _ _ site key W (hr8'.below hb) ⟨ws1, ws2⟩
      have e : bitN (ownN c key.data.toList) site = false := by
        rcases hn with h1 | h1
        · exact bitN_neg h1
        · exact bitN_out hpow h1
      rw [e] at h
      exact h)
    have hrg := fun (hn : site < 0 ∨ (c.pa.length : Int) ≤ site) W (hb : Below w8.heap.size w8 W) => ranges7_nil c _ _ _ site W (hr8'.below hb) ⟨ws1, ws2⟩ (rngsN_out hn)
    have HBD : Hid (Below w8.heap.size w8 w8.drew) := Lib.hid (Below.refl _ _).drew
    clear hMn hYn hM hY hr8' hb8 hok hT hpow hlt HV6 HV86 HR6 HM6 HB67 HO5 HB5 HV5 HV10 HRV HB44
    cases th with
    | true =>
      clear hos hrg HTH
      go_wp2_with fail
      refine wp_region_held_drew (S := fun w' => w'.cell? ⟨wS.heap.size, 0, none⟩ = some (.slice x0 c.rs.length y0) ∧ w'.cell? ⟨wS.heap.size, 1, none⟩ = some (.slice x1 c.ow.length y1) ∧ w'.cell? ⟨wS.heap.size, 2, none⟩ = some (.slice x2 c.pa.length y2) ∧ w'.cell? ⟨wv.heap.size, 0, none⟩ = some (.slice x0 c.rs.length y0) ∧ w'.cell? ⟨wv.heap.size, 1, none⟩ = some (.slice z1 (c.ow.length + 1) z2) ∧ w'.cell? ⟨wv.heap.size, 2, none⟩ = some (.slice x2 c.pa.length y2) ∧ w'.cell? ⟨w6.heap.size, 0, none⟩ = some (.slice x0 c.rs.length y0) ∧ w'.cell? ⟨w6.heap.size, 1, none⟩ = some (.slice x1 c.ow.length y1) ∧ w'.cell? ⟨w6.heap.size, 2, none⟩ = some (.slice (some ⟨w6.heap.size + 1, 0, none⟩) 7 7)) (by kernel_rfl) (gA) (fun hHeld => ?_)
      refine wpAnyH_take (i := 0) (v := ?va0) rfl (by kernel_rfl) (by kernel_rfl) (by kernel_rfl) (fun _ _ _ h => h) (Or.inl ⟨by rfl, ?ya0⟩) (by assumption) ?ra0
      case ya0 => (intro w hSw; (try dsimp only at hSw); go_simp; try with_reducible rfl)
      try simp only [Act.put, List.setIfInBounds_toArray, List.set_cons_zero, List.set_cons_succ, List.getElem_toArray, List.getElem_cons_zero, List.getElem_cons_succ]
      refine wpAnyH_take (i := 1) (v := ?va1) rfl (by kernel_rfl) (by kernel_rfl) (by kernel_rfl) (fun _ _ _ h => h) (Or.inl ⟨by rfl, ?ya1⟩) (by assumption) ?ra1
      case ya1 => (intro w hSw; (try dsimp only at hSw); go_simp; try with_reducible rfl)
      try simp only [Act.put, List.setIfInBounds_toArray, List.set_cons_zero, List.set_cons_succ, List.getElem_toArray, List.getElem_cons_zero, List.getElem_cons_succ]
      refine wpAnyH_take (i := 2) (v := ?va2) rfl (by kernel_rfl) (by kernel_rfl) (by kernel_rfl) (fun _ _ _ h => h) (Or.inl ⟨by rfl, ?ya2⟩) (by assumption) ?ra2
      case ya2 => (intro w hSw; (try dsimp only at hSw); go_simp; try with_reducible rfl)
      try simp only [Act.put, List.setIfInBounds_toArray, List.set_cons_zero, List.set_cons_succ, List.getElem_toArray, List.getElem_cons_zero, List.getElem_cons_succ]
      refine wpAnyH_take (i := 4) (v := ?va4) rfl (by kernel_rfl) (by kernel_rfl) (by kernel_rfl) (fun _ _ _ h => h) (Or.inl ⟨by rfl, ?ya4⟩) (by assumption) ?ra4
      case ya4 => (intro w hSw; (try dsimp only at hSw); go_simp; try with_reducible rfl)
      try simp only [Act.put, List.setIfInBounds_toArray, List.set_cons_zero, List.set_cons_succ, List.getElem_toArray, List.getElem_cons_zero, List.getElem_cons_succ]
      refine wpAnyH_take (i := 5) (v := ?va5) rfl (by kernel_rfl) (by kernel_rfl) (by kernel_rfl) (fun _ _ _ h => h) (Or.inl ⟨by rfl, ?ya5⟩) (by assumption) ?ra5
      case ya5 => (intro w hSw; (try dsimp only at hSw); go_simp; try with_reducible rfl)
      try simp only [Act.put, List.setIfInBounds_toArray, List.set_cons_zero, List.set_cons_succ, List.getElem_toArray, List.getElem_cons_zero, List.getElem_cons_succ]
      refine wpAnyH_take (i := 6) (v := ?va6) rfl (by kernel_rfl) (by kernel_rfl) (by kernel_rfl) (fun _ _ _ h => h) (Or.inl ⟨by rfl, ?ya6⟩) (by assumption) ?ra6
      case ya6 => (intro w hSw; (try dsimp only at hSw); go_simp; try with_reducible rfl)
      try simp only [Act.put, List.setIfInBounds_toArray, List.set_cons_zero, List.set_cons_succ, List.getElem_toArray, List.getElem_cons_zero, List.getElem_cons_succ]
      refine wpAnyH_ready (rs := [3]) (by kernel_rfl) (by simp) ?_
      refine AllReadyH.cons rfl (fun K hK => ?_) AllReadyH.nil
      go_simp
      go_at_call 19
      refine (hst _ (HBD.out)).mono ?_
      rintro e v1 ⟨rfl, q1⟩
      have g1 := keep9 q1 gA
      go_wp2_with fail
      refine hK.out _ _ (g1) (fun hHeld => ?_)
      clear hK K
      try simp only [Act.put, List.setIfInBounds_toArray, List.set_cons_zero, List.set_cons_succ, List.getElem_toArray, List.getElem_cons_zero, List.getElem_cons_succ]
      refine wpAnyH_take (i := 7) (v := ?va7) rfl (by kernel_rfl) (by kernel_rfl) (by kernel_rfl) (fun _ _ _ h => h) (Or.inl ⟨by rfl, ?ya7⟩) (by assumption) ?ra7
      case ya7 => (intro w hSw; (try dsimp only at hSw); go_simp; try with_reducible rfl)
      try simp only [Act.put, List.setIfInBounds_toArray, List.set_cons_zero, List.set_cons_succ, List.getElem_toArray, List.getElem_cons_zero, List.getElem_cons_succ]
      refine wpAnyH_take (i := 8) (v := ?va8) rfl (by kernel_rfl) (by kernel_rfl) (by kernel_rfl) (fun _ _ _ h => h) (Or.inl ⟨by rfl, ?ya8⟩) (by assumption) ?ra8
      case ya8 => (intro w hSw; (try dsimp only at hSw); go_simp; try with_reducible rfl)
      try simp only [Act.put, List.setIfInBounds_toArray, List.set_cons_zero, List.set_cons_succ, List.getElem_toArray, List.getElem_cons_zero, List.getElem_cons_succ]
      refine wpAnyH_take (i := 9) (v := ?va9) rfl (by kernel_rfl) (by kernel_rfl) (by kernel_rfl) (fun _ _ _ h => h) (Or.inl ⟨by rfl, ?ya9⟩) (by assumption) ?ra9
      case ya9 => (intro w hSw; (try dsimp only at hSw); go_simp; try with_reducible rfl)
      try simp only [Act.put, List.setIfInBounds_toArray, List.set_cons_zero, List.set_cons_succ, List.getElem_toArray, List.getElem_cons_zero, List.getElem_cons_succ]
      refine wpAnyH_take (i := 10) (v := ?va10) rfl (by kernel_rfl) (by kernel_rfl) (by kernel_rfl) (fun _ _ _ h => h) (Or.inl ⟨by rfl, ?ya10⟩) (by assumption) ?ra10
      case ya10 => (intro w hSw; (try dsimp only at hSw); go_simp; try with_reducible rfl)
      try simp only [Act.put, List.setIfInBounds_toArray, List.set_cons_zero, List.set_cons_succ, List.getElem_toArray, List.getElem_cons_zero, List.getElem_cons_succ]
      refine wpAnyH_take (i := 11) (v := ?va11) rfl (by kernel_rfl) (by kernel_rfl) (by kernel_rfl) (fun _ _ _ h => h) (Or.inl ⟨by rfl, ?ya11⟩) (by assumption) ?ra11
      case ya11 => (intro w hSw; (try dsimp only at hSw); go_simp; try with_reducible rfl)
      try simp only [Act.put, List.setIfInBounds_toArray, List.set_cons_zero, List.set_cons_succ, List.getElem_toArray, List.getElem_cons_zero, List.getElem_cons_succ]
      refine wpAnyH_take (i := 12) (v := undef) rfl (by kernel_rfl) (by kernel_rfl) (by kernel_rfl) (fun _ _ _ h => h) (Or.inr ⟨by rfl, rfl⟩) (by assumption) ?_
      try simp only [Act.put, List.setIfInBounds_toArray, List.set_cons_zero, List.set_cons_succ, List.getElem_toArray, List.getElem_cons_zero, List.getElem_cons_succ]
      refine wpAnyH_take (i := 13) (v := undef) rfl (by kernel_rfl) (by kernel_rfl) (by kernel_rfl) (fun _ _ _ h => h) (Or.inr ⟨by rfl, rfl⟩) (by assumption) ?_
      try simp only [Act.put, List.setIfInBounds_toArray, List.set_cons_zero, List.set_cons_succ, List.getElem_toArray, List.getElem_cons_zero, List.getElem_cons_succ]
      refine wpAnyH_take (i := 14) (v := undef) rfl (by kernel_rfl) (by kernel_rfl) (by kernel_rfl) (fun _ _ _ h => h) (Or.inr ⟨by rfl, rfl⟩) (by assumption) ?_
      try simp only [Act.put, List.setIfInBounds_toArray, List.set_cons_zero, List.set_cons_succ, List.getElem_toArray, List.getElem_cons_zero, List.getElem_cons_succ]
      refine wpAnyH_take (i := 15) (v := undef) rfl (by kernel_rfl) (by kernel_rfl) (by kernel_rfl) (fun _ _ _ h => h) (Or.inr ⟨by rfl, rfl⟩) (by assumption) ?_
      try simp only [Act.put, List.setIfInBounds_toArray, List.set_cons_zero, List.set_cons_succ, List.getElem_toArray, List.getElem_cons_zero, List.getElem_cons_succ]
      refine wpAnyH_take (i := 16) (v := undef) rfl (by kernel_rfl) (by kernel_rfl) (by kernel_rfl) (fun _ _ _ h => h) (Or.inr ⟨by rfl, rfl⟩) (by assumption) ?_
      try simp only [Act.put, List.setIfInBounds_toArray, List.set_cons_zero, List.set_cons_succ, List.getElem_toArray, List.getElem_cons_zero, List.getElem_cons_succ]
      refine wpAnyH_take (i := 17) (v := undef) rfl (by kernel_rfl) (by kernel_rfl) (by kernel_rfl) (fun _ _ _ h => h) (Or.inr ⟨by rfl, rfl⟩) (by assumption) ?_
      try simp only [Act.put, List.setIfInBounds_toArray, List.set_cons_zero, List.set_cons_succ, List.getElem_toArray, List.getElem_cons_zero, List.getElem_cons_succ]
      refine wpAnyH_take (i := 18) (v := undef) rfl (by kernel_rfl) (by kernel_rfl) (by kernel_rfl) (fun _ _ _ h => h) (Or.inr ⟨by rfl, rfl⟩) (by assumption) ?_
      try simp only [Act.put, List.setIfInBounds_toArray, List.set_cons_zero, List.set_cons_succ, List.getElem_toArray, List.getElem_cons_zero, List.getElem_cons_succ]
      refine wpAnyH_take (i := 19) (v := undef) rfl (by kernel_rfl) (by kernel_rfl) (by kernel_rfl) (fun _ _ _ h => h) (Or.inr ⟨by rfl, rfl⟩) (by assumption) ?_
      try simp only [Act.put, List.setIfInBounds_toArray, List.set_cons_zero, List.set_cons_succ, List.getElem_toArray, List.getElem_cons_zero, List.getElem_cons_succ]
      refine wpAnyH_take (i := 20) (v := undef) rfl (by kernel_rfl) (by kernel_rfl) (by kernel_rfl) (fun _ _ _ h => h) (Or.inr ⟨by rfl, rfl⟩) (by assumption) ?_
      try simp only [Act.put, List.setIfInBounds_toArray, List.set_cons_zero, List.set_cons_succ, List.getElem_toArray, List.getElem_cons_zero, List.getElem_cons_succ]
      refine wpAnyH_take (i := 21) (v := undef) rfl (by kernel_rfl) (by kernel_rfl) (by kernel_rfl) (fun _ _ _ h => h) (Or.inr ⟨by rfl, rfl⟩) (by assumption) ?_
      try simp only [Act.put, List.setIfInBounds_toArray, List.set_cons_zero, List.set_cons_succ, List.getElem_toArray, List.getElem_cons_zero, List.getElem_cons_succ]
      refine wpAnyH_take (i := 22) (v := undef) rfl (by kernel_rfl) (by kernel_rfl) (by kernel_rfl) (fun _ _ _ h => h) (Or.inr ⟨by rfl, rfl⟩) (by assumption) ?_
      try simp only [Act.put, List.setIfInBounds_toArray, List.set_cons_zero, List.set_cons_succ, List.getElem_toArray, List.getElem_cons_zero, List.getElem_cons_succ]
      refine wpAnyH_take (i := 23) (v := undef) rfl (by kernel_rfl) (by kernel_rfl) (by kernel_rfl) (fun _ _ _ h => h) (Or.inr ⟨by rfl, rfl⟩) (by assumption) ?_
      try simp only [Act.put, List.setIfInBounds_toArray, List.set_cons_zero, List.set_cons_succ, List.getElem_toArray, List.getElem_cons_zero, List.getElem_cons_succ]
      refine wpAnyH_take (i := 24) (v := ?va24) rfl (by kernel_rfl) (by kernel_rfl) (by kernel_rfl) (fun _ _ _ h => h) (Or.inl ⟨by rfl, ?ya24⟩) (by assumption) ?ra24
      case ya24 => (intro w hSw; (try dsimp only at hSw); go_simp; try with_reducible rfl)
      try simp only [Act.put, List.setIfInBounds_toArray, List.set_cons_zero, List.set_cons_succ, List.getElem_toArray, List.getElem_cons_zero, List.getElem_cons_succ]
      refine wpAnyH_take (i := 25) (v := ?va25) rfl (by kernel_rfl) (by kernel_rfl) (by kernel_rfl) (fun _ _ _ h => h) (Or.inl ⟨by rfl, ?ya25⟩) (by assumption) ?ra25
      case ya25 => (intro w hSw; (try dsimp only at hSw); go_simp; try with_reducible rfl)
      try simp only [Act.put, List.setIfInBounds_toArray, List.set_cons_zero, List.set_cons_succ, List.getElem_toArray, List.getElem_cons_zero, List.getElem_cons_succ]
      refine wpAnyH_take (i := 26) (v := ?va26) rfl (by kernel_rfl) (by kernel_rfl) (by kernel_rfl) (fun _ _ _ h => h) (Or.inl ⟨by rfl, ?ya26⟩) (by assumption) ?ra26
      case ya26 => (intro w hSw; (try dsimp only at hSw); go_simp; try with_reducible rfl)
      try simp only [Act.put, List.setIfInBounds_toArray, List.set_cons_zero, List.set_cons_succ, List.getElem_toArray, List.getElem_cons_zero, List.getElem_cons_succ]
      refine wpAnyH_take (i := 27) (v := ?va27) rfl (by kernel_rfl) (by kernel_rfl) (by kernel_rfl) (fun _ _ _ h => h) (Or.inl ⟨by rfl, ?ya27⟩) (by assumption) ?ra27
      case ya27 => (intro w hSw; (try dsimp only at hSw); go_simp; try with_reducible rfl)
      try simp only [Act.put, List.setIfInBounds_toArray, List.set_cons_zero, List.set_cons_succ, List.getElem_toArray, List.getElem_cons_zero, List.getElem_cons_succ]
      refine wpAnyH_ready (rs := [28]) (by kernel_rfl) (by simp) ?_
      refine AllReadyH.cons rfl (fun K hK => ?_) AllReadyH.nil
      go_simp
      go_at_call 17
      refine (hcm _ (bstep (HBD.out) q1)).mono ?_
      rintro e v2 ⟨rfl, q2⟩
      have g2 := keep9 q2 g1
      go_wp2_with fail
      refine hK.out _ _ (g2) (fun hHeld => ?_)
      clear hK K
      try simp only [Act.put, List.setIfInBounds_toArray, List.set_cons_zero, List.set_cons_succ, List.getElem_toArray, List.getElem_cons_zero, List.getElem_cons_succ]
      refine wpAnyH_take (i := 29) (v := ?va29) rfl (by kernel_rfl) (by kernel_rfl) (by kernel_rfl) (fun _ _ _ h => h) (Or.inl ⟨by rfl, ?ya29⟩) (by assumption) ?ra29
      case ya29 => (intro w hSw; (try dsimp only at hSw); go_simp; try with_reducible rfl)
      try simp only [Act.put, List.setIfInBounds_toArray, List.set_cons_zero, List.set_cons_succ, List.getElem_toArray, List.getElem_cons_zero, List.getElem_cons_succ]
      refine wpAnyH_take (i := 30) (v := ?va30) rfl (by kernel_rfl) (by kernel_rfl) (by kernel_rfl) (fun _ _ _ h => h) (Or.inl ⟨by rfl, ?ya30⟩) (by assumption) ?ra30
      case ya30 => (intro w hSw; (try dsimp only at hSw); go_simp; try with_reducible rfl)
      try simp only [Act.put, List.setIfInBounds_toArray, List.set_cons_zero, List.set_cons_succ, List.getElem_toArray, List.getElem_cons_zero, List.getElem_cons_succ]
      refine wpAnyH_take (i := 31) (v := ?va31) rfl (by kernel_rfl) (by kernel_rfl) (by kernel_rfl) (fun _ _ _ h => h) (Or.inl ⟨by rfl, ?ya31⟩) (by assumption) ?ra31
      case ya31 => (intro w hSw; (try dsimp only at hSw); go_simp; try with_reducible rfl)
      try simp only [Act.put, List.setIfInBounds_toArray, List.set_cons_zero, List.set_cons_succ, List.getElem_toArray, List.getElem_cons_zero, List.getElem_cons_succ]
      refine wpAnyH_take (i := 32) (v := ?va32) rfl (by kernel_rfl) (by kernel_rfl) (by kernel_rfl) (fun _ _ _ h => h) (Or.inl ⟨by rfl, ?ya32⟩) (by assumption) ?ra32
      case ya32 => (intro w hSw; (try dsimp only at hSw); go_simp; try with_reducible rfl)
      try simp only [Act.put, List.setIfInBounds_toArray, List.set_cons_zero, List.set_cons_succ, List.getElem_toArray, List.getElem_cons_zero, List.getElem_cons_succ]
      refine wpAnyH_ready (rs := [33]) (by kernel_rfl) (by simp) ?_
      refine AllReadyH.cons rfl (fun K hK => ?_) AllReadyH.nil
      go_simp
      go_at_call 17
      refine (hcy _ (bstep (bstep (HBD.out) q1) q2)).mono ?_
      rintro e v3 ⟨rfl, q3⟩
      have g3 := keep9 q3 g2
      go_wp2_with fail
      refine hK.out _ _ (g3) (fun hHeld => ?_)
      clear hK K
      try simp only [Act.put, List.setIfInBounds_toArray, List.set_cons_zero, List.set_cons_succ, List.getElem_toArray, List.getElem_cons_zero, List.getElem_cons_succ]
      refine wpAnyH_take (i := 34) (v := ?va34) rfl (by kernel_rfl) (by kernel_rfl) (by kernel_rfl) (fun _ _ _ h => h) (Or.inl ⟨by rfl, ?ya34⟩) (by assumption) ?ra34
      case ya34 => (intro w hSw; (try dsimp only at hSw); go_simp; try with_reducible rfl)
      try simp only [Act.put, List.setIfInBounds_toArray, List.set_cons_zero, List.set_cons_succ, List.getElem_toArray, List.getElem_cons_zero, List.getElem_cons_succ]
      refine wpAnyH_take (i := 35) (v := ?va35) rfl (by kernel_rfl) (by kernel_rfl) (by kernel_rfl) (fun _ _ _ h => h) (Or.inl ⟨by rfl, ?ya35⟩) (by assumption) ?ra35
      case ya35 => (intro w hSw; (try dsimp only at hSw); go_simp; try with_reducible rfl)
      try simp only [Act.put, List.setIfInBounds_toArray, List.set_cons_zero, List.set_cons_succ, List.getElem_toArray, List.getElem_cons_zero, List.getElem_cons_succ]
      refine wpAnyH_take (i := 36) (v := ?va36) rfl (by kernel_rfl) (by kernel_rfl) (by kernel_rfl) (fun _ _ _ h => h) (Or.inl ⟨by rfl, ?ya36⟩) (by assumption) ?ra36
      case ya36 => (intro w hSw; (try dsimp only at hSw); go_simp; try with_reducible rfl)
      try simp only [Act.put, List.setIfInBounds_toArray, List.set_cons_zero, List.set_cons_succ, List.getElem_toArray, List.getElem_cons_zero, List.getElem_cons_succ]
      refine wpAnyH_take (i := 37) (v := ?va37) rfl (by kernel_rfl) (by kernel_rfl) (by kernel_rfl) (fun _ _ _ h => h) (Or.inl ⟨by rfl, ?ya37⟩) (by assumption) ?ra37
      case ya37 => (intro w hSw; (try dsimp only at hSw); go_simp; try with_reducible rfl)
      try simp only [Act.put, List.setIfInBounds_toArray, List.set_cons_zero, List.set_cons_succ, List.getElem_toArray, List.getElem_cons_zero, List.getElem_cons_succ]
      refine wpAnyH_ready (rs := [38]) (by kernel_rfl) (by simp) ?_
      refine AllReadyH.cons rfl (fun K hK => ?_) AllReadyH.nil
      go_simp
      go_at_call 17
      refine (hck _ (bstep (bstep (bstep (HBD.out) q1) q2) q3)).mono ?_
      rintro e v4 ⟨rfl, q4⟩
      have g4 := keep9 q4 g3
      go_wp2_with fail
      refine hK.out _ _ (g4) (fun hHeld => ?_)
      clear hK K
      try simp only [Act.put, List.setIfInBounds_toArray, List.set_cons_zero, List.set_cons_succ, List.getElem_toArray, List.getElem_cons_zero, List.getElem_cons_succ]
      refine wpAnyH_take (i := 39) (v := ?va39) rfl (by kernel_rfl) (by kernel_rfl) (by kernel_rfl) (fun _ _ _ h => h) (Or.inl ⟨by rfl, ?ya39⟩) (by assumption) ?ra39
      case ya39 => (intro w hSw; (try dsimp only at hSw); go_simp; try with_reducible rfl)
      try simp only [Act.put, List.setIfInBounds_toArray, List.set_cons_zero, List.set_cons_succ, List.getElem_toArray, List.getElem_cons_zero, List.getElem_cons_succ]
      refine wpAnyH_take (i := 40) (v := ?va40) rfl (by kernel_rfl) (by kernel_rfl) (by kernel_rfl) (fun _ _ _ h => h) (Or.inl ⟨by rfl, ?ya40⟩) (by assumption) ?ra40
      case ya40 => (intro w hSw; (try dsimp only at hSw); go_simp; try with_reducible rfl)
      try simp only [Act.put, List.setIfInBounds_toArray, List.set_cons_zero, List.set_cons_succ, List.getElem_toArray, List.getElem_cons_zero, List.getElem_cons_succ]
      refine wpAnyH_take (i := 41) (v := ?va41) rfl (by kernel_rfl) (by kernel_rfl) (by kernel_rfl) (fun _ _ _ h => h) (Or.inl ⟨by rfl, ?ya41⟩) (by assumption) ?ra41
      case ya41 => (intro w hSw; (try dsimp only at hSw); go_simp; try with_reducible rfl)
      try simp only [Act.put, List.setIfInBounds_toArray, List.set_cons_zero, List.set_cons_succ, List.getElem_toArray, List.getElem_cons_zero, List.getElem_cons_succ]
      refine wpAnyH_take (i := 42) (v := ?va42) rfl (by kernel_rfl) (by kernel_rfl) (by kernel_rfl) (fun _ _ _ h => h) (Or.inl ⟨by rfl, ?ya42⟩) (by assumption) ?ra42
      case ya42 => (intro w hSw; (try dsimp only at hSw); go_simp; try with_reducible rfl)
      try simp only [Act.put, List.setIfInBounds_toArray, List.set_cons_zero, List.set_cons_succ, List.getElem_toArray, List.getElem_cons_zero, List.getElem_cons_succ]
      refine wpAnyH_ready (rs := [43]) (by kernel_rfl) (by simp) ?_
      refine AllReadyH.cons rfl (fun K hK => ?_) AllReadyH.nil
      go_simp
      go_at_call 20
      refine (hom _ (bstep (bstep (bstep (bstep (HBD.out) q1) q2) q3) q4)).mono ?_
      rintro e v5 ⟨rfl, q5⟩
      have g5 := keep9 q5 g4
      go_wp2_with fail
      refine hK.out _ _ (g5) (fun hHeld => ?_)
      clear hK K
      try simp only [Act.put, List.setIfInBounds_toArray, List.set_cons_zero, List.set_cons_succ, List.getElem_toArray, List.getElem_cons_zero, List.getElem_cons_succ]
      refine wpAnyH_take (i := 44) (v := ?va44) rfl (by kernel_rfl) (by kernel_rfl) (by kernel_rfl) (fun _ _ _ h => h) (Or.inl ⟨by rfl, ?ya44⟩) (by assumption) ?ra44
      case ya44 => (intro w hSw; (try dsimp only at hSw); go_simp; try with_reducible rfl)
      try simp only [Act.put, List.setIfInBounds_toArray, List.set_cons_zero, List.set_cons_succ, List.getElem_toArray, List.getElem_cons_zero, List.getElem_cons_succ]
      refine wpAnyH_take (i := 45) (v := ?va45) rfl (by kernel_rfl) (by kernel_rfl) (by kernel_rfl) (fun _ _ _ h => h) (Or.inl ⟨by rfl, ?ya45⟩) (by assumption) ?ra45
      case ya45 => (intro w hSw; (try dsimp only at hSw); go_simp; try with_reducible rfl)
      try simp only [Act.put, List.setIfInBounds_toArray, List.set_cons_zero, List.set_cons_succ, List.getElem_toArray, List.getElem_cons_zero, List.getElem_cons_succ]
      refine wpAnyH_take (i := 46) (v := ?va46) rfl (by kernel_rfl) (by kernel_rfl) (by kernel_rfl) (fun _ _ _ h => h) (Or.inl ⟨by rfl, ?ya46⟩) (by assumption) ?ra46
      case ya46 => (intro w hSw; (try dsimp only at hSw); go_simp; try with_reducible rfl)
      try simp only [Act.put, List.setIfInBounds_toArray, List.set_cons_zero, List.set_cons_succ, List.getElem_toArray, List.getElem_cons_zero, List.getElem_cons_succ]
      refine wpAnyH_take (i := 47) (v := ?va47) rfl (by kernel_rfl) (by kernel_rfl) (by kernel_rfl) (fun _ _ _ h => h) (Or.inl ⟨by rfl, ?ya47⟩) (by assumption) ?ra47
      case ya47 => (intro w hSw; (try dsimp only at hSw); go_simp; try with_reducible rfl)
      try simp only [Act.put, List.setIfInBounds_toArray, List.set_cons_zero, List.set_cons_succ, List.getElem_toArray, List.getElem_cons_zero, List.getElem_cons_succ]
      refine wpAnyH_take (i := 48) (v := ?va48) rfl (by kernel_rfl) (by kernel_rfl) (by kernel_rfl) (fun _ _ _ h => h) (Or.inl ⟨by rfl, ?ya48⟩) (by assumption) ?ra48
      case ya48 => (intro w hSw; (try dsimp only at hSw); go_simp; try with_reducible rfl)
      try simp only [Act.put, List.setIfInBounds_toArray, List.set_cons_zero, List.set_cons_succ, List.getElem_toArray, List.getElem_cons_zero, List.getElem_cons_succ]
      refine wpAnyH_ready (rs := [49]) (by kernel_rfl) (by simp) ?_
      refine AllReadyH.cons rfl (fun K hK => ?_) AllReadyH.nil
      go_simp
      go_at_call 24
      refine (hfy _ (bstep (bstep (bstep (bstep (bstep (HBD.out) q1) q2) q3) q4) q5)).mono ?_
      rintro e v6 ⟨rfl, q6⟩
      have g6 := keep9 q6 g5
      go_wp2_with fail
      refine hK.out _ _ (g6) (fun hHeld => ?_)
      clear hK K
      try simp only [Act.put, List.setIfInBounds_toArray, List.set_cons_zero, List.set_cons_succ, List.getElem_toArray, List.getElem_cons_zero, List.getElem_cons_succ]
      refine wpAnyH_take (i := 50) (v := ?va50) rfl (by kernel_rfl) (by kernel_rfl) (by kernel_rfl) (fun _ _ _ h => h) (Or.inl ⟨by rfl, ?ya50⟩) (by assumption) ?ra50
      case ya50 => (intro w hSw; (try dsimp only at hSw); go_simp; try with_reducible rfl)
      try simp only [Act.put, List.setIfInBounds_toArray, List.set_cons_zero, List.set_cons_succ, List.getElem_toArray, List.getElem_cons_zero, List.getElem_cons_succ]
      refine wpAnyH_take (i := 51) (v := ?va51) rfl (by kernel_rfl) (by kernel_rfl) (by kernel_rfl) (fun _ _ _ h => h) (Or.inl ⟨by rfl, ?ya51⟩) (by assumption) ?ra51
      case ya51 => (intro w hSw; (try dsimp only at hSw); go_simp; try with_reducible rfl)
      try simp only [Act.put, List.setIfInBounds_toArray, List.set_cons_zero, List.set_cons_succ, List.getElem_toArray, List.getElem_cons_zero, List.getElem_cons_succ]
      refine wpAnyH_take (i := 52) (v := ?va52) rfl (by kernel_rfl) (by kernel_rfl) (by kernel_rfl) (fun _ _ _ h => h) (Or.inl ⟨by rfl, ?ya52⟩) (by assumption) ?ra52
      case ya52 => (intro w hSw; (try dsimp only at hSw); go_simp; try with_reducible rfl)
      try simp only [Act.put, List.setIfInBounds_toArray, List.set_cons_zero, List.set_cons_succ, List.getElem_toArray, List.getElem_cons_zero, List.getElem_cons_succ]
      refine wpAnyH_done (by kernel_rfl) ?_ _
      go_wp2
      go_ret
      exact ⟨rfl, bstep HB8.out (bstep (bstep (bstep (bstep (bstep (bstep (HBD.out) q1) q2) q3) q4) q5) q6)⟩
    | false =>
      have hn : site < 0 ∨ (c.pa.length : Int) ≤ site := by
        have h := HTH.out
        have h2 : ¬ (0 ≤ site ∧ site < (c.pa.length : Int)) := of_decide_eq_false h.symm
        omega
      replace hos := hos hn
      replace hrg := hrg hn
      clear hn HTH
      go_wp2_with fail
      refine wp_region_held_drew (S := fun w' => w'.cell? ⟨wS.heap.size, 0, none⟩ = some (.slice x0 c.rs.length y0) ∧ w'.cell? ⟨wS.heap.size, 1, none⟩ = some (.slice x1 c.ow.length y1) ∧ w'.cell? ⟨wS.heap.size, 2, none⟩ = some (.slice x2 c.pa.length y2) ∧ w'.cell? ⟨wv.heap.size, 0, none⟩ = some (.slice x0 c.rs.length y0) ∧ w'.cell? ⟨wv.heap.size, 1, none⟩ = some (.slice z1 (c.ow.length + 1) z2) ∧ w'.cell? ⟨wv.heap.size, 2, none⟩ = some (.slice x2 c.pa.length y2) ∧ w'.cell? ⟨w6.heap.size, 0, none⟩ = some (.slice x0 c.rs.length y0) ∧ w'.cell? ⟨w6.heap.size, 1, none⟩ = some (.slice x1 c.ow.length y1) ∧ w'.cell? ⟨w6.heap.size, 2, none⟩ = some (.slice (some ⟨w6.heap.size + 1, 0, none⟩) 7 7)) (by kernel_rfl) (gA) (fun hHeld => ?_)
      refine wpAnyH_take (i := 0) (v := ?vb0) rfl (by kernel_rfl) (by kernel_rfl) (by kernel_rfl) (fun _ _ _ h => h) (Or.inl ⟨by rfl, ?yb0⟩) (by assumption) ?rb0
      case yb0 => (intro w hSw; (try dsimp only at hSw); go_simp; try with_reducible rfl)
      try simp only [Act.put, List.setIfInBounds_toArray, List.set_cons_zero, List.set_cons_succ, List.getElem_toArray, List.getElem_cons_zero, List.getElem_cons_succ]
      refine wpAnyH_take (i := 1) (v := ?vb1) rfl (by kernel_rfl) (by kernel_rfl) (by kernel_rfl) (fun _ _ _ h => h) (Or.inl ⟨by rfl, ?yb1⟩) (by assumption) ?rb1
      case yb1 => (intro w hSw; (try dsimp only at hSw); go_simp; try with_reducible rfl)
      try simp only [Act.put, List.setIfInBounds_toArray, List.set_cons_zero, List.set_cons_succ, List.getElem_toArray, List.getElem_cons_zero, List.getElem_cons_succ]
      refine wpAnyH_take (i := 2) (v := ?vb2) rfl (by kernel_rfl) (by kernel_rfl) (by kernel_rfl) (fun _ _ _ h => h) (Or.inl ⟨by rfl, ?yb2⟩) (by assumption) ?rb2
      case yb2 => (intro w hSw; (try dsimp only at hSw); go_simp; try with_reducible rfl)
      try simp only [Act.put, List.setIfInBounds_toArray, List.set_cons_zero, List.set_cons_succ, List.getElem_toArray, List.getElem_cons_zero, List.getElem_cons_succ]
      refine wpAnyH_take (i := 4) (v := ?vb4) rfl (by kernel_rfl) (by kernel_rfl) (by kernel_rfl) (fun _ _ _ h => h) (Or.inl ⟨by rfl, ?yb4⟩) (by assumption) ?rb4
      case yb4 => (intro w hSw; (try dsimp only at hSw); go_simp; try with_reducible rfl)
      try simp only [Act.put, List.setIfInBounds_toArray, List.set_cons_zero, List.set_cons_succ, List.getElem_toArray, List.getElem_cons_zero, List.getElem_cons_succ]
      refine wpAnyH_take (i := 5) (v := ?vb5) rfl (by kernel_rfl) (by kernel_rfl) (by kernel_rfl) (fun _ _ _ h => h) (Or.inl ⟨by rfl, ?yb5⟩) (by assumption) ?rb5
      case yb5 => (intro w hSw; (try dsimp only at hSw); go_simp; try with_reducible rfl)
      try simp only [Act.put, List.setIfInBounds_toArray, List.set_cons_zero, List.set_cons_succ, List.getElem_toArray, List.getElem_cons_zero, List.getElem_cons_succ]
      refine wpAnyH_take (i := 6) (v := ?vb6) rfl (by kernel_rfl) (by kernel_rfl) (by kernel_rfl) (fun _ _ _ h => h) (Or.inl ⟨by rfl, ?yb6⟩) (by assumption) ?rb6
      case yb6 => (intro w hSw; (try dsimp only at hSw); go_simp; try with_reducible rfl)
      try simp only [Act.put, List.setIfInBounds_toArray, List.set_cons_zero, List.set_cons_succ, List.getElem_toArray, List.getElem_cons_zero, List.getElem_cons_succ]
      refine wpAnyH_ready (rs := [3]) (by kernel_rfl) (by simp) ?_
      refine AllReadyH.cons rfl (fun K hK => ?_) AllReadyH.nil
      go_simp
      go_at_call 19
      refine (hst _ (HBD.out)).mono ?_
      rintro e v1 ⟨rfl, q1⟩
      have g1 := keep9 q1 gA
      go_wp2_with fail
      refine hK.out _ _ (g1) (fun hHeld => ?_)
      clear hK K
      try simp only [Act.put, List.setIfInBounds_toArray, List.set_cons_zero, List.set_cons_succ, List.getElem_toArray, List.getElem_cons_zero, List.getElem_cons_succ]
      refine wpAnyH_take (i := 7) (v := ?vb7) rfl (by kernel_rfl) (by kernel_rfl) (by kernel_rfl) (fun _ _ _ h => h) (Or.inl ⟨by rfl, ?yb7⟩) (by assumption) ?rb7
      case yb7 => (intro w hSw; (try dsimp only at hSw); go_simp; try with_reducible rfl)
      try simp only [Act.put, List.setIfInBounds_toArray, List.set_cons_zero, List.set_cons_succ, List.getElem_toArray, List.getElem_cons_zero, List.getElem_cons_succ]
      refine wpAnyH_take (i := 8) (v := ?vb8) rfl (by kernel_rfl) (by kernel_rfl) (by kernel_rfl) (fun _ _ _ h => h) (Or.inl ⟨by rfl, ?yb8⟩) (by assumption) ?rb8
      case yb8 => (intro w hSw; (try dsimp only at hSw); go_simp; try with_reducible rfl)
      try simp only [Act.put, List.setIfInBounds_toArray, List.set_cons_zero, List.set_cons_succ, List.getElem_toArray, List.getElem_cons_zero, List.getElem_cons_succ]
      refine wpAnyH_take (i := 9) (v := ?vb9) rfl (by kernel_rfl) (by kernel_rfl) (by kernel_rfl) (fun _ _ _ h => h) (Or.inl ⟨by rfl, ?yb9⟩) (by assumption) ?rb9
      case yb9 => (intro w hSw; (try dsimp only at hSw); go_simp; try with_reducible rfl)
      try simp only [Act.put, List.setIfInBounds_toArray, List.set_cons_zero, List.set_cons_succ, List.getElem_toArray, List.getElem_cons_zero, List.getElem_cons_succ]
      refine wpAnyH_take (i := 10) (v := ?vb10) rfl (by kernel_rfl) (by kernel_rfl) (by kernel_rfl) (fun _ _ _ h => h) (Or.inl ⟨by rfl, ?yb10⟩) (by assumption) ?rb10
      case yb10 => (intro w hSw; (try dsimp only at hSw); go_simp; try with_reducible rfl)
      try simp only [Act.put, List.setIfInBounds_toArray, List.set_cons_zero, List.set_cons_succ, List.getElem_toArray, List.getElem_cons_zero, List.getElem_cons_succ]
      refine wpAnyH_take (i := 11) (v := ?vb11) rfl (by kernel_rfl) (by kernel_rfl) (by kernel_rfl) (fun _ _ _ h => h) (Or.inl ⟨by rfl, ?yb11⟩) (by assumption) ?rb11
      case yb11 => (intro w hSw; (try dsimp only at hSw); go_simp; try with_reducible rfl)
      try simp only [Act.put, List.setIfInBounds_toArray, List.set_cons_zero, List.set_cons_succ, List.getElem_toArray, List.getElem_cons_zero, List.getElem_cons_succ]
      refine wpAnyH_take (i := 12) (v := ?vb12) rfl (by kernel_rfl) (by kernel_rfl) (by kernel_rfl) (fun _ _ _ h => h) (Or.inl ⟨by rfl, ?yb12⟩) (by assumption) ?rb12
      case yb12 => (intro w hSw; (try dsimp only at hSw); go_simp; try with_reducible rfl)
      try simp only [Act.put, List.setIfInBounds_toArray, List.set_cons_zero, List.set_cons_succ, List.getElem_toArray, List.getElem_cons_zero, List.getElem_cons_succ]
      refine wpAnyH_take (i := 13) (v := ?vb13) rfl (by kernel_rfl) (by kernel_rfl) (by kernel_rfl) (fun _ _ _ h => h) (Or.inl ⟨by rfl, ?yb13⟩) (by assumption) ?rb13
      case yb13 => (intro w hSw; (try dsimp only at hSw); go_simp; try with_reducible rfl)
      try simp only [Act.put, List.setIfInBounds_toArray, List.set_cons_zero, List.set_cons_succ, List.getElem_toArray, List.getElem_cons_zero, List.getElem_cons_succ]
      refine wpAnyH_take (i := 14) (v := ?vb14) rfl (by kernel_rfl) (by kernel_rfl) (by kernel_rfl) (fun _ _ _ h => h) (Or.inl ⟨by rfl, ?yb14⟩) (by assumption) ?rb14
      case yb14 => (intro w hSw; (try dsimp only at hSw); go_simp; try with_reducible rfl)
      try simp only [Act.put, List.setIfInBounds_toArray, List.set_cons_zero, List.set_cons_succ, List.getElem_toArray, List.getElem_cons_zero, List.getElem_cons_succ]
      refine wpAnyH_ready (rs := [15]) (by kernel_rfl) (by simp) ?_
      refine AllReadyH.cons rfl (fun K hK => ?_) AllReadyH.nil
      go_simp
      go_at_call 22
      refine (hos _ (bstep (HBD.out) q1)).mono ?_
      rintro e v2 ⟨rfl, q2⟩
      have g2 := keep9 q2 g1
      go_wp2_with fail
      refine hK.out _ _ (g2) (fun hHeld => ?_)
      clear hK K
      try simp only [Act.put, List.setIfInBounds_toArray, List.set_cons_zero, List.set_cons_succ, List.getElem_toArray, List.getElem_cons_zero, List.getElem_cons_succ]
      refine wpAnyH_take (i := 16) (v := ?vb16) rfl (by kernel_rfl) (by kernel_rfl) (by kernel_rfl) (fun _ _ _ h => h) (Or.inl ⟨by rfl, ?yb16⟩) (by assumption) ?rb16
      case yb16 => (intro w hSw; (try dsimp only at hSw); go_simp; try with_reducible rfl)
      try simp only [Act.put, List.setIfInBounds_toArray, List.set_cons_zero, List.set_cons_succ, List.getElem_toArray, List.getElem_cons_zero, List.getElem_cons_succ]
      refine wpAnyH_take (i := 17) (v := ?vb17) rfl (by kernel_rfl) (by kernel_rfl) (by kernel_rfl) (fun _ _ _ h => h) (Or.inl ⟨by rfl, ?yb17⟩) (by assumption) ?rb17
      case yb17 => (intro w hSw; (try dsimp only at hSw); go_simp; try with_reducible rfl)
      try simp only [Act.put, List.setIfInBounds_toArray, List.set_cons_zero, List.set_cons_succ, List.getElem_toArray, List.getElem_cons_zero, List.getElem_cons_succ]
      refine wpAnyH_take (i := 18) (v := ?vb18) rfl (by kernel_rfl) (by kernel_rfl) (by kernel_rfl) (fun _ _ _ h => h) (Or.inl ⟨by rfl, ?yb18⟩) (by assumption) ?rb18
      case yb18 => (intro w hSw; (try dsimp only at hSw); go_simp; try with_reducible rfl)
      try simp only [Act.put, List.setIfInBounds_toArray, List.set_cons_zero, List.set_cons_succ, List.getElem_toArray, List.getElem_cons_zero, List.getElem_cons_succ]
      refine wpAnyH_take (i := 19) (v := ?vb19) rfl (by kernel_rfl) (by kernel_rfl) (by kernel_rfl) (fun _ _ _ h => h) (Or.inl ⟨by rfl, ?yb19⟩) (by assumption) ?rb19
      case yb19 => (intro w hSw; (try dsimp only at hSw); go_simp; try with_reducible rfl)
      try simp only [Act.put, List.setIfInBounds_toArray, List.set_cons_zero, List.set_cons_succ, List.getElem_toArray, List.getElem_cons_zero, List.getElem_cons_succ]
      refine wpAnyH_ready (rs := [20]) (by kernel_rfl) (by simp) ?_
      refine AllReadyH.cons rfl (fun K hK => ?_) AllReadyH.nil
      go_simp
      go_at_call 15
      refine (hrg _ (bstep (bstep (HBD.out) q1) q2)).mono ?_
      rintro e v3 ⟨⟨ra, rc, rfl⟩, q3⟩
      have g3 := keep9 q3 g2
      go_wp2_with fail
      refine hK.out _ _ (g3) (fun hHeld => ?_)
      clear hK K
      try simp only [Act.put, List.setIfInBounds_toArray, List.set_cons_zero, List.set_cons_succ, List.getElem_toArray, List.getElem_cons_zero, List.getElem_cons_succ]
      refine wpAnyH_take (i := 21) (v := ?vb21) rfl (by kernel_rfl) (by kernel_rfl) (by kernel_rfl) (fun _ _ _ h => h) (Or.inl ⟨by rfl, ?yb21⟩) (by assumption) ?rb21
      case yb21 => (intro w hSw; (try dsimp only at hSw); go_simp; try with_reducible rfl)
      try simp only [Act.put, List.setIfInBounds_toArray, List.set_cons_zero, List.set_cons_succ, List.getElem_toArray, List.getElem_cons_zero, List.getElem_cons_succ]
      refine wpAnyH_take (i := 22) (v := ?vb22) rfl (by kernel_rfl) (by kernel_rfl) (by kernel_rfl) (fun _ _ _ h => h) (Or.inl ⟨by rfl, ?yb22⟩) (by assumption) ?rb22
      case yb22 => (intro w hSw; (try dsimp only at hSw); go_simp; try with_reducible rfl)
      try simp only [Act.put, List.setIfInBounds_toArray, List.set_cons_zero, List.set_cons_succ, List.getElem_toArray, List.getElem_cons_zero, List.getElem_cons_succ]
      refine wpAnyH_take (i := 23) (v := ?vb23) rfl (by kernel_rfl) (by kernel_rfl) (by kernel_rfl) (fun _ _ _ h => h) (Or.inl ⟨by rfl, ?yb23⟩) (by assumption) ?rb23
      case yb23 => (intro w hSw; (try dsimp only at hSw); go_simp; try with_reducible rfl)
      try simp only [Act.put, List.setIfInBounds_toArray, List.set_cons_zero, List.set_cons_succ, List.getElem_toArray, List.getElem_cons_zero, List.getElem_cons_succ]
      refine wpAnyH_take (i := 24) (v := ?vb24) rfl (by kernel_rfl) (by kernel_rfl) (by kernel_rfl) (fun _ _ _ h => h) (Or.inl ⟨by rfl, ?yb24⟩) (by assumption) ?rb24
      case yb24 => (intro w hSw; (try dsimp only at hSw); go_simp; try with_reducible rfl)
      try simp only [Act.put, List.setIfInBounds_toArray, List.set_cons_zero, List.set_cons_succ, List.getElem_toArray, List.getElem_cons_zero, List.getElem_cons_succ]
      refine wpAnyH_take (i := 25) (v := ?vb25) rfl (by kernel_rfl) (by kernel_rfl) (by kernel_rfl) (fun _ _ _ h => h) (Or.inl ⟨by rfl, ?yb25⟩) (by assumption) ?rb25
      case yb25 => (intro w hSw; (try dsimp only at hSw); go_simp; try with_reducible rfl)
      try simp only [Act.put, List.setIfInBounds_toArray, List.set_cons_zero, List.set_cons_succ, List.getElem_toArray, List.getElem_cons_zero, List.getElem_cons_succ]
      refine wpAnyH_take (i := 26) (v := ?vb26) rfl (by kernel_rfl) (by kernel_rfl) (by kernel_rfl) (fun _ _ _ h => h) (Or.inl ⟨by rfl, ?yb26⟩) (by assumption) ?rb26
      case yb26 => (intro w hSw; (try dsimp only at hSw); go_simp; try with_reducible rfl)
      try simp only [Act.put, List.setIfInBounds_toArray, List.set_cons_zero, List.set_cons_succ, List.getElem_toArray, List.getElem_cons_zero, List.getElem_cons_succ]
      refine wpAnyH_take (i := 27) (v := ?vb27) rfl (by kernel_rfl) (by kernel_rfl) (by kernel_rfl) (fun _ _ _ h => h) (Or.inl ⟨by rfl, ?yb27⟩) (by assumption) ?rb27
      case yb27 => (intro w hSw; (try dsimp only at hSw); go_simp; try with_reducible rfl)
      try simp only [Act.put, List.setIfInBounds_toArray, List.set_cons_zero, List.set_cons_succ, List.getElem_toArray, List.getElem_cons_zero, List.getElem_cons_succ]
      refine wpAnyH_ready (rs := [28]) (by kernel_rfl) (by simp) ?_
      refine AllReadyH.cons rfl (fun K hK => ?_) AllReadyH.nil
      go_simp
      go_at_call 17
      refine (hcm _ (bstep (bstep (bstep (HBD.out) q1) q2) q3)).mono ?_
      rintro e v4 ⟨rfl, q4⟩
      have g4 := keep9 q4 g3
      go_wp2_with fail
      refine hK.out _ _ (g4) (fun hHeld => ?_)
      clear hK K
      try simp only [Act.put, List.setIfInBounds_toArray, List.set_cons_zero, List.set_cons_succ, List.getElem_toArray, List.getElem_cons_zero, List.getElem_cons_succ]
      refine wpAnyH_take (i := 29) (v := ?vb29) rfl (by kernel_rfl) (by kernel_rfl) (by kernel_rfl) (fun _ _ _ h => h) (Or.inl ⟨by rfl, ?yb29⟩) (by assumption) ?rb29
      case yb29 => (intro w hSw; (try dsimp only at hSw); go_simp; try with_reducible rfl)
      try simp only [Act.put, List.setIfInBounds_toArray, List.set_cons_zero, List.set_cons_succ, List.getElem_toArray, List.getElem_cons_zero, List.getElem_cons_succ]
      refine wpAnyH_take (i := 30) (v := ?vb30) rfl (by kernel_rfl) (by kernel_rfl) (by kernel_rfl) (fun _ _ _ h => h) (Or.inl ⟨by rfl, ?yb30⟩) (by assumption) ?rb30
      case yb30 => (intro w hSw; (try dsimp only at hSw); go_simp; try with_reducible rfl)
      try simp only [Act.put, List.setIfInBounds_toArray, List.set_cons_zero, List.set_cons_succ, List.getElem_toArray, List.getElem_cons_zero, List.getElem_cons_succ]
      refine wpAnyH_take (i := 31) (v := ?vb31) rfl (by kernel_rfl) (by kernel_rfl) (by kernel_rfl) (fun _ _ _ h => h) (Or.inl ⟨by rfl, ?yb31⟩) (by assumption) ?rb31
      case yb31 => (intro w hSw; (try dsimp only at hSw); go_simp; try with_reducible rfl)
      try simp only [Act.put, List.setIfInBounds_toArray, List.set_cons_zero, List.set_cons_succ, List.getElem_toArray, List.getElem_cons_zero, List.getElem_cons_succ]
      refine wpAnyH_take (i := 32) (v := ?vb32) rfl (by kernel_rfl) (by kernel_rfl) (by kernel_rfl) (fun _ _ _ h => h) (Or.inl ⟨by rfl, ?yb32⟩) (by assumption) ?rb32
      case yb32 => (intro w hSw; (try dsimp only at hSw); go_simp; try with_reducible rfl)
      try simp only [Act.put, List.setIfInBounds_toArray, List.set_cons_zero, List.set_cons_succ, List.getElem_toArray, List.getElem_cons_zero, List.getElem_cons_succ]
      refine wpAnyH_ready (rs := [33]) (by kernel_rfl) (by simp) ?_
      refine AllReadyH.cons rfl (fun K hK => ?_) AllReadyH.nil
      go_simp
      go_at_call 17
      refine (hcy _ (bstep (bstep (bstep (bstep (HBD.out) q1) q2) q3) q4)).mono ?_
      rintro e v5 ⟨rfl, q5⟩
      have g5 := keep9 q5 g4
      go_wp2_with fail
      refine hK.out _ _ (g5) (fun hHeld => ?_)
      clear hK K
      try simp only [Act.put, List.setIfInBounds_toArray, List.set_cons_zero, List.set_cons_succ, List.getElem_toArray, List.getElem_cons_zero, List.getElem_cons_succ]
      refine wpAnyH_take (i := 34) (v := ?vb34) rfl (by kernel_rfl) (by kernel_rfl) (by kernel_rfl) (fun _ _ _ h => h) (Or.inl ⟨by rfl, ?yb34⟩) (by assumption) ?rb34
      case yb34 => (intro w hSw; (try dsimp only at hSw); go_simp; try with_reducible rfl)
      try simp only [Act.put, List.setIfInBounds_toArray, List.set_cons_zero, List.set_cons_succ, List.getElem_toArray, List.getElem_cons_zero, List.getElem_cons_succ]
      refine wpAnyH_take (i := 35) (v := ?vb35) rfl (by kernel_rfl) (by kernel_rfl) (by kernel_rfl) (fun _ _ _ h => h) (Or.inl ⟨by rfl, ?yb35⟩) (by assumption) ?rb35
      case yb35 => (intro w hSw; (try dsimp only at hSw); go_simp; try with_reducible rfl)
      try simp only [Act.put, List.setIfInBounds_toArray, List.set_cons_zero, List.set_cons_succ, List.getElem_toArray, List.getElem_cons_zero, List.getElem_cons_succ]
      refine wpAnyH_take (i := 36) (v := ?vb36) rfl (by kernel_rfl) (by kernel_rfl) (by kernel_rfl) (fun _ _ _ h => h) (Or.inl ⟨by rfl, ?yb36⟩) (by assumption) ?rb36
      case yb36 => (intro w hSw; (try dsimp only at hSw); go_simp; try with_reducible rfl)
      try simp only [Act.put, List.setIfInBounds_toArray, List.set_cons_zero, List.set_cons_succ, List.getElem_toArray, List.getElem_cons_zero, List.getElem_cons_succ]
      refine wpAnyH_take (i := 37) (v := ?vb37) rfl (by kernel_rfl) (by kernel_rfl) (by kernel_rfl) (fun _ _ _ h => h) (Or.inl ⟨by rfl, ?yb37⟩) (by assumption) ?rb37
      case yb37 => (intro w hSw; (try dsimp only at hSw); go_simp; try with_reducible rfl)
      try simp only [Act.put, List.setIfInBounds_toArray, List.set_cons_zero, List.set_cons_succ, List.getElem_toArray, List.getElem_cons_zero, List.getElem_cons_succ]
      refine wpAnyH_ready (rs := [38]) (by kernel_rfl) (by simp) ?_
      refine AllReadyH.cons rfl (fun K hK => ?_) AllReadyH.nil
      go_simp
      go_at_call 17
      refine (hck _ (bstep (bstep (bstep (bstep (bstep (HBD.out) q1) q2) q3) q4) q5)).mono ?_
      rintro e v6 ⟨rfl, q6⟩
      have g6 := keep9 q6 g5
      go_wp2_with fail
      refine hK.out _ _ (g6) (fun hHeld => ?_)
      clear hK K
      try simp only [Act.put, List.setIfInBounds_toArray, List.set_cons_zero, List.set_cons_succ, List.getElem_toArray, List.getElem_cons_zero, List.getElem_cons_succ]
      refine wpAnyH_take (i := 39) (v := ?vb39) rfl (by kernel_rfl) (by kernel_rfl) (by kernel_rfl) (fun _ _ _ h => h) (Or.inl ⟨by rfl, ?yb39⟩) (by assumption) ?rb39
      case yb39 => (intro w hSw; (try dsimp only at hSw); go_simp; try with_reducible rfl)
      try simp only [Act.put, List.setIfInBounds_toArray, List.set_cons_zero, List.set_cons_succ, List.getElem_toArray, List.getElem_cons_zero, List.getElem_cons_succ]
      refine wpAnyH_take (i := 40) (v := ?vb40) rfl (by kernel_rfl) (by kernel_rfl) (by kernel_rfl) (fun _ _ _ h => h) (Or.inl ⟨by rfl, ?yb40⟩) (by assumption) ?rb40
      case yb40 => (intro w hSw; (try dsimp only at hSw); go_simp; try with_reducible rfl)
      try simp only [Act.put, List.setIfInBounds_toArray, List.set_cons_zero, List.set_cons_succ, List.getElem_toArray, List.getElem_cons_zero, List.getElem_cons_succ]
      refine wpAnyH_take (i := 41) (v := ?vb41) rfl (by kernel_rfl) (by kernel_rfl) (by kernel_rfl) (fun _ _ _ h => h) (Or.inl ⟨by rfl, ?yb41⟩) (by assumption) ?rb41
      case yb41 => (intro w hSw; (try dsimp only at hSw); go_simp; try with_reducible rfl)
      try simp only [Act.put, List.setIfInBounds_toArray, List.set_cons_zero, List.set_cons_succ, List.getElem_toArray, List.getElem_cons_zero, List.getElem_cons_succ]
      refine wpAnyH_take (i := 42) (v := ?vb42) rfl (by kernel_rfl) (by kernel_rfl) (by kernel_rfl) (fun _ _ _ h => h) (Or.inl ⟨by rfl, ?yb42⟩) (by assumption) ?rb42
      case yb42 => (intro w hSw; (try dsimp only at hSw); go_simp; try with_reducible rfl)
      try simp only [Act.put, List.setIfInBounds_toArray, List.set_cons_zero, List.set_cons_succ, List.getElem_toArray, List.getElem_cons_zero, List.getElem_cons_succ]
      refine wpAnyH_ready (rs := [43]) (by kernel_rfl) (by simp) ?_
      refine AllReadyH.cons rfl (fun K hK => ?_) AllReadyH.nil
      go_simp
      go_at_call 20
      refine (hom _ (bstep (bstep (bstep (bstep (bstep (bstep (HBD.out) q1) q2) q3) q4) q5) q6)).mono ?_
      rintro e v7 ⟨rfl, q7⟩
      have g7 := keep9 q7 g6
      go_wp2_with fail
      refine hK.out _ _ (g7) (fun hHeld => ?_)
      clear hK K
      try simp only [Act.put, List.setIfInBounds_toArray, List.set_cons_zero, List.set_cons_succ, List.getElem_toArray, List.getElem_cons_zero, List.getElem_cons_succ]
      refine wpAnyH_take (i := 44) (v := ?vb44) rfl (by kernel_rfl) (by kernel_rfl) (by kernel_rfl) (fun _ _ _ h => h) (Or.inl ⟨by rfl, ?yb44⟩) (by assumption) ?rb44
      case yb44 => (intro w hSw; (try dsimp only at hSw); go_simp; try with_reducible rfl)
      try simp only [Act.put, List.setIfInBounds_toArray, List.set_cons_zero, List.set_cons_succ, List.getElem_toArray, List.getElem_cons_zero, List.getElem_cons_succ]
      refine wpAnyH_take (i := 45) (v := ?vb45) rfl (by kernel_rfl) (by kernel_rfl) (by kernel_rfl) (fun _ _ _ h => h) (Or.inl ⟨by rfl, ?yb45⟩) (by assumption) ?rb45
      case yb45 => (intro w hSw; (try dsimp only at hSw); go_simp; try with_reducible rfl)
      try simp only [Act.put, List.setIfInBounds_toArray, List.set_cons_zero, List.set_cons_succ, List.getElem_toArray, List.getElem_cons_zero, List.getElem_cons_succ]
      refine wpAnyH_take (i := 46) (v := ?vb46) rfl (by kernel_rfl) (by kernel_rfl) (by kernel_rfl) (fun _ _ _ h => h) (Or.inl ⟨by rfl, ?yb46⟩) (by assumption) ?rb46
      case yb46 => (intro w hSw; (try dsimp only at hSw); go_simp; try with_reducible rfl)
      try simp only [Act.put, List.setIfInBounds_toArray, List.set_cons_zero, List.set_cons_succ, List.getElem_toArray, List.getElem_cons_zero, List.getElem_cons_succ]
      refine wpAnyH_take (i := 47) (v := ?vb47) rfl (by kernel_rfl) (by kernel_rfl) (by kernel_rfl) (fun _ _ _ h => h) (Or.inl ⟨by rfl, ?yb47⟩) (by assumption) ?rb47
      case yb47 => (intro w hSw; (try dsimp only at hSw); go_simp; try with_reducible rfl)
      try simp only [Act.put, List.setIfInBounds_toArray, List.set_cons_zero, List.set_cons_succ, List.getElem_toArray, List.getElem_cons_zero, List.getElem_cons_succ]
      refine wpAnyH_take (i := 48) (v := ?vb48) rfl (by kernel_rfl) (by kernel_rfl) (by kernel_rfl) (fun _ _ _ h => h) (Or.inl ⟨by rfl, ?yb48⟩) (by assumption) ?rb48
      case yb48 => (intro w hSw; (try dsimp only at hSw); go_simp; try with_reducible rfl)
      try simp only [Act.put, List.setIfInBounds_toArray, List.set_cons_zero, List.set_cons_succ, List.getElem_toArray, List.getElem_cons_zero, List.getElem_cons_succ]
      refine wpAnyH_ready (rs := [49]) (by kernel_rfl) (by simp) ?_
      refine AllReadyH.cons rfl (fun K hK => ?_) AllReadyH.nil
      go_simp
      go_at_call 24
      refine (hfy _ (bstep (bstep (bstep (bstep (bstep (bstep (bstep (HBD.out) q1) q2) q3) q4) q5) q6) q7)).mono ?_
      rintro e v8 ⟨rfl, q8⟩
      have g8 := keep9 q8 g7
      go_wp2_with fail
      refine hK.out _ _ (g8) (fun hHeld => ?_)
      clear hK K
      try simp only [Act.put, List.setIfInBounds_toArray, List.set_cons_zero, List.set_cons_succ, List.getElem_toArray, List.getElem_cons_zero, List.getElem_cons_succ]
      refine wpAnyH_take (i := 50) (v := ?vb50) rfl (by kernel_rfl) (by kernel_rfl) (by kernel_rfl) (fun _ _ _ h => h) (Or.inl ⟨by rfl, ?yb50⟩) (by assumption) ?rb50
      case yb50 => (intro w hSw; (try dsimp only at hSw); go_simp; try with_reducible rfl)
      try simp only [Act.put, List.setIfInBounds_toArray, List.set_cons_zero, List.set_cons_succ, List.getElem_toArray, List.getElem_cons_zero, List.getElem_cons_succ]
      refine wpAnyH_take (i := 51) (v := ?vb51) rfl (by kernel_rfl) (by kernel_rfl) (by kernel_rfl) (fun _ _ _ h => h) (Or.inl ⟨by rfl, ?yb51⟩) (by assumption) ?rb51
      case yb51 => (intro w hSw; (try dsimp only at hSw); go_simp; try with_reducible rfl)
      try simp only [Act.put, List.setIfInBounds_toArray, List.set_cons_zero, List.set_cons_succ, List.getElem_toArray, List.getElem_cons_zero, List.getElem_cons_succ]
      refine wpAnyH_take (i := 52) (v := ?vb52) rfl (by kernel_rfl) (by kernel_rfl) (by kernel_rfl) (fun _ _ _ h => h) (Or.inl ⟨by rfl, ?yb52⟩) (by assumption) ?rb52
      case yb52 => (intro w hSw; (try dsimp only at hSw); go_simp; try with_reducible rfl)
      try simp only [Act.put, List.setIfInBounds_toArray, List.set_cons_zero, List.set_cons_succ, List.getElem_toArray, List.getElem_cons_zero, List.getElem_cons_succ]
      refine wpAnyH_done (by kernel_rfl) ?_ _
      go_wp2
      go_ret
      exact ⟨rfl, bstep HB8.out (bstep (bstep (bstep (bstep (bstep (bstep (bstep (bstep (HBD.out) q1) q2) q3) q4) q5) q6) q7) q8)⟩
end Go.Proofs.Ytllagelopdedfaa
