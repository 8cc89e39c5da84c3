/- The walk of the law RouteOwners. -/
import Derived.Test.YthjjidfoclcghaaGR28
import Derived.Deep.DeepCutAuto
import Derived.Deep.QuietTactic
import Derived.BigQuiet
import Derived.IntWalk
namespace Go.Proofs.Ythjjidfoclcghaa
open Go.RowKit
set_option linter.unusedVariables false
set_option linter.unusedSimpArgs false

set_option maxRecDepth 100000 in
set_option maxHeartbeats 6400000 in
theorem walkRouteOwners (w : World) (a0 b0 c0 : Value) (l0 m0 n0 : List Int) (w0 : RowAt KI w a0 l0 ∧ ∀ z ∈ l0, -9223372036854775808 ≤ z ∧ z ≤ 9223372036854775807) (x0 : RowAt KI w b0 m0 ∧ ∀ z ∈ m0, -9223372036854775808 ≤ z ∧ z ≤ 9223372036854775807) (y0 : RowAt KI w c0 n0 ∧ ∀ z ∈ n0, -9223372036854775808 ≤ z ∧ z ≤ 9223372036854775807) (key : ByteArray) (wk : key.size ≤ maxLen) (t : Int) (wt : (Lit.int .i64 t).wf = true) :
    Calls Try.prog 4 #[.agg #[a0, b0, c0], .string key, .int .i64 t] w fun e w' => e = .returned (.bool true) ∧ Below w.heap.size w w' := by
  obtain ⟨w0, w0b⟩ := w0
  obtain ⟨x0, x0b⟩ := x0
  obtain ⟨y0, y0b⟩ := y0
  have hrow := fun W hb' => row9_any a0 b0 c0 l0 m0 n0 W (w0.below hb') (x0.below hb') (y0.below hb') w0b x0b y0b
  obtain ⟨i0, j0, rfl, _⟩ := w0
  obtain ⟨i1, j1, rfl, _⟩ := x0
  obtain ⟨i2, j2, rfl, _⟩ := y0
  obtain ⟨ht1, ht2⟩ := bounds_i64 wt
  clear w0b x0b y0b wk wt
  have hb : Below w.heap.size w (w.alloc (.cells #[.slice i0 l0.length j0, .slice i1 m0.length j1, .slice i2 n0.length j2] 24)) := balloc (Below.refl _ _) _
  have hS0 := VrP.new w (.slice i0 l0.length j0) (.slice i1 m0.length j1) (.slice i2 n0.length j2) 24
  go_enter Try.func4, Try.ntmps4
  go_wp2_with fail
  generalize w.alloc (.cells #[.slice i0 l0.length j0, .slice i1 m0.length j1, .slice i2 n0.length j2] 24) = wb at *
  refine (awake9_any _).mono ?_
  rintro e wa ⟨rfl, hba⟩
  obtain ⟨p0, p1, p2, _⟩ := hS0.keep hba
  have HBA := Lib.hid (bstep hb hba)
  clear hb hba hS0
  go_wp2_with fail
  refine (hrow _ HBA.out).mono ?_
  rintro e wS ⟨c, u0, u1, u2, rfl, hRO, hok, hbr⟩
  have hR := hRO.at
  obtain ⟨a2, cp2, hu2, hq2, hm2, _, hri2⟩ := hR.pa
  unfold maxLen at hm2
  subst hu2
  obtain ⟨z0, t0, rfl, _⟩ := id hR.rs
  obtain ⟨z1, t1, rfl, _⟩ := id hR.ow
  have HOK := Lib.hid hok
  have hba := balloc (Below.refl _ wS) (.cells #[.slice z0 c.rs.length t0, .slice z1 c.ow.length t1, .slice a2 c.pa.length cp2] 29)
  have HR := Lib.hid (hR.below hba)
  have HRI := Lib.hid (hri2.below hba)
  have HV := Lib.hid (VrP.new wS (.slice z0 c.rs.length t0) (.slice z1 c.ow.length t1) (.slice a2 c.pa.length cp2) 29)
  have HB := Lib.hid (bstep (bstep HBA.out hbr) hba)
  have hT := (Tm.chkT_iff c.pa).1 (chk9_parts hok).2
  have hn1 := hT.n1
  have hn6 := hT.n6
  have HR8 : Hid (c.rs.length ≤ 8) := Lib.hid ((tOk_iff c).1 (chk9_parts hok).1).r8
  have HT := Lib.hid hT
  clear hrow p0 p1 p2 hbr hRO hok hR hri2 hT hba HBA
  go_upto_region 3 with fail
  generalize wS.alloc (.cells #[.slice z0 c.rs.length t0, .slice z1 c.ow.length t1, .slice a2 c.pa.length cp2] 29) = w9 at *
  obtain ⟨d0, d1, d2, _⟩ := HV.out
  obtain ⟨y1, y2⟩ := tmod_bdT t (c.pa.length : Int) (by omega)
  generalize hy : t.tmod (c.pa.length : Int) = y at y1 y2
  go_upto_region 5 with fail
  have ho1 := Int.emod_nonneg (y + (c.pa.length : Int)) (b := (c.pa.length : Int)) (by omega)
  have ho2 := Int.emod_lt_of_pos (y + (c.pa.length : Int)) (b := (c.pa.length : Int)) (by omega)
  generalize (y + (c.pa.length : Int)) % (c.pa.length : Int) = o at *
  obtain ⟨x, rfl⟩ : ∃ x : Nat, o = (x : Int) := ⟨o.toNat, by omega⟩
  have hx : x < c.pa.length := by omega
  clear hy y1 y2 ho1 ho2 ht1 ht2
  have hm := ownN_lt c key.data.toList
  have hOW := refOwners7_any c (.slice z0 c.rs.length t0) (.slice z1 c.ow.length t1) (.slice a2 c.pa.length cp2) key w9 HR.out (by have := HR8.out; omega)
  have HWY := Lib.hid (fun (W : World) (hb : Below w9.heap.size w9 W) => rwaysN_any c (.slice z0 c.rs.length t0) (.slice z1 c.ow.length t1) (.slice a2 c.pa.length cp2) (x : Int) key W (HR.out.below hb))
  have HCK := Lib.hid (fun (W : World) (hb : Below w9.heap.size w9 W) => rcheck_any c (.slice z0 c.rs.length t0) (.slice z1 c.ow.length t1) (.slice a2 c.pa.length cp2) W (HR.out.below hb))
  rw [HOK.out] at HCK
  have HSD := Lib.hid (fun (a b : Int) (W : World) (hb : Below w9.heap.size w9 W) => refSide_any c.pa a2 cp2 a b W (by omega) (HRI.out.below hb))
  have HSL := Lib.hid (fun (a b : Int) => sideI_lt c.pa a b)
  have HST : Hid (∀ i (hi : i < (ways9 c key.data.toList (x : Int)).length), ∃ a b : Nat, (ways9 c key.data.toList (x : Int))[i].1 = (a : Int) ∧ (ways9 c key.data.toList (x : Int))[i].2 = (b : Int) ∧ a < c.pa.length ∧ b < c.pa.length ∧ came9 c key.data.toList (x : Int) i a = true ∧ came9 c key.data.toList (x : Int) i b = false ∧ Tm.meetN (Tm.sideI c.pa (a : Int) (b : Int)) (ownN c key.data.toList) = true) := Lib.hid (fun i hi => by
    obtain ⟨a, b, h⟩ := step9 HOK.out key.data.toList hx hi
    exact ⟨a, b, h.e1, h.e2, h.ha, h.hb, h.ca, h.cb, h.mt⟩)
  have HCO := Lib.hid (fun s (hs : s < c.pa.length) ho => came_owner HOK.out key.data.toList hx hs ho)
  have HC0 : Hid (∀ s, (if s = x then 1 else 0) = (if came9 c key.data.toList (x : Int) 0 s = true then 1 else 0)) := Lib.hid (fun s => by
    unfold came9
    rw [List.take_zero, List.any_nil, Bool.or_false]
    by_cases e : s = x
    · rw [if_pos e, decide_eq_true (by omega), if_pos rfl]
    · rw [if_neg e, decide_eq_false (by omega), if_neg (by simp)])
  have HCS : Hid (∀ i (hi : i < (ways9 c key.data.toList (x : Int)).length) (b : Nat), (ways9 c key.data.toList (x : Int))[i].2 = (b : Int) → ∀ s, (if s = b then 1 else if came9 c key.data.toList (x : Int) i s = true then 1 else 0) = (if came9 c key.data.toList (x : Int) (i + 1) s = true then 1 else 0)) := Lib.hid (fun i hi b hb s => by
    rw [came9_snoc hi, hb]
    by_cases e : s = b
    · subst e
      rw [if_pos rfl, decide_eq_true rfl, Bool.or_true, if_pos rfl]
    · rw [if_neg e, decide_eq_false (by omega), Bool.or_false])
  have hwl := ways9_len c key.data.toList (x : Int)
  generalize ways9 c key.data.toList (x : Int) = WL at *
  generalize came9 c key.data.toList (x : Int) = CM at *
  generalize ownN c key.data.toList = m at *
  have hx6 : x < 6 := by omega
  go_wp2_with fail
  refine hOW.mono ?_
  rintro e wA ⟨rfl, hbA⟩
  have HBA := Lib.hid hbA
  have HVA := Lib.hid (HV.out.keep hbA)
  have HN := Lib.hid (SeenIn.new wA (n := 6) (by omega))
  have HBN := Lib.hid (balloc (Below.refl _ wA) (.cells #[.int .i64 0, .int .i64 0, .int .i64 0, .int .i64 0, .int .i64 0, .int .i64 0] 42))
  have HSA := Lib.hid hbA.size
  clear d0 d1 d2 hbA hOW
  go_upto_region 7 with fail
  generalize wA.alloc (.cells #[.int .i64 0, .int .i64 0, .int .i64 0, .int .i64 0, .int .i64 0, .int .i64 0] 42) = wN at *
  have hfz := HN.out.f x hx6
  have hcz := HN.out.c x hx6
  have HS1 := Lib.hid ((HN.out.set hx6 1).cong (fun s _ => HC0.out s))
  have HB2 := Lib.hid (HBN.out.setCell (p := ⟨wA.heap.size, x, none⟩) (Nat.le_refl _) (.int .i64 ((1 : Nat) : Int)))
  go_upto_region 8 with fail
  have e1 : (.int .i64 ((1 : Nat) : Int) : Value) = .int .i64 1 := rfl
  rw [e1] at HS1 HB2
  generalize wN.setCell ⟨wA.heap.size, x, none⟩ (.int .i64 1) = wT at *
  have hszT : wA.heap.size < wT.heap.size := HS1.out.lt
  have HBT := Lib.hid (bstep HBA.out HB2.out)
  obtain ⟨d0, d1, d2, _⟩ := HVA.out.keep HB2.out
  have hwy := HWY.out wT HBT.out
  clear hfz hcz HN HBN HWY HB2 HBA e1 HC0
  go_wp2_with fail
  refine hwy.mono ?_
  rintro e wD ⟨vD, rfl, hrD, hbD, hnD⟩
  obtain ⟨va, vc, rfl, _, _, _, hri⟩ := hrD
  have HRD := Lib.hid hri
  have HND : Hid (∀ p, va = some p → wT.heap.size ≤ p.block) := Lib.hid (fun p e => hnD p _ _ (by rw [e]))
  have HSD2 := Lib.hid (HS1.out.below hbD)
  have HBD := Lib.hid (bstep HBT.out hbD)
  clear hwy hri hbD hnD HS1 HBT d0 d1 d2
  go_wp2_with fail
  go_loopw [14] (fun i wr => ∃ k : Nat, k ≤ WL.length ∧ i = .int .i64 k ∧ Hid (SeenIn wr wA.heap.size 6 (fun s => if CM k s = true then 1 else 0)) ∧ Below w9.heap.size w9 wr ∧ Hid (RowIn KP wr va WL)) (fun i _ => WL.length - (intOf i).toNat)
  case atStart => exact ⟨0, by omega, rfl, HSD2, HBD.out, HRD⟩
  case round =>
    clear HSD2 HBD HRD
    obtain ⟨k, hk, rfl, HS, hbel, HRW⟩ := hrel
    by_cases hlt : k < WL.length
    · obtain ⟨a, b, ha1, hb1, ha, hb, hca, hcb, hmt⟩ := HST.out k hlt
      obtain ⟨bW, oW, rfl, hblW, e0, e1⟩ := HRW.out.pair k hlt
      have HCS2 := Lib.hid (HCS.out k hlt b hb1)
      rw [ha1] at e0
      rw [hb1] at e1
      have hsl := HSL.out (a : Int) (b : Int)
      have HSDW := Lib.hid (fun (W : World) (hb : Below w9.heap.size w9 W) => HSD.out (a : Int) (b : Int) W hb)
      generalize Tm.sideI c.pa (a : Int) (b : Int) = sd at hmt hsl HSDW
      have ha6 : a < 6 := by omega
      have hb6 : b < 6 := by omega
      have f0 := HS.out.c a ha6
      rw [if_pos hca] at f0
      have f1 := HS.out.c b hb6
      rw [hcb, if_neg (by simp)] at f1
      have hfz := HS.out.f b hb6
      have q1 : decide ((c.pa.length : Int) ≤ (a : Int)) = false := by simp; omega
      have q1n : decide (c.pa.length ≤ a) = false := by simp; omega
      have q2 : decide ((c.pa.length : Int) ≤ (b : Int)) = false := by simp; omega
      have q2n : decide (c.pa.length ≤ b) = false := by simp; omega
      have hki : (k : Int) < (WL.length : Int) := by omega
      have HS2 := Lib.hid ((HS.out.set hb6 1).cong (fun s _ => HCS2.out s))
      have HBL := Lib.hid (hbel.setCell (p := ⟨wA.heap.size, b, none⟩) HSA.out (.int .i64 ((1 : Nat) : Int)))
      have hnb : bW ≠ wA.heap.size := by have := HND.out _ rfl; dsimp only at this; omega
      have HRW2 : Hid (RowIn KP (wr.setCell ⟨wA.heap.size, b, none⟩ (.int .i64 ((1 : Nat) : Int))) (some ⟨bW, oW, none⟩) WL) := Lib.hid (by
        intro i hi
        obtain ⟨b', o', e', h1, h2⟩ := HRW.out i hi
        cases e'
        exact ⟨bW, oW, rfl, by simpa using h1, fun j u hu => (World.cell?_of_block (Below.heap_setCell _ _ _ _ hnb)).trans (h2 j u hu)⟩)
      have hvd := HV.out.keep HBL.out
      clear ha1 hb1 hca hcb HS HRW hbel
      go_upto_region 17 with fail
      have ee : (.int .i64 ((1 : Nat) : Int) : Value) = .int .i64 1 := rfl
      rw [ee] at HS2 HBL HRW2 hvd
      generalize wr.setCell ⟨wA.heap.size, b, none⟩ (.int .i64 1) = wz at *
      clear e0 e1 f0 f1 hfz
      obtain ⟨d0, d1, d2, _⟩ := hvd
      have hsd := HSDW.out wz HBL.out
      go_wp2_with fail
      refine hsd.mono ?_
      rintro e wE ⟨rfl, hbE⟩
      have hmeet := meet9_any sd m wE hsl hm
      rw [hmt] at hmeet
      go_wp2_with fail
      refine hmeet.mono ?_
      rintro e wF ⟨rfl, rfl⟩
      have HS3 := Lib.hid (HS2.out.below hbE)
      have HB3 := Lib.hid (bstep HBL.out hbE)
      have HR3 := Lib.hid (HRW2.out.below hbE)
      clear hbE hsd hmeet d0 d1 d2
      go_wp2
      go_roundw
      case rel => exact ⟨k + 1, by omega, by go_num, HS3, HB3.out, HR3⟩
      case measure => simp [intOf]; omega
    · obtain rfl : k = WL.length := by omega
      have HBL := Lib.hid hbel
      obtain ⟨wO, hwO⟩ : ∃ wO : World, wO = wr := ⟨wr, rfl⟩
      subst hwO
      clear hbel HRW
      go_wp2_with fail
      go_loop [18] (fun i => ∃ s : Nat, s ≤ c.pa.length ∧ i = .int .i64 s) (fun i => c.pa.length - (intOf i).toNat)
      case atStart => exact ⟨0, by omega, rfl⟩
      case round =>
        obtain ⟨s, hs, rfl⟩ := hrel
        by_cases hls : s < c.pa.length
        · have hsi : (s : Int) < (c.pa.length : Int) := by omega
          have hs6 : s < 6 := by omega
          have hbit := bit7_any m s wO hm (by omega)
          have hco := HCO.out s hls
          have f0 := HS.out.c s hs6
          generalize bitN m (s : Int) = bb at hbit hco
          go_wp2_with fail
          refine hbit.mono ?_
          rintro e wG ⟨rfl, rfl⟩
          cases bb with
          | false =>
            go_wp2
            go_round
            case rel => exact ⟨s + 1, by omega, by go_num⟩
            case measure => simp [intOf]; omega
          | true =>
            rw [if_pos (hco rfl)] at f0
            clear hco
            go_wp2
            go_round
            case rel => exact ⟨s + 1, by omega, by go_num⟩
            case measure => simp [intOf]; omega
        · obtain ⟨d0, d1, d2, _⟩ := HV.out.keep HBL.out
          have hck := HCK.out wO HBL.out
          go_wp2_with fail
          refine hck.mono ?_
          rintro e wH ⟨rfl, hbH⟩
          go_wp2
          go_ret
          exact ⟨rfl, bstep HB.out (bstep HBL.out hbH)⟩
end Go.Proofs.Ythjjidfoclcghaa
