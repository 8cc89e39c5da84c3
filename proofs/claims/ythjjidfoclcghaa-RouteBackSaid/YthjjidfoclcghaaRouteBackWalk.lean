/- The walk of the law RouteBack. -/
import Derived.Test.YthjjidfoclcghaaGR28
import Derived.Deep.DeepCutAuto
import Derived.Deep.QuietTactic
import Derived.BigQuiet
import Derived.IntWalk
namespace Go.Proofs.Ythjjidfoclcghaa
open Go.RowKit
set_option linter.unusedVariables false
set_option linter.unusedSimpArgs false

set_option maxRecDepth 100000 in
set_option maxHeartbeats 6400000 in
theorem walkRouteBack (w : World) (a0 b0 c0 : Value) (l0 m0 n0 : List Int) (w0 : RowAt KI w a0 l0 ∧ ∀ z ∈ l0, -9223372036854775808 ≤ z ∧ z ≤ 9223372036854775807) (x0 : RowAt KI w b0 m0 ∧ ∀ z ∈ m0, -9223372036854775808 ≤ z ∧ z ≤ 9223372036854775807) (y0 : RowAt KI w c0 n0 ∧ ∀ z ∈ n0, -9223372036854775808 ≤ z ∧ z ≤ 9223372036854775807) (key : ByteArray) (wk : key.size ≤ maxLen) (t : Int) (wt : (Lit.int .i64 t).wf = true) :
    Calls Try.prog 7 #[.agg #[a0, b0, c0], .string key, .int .i64 t] w fun e w' => e = .returned (.bool true) ∧ Below w.heap.size w w' := by
  obtain ⟨w0, w0b⟩ := w0
  obtain ⟨x0, x0b⟩ := x0
  obtain ⟨y0, y0b⟩ := y0
  have hrow := fun W hb' => row9_any a0 b0 c0 l0 m0 n0 W (w0.below hb') (x0.below hb') (y0.below hb') w0b x0b y0b
  obtain ⟨i0, j0, rfl, _⟩ := w0
  obtain ⟨i1, j1, rfl, _⟩ := x0
  obtain ⟨i2, j2, rfl, _⟩ := y0
  obtain ⟨ht1, ht2⟩ := bounds_i64 wt
  clear w0b x0b y0b wk wt
  have hb : Below w.heap.size w (w.alloc (.cells #[.slice i0 l0.length j0, .slice i1 m0.length j1, .slice i2 n0.length j2] 24)) := balloc (Below.refl _ _) _
  have hS0 := VrP.new w (.slice i0 l0.length j0) (.slice i1 m0.length j1) (.slice i2 n0.length j2) 24
  go_enter Try.func7, Try.ntmps7
  go_wp2_with fail
  generalize w.alloc (.cells #[.slice i0 l0.length j0, .slice i1 m0.length j1, .slice i2 n0.length j2] 24) = wb at *
  refine (awake9_any _).mono ?_
  rintro e wa ⟨rfl, hba⟩
  obtain ⟨p0, p1, p2, _⟩ := hS0.keep hba
  have HBA := Lib.hid (bstep hb hba)
  clear hb hba hS0
  go_wp2_with fail
  refine (hrow _ HBA.out).mono ?_
  rintro e wS ⟨c, u0, u1, u2, rfl, hRO, hok, hbr⟩
  have hR := hRO.at
  obtain ⟨a2, cp2, hu2, hq2, hm2, _, hri2⟩ := hR.pa
  unfold maxLen at hm2
  subst hu2
  obtain ⟨z0, t0, rfl, _⟩ := id hR.rs
  obtain ⟨z1, t1, rfl, _⟩ := id hR.ow
  have HOK := Lib.hid hok
  have hba := balloc (Below.refl _ wS) (.cells #[.slice z0 c.rs.length t0, .slice z1 c.ow.length t1, .slice a2 c.pa.length cp2] 29)
  have HR := Lib.hid (hR.below hba)
  have HRI := Lib.hid (hri2.below hba)
  have HV := Lib.hid (VrP.new wS (.slice z0 c.rs.length t0) (.slice z1 c.ow.length t1) (.slice a2 c.pa.length cp2) 29)
  have HB := Lib.hid (bstep (bstep HBA.out hbr) hba)
  have hT := (Tm.chkT_iff c.pa).1 (chk9_parts hok).2
  have hn1 := hT.n1
  have hn6 := hT.n6
  have HR8 : Hid (c.rs.length ≤ 8) := Lib.hid ((tOk_iff c).1 (chk9_parts hok).1).r8
  have HT := Lib.hid hT
  clear hrow p0 p1 p2 hbr hRO hok hR hri2 hT hba HBA
  go_upto_region 3 with fail
  generalize wS.alloc (.cells #[.slice z0 c.rs.length t0, .slice z1 c.ow.length t1, .slice a2 c.pa.length cp2] 29) = w9 at *
  obtain ⟨d0, d1, d2, _⟩ := HV.out
  obtain ⟨y1, y2⟩ := tmod_bdT t (c.pa.length : Int) (by omega)
  generalize hy : t.tmod (c.pa.length : Int) = y at y1 y2
  go_upto_region 5 with fail
  have ho1 := Int.emod_nonneg (y + (c.pa.length : Int)) (b := (c.pa.length : Int)) (by omega)
  have ho2 := Int.emod_lt_of_pos (y + (c.pa.length : Int)) (b := (c.pa.length : Int)) (by omega)
  generalize (y + (c.pa.length : Int)) % (c.pa.length : Int) = o at *
  obtain ⟨x, rfl⟩ : ∃ x : Nat, o = (x : Int) := ⟨o.toNat, by omega⟩
  have hx : x < c.pa.length := by omega
  clear hy y1 y2 ho1 ho2 ht1 ht2
  have HNX := Lib.hid (fun (fr : Int) (W : World) (hb : Below w9.heap.size w9 W) => rnext_any c (.slice z0 c.rs.length t0) (.slice z1 c.ow.length t1) (.slice a2 c.pa.length cp2) (x : Int) fr key W (HR.out.below hb))
  have HNB := Lib.hid (fun s => route_back HOK.out key.data.toList hx s)
  have hl0 := nx9_len c key.data.toList (x : Int) (-1)
  have hN0 := HNX.out (-1) w9 (Below.refl _ _)
  generalize nx9 c key.data.toList (x : Int) = X at *
  obtain ⟨L, hL⟩ : ∃ L, L = X (-1) := ⟨_, rfl⟩
  rw [← hL] at HNB hN0 hl0
  clear hL
  go_wp2_with fail
  refine hN0.mono ?_
  rintro e wA ⟨v1, rfl, ho1, hb1⟩
  obtain ⟨va, vc, rfl⟩ := ho1.shape
  have HA := Lib.hid (RowIn.of_own ki_ok ho1)
  have HB1 := Lib.hid hb1
  have HVA := Lib.hid (HV.out.keep hb1)
  have hll : (Tm.ln L).length = L.length := Tm.ln_len L
  rw [hll]
  clear d0 d1 d2 ho1 hb1 hN0 hll
  go_wp2_with fail
  go_loopw [12] (fun i wr => ∃ s : Nat, s ≤ c.pa.length ∧ i = .int .i64 s ∧ Below wA.heap.size wA wr) (fun i _ => c.pa.length - (intOf i).toNat)
  case atStart => exact ⟨0, by omega, rfl, Below.refl _ _⟩
  case round =>
    obtain ⟨s, hs, rfl, hbel⟩ := hrel
    have HBL := Lib.hid hbel
    have HBR := Lib.hid (bstep HB1.out hbel)
    by_cases hlt : s < c.pa.length
    · obtain ⟨d0, d1, d2, _⟩ := HVA.out.keep hbel
      have hsi : (s : Int) < (c.pa.length : Int) := by omega
      have hN := HNX.out (s : Int) wr HBR.out
      rw [HNB.out s] at hN
      obtain ⟨f, hf⟩ : ∃ f : Nat → Bool, f = fun (b : Nat) => decide ((b : Int) ≠ (s : Int)) := ⟨_, rfl⟩
      rw [← hf] at hN
      have HF : Hid (∀ b, f b = decide ((b : Int) ≠ (s : Int))) := Lib.hid (fun b => by rw [hf])
      have hfl : (L.filter f).length ≤ L.length := List.length_filter_le _ _
      have HTL : Hid (((L.take L.length).filter f).length = (L.filter f).length) := Lib.hid (by rw [List.take_length])
      have HSN := Lib.hid (fun j (hj : j < L.length) => filt_snoc f hj)
      have HAT := Lib.hid (fun j (hj : j < L.length) (h : f L[j] = true) => filt_at f hj h)
      generalize L.filter f = F at *
      obtain ⟨wO, hwO⟩ : ∃ wO : World, wO = wr := ⟨wr, rfl⟩
      subst hwO
      clear hf hbel
      go_wp2_with fail
      refine hN.mono ?_
      rintro e wB ⟨v2, rfl, ho2, hb2⟩
      obtain ⟨la, lc, rfl⟩ := ho2.shape
      have HL := Lib.hid (RowIn.of_own ki_ok ho2)
      have HB2 := Lib.hid (bstep HBL.out hb2)
      have hll : (Tm.ln F).length = F.length := Tm.ln_len F
      rw [hll]
      clear hN ho2 hb2 d0 d1 d2 hll
      go_wp2_with fail
      go_loopw [14, 15] (fun k i wz => ∃ j q : Nat, j ≤ L.length ∧ i = .int .i64 j ∧ k = .int .i64 (q : Int) ∧ q ≤ j ∧ Hid (((L.take j).filter f).length = q) ∧ Below wB.heap.size wB wz) (fun _ i _ => L.length - (intOf i).toNat)
      case atStart => exact ⟨0, 0, by omega, rfl, rfl, by omega, Lib.hid rfl, Below.refl _ _⟩
      case round =>
        obtain ⟨j, q, hj, rfl, rfl, hqj, HQ, hbz⟩ := hrel
        by_cases hlj : j < L.length
        · obtain ⟨bA, oA, rfl, hblA, cc⟩ := (HA.out.below (bstep HB2.out hbz)).int j (by rw [Tm.ln_len]; exact hlj)
          rw [Tm.ln_get] at cc
          have HS := Lib.hid (HSN.out j hlj)
          have HT := Lib.hid (HAT.out j hlj)
          rw [HQ.out] at HT
          generalize L[j] = y at cc HS HT
          have hfy := HF.out y
          have hji : (j : Int) < (L.length : Int) := by omega
          have HBZ := Lib.hid hbz
          cases hfv : f y with
          | false =>
            rw [hfv] at hfy
            have hys : (y : Int) = (s : Int) := by simpa using hfy.symm
            have hbq : ((y : Int) == (s : Int)) = true := by simpa using hys
            have hbq2 : (y == s) = true := by simp; omega
            have HQ2 : Hid (((L.take (j + 1)).filter f).length = q) := Lib.hid (by rw [HS.out, hfv, List.length_append, HQ.out]; simp)
            clear hys hfy hfv hbz HT
            go_wp2
            go_roundw
            case rel => exact ⟨j + 1, q, by omega, by go_num, rfl, by omega, HQ2, HBZ.out⟩
            case measure => simp [intOf]; omega
          | true =>
            rw [hfv] at hfy
            have hys : ¬ (y : Int) = (s : Int) := by simpa using hfy.symm
            have hbq : ((y : Int) == (s : Int)) = false := by simpa using hys
            have hbq2 : (y == s) = false := by simp; omega
            have HQ2 : Hid (((L.take (j + 1)).filter f).length = q + 1) := Lib.hid (by rw [HS.out, hfv, List.length_append, HQ.out]; simp)
            obtain ⟨hqF, hFy⟩ := HT.out hfv
            obtain ⟨bL, oL, rfl, hblL, cl⟩ := (HL.out.below hbz).int q (by rw [Tm.ln_len]; exact hqF)
            rw [Tm.ln_get, hFy] at cl
            have hqi : (q : Int) < (F.length : Int) := by omega
            have hq1 : decide ((F.length : Int) ≤ (q : Int)) = false := by simp; omega
            have hq2 : decide (F.length ≤ q) = false := by simp; omega
            have hyy : ((y : Int) != (y : Int)) = false := by simp
            clear hys hfy hfv hbz HT hFy HS
            go_upto_region 15 with fail
            go_cut [69] (fun q wx => q = .bool false ∧ Hid (Below wB.heap.size wB wx))
            case first =>
              go_quiet (fail)
              go_wp2
              go_meet
              exact ⟨rfl, Lib.hid (below_drewN HBZ.out _)⟩
            case rest =>
              obtain ⟨rfl, HBC⟩ := hcut
              clear cc cl
              go_wp2
              go_roundw
              case rel => exact ⟨j + 1, q + 1, by omega, by go_num, by go_num, by omega, HQ2, HBC.out⟩
              case measure => simp [intOf]; omega
        · obtain rfl : j = L.length := by omega
          have hqF : q = F.length := by rw [← HQ.out, HTL.out]
          subst hqF
          have hne : ((F.length : Int) != (F.length : Int)) = false := by simp
          have HBZ := Lib.hid (bstep HB2.out hbz)
          clear hbz
          go_wp2
          go_roundw
          case rel => exact ⟨s + 1, by omega, by go_num, HBZ.out⟩
          case measure => simp [intOf]; omega
    · go_wp2
      go_ret
      exact ⟨rfl, bstep HB.out HBR.out⟩
end Go.Proofs.Ythjjidfoclcghaa
