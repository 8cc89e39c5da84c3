/- The walk of the law TableSome. -/
import Derived.Test.YtllagelopdedfaaTableManyWalk
namespace Go.Proofs.Ytllagelopdedfaa
open Go.RowKit Go.ChangeShapes Go.WideShapes Go.ChangeAt Go.Joins
set_option linter.unusedVariables false
set_option linter.unusedSimpArgs false

set_option maxRecDepth 100000 in
set_option maxHeartbeats 1600000 in
theorem some7_any (c : Rw) (u0 u1 u2 : Value) (key : ByteArray) (w : World) (h : RwAt w u0 u1 u2 c) (hok : tOk c = true) :
    Calls Try.prog 28 #[.agg #[u0, u1, u2], .string key] w fun e w' => e = .returned (.bool true) ∧ Below w.heap.size w w' := by
  have hT := (tOk_iff c).1 hok
  obtain ⟨hp, hp1⟩ := own_pow hT key.data.toList
  have hlt := ownN_lt c key.data.toList
  obtain ⟨g1, g2, g3, g4⟩ := first_law c.pa.length (by have := hT.n6; omega) _ hp hp1
  have hsix := cnt_six hlt
  have hV := VrP.new w u0 u1 u2 25
  have hb0 : Below w.heap.size w (w.alloc (.cells #[u0, u1, u2] 25)) := balloc (Below.refl _ w) _
  have hR := h.below hb0
  have hck := check7_any c u0 u1 u2 _ hR
  rw [hok] at hck
  have hrl : ∀ s : Int, (rngsN c s).length ≤ 8 := fun s => by
    unfold rngsN
    rw [if_pos hok, List.length_map]
    refine Nat.le_trans (List.length_filter_le _ _) ?_
    simp
    have := hT.r8
    omega
  have hn6 := hT.n6
  have HIF := Lib.hid (fun s : Int => own_iff hT key.data.toList s)
  have hrng := fun (W : World) (s : Nat) (hs : s < 6) (hb : Below (w.alloc (.cells #[u0, u1, u2] 25)).heap.size (w.alloc (.cells #[u0, u1, u2] 25)) W) => ranges7_any c u0 u1 u2 (s : Int) W (hR.below hb) (by omega)
  have hfs := fun (W : World) (hb : Below (w.alloc (.cells #[u0, u1, u2] 25)).heap.size (w.alloc (.cells #[u0, u1, u2] 25)) W) => first7_any c u0 u1 u2 key W (hR.below hb)
  have hon := fun (W : World) (hb : Below (w.alloc (.cells #[u0, u1, u2] 25)).heap.size (w.alloc (.cells #[u0, u1, u2] 25)) W) => owners7_any c u0 u1 u2 key W (hR.below hb)
  have hos := fun (W : World) (s : Int) (hs : -10 ≤ s ∧ s < 10) (hb : Below (w.alloc (.cells #[u0, u1, u2] 25)).heap.size (w.alloc (.cells #[u0, u1, u2] 25)) W) => owns7_any c u0 u1 u2 s key W (hR.below hb) (by omega)
  have hst := fun (W : World) (hb : Below (w.alloc (.cells #[u0, u1, u2] 25)).heap.size (w.alloc (.cells #[u0, u1, u2] 25)) W) => sites_any c u0 u1 u2 W (hR.below hb).pa
  have hfb := firstN_lt (ownN c key.data.toList)
  generalize ownN c key.data.toList = r at *
  have HG3 := Lib.hid g3
  have hmn := fun W => many7_nat r (cntB r 6) W (by omega) hsix
  have HZ : Hid (cntB r 0 = 0) := Lib.hid rfl
  have HV := Lib.hid hV
  have HB0 := Lib.hid hb0
  have HRL := Lib.hid hrl
  clear hV hb0 hR h hok hT hp g3 hsix hrl
  generalize firstN r = F at *
  obtain ⟨hfb1, hfb2⟩ := hfb
  generalize c.pa.length = n at *
  go_enter Try.func28, Try.ntmps28
  go_wp2_with fail
  generalize w.alloc (.cells #[u0, u1, u2] 25) = wa at *
  refine hck.mono ?_
  rintro e w1 ⟨rfl, hb1⟩
  have HB1 := Lib.hid hb1
  clear hb1 hck
  go_wp2_with fail
  go_loopw [5, 6] (fun m i wr => ∃ k q : Nat, k ≤ 6 ∧ i = .int .i64 k ∧ m = .int .i64 (q : Int) ∧ q = cntB r k ∧ q ≤ k ∧ Below wa.heap.size wa wr) (fun _ i _ => 6 - (intOf i).toNat)
  case atStart => exact ⟨0, 0, by omega, rfl, rfl, HZ.out.symm, by omega, HB1.out⟩
  case round =>
    obtain ⟨k, q, hk, rfl, rfl, hq, hqk, hbel⟩ := hrel
    have HQ := Lib.hid hq
    have HBL := Lib.hid hbel
    have hVr := HV.out.keep hbel
    clear hq hbel
    obtain ⟨c0, c1, c2, _⟩ := id hVr
    by_cases hk6 : k < 6
    · have hki : (k : Int) < 6 := by omega
      have HCB := Lib.hid (cnt_bit r k)
      have hif := HIF.out (k : Int)
      have hll := HRL.out (k : Int)
      have hosk := fun W hb => hos W (k : Int) (by omega) hb
      have hrg := hrng wr k hk6 HBL.out
      generalize bitN r (k : Int) = b at *
      go_wp2_with fail
      refine hrg.mono ?_
      rintro e w2 ⟨v, rfl, ho, hb2⟩
      obtain ⟨sa, sc, rfl⟩ := ho.shape
      have hfi := refFind_any sa sc (rngsN c (k : Int)) key w2 (by omega) (RowIn.rng (RowIn.of_own kr_ok ho))
      have HB2 := Lib.hid (bstep HBL.out hb2)
      generalize Km.fidx (tls (rngsN c (k : Int))) key.data.toList = G at *
      generalize (rngsN c (k : Int)).length = ln at *
      clear ho hrg c0 c1 c2
      go_wp2_with fail
      refine hfi.mono ?_
      rintro e w3 ⟨rfl, hb3⟩
      have HB3 := Lib.hid (bstep HB2.out hb3)
      obtain ⟨c0, c1, c2, _⟩ := HV.out.keep HB3.out
      clear hb2 hb3 hfi
      cases b with
      | true =>
        have hG : 0 ≤ G := by simpa using hif
        clear hif
        go_wp2_with fail
        refine (hosk _ HB3.out).mono ?_
        rintro e w4 ⟨rfl, hb4⟩
        go_wp2
        go_roundw
        case rel => exact ⟨k + 1, q + 1, by omega, by go_num, by go_num, by rw [HCB.out, HQ.out]; rfl, by omega, bstep HB3.out hb4⟩
        case measure => simp [intOf]; omega
      | false =>
        have hG : ¬ 0 ≤ G := by simpa using hif
        clear hif
        go_wp2_with fail
        refine (hosk _ HB3.out).mono ?_
        rintro e w4 ⟨rfl, hb4⟩
        go_wp2
        go_roundw
        case rel => exact ⟨k + 1, q, by omega, by go_num, rfl, by rw [HCB.out, HQ.out]; rfl, by omega, bstep HB3.out hb4⟩
        case measure => simp [intOf]; omega
    · obtain rfl : k = 6 := by omega
      have hqp : 0 < q := by rw [HQ.out]; exact g4
      have HQ6 : Hid (cntB r 6 = q) := Lib.hid HQ.out.symm
      rw [HQ6.out] at hmn g4
      clear hk hk6 HQ
      have hosF := fun W hb => hos W F (by omega) hb
      rw [HG3.out] at hosF
      go_wp2_with fail
      refine (hfs _ HBL.out).mono ?_
      rintro e w2 ⟨rfl, hb2⟩
      have HB2 := Lib.hid (bstep HBL.out hb2)
      clear c0 c1 c2 hb2
      obtain ⟨c0, c1, c2, _⟩ := HV.out.keep HB2.out
      go_wp2_with fail
      refine (hon _ HB2.out).mono ?_
      rintro e w3 ⟨rfl, hb3⟩
      have HB3 := Lib.hid (bstep HB2.out hb3)
      clear c0 c1 c2 hb3
      obtain ⟨c0, c1, c2, _⟩ := HV.out.keep HB3.out
      go_wp2_with fail
      refine (hmn _).mono ?_
      rintro e w4 ⟨rfl, rfl⟩
      go_wp2_with fail
      refine (hosF _ HB3.out).mono ?_
      rintro e w4 ⟨rfl, hb4⟩
      have HB4 := Lib.hid (bstep HB3.out hb4)
      clear c0 c1 c2 hb4
      obtain ⟨c0, c1, c2, _⟩ := HV.out.keep HB4.out
      go_wp2_with fail
      refine (hst _ HB4.out).mono ?_
      rintro e w5 ⟨rfl, hb5⟩
      go_wp2
      go_ret
      exact ⟨rfl, bstep HB0.out (bstep HB4.out hb5)⟩

set_option maxRecDepth 100000 in
set_option maxHeartbeats 800000 in
theorem walkTableSome (w : World) (a0 b0 : Value) (c0 : Int) (l0 m0 : List Int) (w0 : RowAt KI w a0 l0 ∧ ∀ z ∈ l0, -9223372036854775808 ≤ z ∧ z ≤ 9223372036854775807) (x0 : RowAt KI w b0 m0 ∧ ∀ z ∈ m0, -9223372036854775808 ≤ z ∧ z ≤ 9223372036854775807) (y0 : -9223372036854775808 ≤ c0 ∧ c0 ≤ 9223372036854775807) (key : ByteArray) (w1 : key.size ≤ maxLen) :
    Calls Try.prog 4 #[.agg #[a0, b0, .int .i64 c0], .string key] w fun e w' => e = .returned (.bool true) ∧ Below w.heap.size w w' := by
  have hb : Below w.heap.size w (w.alloc (.cells #[a0, b0, .int .i64 c0] 38)) := balloc (Below.refl _ _) _
  have hc0 : (w.alloc (.cells #[a0, b0, .int .i64 c0] 38)).cell? ⟨w.heap.size, 0, none⟩ = some a0 := by simp
  have hc1 : (w.alloc (.cells #[a0, b0, .int .i64 c0] 38)).cell? ⟨w.heap.size, 1, none⟩ = some b0 := by simp
  have hc2 : (w.alloc (.cells #[a0, b0, .int .i64 c0] 38)).cell? ⟨w.heap.size, 2, none⟩ = some (.int .i64 c0) := by simp
  have hlt : w.heap.size < (w.alloc (.cells #[a0, b0, .int .i64 c0] 38)).heap.size := by simp
  obtain ⟨w0, w0b⟩ := w0
  obtain ⟨x0, x0b⟩ := x0
  have hrow := fun W hb' => row7_any a0 b0 l0 m0 c0 W (w0.below hb') (x0.below hb') w0b x0b y0
  obtain ⟨i0, j0, rfl, _⟩ := w0
  obtain ⟨i1, j1, rfl, _⟩ := x0
  clear w0b x0b y0 w1
  go_enter Try.func4, Try.ntmps4
  go_wp2_with fail
  generalize w.alloc (.cells #[.slice i0 l0.length j0, .slice i1 m0.length j1, .int .i64 c0] 38) = wb at *
  refine (awake7_any _).mono ?_
  rintro e wa ⟨rfl, hba⟩
  have hd0 := kcell hba hlt hc0
  have hd1 := kcell hba hlt hc1
  have hd2 := kcell hba hlt hc2
  have HBA := Lib.hid (bstep hb hba)
  clear hc0 hc1 hc2 hb hba hlt
  go_wp2_with fail
  refine (hrow _ HBA.out).mono ?_
  rintro e wr ⟨c, u0, u1, u2, rfl, hR, hok, hbr⟩
  have HBR := Lib.hid (bstep HBA.out hbr)
  have hsm := some7_any c u0 u1 u2 key wr hR.at hok
  clear hR hok hbr hrow hd0 hd1 hd2
  go_wp2_with fail
  refine hsm.mono ?_
  rintro e w2 ⟨rfl, hb2⟩
  go_wp2
  go_ret
  exact ⟨rfl, bstep HBR.out hb2⟩
end Go.Proofs.Ytllagelopdedfaa
