/- What law06's turned answers: bytes that are no row's are read as none. -/
import Derived.Test.YtllagelopdedfaaGW27
import Derived.Test.YtllagelopdedfaaWireRefReadRow
import Derived.Test.YtllagelopdedfaaBytesPut
import Derived.Deep.DeepCutAuto
namespace Go.Proofs.Ytllagelopdedfaa
open Go.RowKit
set_option linter.unusedVariables false
set_option linter.unusedSimpArgs false

theorem bidx6 (q : Int) (L : Nat) (h0 : 0 < L) (h1 : L ≤ 100000) : ∃ k : Nat, (wrap64 (q.tmod (L : Int) + (L : Int))).tmod (L : Int) = (k : Int) ∧ k < L := by
  have a1 := Int.tmod_lt_of_pos q (b := (L : Int)) (by omega)
  have a2 : -(L : Int) < q.tmod (L : Int) := by
    exact Int.lt_tmod_of_pos q (b := (L : Int)) (by omega)
  have a3 : wrap64 (q.tmod (L : Int) + (L : Int)) = q.tmod (L : Int) + (L : Int) := by unfold wrap64; omega
  rw [a3]
  have b1 := Int.tmod_lt_of_pos (q.tmod (L : Int) + (L : Int)) (b := (L : Int)) (by omega)
  have b2 := Int.tmod_nonneg (L : Int) (a := q.tmod (L : Int) + (L : Int)) (by omega)
  exact ⟨((q.tmod (L : Int) + (L : Int)).tmod (L : Int)).toNat, by omega, by omega⟩
theorem rowB_pos (c : Rw) : 1 ≤ (rowB c).length := by
  have := Vm.enc_pos c.rs.length
  unfold rowB
  rw [List.length_append]
  omega
/-- An owner's set, of so many sites. -/
def fO (n : Nat) (o : Int) : Bool := decide (1 ≤ o) && decide (o < ((2 ^ n : Nat) : Int))
theorem may_no {s : List UInt8} {e : Rw} (h : rowR s = some e) (hn : readRW s = none) : (Km.whole (tls e.rs) && decide (1 ≤ e.pa.length) && e.ow.all (fO e.pa.length)) = false := by
  cases hq : (Km.whole (tls e.rs) && decide (1 ≤ e.pa.length) && e.ow.all (fO e.pa.length)) with
  | false => rfl
  | true =>
    simp only [Bool.and_eq_true, decide_eq_true_eq, List.all_eq_true] at hq
    obtain ⟨⟨h1, h2⟩, h3⟩ := hq
    obtain ⟨f1, f2, f3, f4, f5, f6, f7⟩ := rowR_facts h
    have hok : okRw e = true := okRw_of ⟨h2, f4, f2, f3⟩ h1 f5 (fun o ho => by
      have := h3 o ho
      unfold fO at this
      simp only [Bool.and_eq_true, decide_eq_true_eq] at this
      exact this)
    rw [readRW_parts h hok] at hn
    cases hn

set_option maxRecDepth 100000 in
set_option maxHeartbeats 6400000 in
theorem turned_any (v0 v1 v2 : Value) (l0 l1 l2 : List Int) (q : Int) (by_ : Int) (cut : Bool) (w : World) (h0 : RowAt KI w v0 l0) (h1 : RowAt KI w v1 l1) (h2 : RowAt KI w v2 l2) (hb0 : ∀ z ∈ l0, -9223372036854775808 ≤ z ∧ z ≤ 9223372036854775807) (hb1 : ∀ z ∈ l1, -9223372036854775808 ≤ z ∧ z ≤ 9223372036854775807) (hb2 : ∀ z ∈ l2, -9223372036854775808 ≤ z ∧ z ≤ 9223372036854775807) :
    Calls Try.prog 38 #[.agg #[v0, v1, v2], .int .i64 q, .int .u8 by_, .bool cut] w fun e w' => e = .returned (.bool true) ∧ Below w.heap.size w w' := by
  have hrow := fun W hb' => row6_any v0 v1 v2 l0 l1 l2 W (h0.below hb') (h1.below hb') (h2.below hb') hb0 hb1 hb2
  obtain ⟨i0, j0, rfl, _⟩ := h0
  obtain ⟨i1, j1, rfl, _⟩ := h1
  obtain ⟨i2, j2, rfl, _⟩ := h2
  clear hb0 hb1 hb2
  have hb : Below w.heap.size w (w.alloc (.cells #[.slice i0 l0.length j0, .slice i1 l1.length j1, .slice i2 l2.length j2] 52)) := balloc (Below.refl _ _) _
  go_enter Try.func38, Try.ntmps38
  go_wp2_with fail
  generalize w.alloc (.cells #[.slice i0 l0.length j0, .slice i1 l1.length j1, .slice i2 l2.length j2] 52) = wb0 at *
  refine (hrow _ hb).mono ?_
  rintro e wS ⟨c, u0, u1, u2, rfl, hRO, hok, hbr⟩
  have HBR := Lib.hid (bstep hb hbr)
  have hR := hRO.at
  have HOK := Lib.hid hok
  clear hrow hbr hRO hok hb
  obtain ⟨z0, t0, rfl, _⟩ := id hR.rs
  obtain ⟨z1, t1, rfl, _⟩ := id hR.ow
  obtain ⟨z2, t2, rfl, _⟩ := id hR.pa
  have hrf := refRowBytes_any c (.slice z0 c.rs.length t0) (.slice z1 c.ow.length t1) (.slice z2 c.pa.length t2) wS HOK.out hR
  obtain ⟨B, hB⟩ : ∃ B : ByteArray, B = ⟨(rowB c).toArray⟩ := ⟨_, rfl⟩
  rw [← hB] at hrf
  have hBs : B.size ≤ 5000 := by
    rw [hB]
    show (Array.size _) ≤ _
    rw [List.size_toArray]
    exact rowB_len HOK.out
  have hBp : 1 ≤ B.size := by
    rw [hB]
    show _ ≤ (Array.size _)
    rw [List.size_toArray]
    exact rowB_pos c
  clear hB hR
  go_wp2_with fail
  refine hrf.mono ?_
  rintro e w5 ⟨rfl, hb5⟩
  have hbel5 := bstep HBR.out hb5
  obtain ⟨cp, wb, hcb, hb6, hby, hfr, hsz⟩ := conv_bytes B w5
  have hbel6 := bstep hbel5 hb6
  have HBY := Lib.hid hby
  have HFR := Lib.hid hfr
  have hw5 := hbel5.size
  clear hrf hb5 hbel5 hb6 hby hfr HBR HOK
  have hBz : ((B.size : Int) == 0) = false := beq_eq_false_iff_ne.2 (by omega)
  obtain ⟨k, hk, hkl⟩ := bidx6 q B.size (by omega) (by omega)
  go_upto_region 3 with fail
  clear hk hcb
  have hcell := HBY.out k hkl
  rw [Nat.zero_add] at hcell
  have hfro := HFR.out k hkl
  have hk0 : (0 : Int) ≤ (k : Int) := by omega
  have hk1 : (k : Int) < (B.size : Int) := by omega
  generalize B[k] = x at hcell
  go_upto_region 4 with fail
  generalize hX : bits BinOp.xor IntKind.u8 _ _ = X
  obtain ⟨y, hy⟩ : ∃ y : UInt8, X = (y.toNat : Int) := by rw [← hX]; exact xor_u8 _ _
  clear hX
  subst hy
  obtain ⟨S, hS, hSB⟩ := bytes_put (w := wb) (b := w5.heap.size) (B := B) HBY.out hkl y
  have hcs := Lib.run_convert_whole (P := Try.prog) _ 56 5 9 Try.underlying56 Try.underlying5 Try.underlying9 w5.heap.size 0 S hSB cp
  rw [hS] at hcs
  have HB7 := Lib.hid (hbel6.setCell (p := ⟨w5.heap.size, k, none⟩) (show w.heap.size ≤ w5.heap.size by omega) (.int .u8 (y.toNat : Int)))
  have HSS : Hid (S.size ≤ 5000) := Lib.hid (by omega)
  have HKS : Hid (k ≤ S.size) := Lib.hid (by omega)
  clear hSB HBY HFR hbel6 hS hcell hfro
  go_upto_if 48 with (fail)
  clear hcs
  generalize wb.setCell ⟨w5.heap.size, k, none⟩ (.int .u8 (y.toNat : Int)) = w7 at *
  go_cut [11] (fun s11 wx => ∃ S : ByteArray, S.size ≤ 5000 ∧ s11 = .string S ∧ wx = w7)
  case first =>
    have hkS : (k : Int) ≤ (S.size : Int) := by have := HKS.out; omega
    have hkSn : k ≤ S.size := HKS.out
    cases cut with
    | true =>
      go_wp2
      go_meet
      exact ⟨_, by simp; have := HSS.out; omega, rfl, rfl⟩
    | false =>
      go_wp2
      go_meet
      exact ⟨S, HSS.out, rfl, rfl⟩
  case rest =>
    clear HSS HKS S
    obtain ⟨S, hS, rfl, hwx⟩ := hcut
    obtain rfl := hwx.symm
    have hpr := fun W => readRow_any S W (by omega)
    have hrr := fun W => refReadRow_any S W (by omega)
    obtain ⟨r, hr⟩ : ∃ r, r = readRW S.data.toList := ⟨_, rfl⟩
    obtain ⟨pr, hpq⟩ : ∃ pr, pr = rowR S.data.toList := ⟨_, rfl⟩
    rw [← hr] at hpr
    rw [← hpq] at hrr
    have HR := Lib.hid hr
    have HP := Lib.hid hpq
    clear hr hpq
    go_wp2_with fail
    refine (hpr _).mono ?_
    rintro e w8 ⟨u0, u1, u2, rfl, hd8, hb8⟩
    obtain ⟨y0, s0, rfl, _⟩ := id hd8.rs
    obtain ⟨y1, s1, rfl, _⟩ := id hd8.ow
    obtain ⟨y2, s2, rfl, _⟩ := id hd8.pa
    have hN := VrP.new w8 (.slice y0 (gotR r).rs.length s0) (.slice y1 (gotR r).ow.length s1) (.slice y2 (gotR r).pa.length s2) 25
    have hbn := balloc (Below.refl _ w8) (.cells #[.slice y0 (gotR r).rs.length s0, .slice y1 (gotR r).ow.length s1, .slice y2 (gotR r).pa.length s2] 25)
    have HD9 := Lib.hid (hd8.below hbn)
    have HB9 := Lib.hid (bstep (bstep HB7.out hb8) hbn)
    have HN9 := Lib.hid hN
    clear hN hbn hd8 hb8 hpr HB7
    go_upto_region 8 with fail
    generalize w8.alloc (.cells #[.slice y0 (gotR r).rs.length s0, .slice y1 (gotR r).ow.length s1, .slice y2 (gotR r).pa.length s2] 25) = w9 at *
    have hNl := HN9.out.lt
    generalize w8.heap.size = D at *
    go_wp2_with fail
    refine (hrr _).mono ?_
    rintro e wa ⟨a0, n0, c0, a1, n1, c1, a2, n2, c2, rfl, hea, hba⟩
    have hN := VrP.new wa (.slice a0 n0 c0) (.slice a1 n1 c1) (.slice a2 n2 c2) 25
    have hbn := balloc (Below.refl _ wa) (.cells #[.slice a0 n0 c0, .slice a1 n1 c1, .slice a2 n2 c2] 25)
    have HDb := Lib.hid ((HD9.out.below hba).below hbn)
    have HNb := Lib.hid ((HN9.out.keep hba).keep hbn)
    have HBb := Lib.hid (bstep (bstep HB9.out hba) hbn)
    have HEb := Lib.hid (fun c h => (hea c h).below hbn)
    have HMb := Lib.hid hN
    clear hN hbn hea hba hrr HD9 HN9 HB9 hNl
    go_upto_region 9 with fail
    generalize wa.alloc (.cells #[.slice a0 n0 c0, .slice a1 n1 c1, .slice a2 n2 c2] 25) = wv at *
    generalize wa.heap.size = E at *
    cases r with
    | none =>
      dsimp only [gotR, Option.isSome, List.length_nil] at *
      obtain ⟨d0, d1, d2, _⟩ := HNb.out
      cases pr with
      | none =>
        go_wp2
        go_ret
        exact ⟨rfl, HBb.out⟩
      | some e =>
        have HE := Lib.hid (HEb.out e rfl)
        clear HEb
        obtain ⟨a0', c0', q0, _, _, _, hi0⟩ := id HE.out.rs
        obtain ⟨a1', c1', q1, _, _, _, hi1⟩ := id HE.out.ow
        obtain ⟨a2', c2', q2, _, _, _, hi2⟩ := id HE.out.pa
        cases q0
        cases q1
        cases q2
        obtain ⟨f1, f2, f3, f4, f5, f6, f7⟩ := rowR_facts HP.out.symm
        have HMAY := Lib.hid (may_no HP.out.symm HR.out.symm)
        have hwh := refWhole_any a0 c0 e.rs wv (by omega) HE.out.sz (RowIn.rng hi0)
        have HF5 := Lib.hid f5
        have HF3 := Lib.hid f3
        have HI1 := Lib.hid hi1
        have HI2 := Lib.hid hi2
        clear f3 f5 f6 f7 hi0 hi1 hi2
        obtain ⟨x0, x1, x2, _⟩ := HMb.out
        generalize Km.whole (tls e.rs) = wh at hwh HMAY
        go_wp2_with fail
        refine hwh.mono ?_
        rintro e' wc ⟨rfl, hbc⟩
        have HNc := Lib.hid (HNb.out.keep hbc)
        have HMc := Lib.hid (HMb.out.keep hbc)
        have HBc := Lib.hid (bstep HBb.out hbc)
        have HJ1 := Lib.hid (HI1.out.below hbc)
        have HJ2 := Lib.hid (HI2.out.below hbc)
        clear hwh hbc d0 d1 d2 x0 x1 x2 HNb HMb HBb HI1 HI2 HE HDb
        obtain ⟨x0, x1, x2, _⟩ := HMc.out
        obtain ⟨n, hn⟩ : ∃ n, e.pa.length = n := ⟨_, rfl⟩
        have HNN := Lib.hid hn
        rw [hn] at HMAY x2 f4
        obtain ⟨m, hm⟩ : ∃ m, e.ow.length = m := ⟨_, rfl⟩
        have HMM := Lib.hid hm
        rw [hm] at x1
        have hm8 : m ≤ 8 := by have := HF3.out; omega
        clear hn hm
        go_upto_region 14 with fail
        go_cut [18] (fun s wx => s = .bool (wh && decide (1 ≤ n)) ∧ wx = wc)
        case first =>
          cases wh with
          | false =>
            go_wp2
            go_meet
            exact ⟨rfl, rfl⟩
          | true =>
            by_cases hn1 : 1 ≤ n
            · have hni : (1 : Int) ≤ (n : Int) := by omega
              go_wp2
              go_meet
              exact ⟨by rw [decide_eq_true hn1]; rfl, rfl⟩
            · have hni : ¬ (1 : Int) ≤ (n : Int) := by omega
              go_wp2
              go_meet
              exact ⟨by rw [decide_eq_false hn1]; rfl, rfl⟩
        case rest =>
          obtain ⟨rfl, hwx2⟩ := hcut
          obtain rfl := hwx2.symm
          generalize (wh && decide (1 ≤ n)) = W0 at *
          clear x0 x1 x2
          go_wp2_with fail
          go_loop [19, 20] (fun p i => ∃ j z : Nat, j ≤ n ∧ i = .int .i64 j ∧ p = .int .i64 (z : Int) ∧ z = 2 ^ j) (fun _ i => n - (intOf i).toNat)
          case atStart => exact ⟨0, 1, by omega, rfl, rfl, rfl⟩
          case round =>
            obtain ⟨j, z, hj, rfl, rfl, hz⟩ := hrel
            have hz6 : z ≤ 64 := by rw [hz]; exact Nat.pow_le_pow_right (n := 2) (by omega) (show j ≤ 6 by omega)
            have HZ := Lib.hid hz
            clear hz
            by_cases hlt : j < n
            · have hji : (j : Int) < (n : Int) := by omega
              go_wp2
              go_round
              case rel => exact ⟨j + 1, z * 2, by omega, by go_num, by go_num, by rw [HZ.out, Nat.pow_succ]⟩
              case measure => simp [intOf]; omega
            · obtain rfl : j = n := by omega
              clear hj hlt
              obtain ⟨x0, x1, x2, _⟩ := HMc.out
              rw [HMM.out] at x1
              rw [HNN.out] at x2
              go_wp2_with fail
              go_loop [18, 21] (fun s i => ∃ x : Nat, x ≤ m ∧ i = .int .i64 x ∧ s = .bool (W0 && (e.ow.take x).all (fO j))) (fun _ i => m - (intOf i).toNat)
              case atStart => exact ⟨0, by omega, rfl, by simp⟩
              case round =>
                obtain ⟨x, hx, rfl, rfl⟩ := hrel
                by_cases hlt : x < m
                · have hxi : (x : Int) < (m : Int) := by omega
                  have hxl : x < e.ow.length := by have := HMM.out; omega
                  obtain ⟨bo, oo, rfl, _, co⟩ := HJ1.out.int x hxl
                  have HSN : Hid ((W0 && (e.ow.take (x + 1)).all (fO j)) = ((W0 && (e.ow.take x).all (fO j)) && fO j e.ow[x])) := Lib.hid (by rw [List.take_succ_eq_append_getElem hxl, List.all_append, Bool.and_assoc]; simp)
                  generalize e.ow[x] = o at co HSN
                  generalize (W0 && (e.ow.take x).all (fO j)) = b at *
                  cases b with
                  | false =>
                    go_wp2
                    go_round
                    case rel => exact ⟨x + 1, by omega, by go_num, by rw [HSN.out]; rfl⟩
                    case measure => simp [intOf]; omega
                  | true =>
                    by_cases ho1 : 1 ≤ o
                    · by_cases ho2 : o < (z : Int)
                      · have hf : fO j o = true := by unfold fO; rw [decide_eq_true ho1, ← HZ.out, decide_eq_true ho2]; rfl
                        have HFO := Lib.hid hf
                        clear hf
                        go_wp2
                        go_round
                        case rel => exact ⟨x + 1, by omega, by go_num, by rw [HSN.out, HFO.out]; rfl⟩
                        case measure => simp [intOf]; omega
                      · have hf : fO j o = false := by unfold fO; rw [← HZ.out, decide_eq_false ho2, Bool.and_false]
                        have HFO := Lib.hid hf
                        clear hf
                        go_wp2
                        go_round
                        case rel => exact ⟨x + 1, by omega, by go_num, by rw [HSN.out, HFO.out]; rfl⟩
                        case measure => simp [intOf]; omega
                    · have hf : fO j o = false := by unfold fO; rw [decide_eq_false ho1, Bool.false_and]
                      have HFO := Lib.hid hf
                      clear hf
                      go_wp2
                      go_round
                      case rel => exact ⟨x + 1, by omega, by go_num, by rw [HSN.out, HFO.out]; rfl⟩
                      case measure => simp [intOf]; omega
                · obtain rfl : x = m := by omega
                  have hM : (W0 && (e.ow.take x).all (fO j)) = false := by rw [List.take_of_length_le (by have := HMM.out; omega)]; exact HMAY.out
                  rw [hM]
                  clear hM hlt hx
                  go_wp2_with fail
                  go_loop [18, 22] (fun s i => ∃ y : Nat, y ≤ j ∧ i = .int .i64 y ∧ s = .bool false) (fun _ i => j - (intOf i).toNat)
                  case atStart => exact ⟨0, by omega, rfl, rfl⟩
                  case round =>
                    obtain ⟨y2, hy, rfl, rfl⟩ := hrel
                    by_cases hlt : y2 < j
                    · have hyi : (y2 : Int) < (j : Int) := by omega
                      go_wp2
                      go_round
                      case rel => exact ⟨y2 + 1, by omega, by go_num, rfl⟩
                      case measure => simp [intOf]; omega
                    · obtain rfl : y2 = j := by omega
                      obtain ⟨d0, d1, d2, _⟩ := HNc.out
                      go_wp2
                      go_ret
                      exact ⟨rfl, HBc.out⟩
    | some d =>
      have hok : okRw d = true := (readRW_some HR.out.symm).2
      obtain ⟨hb, hpp⟩ := readRW_only HR.out.symm
      have hpq : pr = some d := HP.out.trans hpp
      subst hpq
      dsimp only [gotR, Option.isSome] at *
      have HE := Lib.hid (HEb.out d rfl)
      clear HEb
      obtain ⟨a0', c0', q0, _⟩ := id HE.out.rs
      obtain ⟨a1', c1', q1, _⟩ := id HE.out.ow
      obtain ⟨a2', c2', q2, _⟩ := id HE.out.pa
      cases q0
      cases q1
      cases q2
      have hsame := sameR_any d _ _ _ _ _ _ wv (okRw_parts hok).1.2.2.2 HDb.out HE.out
      have hrb := fun W h => rowBytes_any d (.slice y0 d.rs.length s0) (.slice y1 d.ow.length s1) (.slice y2 d.pa.length s2) W h
      have e1 : (⟨(rowbV d).toArray⟩ : ByteArray) = S := ba_inj (by unfold rowbV; rw [if_pos hok]; simpa using hb)
      rw [e1] at hrb
      obtain ⟨d0, d1, d2, _⟩ := HNb.out
      obtain ⟨x0, x1, x2, _⟩ := HMb.out
      clear hb hpp hok e1
      go_wp2_with fail
      refine hsame.mono ?_
      rintro e' wc ⟨rfl, hbc⟩
      have HDc := Lib.hid (HDb.out.below hbc)
      have hNc := HNb.out.keep hbc
      have HBc := Lib.hid (bstep HBb.out hbc)
      clear d0 d1 d2 x0 x1 x2 hsame hbc HMb HNb HBb HDb
      obtain ⟨d0, d1, d2, _⟩ := hNc
      go_wp2_with fail
      refine (hrb _ HDc.out).mono ?_
      rintro e' wd ⟨rfl, hbd⟩
      go_wp2
      go_ret
      exact ⟨rfl, bstep HBc.out hbd⟩
end Go.Proofs.Ytllagelopdedfaa
