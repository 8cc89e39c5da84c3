/- The walk of the law WireRows. -/
import Derived.Test.YtllagelopdedfaaGW27
import Derived.Lib.SlBytesRow
import Derived.Lib.ConvBytes
namespace Go.Proofs.Ytllagelopdedfaa
open Go.RowKit
set_option linter.unusedVariables false
set_option linter.unusedSimpArgs false

set_option maxRecDepth 100000 in
set_option maxHeartbeats 3200000 in
theorem walkWireRows (w : World) (a0 b0 c0 : Value) (l0 m0 n0 : List Int) (w0 : RowAt KI w a0 l0 ∧ ∀ z ∈ l0, -9223372036854775808 ≤ z ∧ z ≤ 9223372036854775807) (x0 : RowAt KI w b0 m0 ∧ ∀ z ∈ m0, -9223372036854775808 ≤ z ∧ z ≤ 9223372036854775807) (y0 : RowAt KI w c0 n0 ∧ ∀ z ∈ n0, -9223372036854775808 ≤ z ∧ z ≤ 9223372036854775807) (cc : Int) (hwf : (Lit.int .u8 cc).wf = true) :
    Calls Try.prog 9 #[.agg #[a0, b0, c0], .int .u8 cc] w fun e w' => e = .returned (.bool true) ∧ Below w.heap.size w w' := by
  have hc : 0 ≤ cc ∧ cc ≤ 255 := by
    simp [Lit.wf, IntKind.min, IntKind.max, IntKind.signed, IntKind.bits] at hwf
    omega
  obtain ⟨cb, hcb⟩ : ∃ cb : UInt8, cc = (cb.toNat : Int) := ⟨UInt8.ofNat cc.toNat, by rw [UInt8.toNat_ofNat']; omega⟩
  have HCB := Lib.hid hcb
  obtain ⟨w0, w0b⟩ := w0
  obtain ⟨x0, x0b⟩ := x0
  obtain ⟨y0, y0b⟩ := y0
  have hrow := fun W hb' => row6_any a0 b0 c0 l0 m0 n0 W (w0.below hb') (x0.below hb') (y0.below hb') w0b x0b y0b
  obtain ⟨i0, j0, rfl, _⟩ := w0
  obtain ⟨i1, j1, rfl, _⟩ := x0
  obtain ⟨i2, j2, rfl, _⟩ := y0
  clear w0b x0b y0b hcb hc hwf
  have hb : Below w.heap.size w (w.alloc (.cells #[.slice i0 l0.length j0, .slice i1 m0.length j1, .slice i2 n0.length j2] 52)) := balloc (Below.refl _ _) _
  have hS0 := VrP.new w (.slice i0 l0.length j0) (.slice i1 m0.length j1) (.slice i2 n0.length j2) 52
  go_enter Try.func9, Try.ntmps9
  go_wp2_with fail
  generalize w.alloc (.cells #[.slice i0 l0.length j0, .slice i1 m0.length j1, .slice i2 n0.length j2] 52) = wb at *
  refine (wawake_any _).mono ?_
  rintro e wa ⟨rfl, hba⟩
  obtain ⟨p0, p1, p2, _⟩ := hS0.keep hba
  have HBA := Lib.hid (bstep hb hba)
  clear hb hba hS0
  go_wp2_with fail
  refine (hrow _ HBA.out).mono ?_
  rintro e wS ⟨c, u0, u1, u2, rfl, hRO, hok, hbr⟩
  have HBR := Lib.hid (bstep HBA.out hbr)
  have hR := hRO.at
  have HOK := Lib.hid hok
  clear hrow p0 p1 p2 hbr hRO hok
  obtain ⟨z0, t0, rfl, _⟩ := id hR.rs
  obtain ⟨z1, t1, rfl, _⟩ := id hR.ow
  obtain ⟨z2, t2, rfl, _⟩ := id hR.pa
  have hV := VrP.new wS (.slice z0 c.rs.length t0) (.slice z1 c.ow.length t1) (.slice z2 c.pa.length t2) 25
  have hbv := balloc (Below.refl _ wS) (.cells #[.slice z0 c.rs.length t0, .slice z1 c.ow.length t1, .slice z2 c.pa.length t2] 25)
  have HR := Lib.hid (hR.below hbv)
  have HV := Lib.hid hV
  have HBV := Lib.hid (bstep HBR.out hbv)
  clear hbv hV hR
  go_upto_region 3 with fail
  generalize wS.alloc (.cells #[.slice z0 c.rs.length t0, .slice z1 c.ow.length t1, .slice z2 c.pa.length t2] 25) = wv at *
  have hV0 := HV.out.lt
  generalize wS.heap.size = B at *
  obtain ⟨S, hS⟩ : ∃ S : ByteArray, S = ⟨(rowB c).toArray⟩ := ⟨_, rfl⟩
  have hSl : S.data.toList = rowB c := by rw [hS]
  have hlen : S.size ≤ 5000 := by show S.data.toList.length ≤ 5000; rw [hSl]; exact rowB_len HOK.out
  have hrb := fun W h => rowBytes_any c (.slice z0 c.rs.length t0) (.slice z1 c.ow.length t1) (.slice z2 c.pa.length t2) W h
  have hrf := fun W h => refRowBytes_any c (.slice z0 c.rs.length t0) (.slice z1 c.ow.length t1) (.slice z2 c.pa.length t2) W HOK.out h
  have e1 : rowbV c = rowB c := by unfold rowbV; rw [if_pos HOK.out]
  rw [e1, ← hS] at hrb
  rw [← hS] at hrf
  have hr0 := fun W => readRow_any S W (by omega)
  have hr1 := fun W => readRow_any (S ++ ⟨#[cb]⟩) W (by rw [ByteArray.size_append]; show S.size + 1 ≤ _; omega)
  rw [hSl, readRW_back HOK.out] at hr0
  rw [show (S ++ ⟨#[cb]⟩ : ByteArray).data.toList = rowB c ++ [cb] by simp [hSl], readRW_more HOK.out cb] at hr1
  dsimp only [gotR, Option.isSome] at hr0 hr1
  have hcv : ∀ W b off, W.cell? ⟨b, off, none⟩ = some (.int .u8 cc) → (convert 56 9 (.slice (some ⟨b, off, none⟩) 1 1)).run Try.prog W = .ok (.string ⟨#[cb]⟩) W := fun W b off h => kconv_one W b off cb cc HCB.out h
  have hsame := fun W v0 v1 v2 h h' => sameR_any c (.slice z0 c.rs.length t0) (.slice z1 c.ow.length t1) (.slice z2 c.pa.length t2) v0 v1 v2 W (okRw_parts HOK.out).1.2.2.2 h h'
  have n1 : ¬ 9223372036854775807 < S.size + 1 := by omega
  clear e1 hSl hS hlen
  obtain ⟨d0, d1, d2, _⟩ := HV.out
  go_wp2_with fail
  refine (hrb _ HR.out).mono ?_
  rintro e w1 ⟨rfl, hb1⟩
  have HV1 := Lib.hid (HV.out.keep hb1)
  have HR1 := Lib.hid (HR.out.below hb1)
  have HB1 := Lib.hid (bstep HBV.out hb1)
  clear d0 d1 d2 hb1 HV HR HBV hrb
  go_wp2_with fail
  refine (hr0 _).mono ?_
  rintro e w2 ⟨v0, v1, v2, rfl, hd2, hb2⟩
  obtain ⟨y0, s0, rfl, _⟩ := id hd2.rs
  obtain ⟨y1, s1, rfl, _⟩ := id hd2.ow
  obtain ⟨y2, s2, rfl, _⟩ := id hd2.pa
  have hN := VrP.new w2 (.slice y0 c.rs.length s0) (.slice y1 c.ow.length s1) (.slice y2 c.pa.length s2) 25
  have hbn := balloc (Below.refl _ w2) (.cells #[.slice y0 c.rs.length s0, .slice y1 c.ow.length s1, .slice y2 c.pa.length s2] 25)
  have HV2 := Lib.hid ((HV1.out.keep hb2).keep hbn)
  have HR2 := Lib.hid ((HR1.out.below hb2).below hbn)
  have HD2 := Lib.hid (hd2.below hbn)
  have HB2 := Lib.hid (bstep (bstep HB1.out hb2) hbn)
  have HN := Lib.hid hN
  clear hN hbn hd2 hb2 hr0 HV1 HR1 HB1
  go_upto_region 5 with fail
  generalize w2.alloc (.cells #[.slice y0 c.rs.length s0, .slice y1 c.ow.length s1, .slice y2 c.pa.length s2] 25) = w3 at *
  have hNl := HN.out.lt
  generalize w2.heap.size = D at *
  have hbc := balloc (Below.refl _ w3) (.cells #[.int .u8 cc] 5)
  have hcc : (w3.alloc (.cells #[.int .u8 cc] 5)).cell? ⟨w3.heap.size, 0, none⟩ = some (.int .u8 cc) := by simp
  have hcv9 := hcv _ _ _ hcc
  have HBC := Lib.hid hbc
  clear hbc hcc hcv
  go_wp2_with fail
  refine (hr1 _).mono ?_
  rintro e w4 ⟨q0, q1, q2, rfl, hd4, hb4⟩
  have hb10 := bstep HBC.out hb4
  obtain ⟨f0, g0, rfl, _⟩ := id hd4.rs
  obtain ⟨f1, g1, rfl, _⟩ := id hd4.ow
  obtain ⟨f2, g2, rfl, _⟩ := id hd4.pa
  have hbn := balloc hb10 (.cells #[.slice f0 ([] : List (ByteArray × ByteArray)).length g0, .slice f1 ([] : List Int).length g1, .slice f2 ([] : List Int).length g2] 25)
  have hV5 := HV2.out.keep hbn
  have hN5 := HN.out.keep hbn
  have HR5 := Lib.hid (HR2.out.below hbn)
  have HD5 := Lib.hid (HD2.out.below hbn)
  have HB5 := Lib.hid (bstep HB2.out hbn)
  have HV5 := Lib.hid hV5
  have HN5 := Lib.hid hN5
  clear hd4 hb4 hb10 hr1 HV2 HR2 HD2 HB2 HN HBC hcv9 hbn hV5 hN5
  go_upto_region 6 with fail
  generalize w4.alloc (.cells #[.slice f0 ([] : List (ByteArray × ByteArray)).length g0, .slice f1 ([] : List Int).length g1, .slice f2 ([] : List Int).length g2] 25) = w5 at *
  obtain ⟨d0, d1, d2, _⟩ := HV5.out
  go_wp2_with fail
  refine (hrf _ HR5.out).mono ?_
  rintro e w6 ⟨rfl, hb6⟩
  have HR6 := Lib.hid (HR5.out.below hb6)
  have HD6 := Lib.hid (HD5.out.below hb6)
  have HB6 := Lib.hid (bstep HB5.out hb6)
  have hV6 := HV5.out.keep hb6
  have hN6 := HN5.out.keep hb6
  clear d0 d1 d2 hb6 hrf HR5 HD5 HB5 HV5 HN5
  obtain ⟨d0, d1, d2, _⟩ := hV6
  obtain ⟨r0, r1, r2, _⟩ := hN6
  go_wp2_with fail
  refine (hsame _ _ _ _ HR6.out HD6.out).mono ?_
  rintro e w7 ⟨rfl, hb7⟩
  go_wp2
  go_ret
  exact ⟨rfl, bstep HB6.out hb7⟩
end Go.Proofs.Ytllagelopdedfaa
