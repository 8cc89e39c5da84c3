/- The walk of the law LinkNil. -/
import Derived.Test.YtlpfnclbkndcgaaLinkAwake
namespace Go.Proofs.Ytlpfnclbkndcgaa
open Go.RowKit
set_option linter.unusedVariables false
set_option linter.unusedSimpArgs false

set_option maxRecDepth 100000 in
set_option maxHeartbeats 6400000 in
theorem walkLinkNil (w : World) (n : Int) (d : ByteArray) (wn : (Lit.int .i64 n).wf = true) (wd : d.size ≤ maxLen) :
    Calls Try.prog 6 #[.agg #[.int .i64 n, .string d]] w fun e w' => e = .returned (.bool true) ∧ Below w.heap.size w w' := by
  clear wn wd
  have HB := Lib.hid (balloc (Below.refl _ w) (.cells #[.int .i64 n, .string d] 39))
  have HV := Lib.hid (PkV.new w n d 39)
  obtain ⟨v0, v1, _, _⟩ := HV.out
  go_enter Try.func6, Try.ntmps6
  go_upto_region 1 with fail
  generalize w.alloc (.cells #[.int .i64 n, .string d] 39) = w1 at *
  go_wp2_with fail
  refine (send_nil d w1).mono ?_
  rintro e w2 ⟨rfl, hb2⟩
  have hb3 := bstep hb2 (balloc (Below.refl _ w2) (.cells #[.int .i64 0, .string ⟨#[]⟩] 39))
  have HB3 := Lib.hid (bstep HB.out hb3)
  have HV3 := Lib.hid (HV.out.keep hb3)
  obtain ⟨v0, v1, _, _⟩ := HV3.out
  clear hb2 hb3 HB HV
  go_upto_region 4 with fail
  generalize w2.alloc (.cells #[.int .i64 0, .string ⟨#[]⟩] 39) = w3 at *
  go_wp2_with fail
  refine (take_nil n d w3).mono ?_
  rintro e w4 ⟨rfl, hb4⟩
  have HB4 := Lib.hid (bstep HB3.out hb4)
  have HV4 := Lib.hid (HV3.out.keep hb4)
  have hba := balloc (Below.refl _ w4) (.cells #[.int .i64 0, .int .i64 0, .string ⟨#[]⟩, .int .i64 0, .string ⟨#[]⟩, .int .i64 0, .string ⟨#[]⟩, .int .i64 0, .string ⟨#[]⟩, .int .i64 0, .string ⟨#[]⟩, .int .i64 0, .string ⟨#[]⟩, .int .i64 0, .string ⟨#[]⟩, .int .i64 0, .string ⟨#[]⟩, .int .i64 0] 59)
  have HB5 := Lib.hid (bstep HB4.out hba)
  have HV5 := Lib.hid (HV4.out.keep hba)
  have HS5 := Lib.hid (SnAt.new w4 59)
  have HZ : Hid (w.heap.size < w4.heap.size) := Lib.hid HV4.out.lt
  clear hb4 hba HB4 HV4 HB3 HV3 v0 v1
  go_upto_region 6 with fail
  generalize w4.alloc (.cells #[.int .i64 0, .int .i64 0, .string ⟨#[]⟩, .int .i64 0, .string ⟨#[]⟩, .int .i64 0, .string ⟨#[]⟩, .int .i64 0, .string ⟨#[]⟩, .int .i64 0, .string ⟨#[]⟩, .int .i64 0, .string ⟨#[]⟩, .int .i64 0, .string ⟨#[]⟩, .int .i64 0, .string ⟨#[]⟩, .int .i64 0] 59) = w5 at *
  have hba := balloc (Below.refl _ w5) (.cells #[.int .i64 0] 61)
  have HB6 := Lib.hid (bstep HB5.out hba)
  have HV6 := Lib.hid (HV5.out.keep hba)
  have HS6 := Lib.hid (HS5.out.keep hba)
  have HR6 := Lib.hid (RcAt.new w5 61)
  have HE6 : Hid (w4.heap.size < w5.heap.size) := Lib.hid HS5.out.lt
  clear hba HB5 HV5 HS5
  go_upto_region 7 with fail
  generalize w5.alloc (.cells #[.int .i64 0] 61) = w6 at *
  generalize w4.heap.size = B at *
  generalize w5.heap.size = R at *
  obtain ⟨v0, v1, _, _⟩ := HV6.out
  have hcall : Calls Try.prog 17 #[.pointer (some ⟨B, 0, none⟩), .string d] w6 fun e w' => e = .returned (.tuple #[.agg #[.int .i64 0, .string d], .int .i64 0]) ∧ SnAt w' B 0 [d] ∧ Mv (fun j => j = B) w6 w' := send_ok B 0 [] d w6 HS6.out (by decide) (by decide)
  go_wp2_with fail
  refine hcall.mono ?_
  rintro e w7 ⟨rfl, hs7, hm7⟩
  have HV7 := Lib.hid (HV6.out.mv hm7 (by have := HZ.out; omega))
  have HR7 := Lib.hid (HR6.out.mv hm7 (by have := HE6.out; omega))
  have HB7 := Lib.hid (HB6.out.trans (hm7.below (n := w.heap.size) (fun k hk e => by have := HZ.out; omega) HB6.out.size))
  have hba := balloc (Below.refl _ w7) (.cells #[.int .i64 0, .string d] 39)
  have HV8 := Lib.hid (HV7.out.keep hba)
  have HR8 := Lib.hid (HR7.out.keep hba)
  have HB8 := Lib.hid (bstep HB7.out hba)
  have HQ8 := Lib.hid (PkV.new w7 0 d 39)
  clear hcall hs7 hm7 HV7 HR7 HB7 HB6 HV6 HS6 HR6 hba v0 v1
  go_upto_region 8 with fail
  generalize w7.alloc (.cells #[.int .i64 0, .string d] 39) = w8 at *
  generalize w7.heap.size = C at *
  obtain ⟨c0, c1, _, _⟩ := HQ8.out
  have hcall : Calls Try.prog 15 #[.pointer (some ⟨R, 0, none⟩), .agg #[.int .i64 0, .string d]] w8 fun e w' => e = .returned (.tuple #[.string d, .bool true]) ∧ RcAt w' R 1 ∧ Mv (fun j => j = R) w8 w' := take_at R 0 0 d w8 HR8.out (by decide)
  go_wp2_with fail
  refine hcall.mono ?_
  rintro e w9 ⟨rfl, hr9, hm9⟩
  have HV9 := Lib.hid (HV8.out.mv hm9 (by have := HZ.out; have := HE6.out; omega))
  have HB9 := Lib.hid (HB8.out.trans (hm9.below (n := w.heap.size) (fun k hk e => by have := HZ.out; have := HE6.out; omega) HB8.out.size))
  clear hcall hr9 hm9 HV8 HB8 HQ8 HR8 c0 c1
  go_wp2_with fail
  refine (awake10_any w9).mono ?_
  rintro e wA ⟨rfl, hbA⟩
  have HVA := Lib.hid (HV9.out.keep hbA)
  have HBA := Lib.hid (bstep HB9.out hbA)
  obtain ⟨v0, v1, _, _⟩ := HVA.out
  clear hbA HV9 HB9
  go_wp2_with fail
  refine (answer_nil n wA).mono ?_
  rintro e wB ⟨rfl, rfl⟩
  go_wp2_with fail
  refine (open_nil _).mono ?_
  rintro e wB ⟨rfl, rfl⟩
  go_wp2_with fail
  refine (next_nil _).mono ?_
  rintro e wB ⟨rfl, rfl⟩
  go_wp2_with fail
  refine (waits_nil _).mono ?_
  rintro e wB ⟨rfl, rfl⟩
  go_wp2
  go_ret
  exact ⟨rfl, HBA.out⟩
end Go.Proofs.Ytlpfnclbkndcgaa
