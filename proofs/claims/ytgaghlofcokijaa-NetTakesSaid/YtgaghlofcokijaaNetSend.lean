/- What Send does. -/
import Derived.Test.YtgaghlofcokijaaLinkEnds
import Derived.Test.YtgaghlofcokijaaNetMv
import Derived.StillTailTactics
import Derived.Deep.AppendLies
namespace Go.Proofs.Ytgaghlofcokijaa
open Go.RowKit
set_option linter.unusedVariables false
set_option linter.unusedSimpArgs false

/-- What a Send leaves where there is room. -/
def SentAt (w : World) (b ans : Nat) (op : List ByteArray) (d : ByteArray) (e : Ending) (w' : World) : Prop := e = .returned (.tuple #[.agg #[.int .i64 ((ans + op.length : Nat) : Int), .string d], .int .i64 0]) ∧ SnAt w' b ans (op ++ [d]) ∧ MvS b w w'
/-- What a Send leaves where there is none. -/
def FullAt (w : World) (b ans : Nat) (op : List ByteArray) (e : Ending) (w' : World) : Prop := e = .returned (.tuple #[.agg #[.int .i64 0, .string ⟨#[]⟩], .int .i64 15]) ∧ SnAt w' b ans op ∧ MvS b w w'

set_option maxRecDepth 100000 in
set_option maxHeartbeats 1000000 in
theorem send_nil (d : ByteArray) (w : World) :
    Calls Try.prog 20 #[.pointer none, .string d] w fun e w' => e = .returned (.tuple #[.agg #[.int .i64 0, .string ⟨#[]⟩], .int .i64 1]) ∧ Below w.heap.size w w' := by
  have hb := balloc (Below.refl _ w) (.cells #[.int .i64 0, .string ⟨#[]⟩] 53)
  go_enter Try.func20, Try.ntmps20
  go_wp2
  refine bodyPost_ret (v := .tuple #[.agg #[.int .i64 0, .string ⟨#[]⟩], .int .i64 1]) (by simp [results, Try.results20, go_sem]) rfl ⟨rfl, ?_⟩
  first
    | exact hb
    | exact below_put hb (Nat.le_refl _) _ _

set_option maxRecDepth 100000 in
set_option maxHeartbeats 1000000 in
theorem send_full (b ans : Nat) (op : List ByteArray) (d : ByteArray) (w : World) (h : SnAt w b ans op) (h8 : op.length = 8) :
    Calls Try.prog 20 #[.pointer (some ⟨b, 0, none⟩), .string d] w (FullAt w b ans op) := by
  have hb := balloc (Below.refl _ w) (.cells #[.int .i64 0, .string ⟨#[]⟩] 53)
  have H2 := Lib.hid (h.keep hb)
  obtain ⟨_, pc, pd, h, _⟩ := h
  have hcc : w.cell? ⟨b, 17, none⟩ = some (.int .i64 8) := by have := h.cc; rw [h8] at this; exact this
  have hcc := kc hb hcc
  have HM := Lib.hid (MvS.of_below (b := b) hb)
  have hlt := h.lt
  unfold FullAt
  clear h h8 hb
  go_enter Try.func20, Try.ntmps20
  go_wp2
  refine bodyPost_ret (v := .tuple #[.agg #[.int .i64 0, .string ⟨#[]⟩], .int .i64 15]) (by simp [results, Try.results20, go_sem]) rfl ⟨rfl, H2.out, HM.out⟩

set_option maxRecDepth 100000 in
set_option maxHeartbeats 1600000 in
theorem send_raw (b n k : Nat) (pc : Nat → Int) (pd : Nat → ByteArray) (d : ByteArray) (w : World) (h : SnP w b (n : Int) (k : Int) pc pd) (h8 : k < 8) (hn : n ≤ 1000000) :
    Calls Try.prog 20 #[.pointer (some ⟨b, 0, none⟩), .string d] w fun e w' => e = .returned (.tuple #[.agg #[.int .i64 (n : Int), .string d], .int .i64 0]) ∧ SnP w' b ((n + 1 : Nat) : Int) ((k + 1 : Nat) : Int) (fun i => if i = k then (n : Int) else pc i) (fun i => if i = k then d else pd i) ∧ MvS b w w' := by
  have hb := balloc (Below.refl _ w) (.cells #[.int .i64 0, .string ⟨#[]⟩] 53)
  have HM := Lib.hid (MvS.of_below (b := b) hb)
  have hlt := h.lt
  have hp := h.block (hb.block b hlt)
  have hcc := hp.cc
  have hc0 := hp.c0
  have HP := Lib.hid hp
  have q8 : decide ((k : Int) = 8) = false := by simp; omega
  have HR := Lib.hid (PkV.new w 0 ⟨#[]⟩ 53)
  clear h hb hp
  go_enter Try.func20, Try.ntmps20
  go_upto_region 5 with fail
  generalize w.alloc (.cells #[.int .i64 0, .string ⟨#[]⟩] 53) = w1 at *
  have hnum := number_at b (n : Int) w1 hc0
  go_wp2_with fail
  refine hnum.mono ?_
  rintro e w2 ⟨rfl, rfl⟩
  have hba := balloc (Below.refl _ w2) (.cells #[.int .i64 (n : Int), .string d] 53)
  have HP2 := Lib.hid (HP.out.block (hba.block b HP.out.lt))
  have HM2 := Lib.hid (HM.out.alloc (.cells #[.int .i64 (n : Int), .string d] 53))
  have HR2 := Lib.hid (HR.out.keep hba)
  have HV := Lib.hid (PkV.new w2 (n : Int) d 53)
  have hsz := HR.out.c0
  have hz : w.heap.size < w2.heap.size := lt_of_cellN hsz
  have hbz := HP.out.lt
  clear hba HP HM HR hcc hc0 hnum hsz
  go_upto_region 6 with fail
  generalize w2.alloc (.cells #[.int .i64 (n : Int), .string d] 53) = w3 at *
  have hcc := HP2.out.cc
  obtain ⟨v0, v1⟩ := HV.out
  have hx0 := HP2.out.ci k h8
  have hx1 := HP2.out.cd k h8
  have hf0 := HP2.out.f (1 + k * 2)
  have hf1 := HP2.out.f (1 + k * 2 + 1)
  have hk8 : (k : Int) < 8 := by omega
  have hP := HP2.out.put h8 (n : Int) d
  have HM3 := Lib.hid ((HM2.out.set (o := 1 + k * 2) (by omega) (.int .i64 (n : Int))).set (o := 1 + k * 2 + 1) (by omega) (.string d))
  have hne1 : w.heap.size ≠ b := by omega
  have hne2 : w2.heap.size ≠ b := by omega
  have HB : Hid (∀ j, j ≠ b → ((w3.setCell ⟨b, 1 + k * 2, none⟩ (.int .i64 (n : Int))).setCell ⟨b, 1 + k * 2 + 1, none⟩ (.string d)).heap[j]? = w3.heap[j]?) := Lib.hid (fun j hj => (Below.heap_setCell _ _ _ _ hj).trans (Below.heap_setCell _ _ _ _ hj))
  have HR3 := Lib.hid (HR2.out.block (HB.out _ hne1))
  have HV3 := Lib.hid (HV.out.block (HB.out _ hne2))
  have HP3 : Hid (SnP ((w3.setCell ⟨b, 1 + k * 2, none⟩ (.int .i64 (n : Int))).setCell ⟨b, 1 + k * 2 + 1, none⟩ (.string d)).drew b (n : Int) (k : Int) (fun i => if i = k then (n : Int) else pc i) (fun i => if i = k then d else pd i)) := Lib.hid ⟨hP.c0, hP.cc, hP.ci, hP.cd, hP.f⟩
  clear hP
  go_still_tail 9, (by kernel_rfl)
  go_upto_region 7 with fail
  generalize ((w3.setCell ⟨b, 1 + k * 2, none⟩ (.int .i64 (n : Int))).setCell ⟨b, 1 + k * 2 + 1, none⟩ (.string d)) = w4 at *
  clear hx0 hx1 hf0 hf1 hk8 hcc v0 v1 HB HP2 HM2 HR2 HV
  generalize hw5 : w4.drew = w5 at *
  have HM4 : Hid (MvS b w w5) := Lib.hid (by rw [← hw5]; exact ⟨⟨HM3.out.os, HM3.out.tape, HM3.out.output, HM3.out.size, HM3.out.block⟩, HM3.out.hi⟩)
  have HR4 : Hid (PkV w5 w.heap.size 0 ⟨#[]⟩) := Lib.hid (by rw [← hw5]; exact ⟨HR3.out.c0, HR3.out.c1, HR3.out.f0, HR3.out.f1⟩)
  have HV4 : Hid (PkV w5 w2.heap.size (n : Int) d) := Lib.hid (by rw [← hw5]; exact ⟨HV3.out.c0, HV3.out.c1, HV3.out.f0, HV3.out.f1⟩)
  clear hw5 HM3 HR3 HV3
  have hcc := HP3.out.cc
  have hfc := HP3.out.f 17
  have HP4 := Lib.hid (HP3.out.setC ((k : Int) + 1))
  have HM5 := Lib.hid (HM4.out.set (o := 17) (by omega) (.int .i64 ((k : Int) + 1)))
  have HR5 := Lib.hid (HR4.out.block (Below.heap_setCell w5 ⟨b, 17, none⟩ (.int .i64 ((k : Int) + 1)) _ hne1))
  have HV5 := Lib.hid (HV4.out.block (Below.heap_setCell w5 ⟨b, 17, none⟩ (.int .i64 ((k : Int) + 1)) _ hne2))
  go_upto_region 8 with fail
  generalize w5.setCell ⟨b, 17, none⟩ (.int .i64 ((k : Int) + 1)) = w6 at *
  clear hcc hfc HP3 HM4 HR4 HV4
  have hadv := advance_at b (n : Int) w6 HP4.out.c0 (HP4.out.f 0) (by omega) (by omega)
  go_wp2_with fail
  refine hadv.mono ?_
  rintro e w7 ⟨rfl, rfl⟩
  have HP6 := Lib.hid (HP4.out.setN ((n : Int) + 1))
  have HM6 := Lib.hid (HM5.out.set (o := 0) (by omega) (.int .i64 ((n : Int) + 1)))
  have HR6 := Lib.hid (HR5.out.block (Below.heap_setCell w6 ⟨b, 0, none⟩ (.int .i64 ((n : Int) + 1)) _ hne1))
  have HV6 := Lib.hid (HV5.out.block (Below.heap_setCell w6 ⟨b, 0, none⟩ (.int .i64 ((n : Int) + 1)) _ hne2))
  clear hadv HP4 HM5 HR5 HV5
  generalize w6.setCell ⟨b, 0, none⟩ (.int .i64 ((n : Int) + 1)) = w8 at *
  obtain ⟨v0, v1, _, _⟩ := HV6.out
  obtain ⟨r0, r1, rf0, rf1⟩ := HR6.out
  have HPE := Lib.hid (HP6.out.block (put2_block w8 w.heap.size (.int .i64 (n : Int)) (.string d) b (fun e => hne1 e.symm)))
  have HME := Lib.hid (HM6.out.low (put2_below w8 (Nat.le_refl w.heap.size) (.int .i64 (n : Int)) (.string d)))
  have hrr := HR6.out.put (n : Int) d
  have z0 := hrr.c0
  have z1 := hrr.c1
  clear HV6 HR6 HP6 HM6 hrr
  go_wp2_with fail
  refine bodyPost_ret (v := .tuple #[.agg #[.int .i64 (n : Int), .string d], .int .i64 0]) (by simp [results, Try.results20, go_sem, z0, z1]) rfl ⟨rfl, HPE.out, HME.out⟩

theorem send_ok (b ans : Nat) (op : List ByteArray) (d : ByteArray) (w : World) (h : SnAt w b ans op) (h8 : op.length < 8) (hn : ans ≤ 999000) :
    Calls Try.prog 20 #[.pointer (some ⟨b, 0, none⟩), .string d] w (SentAt w b ans op d) := by
  obtain ⟨_, pc, pd, h, hh⟩ := h
  refine (send_raw b (ans + op.length) op.length pc pd d w h h8 (by omega)).mono ?_
  rintro e w' ⟨rfl, hp, hm⟩
  refine ⟨rfl, ⟨by simp; omega, _, _, by rw [List.length_append]; exact hp, fun i hi => ?_⟩, hm⟩
  rw [List.length_append] at hi
  simp at hi
  by_cases e : i = op.length
  · subst e
    simp
  · have := hh i (by omega)
    simp only [if_neg e]
    rw [List.getElem_append_left (by omega)]
    exact this
end Go.Proofs.Ytgaghlofcokijaa
