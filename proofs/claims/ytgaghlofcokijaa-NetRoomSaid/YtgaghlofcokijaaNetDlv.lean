/- What deliver does. -/
import Derived.Test.YtgaghlofcokijaaNetRem
import Derived.Test.YtgaghlofcokijaaNetAnswer
namespace Go.Proofs.Ytgaghlofcokijaa
open Go.RowKit
set_option linter.unusedVariables false
set_option linter.unusedSimpArgs false

theorem takeO_hit (b o k : Nat) (n : Int) (d : ByteArray) (w : World) (h : w.cell? ⟨b, o, none⟩ = some (.int .i64 (k : Int))) (hf : w.frozen? ⟨b, o, none⟩ = false) (hk : k ≤ 1000000) (hn : n = (k : Int)) :
    Calls Try.prog 27 #[.pointer (some ⟨b, o, none⟩), .agg #[.int .i64 n, .string d]] w fun e w' => e = .returned (.tuple #[.string d, .bool true]) ∧ ∃ w1, Below w.heap.size w w1 ∧ w' = w1.setCell ⟨b, o, none⟩ (.int .i64 ((k + 1 : Nat) : Int)) := by
  subst hn
  refine (takeO_at b o k (k : Int) d w h hf hk).mono ?_
  rintro e w' ⟨rfl, w1, hb, rfl⟩
  refine ⟨by unfold Lk.tk; rw [if_pos rfl], w1, hb, by rw [if_pos rfl]; rfl⟩
theorem takeO_miss (b o k : Nat) (n : Int) (d : ByteArray) (w : World) (h : w.cell? ⟨b, o, none⟩ = some (.int .i64 (k : Int))) (hf : w.frozen? ⟨b, o, none⟩ = false) (hk : k ≤ 1000000) (hn : n ≠ (k : Int)) :
    Calls Try.prog 27 #[.pointer (some ⟨b, o, none⟩), .agg #[.int .i64 n, .string d]] w fun e w' => e = .returned (.tuple #[.string ⟨#[]⟩, .bool false]) ∧ Below w.heap.size w w' := by
  refine (takeO_at b o k n d w h hf hk).mono ?_
  rintro e w' ⟨rfl, w1, hb, rfl⟩
  rw [if_neg hn]
  refine ⟨by unfold Lk.tk; rw [if_neg hn], hb⟩

theorem SesAt.drew {w : World} {b : Nat} {s : Ses} {v : Value} (h : SesAt w b s v) : SesAt w.drew b s v := h.block rfl fun _ _ => rfl
/-- The receiver has counted on. -/
structure SesMid (w : World) (b : Nat) (s : Ses) (v : Value) : Prop where
  sn : SnAt w b s.m (s.all.drop s.m)
  rc : w.cell? ⟨b, 18, none⟩ = some (.int .i64 ((s.m + 1 : Nat) : Int))
  fl : w.cell? ⟨b, 19, none⟩ = some v
  row : OwnQ w v s.way
  ne : v.ownBlock ≠ some b
theorem SesAt.count {w w1 : World} {b : Nat} {s : Ses} {v : Value} (h : SesAt w b s v) (hb : Below w.heap.size w w1) : SesMid (w1.setCell ⟨b, 18, none⟩ (.int .i64 ((s.m + 1 : Nat) : Int))) b s v ∧ Mv (SesP b v) w (w1.setCell ⟨b, 18, none⟩ (.int .i64 ((s.m + 1 : Nat) : Int))) := by
  have h1 := h.below hb
  refine ⟨⟨?_, World.cell?_setCell_same _ _ _ h1.rc, ?_, h1.row.block (fun g e => Below.heap_setCell _ _ _ _ (fun e' => h1.ne (by rw [e]; exact congrArg some e'))), h1.ne⟩, ((Mv.of_below hb).set (.inl rfl) _)⟩
  · obtain ⟨h8, pc, pd, hp, hh⟩ := h1.sn
    refine ⟨h8, pc, pd, ⟨?_, ?_, fun i hi => ?_, fun i hi => ?_, fun j => by simpa using hp.f j⟩, hh⟩
    · rw [World.cell?_setCell_other _ _ _ _ (by simp)]; exact hp.c0
    · rw [World.cell?_setCell_other _ _ _ _ (by simp)]; exact hp.cc
    · rw [World.cell?_setCell_other _ _ _ _ (by simp <;> omega)]; exact hp.ci i hi
    · rw [World.cell?_setCell_other _ _ _ _ (by simp <;> omega)]; exact hp.cd i hi
  · rw [World.cell?_setCell_other _ _ _ _ (by simp)]; exact h1.fl
theorem SesMid.drew {w : World} {b : Nat} {s : Ses} {v : Value} (h : SesMid w b s v) : SesMid w.drew b s v := ⟨h.sn.block rfl, h.rc, h.fl, h.row.drew, h.ne⟩
/-- The sender has been told. -/
theorem SesMid.done {w w1 : World} {b : Nat} {s : Ses} {v : Value} (h : SesMid w b s v) (hs : SnAt w1 b (s.m + 1) (s.all.drop (s.m + 1))) (hm : MvS b w w1) : SesAt w1 b ⟨s.all, s.m + 1, s.way⟩ v ∧ Mv (SesP b v) w w1 := by
  have hlt : b < w.heap.size := lt_of_cellN h.rc
  refine ⟨⟨hs, (hm.hi 18 (Nat.le_refl _) hlt).trans h.rc, (hm.hi 19 (by omega) hlt).trans h.fl, h.row.mv hm.toMv (fun g e e' => h.ne (by rw [e, e'])), h.ne⟩, hm.toMv.mono (fun k e => .inl e)⟩

set_option maxRecDepth 100000 in
set_option maxHeartbeats 3200000 in
theorem deliver_at (b : Nat) (s : Ses) (v : Value) (i : Nat) (w : World) (h : SesAt w b s v) (hi : i < s.way.length) (hl : s.way.length ≤ 1000) (hok : s.Ok) (hn : s.all.length ≤ 900000) :
    Calls Try.prog 25 #[.pointer (some ⟨b, 0, none⟩), .int .i64 (i : Int)] w fun e w' => e = .returned (.tuple #[.string (s.tk s.way[i]).1, .bool (s.tk s.way[i]).2]) ∧ SesTo w b v w' (s.dlv i s.way[i]) := by
  have hrm := remove_at b s v i w.drew h.drew hi hl
  have hm : s.m ≤ 1000000 := by have := hok.lo; omega
  unfold Ses.dlv Ses.tk Lk.tk
  by_cases he : s.way[i].1 = (s.m : Int)
  · obtain ⟨hml, hd⟩ := hok.hit hi he
    rw [if_pos he, if_pos he]
    generalize s.way[i].1 = n at *
    generalize s.way[i].2 = d at *
    have HH := Lib.hid h
    have HE := Lib.hid he
    have HLEN : Hid (s.m + (s.all.drop s.m).length = s.all.length) := Lib.hid (by rw [List.length_drop]; omega)
    have HAK : Hid (Lk.ak s.m (s.all.drop s.m).length ((s.m + 1 : Nat) : Int) = 1) := Lib.hid (by
      have := Lk.ak_yes (ans := s.m) (n := (s.all.drop s.m).length) (seq := ((s.m + 1 : Nat) : Int)) (by rw [HLEN.out]; omega) (by omega)
      omega)
    clear h hd he hok hn hml
    go_enter Try.func25, Try.ntmps25
    go_upto_region 1 with fail
    go_region_held3 (fun w' => True) (trivial)
      (first
        | (go_at_call 24; (refine hrm.mono ?_); rintro e w1 ⟨rfl, v1, q1, q2, q3⟩; have hrc := q1.rc; have hfr := q1.fr 18)
        | (go_at_call 27; (refine (takeO_hit b 18 s.m n d _ hrc hfr hm HE.out).mono ?_); rintro e w2 ⟨rfl, w3, hb3, rfl⟩))
    obtain ⟨m1, m2⟩ := q1.count hb3
    have HM1 := Lib.hid (show SesMid (w3.setCell ⟨b, 18, none⟩ (.int .i64 ((s.m : Int) + 1))) b (s.out i) v1 from m1)
    have HM2 := Lib.hid (show Mv (SesP b v1) w1 (w3.setCell ⟨b, 18, none⟩ (.int .i64 ((s.m : Int) + 1))) from m2)
    have HQ2 : Hid (Mv (SesP b v) w w1) := Lib.hid ⟨q2.os, q2.tape, q2.output, q2.size, q2.block⟩
    have HQ3 : Hid (∀ g, v1.ownBlock = some g → v.ownBlock = some g ∨ w.heap.size ≤ g) := Lib.hid q3
    clear q1 q2 q3 m1 m2 hrc hfr hb3
    generalize w3.setCell ⟨b, 18, none⟩ (.int .i64 ((s.m : Int) + 1)) = w4 at *
    go_upto_region 3 with fail
    have hrc : w4.drew.cell? ⟨b, 18, none⟩ = some (.int .i64 ((s.m + 1 : Nat) : Int)) := HM1.out.rc
    have han := answer_at b s.m (s.all.drop s.m) ((s.m + 1 : Nat) : Int) w4.drew HM1.out.drew.sn
    go_region_held3 (fun w' => True) (trivial)
      (first
        | (go_at_call 31; (refine (waitsO_at b 18 (s.m + 1) _ hrc).mono ?_); rintro e w5 ⟨rfl, rfl⟩)
        | (go_at_call 30; (refine han.mono ?_); rintro e w6 ⟨rfl, a1, a2⟩))
    go_wp2
    go_ret2
    rw [HAK.out] at a1
    rw [List.drop_drop] at a1
    obtain ⟨z1, z2⟩ := HM1.out.drew.done (w1 := w6) a1 a2
    refine ⟨rfl, SesTo.trans HQ2.out HQ3.out ⟨v1, z1, ?_, fun g e => .inl e⟩⟩
    exact HM2.out.trans ⟨z2.os, z2.tape, z2.output, z2.size, z2.block⟩
  · rw [if_neg he, if_neg he]
    generalize s.way[i].1 = n at *
    generalize s.way[i].2 = d at *
    have HH := Lib.hid h
    have HE := Lib.hid he
    clear h he hok hn
    go_enter Try.func25, Try.ntmps25
    go_upto_region 1 with fail
    go_region_held3 (fun w' => True) (trivial)
      (first
        | (go_at_call 24; (refine hrm.mono ?_); rintro e w1 ⟨rfl, v1, q1, q2, q3⟩; have hrc := q1.rc; have hfr := q1.fr 18)
        | (go_at_call 27; (refine (takeO_miss b 18 s.m n d _ hrc hfr hm HE.out).mono ?_); rintro e w2 ⟨rfl, hb3⟩))
    have HT : Hid (SesTo w b v w2 (s.out i)) := Lib.hid (SesTo.below ⟨v1, q1, ⟨q2.os, q2.tape, q2.output, q2.size, q2.block⟩, q3⟩ hb3)
    clear q1 q2 q3 hrc hfr hb3
    go_wp2
    go_ret2
    exact ⟨rfl, HT.out⟩
end Go.Proofs.Ytgaghlofcokijaa
