/- The walk of the law KeysRanges. -/
import Derived.Test.YtmmgicdnbedmdaaKeysFew
import Derived.Test.YtmmgicdnbedmdaaKeysRefB
import Derived.Test.YtmmgicdnbedmdaaKeysFind
import Derived.Deep.RegionHeld3
namespace Go.Proofs.Ytmmgicdnbedmdaa
open Go.RowKit
set_option linter.unusedVariables false

theorem keep4 {W w' : World} {b o1 o2 o3 o4 : Nat} {x1 x2 x3 x4 : Value} (hb : Below W.heap.size W w') (hlt : b < W.heap.size)
    (h : W.cell? ⟨b, o1, none⟩ = some x1 ∧ W.cell? ⟨b, o2, none⟩ = some x2 ∧ W.cell? ⟨b, o3, none⟩ = some x3 ∧ W.cell? ⟨b, o4, none⟩ = some x4) :
    w'.cell? ⟨b, o1, none⟩ = some x1 ∧ w'.cell? ⟨b, o2, none⟩ = some x2 ∧ w'.cell? ⟨b, o3, none⟩ = some x3 ∧ w'.cell? ⟨b, o4, none⟩ = some x4 :=
  ⟨kcell hb hlt h.1, kcell hb hlt h.2.1, kcell hb hlt h.2.2.1, kcell hb hlt h.2.2.2⟩

theorem rgood_b (f t : ByteArray) (b : Bool) (w : World) (hf : f.size ≤ 1099511627776) (ht : t.size ≤ 1099511627776) (hb : Km.good f.data.toList t.data.toList = b) :
    Calls Try.prog 18 #[.agg #[.string f, .string t]] w fun e w' => e = .returned (.bool b) ∧ Below w.heap.size w w' := by
  rw [← hb]
  exact good_any f t w hf ht
theorem rrgood_b (f t : ByteArray) (b : Bool) (w : World) (hf : f.size ≤ 1099511627776) (ht : t.size ≤ 1099511627776) (hb : Km.good f.data.toList t.data.toList = b) :
    Calls Try.prog 19 #[.agg #[.string f, .string t]] w fun e w' => e = .returned (.bool b) ∧ Below w.heap.size w w' := by
  rw [← hb]
  exact refGood_any f t w hf ht
theorem rhas_b (f t k : ByteArray) (b : Bool) (w : World) (hb : Km.has f.data.toList t.data.toList k.data.toList = b) :
    Calls Try.prog 20 #[.agg #[.string f, .string t], .string k] w fun e w' => e = .returned (.bool b) ∧ Below w.heap.size w w' := by
  rw [← hb]
  exact has_any f t k w
theorem rrhas_b (f t k : ByteArray) (b : Bool) (w : World) (hb : Km.has f.data.toList t.data.toList k.data.toList = b) :
    Calls Try.prog 21 #[.agg #[.string f, .string t], .string k] w fun e w' => e = .returned (.bool b) ∧ Below w.heap.size w w' := by
  rw [← hb]
  exact refHas_any f t k w
theorem rmeet_b (f t f2 t2 : ByteArray) (b : Bool) (w : World) (hf : f.size ≤ 1099511627776) (ht : t.size ≤ 1099511627776) (hf2 : f2.size ≤ 1099511627776) (ht2 : t2.size ≤ 1099511627776) (hb : Km.meet f.data.toList t.data.toList f2.data.toList t2.data.toList = b) :
    Calls Try.prog 22 #[.agg #[.string f, .string t], .agg #[.string f2, .string t2]] w fun e w' => e = .returned (.bool b) ∧ Below w.heap.size w w' := by
  rw [← hb]
  exact meet_any f t f2 t2 w hf ht hf2 ht2
theorem rrmeet_b (f t f2 t2 : ByteArray) (b : Bool) (w : World) (hf : f.size ≤ 1099511627776) (ht : t.size ≤ 1099511627776) (hf2 : f2.size ≤ 1099511627776) (ht2 : t2.size ≤ 1099511627776) (hb : Km.meet f.data.toList t.data.toList f2.data.toList t2.data.toList = b) :
    Calls Try.prog 23 #[.agg #[.string f, .string t], .agg #[.string f2, .string t2]] w fun e w' => e = .returned (.bool b) ∧ Below w.heap.size w w' := by
  rw [← hb]
  exact refMeet_any f t f2 t2 w hf ht hf2 ht2

set_option maxRecDepth 100000 in
set_option maxHeartbeats 8000000 in
theorem walkKeysRanges (w : World) (a : Option Addr) (rs : List (ByteArray × ByteArray)) (cap : Nat) (hl : rs.length ≤ 9223372036854775807) (hsz : ∀ r ∈ rs, r.1.size ≤ maxLen ∧ r.2.size ≤ maxLen) (hr : RngIn w a rs) (key : ByteArray) (hkey : key.size ≤ maxLen) :
    Calls Try.prog 4 #[.slice a rs.length cap, .string key] w fun e w' => e = .returned (.bool true) ∧ Below w.heap.size w w' := by
  have HR := Lib.hid hr
  have HZ := Lib.hid hsz
  clear hr hsz hkey
  go_enter Try.func4, Try.ntmps4
  go_wp2_with fail
  refine (kawake_any _).mono ?_
  rintro e w1 ⟨rfl, hb1⟩
  go_wp2_with fail
  refine (few_any a cap rs _ hl HZ.out (HR.out.below hb1)).mono ?_
  rintro e w2 ⟨v, rfl, hat, hb⟩
  have hb2 := bstep hb1 hb
  have hml := fewL_len rs
  have hms := fewL_size rs
  generalize fewL rs = ms at *
  obtain ⟨ma, mc, rfl, hin⟩ := hat
  have hzs : Szs ms := fun r h => by have := hms r h; omega
  have HIN := Lib.hid hin
  have HZS := Lib.hid hzs
  clear hin hb hb1 hms hzs HR HZ
  go_wp2_with fail
  go_loopw [7] (fun i wr => ∃ k : Nat, k ≤ ms.length ∧ i = .int .i64 k ∧ Below w2.heap.size w2 wr) (fun i _ => ms.length - (intOf i).toNat)
  case atStart => exact ⟨0, by omega, rfl, Below.refl _ _⟩
  case round =>
    obtain ⟨k, hk, rfl, hbel⟩ := hrel
    by_cases hlt : k < ms.length
    · obtain ⟨b, off, rfl, hbl, hc0, hc1⟩ := HIN.out.below hbel k hlt
      obtain ⟨b', off', e', _, hc2, hc3⟩ := HIN.out.below hbel 0 (by omega)
      cases e'
      rw [Nat.zero_mul, Nat.add_zero] at hc2 hc3
      obtain ⟨z1, z2⟩ := HZS.out ms[k] (List.getElem_mem hlt)
      obtain ⟨z3, z4⟩ := HZS.out ms[0] (List.getElem_mem (by omega))
      generalize ms[k].1 = p at hc0 z1
      generalize ms[k].2 = q at hc1 z2
      generalize ms[0].1 = p0 at hc2 z3
      generalize ms[0].2 = q0 at hc3 z4
      have g0 := And.intro hc0 (And.intro hc1 (And.intro hc2 hc3))
      obtain ⟨g, hg⟩ : ∃ g, Km.good p.data.toList q.data.toList = g := ⟨_, rfl⟩
      obtain ⟨h, hh⟩ : ∃ h, Km.has p.data.toList q.data.toList key.data.toList = h := ⟨_, rfl⟩
      obtain ⟨m, hm⟩ : ∃ m, Km.meet p0.data.toList q0.data.toList p.data.toList q.data.toList = m := ⟨_, rfl⟩
      have HG := Lib.hid hg
      have HH := Lib.hid hh
      have HM := Lib.hid hm
      clear hg hh hm
      have n1 : (g != g) = false := by simp
      have n2 : (h != h) = false := by simp
      have n3 : (m != m) = false := by simp
      have i1 : (0 : Int) ≤ (k : Int) := by omega
      have i2 : (k : Int) < (ms.length : Int) := by omega
      have i3 : (0 : Int) < (ms.length : Int) := by omega
      have i4 : 0 < ms.length := by omega
      go_wp2_with fail
      go_region_held3 (fun w' => w'.cell? ⟨b, off + k * 2, none⟩ = some (.string p) ∧ w'.cell? ⟨b, off + k * 2 + 1, none⟩ = some (.string q) ∧ w'.cell? ⟨b, off, none⟩ = some (.string p0) ∧ w'.cell? ⟨b, off + 1, none⟩ = some (.string q0))
        (first | exact g0 | exact g1 | exact g2 | exact g3 | exact g4 | exact g5 | exact g6)
        (first
          | (go_at_call 18; ((with_reducible refine (rgood_b p q g _ z1 z2 HG.out).mono ?_); rintro e wa ⟨rfl, ha⟩; have y1 : b < wa.heap.size := (by have := ha.size; simp at this; omega); have g1 := keep4 ha hbl g0))
          | (go_at_call 19; ((with_reducible refine (rrgood_b p q g _ z1 z2 HG.out).mono ?_); rintro e wb ⟨rfl, hb⟩; have y2 : b < wb.heap.size := (by have := hb.size; omega); have g2 := keep4 hb y1 g1))
          | (go_at_call 20; ((with_reducible refine (rhas_b p q key h _ HH.out).mono ?_); rintro e wc ⟨rfl, hc⟩; have y3 : b < wc.heap.size := (by have := hc.size; omega); have g3 := keep4 hc y2 g2))
          | (go_at_call 21; ((with_reducible refine (rrhas_b p q key h _ HH.out).mono ?_); rintro e wd ⟨rfl, hd⟩; have y4 : b < wd.heap.size := (by have := hd.size; omega); have g4 := keep4 hd y3 g3))
          | (go_at_call 22; ((with_reducible refine (rmeet_b p0 q0 p q m _ z3 z4 z1 z2 HM.out).mono ?_); rintro e we ⟨rfl, he⟩; have y5 : b < we.heap.size := (by have := he.size; omega); have g5 := keep4 he y4 g4))
          | (go_at_call 23; ((with_reducible refine (rrmeet_b p0 q0 p q m _ z3 z4 z1 z2 HM.out).mono ?_); rintro e wf ⟨rfl, hf⟩; have y6 : b < wf.heap.size := (by have := hf.size; omega); have g6 := keep4 hf y5 g5)))
      have hbF := bstep (bstep (bstep (bstep (bstep (bstep hbel.drew ha) hb) hc) hd) he) hf
      clear g0 g1 g2 g3 g4 g5 g6 ha hb hc hd he hf hc0 hc1 hc2 hc3
      go_wp2
      go_roundw
      case rel => exact ⟨k + 1, by omega, by go_num, hbF⟩
      case measure => simp [intOf]; omega
    · have hin := HIN.out.below hbel
      have hbW := bstep hb2 hbel
      have HI := Lib.hid hin
      clear hin HIN hb2 hbel
      go_wp2_with fail
      refine (bounds_any ma mc ms _ (by omega) HI.out).mono ?_
      rintro e w3 ⟨vb, bs, rfl, hB, hst, hbl, hb3⟩
      have HB := Lib.hid hB
      have HST := Lib.hid hst
      obtain ⟨ba, bc, rfl, _⟩ := hst
      have HI3 := Lib.hid (HI.out.below hb3)
      have hbW3 := bstep hbW hb3
      clear hB HI hbW
      go_wp2_with fail
      refine (refBounds_any ma mc ms _ (by omega) HI3.out).mono ?_
      rintro e w4 ⟨vc, cs, rfl, hC, hst2, hcl, hb4⟩
      obtain rfl : bs = cs := Km.isB_uniq HB.out hC
      have HST2 := Lib.hid hst2
      have HST3 := Lib.hid (HST.out.below hb4)
      obtain ⟨ca, cc, rfl, _⟩ := hst2
      have HI4 := Lib.hid (HI3.out.below hb4)
      have hbW4 := bstep hbW3 hb4
      clear hC HI3 hbW3 HST
      go_wp2_with fail
      refine (kSame_any _ _ bs _ (by omega) HST3.out HST2.out).mono ?_
      rintro e w5 ⟨rfl, hb5⟩
      have HI5 := Lib.hid (HI4.out.below hb5)
      have hbW5 := bstep hbW4 hb5
      clear HI4 hbW4 HST2 HST3 HB
      generalize hx : Km.whole (tls ms) = x
      have HX := Lib.hid hx
      generalize hy : Km.fidx (tls ms) key.data.toList = y
      have HY := Lib.hid hy
      clear hx hy
      have hxx : (x == x) = true := by simp
      have hyy : (y == y) = true := by simp
      go_wp2_with fail
      refine (whole_any ma mc ms _ (by omega) HZS.out HI5.out).mono ?_
      rintro e w6 ⟨rfl, hb6⟩
      rw [HX.out]
      have HI6 := Lib.hid (HI5.out.below hb6)
      have hbW6 := bstep hbW5 hb6
      clear HI5 hbW5
      go_wp2_with fail
      refine (refWhole_any ma mc ms _ (by omega) HZS.out HI6.out).mono ?_
      rintro e w7 ⟨rfl, hb7⟩
      rw [HX.out]
      have HI7 := Lib.hid (HI6.out.below hb7)
      have hbW7 := bstep hbW6 hb7
      clear HI6 hbW6
      go_wp2_with fail
      refine (find_any ma mc ms key _ (by omega) HI7.out).mono ?_
      rintro e w8 ⟨rfl, hb8⟩
      rw [HY.out]
      have HI8 := Lib.hid (HI7.out.below hb8)
      have hbW8 := bstep hbW7 hb8
      clear HI7 hbW7
      go_wp2_with fail
      refine (refFind_any ma mc ms key _ (by omega) HI8.out).mono ?_
      rintro e w9 ⟨rfl, hb9⟩
      rw [HY.out]
      go_wp2
      go_ret
      exact ⟨by first | rfl | simp, bstep hbW8 hb9⟩
end Go.Proofs.Ytmmgicdnbedmdaa
