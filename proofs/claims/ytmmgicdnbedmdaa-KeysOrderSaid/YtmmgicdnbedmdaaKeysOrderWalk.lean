/- The walk of the law KeysOrder. -/
import Derived.Test.YtmmgicdnbedmdaaKeysAwake
import Derived.Deep.RegionHeld3
namespace Go.Proofs.Ytmmgicdnbedmdaa
open Go.RowKit
set_option linter.unusedVariables false

namespace Km
theorem has_between {f t a b c : List UInt8} (h1 : Op.bytesLess b a = false) (h2 : Op.bytesLess c b = false) (ha : has f t a = true) (hc : has f t c = true) : has f t b = true := by
  unfold has at *
  simp at ha hc ⊢
  refine ⟨bl_le_trans ha.1 h1, ?_⟩
  rcases hc.2 with h | h
  · exact .inl h
  · exact .inr (bl_le_lt h2 h)
theorem le_not (a b : List UInt8) : (Op.bytesLess a b || a == b) = !Op.bytesLess b a := by
  rw [← bl_gtr b a, Bool.not_and, Bool.not_not, Bool.not_not]
end Km

/-- The boxed range and what lies below. -/
def Boxed (w : World) (B : Nat) (f t : ByteArray) (w' : World) : Prop :=
  w'.cell? ⟨B, 0, none⟩ = some (.string f) ∧ w'.cell? ⟨B, 1, none⟩ = some (.string t) ∧ B < w'.heap.size ∧ Below w.heap.size w w'
theorem Boxed.next {w : World} {B : Nat} {f t : ByteArray} {w1 w2 : World} (h : Boxed w B f t w1) (hb : Below w1.heap.size w1 w2) : Boxed w B f t w2 :=
  ⟨kcell hb h.2.2.1 h.1, kcell hb h.2.2.1 h.2.1, by have := hb.size; have := h.2.2.1; omega, bstep h.2.2.2 hb⟩

set_option maxRecDepth 100000 in
set_option maxHeartbeats 1600000 in
theorem walkKeysOrder (w : World) (f t a b c : ByteArray) (hf : f.size ≤ maxLen) (ht : t.size ≤ maxLen) (ha : a.size ≤ maxLen) (hbb : b.size ≤ maxLen) (hc : c.size ≤ maxLen) :
    Calls Try.prog 10 #[.agg #[.string f, .string t], .agg #[.string a, .string b, .string c]] w fun e w' => e = .returned (.bool true) ∧ Below w.heap.size w w' := by
  unfold maxLen at hf ht ha hbb hc
  go_enter Try.func10, Try.ntmps10
  go_wp2_with fail
  refine (kawake_any _).mono ?_
  rintro e w1 ⟨rfl, hb⟩
  have hs := hb.size
  simp at hs
  have c0 : w1.cell? ⟨w.heap.size, 0, none⟩ = some (.string f) := by rw [hb.cell (p := ⟨w.heap.size, 0, none⟩) (by simp; omega)]; simp
  have c1 : w1.cell? ⟨w.heap.size, 1, none⟩ = some (.string t) := by rw [hb.cell (p := ⟨w.heap.size, 1, none⟩) (by simp; omega)]; simp
  have c2 : w1.cell? ⟨w.heap.size + 1, 0, none⟩ = some (.string a) := by rw [hb.cell (p := ⟨w.heap.size + 1, 0, none⟩) (by simp)]; simp
  have c3 : w1.cell? ⟨w.heap.size + 1, 1, none⟩ = some (.string b) := by rw [hb.cell (p := ⟨w.heap.size + 1, 1, none⟩) (by simp)]; simp
  have c4 : w1.cell? ⟨w.heap.size + 1, 2, none⟩ = some (.string c) := by rw [hb.cell (p := ⟨w.heap.size + 1, 2, none⟩) (by simp)]; simp
  have f0 : w1.frozen? ⟨w.heap.size, 0, none⟩ = false := by rw [hb.frozen (p := ⟨w.heap.size, 0, none⟩) (by simp; omega)]; simp
  have f1 : w1.frozen? ⟨w.heap.size, 1, none⟩ = false := by rw [hb.frozen (p := ⟨w.heap.size, 1, none⟩) (by simp; omega)]; simp
  have hb1 : Below w.heap.size w w1 := (balloc (balloc (Below.refl _ _) _) _).trans (hb.mono (by simp; omega))
  have z1 : w.heap.size + 1 < w1.heap.size := by omega
  clear hb hs
  go_wp2_with fail
  refine (kcut_any f 20 _ hf (by omega)).mono ?_
  rintro e w2 ⟨rfl, rfl⟩
  generalize kcut 20 f = f'
  go_wp2_with fail
  refine (kcut_any t 20 _ ht (by omega)).mono ?_
  rintro e w2 ⟨rfl, rfl⟩
  generalize kcut 20 t = t'
  go_wp2_with fail
  have d0 : ((w1.setCell ⟨w.heap.size, 0, none⟩ (.string f')).setCell ⟨w.heap.size, 1, none⟩ (.string t')).cell? ⟨w.heap.size, 0, none⟩ = some (.string f') := by
    go_simp
  have d1 : ((w1.setCell ⟨w.heap.size, 0, none⟩ (.string f')).setCell ⟨w.heap.size, 1, none⟩ (.string t')).cell? ⟨w.heap.size, 1, none⟩ = some (.string t') := by
    go_simp
  have d2 : ((w1.setCell ⟨w.heap.size, 0, none⟩ (.string f')).setCell ⟨w.heap.size, 1, none⟩ (.string t')).cell? ⟨w.heap.size + 1, 0, none⟩ = some (.string a) := by
    go_simp
  have d3 : ((w1.setCell ⟨w.heap.size, 0, none⟩ (.string f')).setCell ⟨w.heap.size, 1, none⟩ (.string t')).cell? ⟨w.heap.size + 1, 1, none⟩ = some (.string b) := by
    go_simp
  have d4 : ((w1.setCell ⟨w.heap.size, 0, none⟩ (.string f')).setCell ⟨w.heap.size, 1, none⟩ (.string t')).cell? ⟨w.heap.size + 1, 2, none⟩ = some (.string c) := by
    go_simp
  have hb2 : Below w.heap.size w ((w1.setCell ⟨w.heap.size, 0, none⟩ (.string f')).setCell ⟨w.heap.size, 1, none⟩ (.string t')) := (hb1.setCell (Nat.le_refl _) _).setCell (Nat.le_refl _) _
  have z2 : w.heap.size < ((w1.setCell ⟨w.heap.size, 0, none⟩ (.string f')).setCell ⟨w.heap.size, 1, none⟩ (.string t')).heap.size := by simp; omega
  clear c0 c1 c2 c3 c4 f0 f1 hb1 z1
  generalize ((w1.setCell ⟨w.heap.size, 0, none⟩ (.string f')).setCell ⟨w.heap.size, 1, none⟩ (.string t')) = w2 at *
  refine (kcut_any a 20 _ ha (by omega)).mono ?_
  rintro e w3 ⟨rfl, rfl⟩
  generalize kcut 20 a = a'
  go_wp2_with fail
  refine (kcut_any b 20 _ hbb (by omega)).mono ?_
  rintro e w3 ⟨rfl, rfl⟩
  generalize kcut 20 b = b'
  go_wp2_with fail
  refine (kcut_any c 20 _ hc (by omega)).mono ?_
  rintro e w3 ⟨rfl, rfl⟩
  generalize kcut 20 c = c'
  clear d2 d3 d4 hf ht ha hbb hc
  have e1 := Km.le_not a'.toList b'.toList
  have e2 := Km.le_not b'.toList c'.toList
  cases h1 : Op.bytesLess b'.toList a'.toList with
  | true =>
    rw [h1] at e1
    clear h1 e2
    go_wp2_with fail
    go_region_held3 (fun w' => w'.cell? ⟨w.heap.size, 0, none⟩ = some (.string f') ∧ w'.cell? ⟨w.heap.size, 1, none⟩ = some (.string t')) (first | exact ⟨d0, d1⟩ | exact ⟨g0, g1⟩ | exact ⟨k0, k1⟩) (first | (go_at_call 20; ((with_reducible refine (has_any f' t' a' _).mono ?_); rintro e w5 ⟨rfl, hb5⟩; have g0 := kcell hb5 z2 d0; have g1 := kcell hb5 z2 d1)) | (go_at_call 21; ((with_reducible refine (refHas_any f' t' a' _).mono ?_); rintro e w6 ⟨rfl, hb6⟩; have k0 : w6.cell? ⟨w.heap.size, 0, none⟩ = some (.string f') := kcell hb6 (by have := hb5.size; simp at this; simp; omega) g0; have k1 : w6.cell? ⟨w.heap.size, 1, none⟩ = some (.string t') := kcell hb6 (by have := hb5.size; simp at this; simp; omega) g1)))
    go_wp2
    go_ret
    exact ⟨rfl, bstep (bstep hb2.drew hb5) hb6⟩
  | false =>
    rw [h1] at e1
    cases h2 : Op.bytesLess c'.toList b'.toList with
    | true =>
      rw [h2] at e2
      clear h1 h2
      go_wp2_with fail
      go_region_held3 (fun w' => w'.cell? ⟨w.heap.size, 0, none⟩ = some (.string f') ∧ w'.cell? ⟨w.heap.size, 1, none⟩ = some (.string t')) (first | exact ⟨d0, d1⟩ | exact ⟨g0, g1⟩ | exact ⟨k0, k1⟩) (first | (go_at_call 20; ((with_reducible refine (has_any f' t' a' _).mono ?_); rintro e w5 ⟨rfl, hb5⟩; have g0 := kcell hb5 z2 d0; have g1 := kcell hb5 z2 d1)) | (go_at_call 21; ((with_reducible refine (refHas_any f' t' a' _).mono ?_); rintro e w6 ⟨rfl, hb6⟩; have k0 : w6.cell? ⟨w.heap.size, 0, none⟩ = some (.string f') := kcell hb6 (by have := hb5.size; simp at this; simp; omega) g0; have k1 : w6.cell? ⟨w.heap.size, 1, none⟩ = some (.string t') := kcell hb6 (by have := hb5.size; simp at this; simp; omega) g1)))
      go_wp2
      go_ret
      exact ⟨rfl, bstep (bstep hb2.drew hb5) hb6⟩
    | false =>
      rw [h2] at e2
      have HB := Lib.hid (fun x y => Km.has_between (f := f'.data.toList) (t := t'.data.toList) (a := a'.data.toList) (b := b'.data.toList) (c := c'.data.toList) (by rw [← Lib.toList_data, ← Lib.toList_data]; exact h1) (by rw [← Lib.toList_data, ← Lib.toList_data]; exact h2) x y)
      clear h1 h2
      go_wp2_with fail
      refine (has_any f' t' a' _).mono ?_
      rintro e w3 ⟨rfl, hb⟩
      have q0 := kcell hb z2 d0
      have q1 := kcell hb z2 d1
      have zq : w.heap.size < w3.heap.size := by have := hb.size; omega
      have hbq := bstep hb2 hb
      clear d0 d1 z2 hb2 hb
      have d0 := q0
      have d1 := q1
      have z2 := zq
      have hb2 := hbq
      clear q0 q1 zq hbq
      cases hha : Km.has f'.data.toList t'.data.toList a'.data.toList with
      | false =>
        have HA := Lib.hid hha
        clear hha HB
        go_wp2_with fail
        go_region_held3 (fun w' => w'.cell? ⟨w.heap.size, 0, none⟩ = some (.string f') ∧ w'.cell? ⟨w.heap.size, 1, none⟩ = some (.string t')) (first | exact ⟨d0, d1⟩ | exact ⟨g0, g1⟩ | exact ⟨k0, k1⟩) (first | (go_at_call 20; ((with_reducible refine (has_any f' t' a' _).mono ?_); rintro e w5 ⟨rfl, hb5⟩; have g0 := kcell hb5 z2 d0; have g1 := kcell hb5 z2 d1)) | (go_at_call 21; ((with_reducible refine (refHas_any f' t' a' _).mono ?_); rintro e w6 ⟨rfl, hb6⟩; have k0 : w6.cell? ⟨w.heap.size, 0, none⟩ = some (.string f') := kcell hb6 (by have := hb5.size; simp at this; simp; omega) g0; have k1 : w6.cell? ⟨w.heap.size, 1, none⟩ = some (.string t') := kcell hb6 (by have := hb5.size; simp at this; simp; omega) g1)))
        go_wp2
        go_ret
        exact ⟨rfl, bstep (bstep hb2.drew hb5) hb6⟩
      | true =>
        have HA := Lib.hid hha
        clear hha
        go_wp2_with fail
        refine (has_any f' t' c' _).mono ?_
        rintro e w4 ⟨rfl, hb⟩
        have q0 := kcell hb z2 d0
        have q1 := kcell hb z2 d1
        have zq : w.heap.size < w4.heap.size := by have := hb.size; omega
        have hbq := bstep hb2 hb
        clear d0 d1 z2 hb2 hb
        have d0 := q0
        have d1 := q1
        have z2 := zq
        have hb2 := hbq
        clear q0 q1 zq hbq
        cases hhc : Km.has f'.data.toList t'.data.toList c'.data.toList with
        | false =>
          have HC := Lib.hid hhc
          clear hhc HB
          go_wp2_with fail
          go_region_held3 (fun w' => w'.cell? ⟨w.heap.size, 0, none⟩ = some (.string f') ∧ w'.cell? ⟨w.heap.size, 1, none⟩ = some (.string t')) (first | exact ⟨d0, d1⟩ | exact ⟨g0, g1⟩ | exact ⟨k0, k1⟩) (first | (go_at_call 20; ((with_reducible refine (has_any f' t' a' _).mono ?_); rintro e w5 ⟨rfl, hb5⟩; have g0 := kcell hb5 z2 d0; have g1 := kcell hb5 z2 d1)) | (go_at_call 21; ((with_reducible refine (refHas_any f' t' a' _).mono ?_); rintro e w6 ⟨rfl, hb6⟩; have k0 : w6.cell? ⟨w.heap.size, 0, none⟩ = some (.string f') := kcell hb6 (by have := hb5.size; simp at this; simp; omega) g0; have k1 : w6.cell? ⟨w.heap.size, 1, none⟩ = some (.string t') := kcell hb6 (by have := hb5.size; simp at this; simp; omega) g1)))
          go_wp2
          go_ret
          exact ⟨rfl, bstep (bstep hb2.drew hb5) hb6⟩
        | true =>
          have HBB := Lib.hid (HB.out HA.out hhc)
          clear hhc HB
          go_wp2_with fail
          refine (has_any f' t' b' _).mono ?_
          rintro e w7 ⟨rfl, hb⟩
          have q0 := kcell hb z2 d0
          have q1 := kcell hb z2 d1
          have zq : w.heap.size < w7.heap.size := by have := hb.size; omega
          have hbq := bstep hb2 hb
          clear d0 d1 z2 hb2 hb
          have d0 := q0
          have d1 := q1
          have z2 := zq
          have hb2 := hbq
          clear q0 q1 zq hbq
          rw [HBB.out]
          go_wp2_with fail
          go_region_held3 (fun w' => w'.cell? ⟨w.heap.size, 0, none⟩ = some (.string f') ∧ w'.cell? ⟨w.heap.size, 1, none⟩ = some (.string t')) (first | exact ⟨d0, d1⟩ | exact ⟨g0, g1⟩ | exact ⟨k0, k1⟩) (first | (go_at_call 20; ((with_reducible refine (has_any f' t' a' _).mono ?_); rintro e w5 ⟨rfl, hb5⟩; have g0 := kcell hb5 z2 d0; have g1 := kcell hb5 z2 d1)) | (go_at_call 21; ((with_reducible refine (refHas_any f' t' a' _).mono ?_); rintro e w6 ⟨rfl, hb6⟩; have k0 : w6.cell? ⟨w.heap.size, 0, none⟩ = some (.string f') := kcell hb6 (by have := hb5.size; simp at this; simp; omega) g0; have k1 : w6.cell? ⟨w.heap.size, 1, none⟩ = some (.string t') := kcell hb6 (by have := hb5.size; simp at this; simp; omega) g1)))
          go_wp2
          go_ret
          exact ⟨rfl, bstep (bstep hb2.drew hb5) hb6⟩
end Go.Proofs.Ytmmgicdnbedmdaa
