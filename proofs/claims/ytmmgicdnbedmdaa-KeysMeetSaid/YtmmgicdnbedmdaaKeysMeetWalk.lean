/- The walk of the law KeysMeet. -/
import Derived.Test.YtmmgicdnbedmdaaKeysWord
import Derived.Deep.RegionHeld3
import Derived.Deep.DeepCutAuto
namespace Go.Proofs.Ytmmgicdnbedmdaa
open Go.RowKit
set_option linter.unusedVariables false
set_option linter.unusedSimpArgs false

/-- What was there is there behind a call that only makes memory: cells and marks. -/
theorem old_cells {W w1 : World} (hb : Below W.heap.size W w1) (b o : Nat) (h : b < W.heap.size) : w1.cell? ⟨b, o, none⟩ = W.cell? ⟨b, o, none⟩ := hb.cell (p := ⟨b, o, none⟩) h
theorem old_marks {W w1 : World} (hb : Below W.heap.size W w1) (b o : Nat) (h : b < W.heap.size) : w1.frozen? ⟨b, o, none⟩ = W.frozen? ⟨b, o, none⟩ := hb.frozen (p := ⟨b, o, none⟩) h
theorem keep_alloc {w1 : World} {b o : Nat} {v : Value} (h : w1.cell? ⟨b, o, none⟩ = some v) (hlt : b < w1.heap.size) : ∀ ob, (w1.alloc ob).cell? ⟨b, o, none⟩ = some v :=
  fun ob => (((Below.refl _ w1).alloc (Nat.le_refl _) ob).cell (p := ⟨b, o, none⟩) hlt).trans h

theorem kfroz {W w1 : World} {b o : Nat} {v : Bool} (hb : Below W.heap.size W w1) (hlt : b < W.heap.size) (h : W.frozen? ⟨b, o, none⟩ = v) : w1.frozen? ⟨b, o, none⟩ = v := (hb.frozen (p := ⟨b, o, none⟩) hlt).trans h

theorem keep_set {w6 : World} {b o B : Nat} {v x y : Value} (h : w6.cell? ⟨b, o, none⟩ = some v) (hne : b ≠ B) : ((w6.setCell ⟨B, 0, none⟩ x).setCell ⟨B, 1, none⟩ y).cell? ⟨b, o, none⟩ = some v := by
  have e1 : (⟨b, o, none⟩ : Addr) ≠ ⟨B, 0, none⟩ := by simp [hne]
  have e2 : (⟨b, o, none⟩ : Addr) ≠ ⟨B, 1, none⟩ := by simp [hne]
  have e3 : b ≠ B := hne
  go_simp

/-- A new range of two words. -/
def PairAt (w1 : World) (s : Value) (wx : World) : Prop :=
  ∃ (B : Nat) (u0 u1 : List UInt8) (m0 m1 : Nat), s = .pointer (some ⟨B, 0, none⟩) ∧ wx.cell? ⟨B, 0, none⟩ = some (.string ⟨u0.toArray⟩) ∧ wx.cell? ⟨B, 1, none⟩ = some (.string ⟨u1.toArray⟩) ∧
    wx.frozen? ⟨B, 1, none⟩ = false ∧ w1.heap.size ≤ B ∧ B < wx.heap.size ∧ Km.run m0 u0 ∧ Km.run m1 u1 ∧ (1 ≤ m0 ∧ m0 ≤ 5) ∧ (1 ≤ m1 ∧ m1 ≤ 5) ∧ Below w1.heap.size w1 wx

theorem pairAt_set {w1 w6 : World} {B m0 m1 : Nat} {u0 u1 : List UInt8} {x0 x1 : Value} (hlt : B < w6.heap.size) (hle : w1.heap.size ≤ B) (c0 : w6.cell? ⟨B, 0, none⟩ = some x0) (c1 : w6.cell? ⟨B, 1, none⟩ = some x1) (f1 : w6.frozen? ⟨B, 1, none⟩ = false)
    (h0 : Km.run m0 u0) (h1 : Km.run m1 u1) (hm0 : 1 ≤ m0 ∧ m0 ≤ 5) (hm1 : 1 ≤ m1 ∧ m1 ≤ 5) (hb : Below w1.heap.size w1 w6) :
    PairAt w1 (.pointer (some ⟨B, 0, none⟩)) ((w6.setCell ⟨B, 0, none⟩ (.string ⟨u0.toArray⟩)).setCell ⟨B, 1, none⟩ (.string ⟨u1.toArray⟩)) := by
  refine ⟨B, u0, u1, m0, m1, rfl, by go_simp, by go_simp, by go_simp, hle, by simp; omega, h0, h1, hm0, hm1, (hb.setCell hle _).setCell hle _⟩
theorem pairAt_new {w1 w6 : World} {m0 m1 : Nat} {u0 u1 : List UInt8} {T : TypeId} (h0 : Km.run m0 u0) (h1 : Km.run m1 u1) (hm0 : 1 ≤ m0 ∧ m0 ≤ 5) (hm1 : 1 ≤ m1 ∧ m1 ≤ 5) (hb : Below w1.heap.size w1 w6) :
    PairAt w1 (.pointer (some ⟨w6.heap.size, 0, none⟩)) (w6.alloc (.cells #[.string ⟨u0.toArray⟩, .string ⟨u1.toArray⟩] T)) :=
  ⟨w6.heap.size, u0, u1, m0, m1, rfl, by simp, by simp, by simp, hb.size, by simp, h0, h1, hm0, hm1, balloc hb _⟩

namespace Km
theorem bound_run {m : Nat} {u : List UInt8} (h : run m u ∧ 1 ≤ m ∧ m ≤ 5) : bound u = true := by
  unfold bound
  rw [run_chk h.1]
  simp
  omega
theorem run_ne {m : Nat} {u : List UInt8} (h : run m u ∧ 1 ≤ m ∧ m ≤ 5) : u ≠ [] := by
  rintro rfl
  have := run_cnt h.1 (low := 0) (by omega)
  rw [cnt_nil] at this
  simp at this
  omega
theorem good_open {m : Nat} {u : List UInt8} (h : run m u ∧ 1 ≤ m ∧ m ≤ 5) : good u [] = true := by
  unfold good
  rw [bound_run h]
  rfl
theorem good_words {m n : Nat} {u v : List UInt8} (h : run m u ∧ 1 ≤ m ∧ m ≤ 5) (k : run n v ∧ 1 ≤ n ∧ n ≤ 5) : good u v = Op.bytesLess u v := by
  unfold good
  rw [bound_run h, bound_run k]
  have : v.isEmpty = false := by simpa using run_ne k
  rw [this]
  simp
theorem meet_no1 {f t f2 t2 : List UInt8} (h : good f t = false) : meet f t f2 t2 = false := by unfold meet; rw [h]; simp
theorem meet_no2 {f t f2 t2 : List UInt8} (h : good f2 t2 = false) : meet f t f2 t2 = false := by unfold meet; rw [h]; simp
theorem meet_yes {f t f2 t2 : List UInt8} (h : good f t = true) (h2 : good f2 t2 = true) : meet f t f2 t2 = (has f t f2 || has f2 t2 f) := by unfold meet; rw [h, h2]; simp
theorem meet_self {f t : List UInt8} (h : good f t = true) : meet f t f t = true := by
  unfold meet
  have : has f t f = true := by
    have h' := h
    unfold good at h'
    unfold has
    rw [bl_irrefl]
    simp at h' ⊢
    exact h'.2
  rw [h, this]
  rfl
end Km

theorem good_b (f t : ByteArray) (b : Bool) (w : World) (hf : f.size ≤ 1099511627776) (ht : t.size ≤ 1099511627776) (hb : Km.good f.data.toList t.data.toList = b) :
    Calls Try.prog 18 #[.agg #[.string f, .string t]] w fun e w' => e = .returned (.bool b) ∧ Below w.heap.size w w' := by
  rw [← hb]
  exact good_any f t w hf ht
theorem meet_b (f t f2 t2 : ByteArray) (b : Bool) (w : World) (hf : f.size ≤ 1099511627776) (ht : t.size ≤ 1099511627776) (hf2 : f2.size ≤ 1099511627776) (ht2 : t2.size ≤ 1099511627776) (hb : Km.meet f.data.toList t.data.toList f2.data.toList t2.data.toList = b) :
    Calls Try.prog 22 #[.agg #[.string f, .string t], .agg #[.string f2, .string t2]] w fun e w' => e = .returned (.bool b) ∧ Below w.heap.size w w' := by
  rw [← hb]
  exact meet_any f t f2 t2 w hf ht hf2 ht2
theorem khas_b (f t k : ByteArray) (b : Bool) (w : World) (hb : Km.has f.data.toList t.data.toList k.data.toList = b) :
    Calls Try.prog 20 #[.agg #[.string f, .string t], .string k] w fun e w' => e = .returned (.bool b) ∧ Below w.heap.size w w' := by
  rw [← hb]
  exact has_any f t k w
theorem wsize {m : Nat} {u : List UInt8} (h : Km.run m u ∧ 1 ≤ m ∧ m ≤ 5) : (⟨u.toArray⟩ : ByteArray).size ≤ 1099511627776 := by
  show u.toArray.size ≤ _
  have := h.1.1
  rw [List.size_toArray]
  omega
theorem nsize : (⟨#[]⟩ : ByteArray).size ≤ 1099511627776 := by decide

set_option maxRecDepth 100000 in
set_option maxHeartbeats 1600000 in
theorem walkKeysMeet (w : World) (q0 q1 q2 q3 : Int) (o0 o1 : Bool) (h0 : -9223372036854775808 ≤ q0 ∧ q0 ≤ 9223372036854775807) (h1 : -9223372036854775808 ≤ q1 ∧ q1 ≤ 9223372036854775807) (h2 : -9223372036854775808 ≤ q2 ∧ q2 ≤ 9223372036854775807) (h3 : -9223372036854775808 ≤ q3 ∧ q3 ≤ 9223372036854775807) :
    Calls Try.prog 6 #[.agg #[.int .i64 q0, .int .i64 q1, .int .i64 q2, .int .i64 q3], .agg #[.bool o0, .bool o1]] w fun e w' => e = .returned (.bool true) ∧ Below w.heap.size w w' := by
  have H0 := Lib.hid h0
  have H1 := Lib.hid h1
  have H2 := Lib.hid h2
  have H3 := Lib.hid h3
  clear h0 h1 h2 h3
  go_enter Try.func6, Try.ntmps6
  go_wp2_with fail
  refine (kawake_any _).mono ?_
  rintro e w1 ⟨rfl, hb⟩
  have hs := hb.size
  simp at hs
  have c0 : w1.cell? ⟨w.heap.size, 0, none⟩ = some (.int .i64 q0) := by rw [hb.cell (p := ⟨w.heap.size, 0, none⟩) (by simp; omega)]; simp
  have c1 : w1.cell? ⟨w.heap.size, 1, none⟩ = some (.int .i64 q1) := by rw [hb.cell (p := ⟨w.heap.size, 1, none⟩) (by simp; omega)]; simp
  have c2 : w1.cell? ⟨w.heap.size, 2, none⟩ = some (.int .i64 q2) := by rw [hb.cell (p := ⟨w.heap.size, 2, none⟩) (by simp; omega)]; simp
  have c3 : w1.cell? ⟨w.heap.size, 3, none⟩ = some (.int .i64 q3) := by rw [hb.cell (p := ⟨w.heap.size, 3, none⟩) (by simp; omega)]; simp
  have c4 : w1.cell? ⟨w.heap.size + 1, 0, none⟩ = some (.bool o0) := by rw [hb.cell (p := ⟨w.heap.size + 1, 0, none⟩) (by simp)]; simp
  have c5 : w1.cell? ⟨w.heap.size + 1, 1, none⟩ = some (.bool o1) := by rw [hb.cell (p := ⟨w.heap.size + 1, 1, none⟩) (by simp)]; simp
  have hb1 : Below w.heap.size w w1 := (balloc (balloc (Below.refl _ _) _) _).trans (hb.mono (by simp; omega))
  have z1 : w.heap.size + 1 < w1.heap.size := by omega
  clear hb hs
  have a0 := keep_alloc c0 (by omega)
  have a1 := keep_alloc c1 (by omega)
  go_upto_region 2 with fail
  go_cut [6] (fun s6 wx => PairAt w1 s6 wx)
  case first =>
    go_region_held3 (fun w' => w'.cell? ⟨w.heap.size, 0, none⟩ = some (.int .i64 q0) ∧ w'.cell? ⟨w.heap.size, 1, none⟩ = some (.int .i64 q1)) (first | exact ⟨c0, c1⟩ | exact ⟨a0 _, a1 _⟩ | exact ⟨k0, k1⟩ | exact ⟨ka0 _, ka1 _⟩ | exact ⟨g0, g1⟩ | exact ⟨ga0 _, ga1 _⟩ | exact ⟨keep_set k0 (by omega), keep_set k1 (by omega)⟩)
      (first
        | (go_at_call_of 31 (q0); ((with_reducible refine (word_any q0 _ H0.out).mono ?_); rintro e w5 ⟨u0, m0, rfl, hr0, hm0, hm0', hb5⟩; have z5 : w.heap.size + 1 < w5.heap.size := (by have := hb5.size; (try simp at this); omega); have g0 : w5.cell? ⟨w.heap.size, 0, none⟩ = some (.int .i64 q0) := kcell hb5 (by (try simp); omega) (by first | exact c0 | exact a0 _); have g1 : w5.cell? ⟨w.heap.size, 1, none⟩ = some (.int .i64 q1) := kcell hb5 (by (try simp); omega) (by first | exact c1 | exact a1 _); have ga0 := keep_alloc g0 (by omega); have ga1 := keep_alloc g1 (by omega); have n4 := hb5.size; (try simp only [World.size_alloc, World.size_drew, Nat.add_one_le_iff] at n4); have hc5 := old_cells hb5; have hf5 := old_marks hb5; (try simp only [World.size_alloc, World.size_drew] at hc5 hf5)))
        | (go_at_call_of 31 (q1); ((with_reducible refine (word_any q1 _ H1.out).mono ?_); rintro e w6 ⟨u1, m1, rfl, hr1, hm1, hm1', hb6⟩; have z6 : w.heap.size + 1 < w6.heap.size := (by have := hb6.size; (try simp at this); omega); have k0 : w6.cell? ⟨w.heap.size, 0, none⟩ = some (.int .i64 q0) := kcell hb6 (by (try simp); omega) (by first | exact g0 | exact ga0 _); have k1 : w6.cell? ⟨w.heap.size, 1, none⟩ = some (.int .i64 q1) := kcell hb6 (by (try simp); omega) (by first | exact g1 | exact ga1 _); have ka0 := keep_alloc k0 (by omega); have ka1 := keep_alloc k1 (by omega); have n6 := hb6.size; (try simp only [World.size_alloc, World.size_drew, Nat.add_one_le_iff] at n6); have hc6 := old_cells hb6; have hf6 := old_marks hb6; (try simp only [World.size_alloc, World.size_drew] at hc6 hf6))))
    · go_wp2_with fail
      go_meet
      exact pairAt_new hr0 hr1 ⟨hm0, hm0'⟩ ⟨hm1, hm1'⟩ (bstep (bstep (Below.refl _ w1).drew hb5) hb6)
    · go_wp2_with fail
      go_meet
      exact pairAt_set (x0 := .string ⟨#[]⟩) (x1 := .string ⟨#[]⟩) n6 n4 (by rw [hc6 _ _ (by omega)]; simp) (by rw [hc6 _ _ (by omega)]; simp) (by rw [hf6 _ _ (by omega)]; simp) hr0 hr1 ⟨hm0, hm0'⟩ ⟨hm1, hm1'⟩ (bstep (balloc (bstep (Below.refl _ w1).drew hb5) _) hb6)
    · go_wp2_with fail
      go_meet
      exact pairAt_set (x0 := .string ⟨#[]⟩) (x1 := .string ⟨#[]⟩) (by omega) (Nat.le_refl _) (by rw [hc6 _ _ n4, hc5 _ _ (by omega)]; simp) (by rw [hc6 _ _ n4, hc5 _ _ (by omega)]; simp) (by rw [hf6 _ _ n4, hf5 _ _ (by omega)]; simp) hr0 hr1 ⟨hm0, hm0'⟩ ⟨hm1, hm1'⟩ (bstep (bstep (balloc (Below.refl _ w1) _).drew hb5) hb6)
  case rest =>
    obtain ⟨B1, u0, u1, m0, m1, rfl, x0, x1, y1, hB1, zB1, hr0, hr1, hm0, hm1, hbc⟩ := hcut
    have d2 := kcell hbc (by omega) c2
    have d3 := kcell hbc (by omega) c3
    have d4 := kcell hbc (by omega) c4
    have d5 := kcell hbc (by omega) c5
    have hb2 := bstep hb1 hbc
    have z2 : w.heap.size + 1 < wc.heap.size := by have := hbc.size; omega
    have zz : w.heap.size + 1 < B1 := by omega
    clear c0 c1 c2 c3 c4 c5 a0 a1 hb1 z1 hbc
    have HR0 := Lib.hid (And.intro hr0 hm0)
    have HR1 := Lib.hid (And.intro hr1 hm1)
    clear hr0 hr1 hm0 hm1
    have a0 := keep_alloc d2 (by omega)
    have a1 := keep_alloc d3 (by omega)
    go_upto_region 3 with fail
    go_cut [7] (fun s7 wx => PairAt wc s7 wx)
    case first =>
      go_region_held3 (fun w' => w'.cell? ⟨w.heap.size, 2, none⟩ = some (.int .i64 q2) ∧ w'.cell? ⟨w.heap.size, 3, none⟩ = some (.int .i64 q3)) (first | exact ⟨d2, d3⟩ | exact ⟨a0 _, a1 _⟩ | exact ⟨k0, k1⟩ | exact ⟨ka0 _, ka1 _⟩ | exact ⟨g0, g1⟩ | exact ⟨ga0 _, ga1 _⟩ | exact ⟨keep_set k0 (by omega), keep_set k1 (by omega)⟩)
        (first
          | (go_at_call_of 31 (q2); ((with_reducible refine (word_any q2 _ H2.out).mono ?_); rintro e w5 ⟨vu0, vm0, rfl, vhr0, vhm0, vhm0', hb5⟩; have z5 : w.heap.size + 1 < w5.heap.size := (by have := hb5.size; (try simp at this); omega); have g0 : w5.cell? ⟨w.heap.size, 2, none⟩ = some (.int .i64 q2) := kcell hb5 (by (try simp); omega) (by first | exact d2 | exact a0 _); have g1 : w5.cell? ⟨w.heap.size, 3, none⟩ = some (.int .i64 q3) := kcell hb5 (by (try simp); omega) (by first | exact d3 | exact a1 _); have ga0 := keep_alloc g0 (by omega); have ga1 := keep_alloc g1 (by omega); have n4 := hb5.size; (try simp only [World.size_alloc, World.size_drew, Nat.add_one_le_iff] at n4); have hc5 := old_cells hb5; have hf5 := old_marks hb5; (try simp only [World.size_alloc, World.size_drew] at hc5 hf5)))
          | (go_at_call_of 31 (q3); ((with_reducible refine (word_any q3 _ H3.out).mono ?_); rintro e w6 ⟨vu1, vm1, rfl, vhr1, vhm1, vhm1', hb6⟩; have z6 : w.heap.size + 1 < w6.heap.size := (by have := hb6.size; (try simp at this); omega); have k0 : w6.cell? ⟨w.heap.size, 2, none⟩ = some (.int .i64 q2) := kcell hb6 (by (try simp); omega) (by first | exact g0 | exact ga0 _); have k1 : w6.cell? ⟨w.heap.size, 3, none⟩ = some (.int .i64 q3) := kcell hb6 (by (try simp); omega) (by first | exact g1 | exact ga1 _); have ka0 := keep_alloc k0 (by omega); have ka1 := keep_alloc k1 (by omega); have n6 := hb6.size; (try simp only [World.size_alloc, World.size_drew, Nat.add_one_le_iff] at n6); have hc6 := old_cells hb6; have hf6 := old_marks hb6; (try simp only [World.size_alloc, World.size_drew] at hc6 hf6))))
      · go_wp2_with fail
        go_meet
        exact pairAt_new vhr0 vhr1 ⟨vhm0, vhm0'⟩ ⟨vhm1, vhm1'⟩ (bstep (bstep (Below.refl _ wc).drew hb5) hb6)
      · go_wp2_with fail
        go_meet
        exact pairAt_set (x0 := .string ⟨#[]⟩) (x1 := .string ⟨#[]⟩) n6 n4 (by rw [hc6 _ _ (by omega)]; simp) (by rw [hc6 _ _ (by omega)]; simp) (by rw [hf6 _ _ (by omega)]; simp) vhr0 vhr1 ⟨vhm0, vhm0'⟩ ⟨vhm1, vhm1'⟩ (bstep (balloc (bstep (Below.refl _ wc).drew hb5) _) hb6)
      · go_wp2_with fail
        go_meet
        exact pairAt_set (x0 := .string ⟨#[]⟩) (x1 := .string ⟨#[]⟩) (by omega) (Nat.le_refl _) (by rw [hc6 _ _ n4, hc5 _ _ (by omega)]; simp) (by rw [hc6 _ _ n4, hc5 _ _ (by omega)]; simp) (by rw [hf6 _ _ n4, hf5 _ _ (by omega)]; simp) vhr0 vhr1 ⟨vhm0, vhm0'⟩ ⟨vhm1, vhm1'⟩ (bstep (bstep (balloc (Below.refl _ wc) _).drew hb5) hb6)
    case rest =>
      obtain ⟨B2, v0, v1, n0, n1, rfl, x2, x3, y3, hB2, zB2, hr2, hr3, hm2, hm3, hbc⟩ := hcut
      have HR2 := Lib.hid (And.intro hr2 hm2)
      have HR3 := Lib.hid (And.intro hr3 hm3)
      have e0 := kcell hbc zB1 x0
      have e1 := kcell hbc zB1 x1
      have f1 := kfroz hbc zB1 y1
      have d4' := kcell hbc (by omega) d4
      have d5' := kcell hbc (by omega) d5
      have hbW := bstep hb2 hbc
      have hB12 : B1 < B2 := by omega
      have hBn : B1 ≠ B2 := by omega
      have hBn2 : B2 ≠ B1 := by omega
      have q1' : w.heap.size + 1 ≠ B1 := by omega
      have q2' : w.heap.size + 1 ≠ B2 := by omega
      clear hr2 hr3 hm2 hm3 x0 x1 y1 d2 d3 d4 d5 hb2 z2 a0 a1 hbc
      cases o0 <;> cases o1
      · go_wp2_with fail
        have i0 : wc.cell? ⟨B1, 0, none⟩ = some (.string ⟨u0.toArray⟩) := by go_simp
        have i1 : wc.cell? ⟨B1, 1, none⟩ = some (.string ⟨u1.toArray⟩) := by go_simp
        have i2 : wc.cell? ⟨B2, 0, none⟩ = some (.string ⟨v0.toArray⟩) := by go_simp
        have i3 : wc.cell? ⟨B2, 1, none⟩ = some (.string ⟨v1.toArray⟩) := by go_simp
        have z1 : B1 < wc.heap.size := by (try simp); omega
        have z2 : B2 < wc.heap.size := by (try simp); omega
        have ib : Below w.heap.size w wc := by exact hbW
        clear e0 e1 x2 x3 hbW f1 y3 d4' d5'
        have e0 := i0
        have e1 := i1
        have e2 := i2
        have e3 := i3
        have hbW := ib
        clear i0 i1 i2 i3 ib hBn hBn2 q1' q2' zB2
        generalize wc = W at *
        have lu := Km.good_words HR0.out HR1.out
        cases hl1 : Op.bytesLess u0 u1 with
        | true =>
          have HG1 : Hid (Km.good u0 u1 = true) := Lib.hid (lu.trans hl1)
          clear lu
          have ne1 : ¬ u1 = [] := Km.run_ne HR1.out
          have nf1 : u1.isEmpty = false := by simpa using ne1
          go_wp2_with fail
          refine (good_b ⟨u0.toArray⟩ ⟨u1.toArray⟩ true _ (wsize HR0.out) (wsize HR1.out) (by exact HG1.out)).mono ?_
          rintro e wq1 ⟨rfl, hb⟩
          have i0 := kcell hb z1 e0
          have i1 := kcell hb z1 e1
          have i2 := kcell hb z2 e2
          have i3 := kcell hb z2 e3
          have iz1 : B1 < wq1.heap.size := by have := hb.size; omega
          have iz2 : B2 < wq1.heap.size := by have := hb.size; omega
          have ib := bstep hbW hb
          clear e0 e1 e2 e3 z1 z2 hbW hb
          have e0 := i0
          have e1 := i1
          have e2 := i2
          have e3 := i3
          have z1 := iz1
          have z2 := iz2
          have hbW := ib
          clear i0 i1 i2 i3 iz1 iz2 ib
          have lv := Km.good_words HR2.out HR3.out
          cases hl2 : Op.bytesLess v0 v1 with
          | true =>
            have HG2 : Hid (Km.good v0 v1 = true) := Lib.hid (lv.trans hl2)
            clear lv hl2
            go_wp2_with fail
            refine (good_b ⟨v0.toArray⟩ ⟨v1.toArray⟩ true _ (wsize HR2.out) (wsize HR3.out) (by exact HG2.out)).mono ?_
            rintro e wq2 ⟨rfl, hb⟩
            have i0 := kcell hb z1 e0
            have i1 := kcell hb z1 e1
            have i2 := kcell hb z2 e2
            have i3 := kcell hb z2 e3
            have iz1 : B1 < wq2.heap.size := by have := hb.size; omega
            have iz2 : B2 < wq2.heap.size := by have := hb.size; omega
            have ib := bstep hbW hb
            clear e0 e1 e2 e3 z1 z2 hbW hb
            have e0 := i0
            have e1 := i1
            have e2 := i2
            have e3 := i3
            have z1 := iz1
            have z2 := iz2
            have hbW := ib
            clear i0 i1 i2 i3 iz1 iz2 ib
            have HM := Lib.hid (Km.meet_yes HG1.out HG2.out)
            have HM2 := Lib.hid (Km.meet_yes HG2.out HG1.out)
            have HS := Lib.hid (Km.meet_self HG1.out)
            cases hh : Km.has u0 u1 v0 with
            | true =>
              have HH := Lib.hid hh
              clear hh
              go_wp2_with fail
              refine (khas_b ⟨u0.toArray⟩ ⟨u1.toArray⟩ ⟨v0.toArray⟩ true _ (by exact HH.out)).mono ?_
              rintro e wq3 ⟨rfl, hb⟩
              have i0 := kcell hb z1 e0
              have i1 := kcell hb z1 e1
              have i2 := kcell hb z2 e2
              have i3 := kcell hb z2 e3
              have iz1 : B1 < wq3.heap.size := by have := hb.size; omega
              have iz2 : B2 < wq3.heap.size := by have := hb.size; omega
              have ib := bstep hbW hb
              clear e0 e1 e2 e3 z1 z2 hbW hb
              have e0 := i0
              have e1 := i1
              have e2 := i2
              have e3 := i3
              have z1 := iz1
              have z2 := iz2
              have hbW := ib
              clear i0 i1 i2 i3 iz1 iz2 ib
              go_wp2_with fail
              refine (meet_b ⟨u0.toArray⟩ ⟨u1.toArray⟩ ⟨v0.toArray⟩ ⟨v1.toArray⟩ true _ (wsize HR0.out) (wsize HR1.out) (wsize HR2.out) (wsize HR3.out) (by have e := HM.out; rw [HH.out] at e; exact e)).mono ?_
              rintro e wq4 ⟨rfl, hb⟩
              have i0 := kcell hb z1 e0
              have i1 := kcell hb z1 e1
              have i2 := kcell hb z2 e2
              have i3 := kcell hb z2 e3
              have iz1 : B1 < wq4.heap.size := by have := hb.size; omega
              have iz2 : B2 < wq4.heap.size := by have := hb.size; omega
              have ib := bstep hbW hb
              clear e0 e1 e2 e3 z1 z2 hbW hb
              have e0 := i0
              have e1 := i1
              have e2 := i2
              have e3 := i3
              have z1 := iz1
              have z2 := iz2
              have hbW := ib
              clear i0 i1 i2 i3 iz1 iz2 ib
              go_wp2_with fail
              refine (meet_b ⟨v0.toArray⟩ ⟨v1.toArray⟩ ⟨u0.toArray⟩ ⟨u1.toArray⟩ true _ (wsize HR2.out) (wsize HR3.out) (wsize HR0.out) (wsize HR1.out) (by have e := HM2.out; rw [HH.out, Bool.or_true] at e; exact e)).mono ?_
              rintro e wq5 ⟨rfl, hb⟩
              have i0 := kcell hb z1 e0
              have i1 := kcell hb z1 e1
              have i2 := kcell hb z2 e2
              have i3 := kcell hb z2 e3
              have iz1 : B1 < wq5.heap.size := by have := hb.size; omega
              have iz2 : B2 < wq5.heap.size := by have := hb.size; omega
              have ib := bstep hbW hb
              clear e0 e1 e2 e3 z1 z2 hbW hb
              have e0 := i0
              have e1 := i1
              have e2 := i2
              have e3 := i3
              have z1 := iz1
              have z2 := iz2
              have hbW := ib
              clear i0 i1 i2 i3 iz1 iz2 ib
              go_wp2_with fail
              refine (meet_b ⟨u0.toArray⟩ ⟨u1.toArray⟩ ⟨u0.toArray⟩ ⟨u1.toArray⟩ true _ (wsize HR0.out) (wsize HR1.out) (wsize HR0.out) (wsize HR1.out) (by exact HS.out)).mono ?_
              rintro e wq6 ⟨rfl, hb⟩
              have i0 := kcell hb z1 e0
              have i1 := kcell hb z1 e1
              have i2 := kcell hb z2 e2
              have i3 := kcell hb z2 e3
              have iz1 : B1 < wq6.heap.size := by have := hb.size; omega
              have iz2 : B2 < wq6.heap.size := by have := hb.size; omega
              have ib := bstep hbW hb
              clear e0 e1 e2 e3 z1 z2 hbW hb
              have e0 := i0
              have e1 := i1
              have e2 := i2
              have e3 := i3
              have z1 := iz1
              have z2 := iz2
              have hbW := ib
              clear i0 i1 i2 i3 iz1 iz2 ib
              go_wp2
              go_ret
              exact ⟨by first | rfl | simp, hbW⟩
            | false =>
              have HH := Lib.hid hh
              clear hh
              obtain ⟨b, hb2⟩ : ∃ b, Km.has v0 v1 u0 = b := ⟨_, rfl⟩
              have HH2 := Lib.hid hb2
              clear hb2
              go_wp2_with fail
              refine (khas_b ⟨u0.toArray⟩ ⟨u1.toArray⟩ ⟨v0.toArray⟩ false _ (by exact HH.out)).mono ?_
              rintro e wq7 ⟨rfl, hb⟩
              have i0 := kcell hb z1 e0
              have i1 := kcell hb z1 e1
              have i2 := kcell hb z2 e2
              have i3 := kcell hb z2 e3
              have iz1 : B1 < wq7.heap.size := by have := hb.size; omega
              have iz2 : B2 < wq7.heap.size := by have := hb.size; omega
              have ib := bstep hbW hb
              clear e0 e1 e2 e3 z1 z2 hbW hb
              have e0 := i0
              have e1 := i1
              have e2 := i2
              have e3 := i3
              have z1 := iz1
              have z2 := iz2
              have hbW := ib
              clear i0 i1 i2 i3 iz1 iz2 ib
              go_wp2_with fail
              refine (khas_b ⟨v0.toArray⟩ ⟨v1.toArray⟩ ⟨u0.toArray⟩ b _ (by exact HH2.out)).mono ?_
              rintro e wq8 ⟨rfl, hb⟩
              have i0 := kcell hb z1 e0
              have i1 := kcell hb z1 e1
              have i2 := kcell hb z2 e2
              have i3 := kcell hb z2 e3
              have iz1 : B1 < wq8.heap.size := by have := hb.size; omega
              have iz2 : B2 < wq8.heap.size := by have := hb.size; omega
              have ib := bstep hbW hb
              clear e0 e1 e2 e3 z1 z2 hbW hb
              have e0 := i0
              have e1 := i1
              have e2 := i2
              have e3 := i3
              have z1 := iz1
              have z2 := iz2
              have hbW := ib
              clear i0 i1 i2 i3 iz1 iz2 ib
              cases b with
              | false =>
                go_wp2_with fail
                refine (meet_b ⟨u0.toArray⟩ ⟨u1.toArray⟩ ⟨v0.toArray⟩ ⟨v1.toArray⟩ false _ (wsize HR0.out) (wsize HR1.out) (wsize HR2.out) (wsize HR3.out) (by have e := HM.out; rw [HH.out, HH2.out] at e; exact e)).mono ?_
                rintro e wq9 ⟨rfl, hb⟩
                have i0 := kcell hb z1 e0
                have i1 := kcell hb z1 e1
                have i2 := kcell hb z2 e2
                have i3 := kcell hb z2 e3
                have iz1 : B1 < wq9.heap.size := by have := hb.size; omega
                have iz2 : B2 < wq9.heap.size := by have := hb.size; omega
                have ib := bstep hbW hb
                clear e0 e1 e2 e3 z1 z2 hbW hb
                have e0 := i0
                have e1 := i1
                have e2 := i2
                have e3 := i3
                have z1 := iz1
                have z2 := iz2
                have hbW := ib
                clear i0 i1 i2 i3 iz1 iz2 ib
                go_wp2_with fail
                refine (meet_b ⟨v0.toArray⟩ ⟨v1.toArray⟩ ⟨u0.toArray⟩ ⟨u1.toArray⟩ false _ (wsize HR2.out) (wsize HR3.out) (wsize HR0.out) (wsize HR1.out) (by have e := HM2.out; rw [HH.out, HH2.out] at e; exact e)).mono ?_
                rintro e wq10 ⟨rfl, hb⟩
                have i0 := kcell hb z1 e0
                have i1 := kcell hb z1 e1
                have i2 := kcell hb z2 e2
                have i3 := kcell hb z2 e3
                have iz1 : B1 < wq10.heap.size := by have := hb.size; omega
                have iz2 : B2 < wq10.heap.size := by have := hb.size; omega
                have ib := bstep hbW hb
                clear e0 e1 e2 e3 z1 z2 hbW hb
                have e0 := i0
                have e1 := i1
                have e2 := i2
                have e3 := i3
                have z1 := iz1
                have z2 := iz2
                have hbW := ib
                clear i0 i1 i2 i3 iz1 iz2 ib
                go_wp2_with fail
                refine (meet_b ⟨u0.toArray⟩ ⟨u1.toArray⟩ ⟨u0.toArray⟩ ⟨u1.toArray⟩ true _ (wsize HR0.out) (wsize HR1.out) (wsize HR0.out) (wsize HR1.out) (by exact HS.out)).mono ?_
                rintro e wq11 ⟨rfl, hb⟩
                have i0 := kcell hb z1 e0
                have i1 := kcell hb z1 e1
                have i2 := kcell hb z2 e2
                have i3 := kcell hb z2 e3
                have iz1 : B1 < wq11.heap.size := by have := hb.size; omega
                have iz2 : B2 < wq11.heap.size := by have := hb.size; omega
                have ib := bstep hbW hb
                clear e0 e1 e2 e3 z1 z2 hbW hb
                have e0 := i0
                have e1 := i1
                have e2 := i2
                have e3 := i3
                have z1 := iz1
                have z2 := iz2
                have hbW := ib
                clear i0 i1 i2 i3 iz1 iz2 ib
                go_wp2
                go_ret
                exact ⟨by first | rfl | simp, hbW⟩
              | true =>
                go_wp2_with fail
                refine (meet_b ⟨u0.toArray⟩ ⟨u1.toArray⟩ ⟨v0.toArray⟩ ⟨v1.toArray⟩ true _ (wsize HR0.out) (wsize HR1.out) (wsize HR2.out) (wsize HR3.out) (by have e := HM.out; rw [HH.out, HH2.out] at e; exact e)).mono ?_
                rintro e wq12 ⟨rfl, hb⟩
                have i0 := kcell hb z1 e0
                have i1 := kcell hb z1 e1
                have i2 := kcell hb z2 e2
                have i3 := kcell hb z2 e3
                have iz1 : B1 < wq12.heap.size := by have := hb.size; omega
                have iz2 : B2 < wq12.heap.size := by have := hb.size; omega
                have ib := bstep hbW hb
                clear e0 e1 e2 e3 z1 z2 hbW hb
                have e0 := i0
                have e1 := i1
                have e2 := i2
                have e3 := i3
                have z1 := iz1
                have z2 := iz2
                have hbW := ib
                clear i0 i1 i2 i3 iz1 iz2 ib
                go_wp2_with fail
                refine (meet_b ⟨v0.toArray⟩ ⟨v1.toArray⟩ ⟨u0.toArray⟩ ⟨u1.toArray⟩ true _ (wsize HR2.out) (wsize HR3.out) (wsize HR0.out) (wsize HR1.out) (by have e := HM2.out; rw [HH.out, HH2.out] at e; exact e)).mono ?_
                rintro e wq13 ⟨rfl, hb⟩
                have i0 := kcell hb z1 e0
                have i1 := kcell hb z1 e1
                have i2 := kcell hb z2 e2
                have i3 := kcell hb z2 e3
                have iz1 : B1 < wq13.heap.size := by have := hb.size; omega
                have iz2 : B2 < wq13.heap.size := by have := hb.size; omega
                have ib := bstep hbW hb
                clear e0 e1 e2 e3 z1 z2 hbW hb
                have e0 := i0
                have e1 := i1
                have e2 := i2
                have e3 := i3
                have z1 := iz1
                have z2 := iz2
                have hbW := ib
                clear i0 i1 i2 i3 iz1 iz2 ib
                go_wp2_with fail
                refine (meet_b ⟨u0.toArray⟩ ⟨u1.toArray⟩ ⟨u0.toArray⟩ ⟨u1.toArray⟩ true _ (wsize HR0.out) (wsize HR1.out) (wsize HR0.out) (wsize HR1.out) (by exact HS.out)).mono ?_
                rintro e wq14 ⟨rfl, hb⟩
                have i0 := kcell hb z1 e0
                have i1 := kcell hb z1 e1
                have i2 := kcell hb z2 e2
                have i3 := kcell hb z2 e3
                have iz1 : B1 < wq14.heap.size := by have := hb.size; omega
                have iz2 : B2 < wq14.heap.size := by have := hb.size; omega
                have ib := bstep hbW hb
                clear e0 e1 e2 e3 z1 z2 hbW hb
                have e0 := i0
                have e1 := i1
                have e2 := i2
                have e3 := i3
                have z1 := iz1
                have z2 := iz2
                have hbW := ib
                clear i0 i1 i2 i3 iz1 iz2 ib
                go_wp2
                go_ret
                exact ⟨by first | rfl | simp, hbW⟩
          | false =>
            have HG2 : Hid (Km.good v0 v1 = false) := Lib.hid (lv.trans hl2)
            clear lv
            have ne2 : ¬ v1 = [] := Km.run_ne HR3.out
            have nf2 : v1.isEmpty = false := by simpa using ne2
            go_wp2_with fail
            refine (good_b ⟨v0.toArray⟩ ⟨v1.toArray⟩ false _ (wsize HR2.out) (wsize HR3.out) (by exact HG2.out)).mono ?_
            rintro e wq15 ⟨rfl, hb⟩
            have i0 := kcell hb z1 e0
            have i1 := kcell hb z1 e1
            have i2 := kcell hb z2 e2
            have i3 := kcell hb z2 e3
            have iz1 : B1 < wq15.heap.size := by have := hb.size; omega
            have iz2 : B2 < wq15.heap.size := by have := hb.size; omega
            have ib := bstep hbW hb
            clear e0 e1 e2 e3 z1 z2 hbW hb
            have e0 := i0
            have e1 := i1
            have e2 := i2
            have e3 := i3
            have z1 := iz1
            have z2 := iz2
            have hbW := ib
            clear i0 i1 i2 i3 iz1 iz2 ib
            go_wp2_with fail
            refine (meet_b ⟨u0.toArray⟩ ⟨u1.toArray⟩ ⟨v0.toArray⟩ ⟨v1.toArray⟩ false _ (wsize HR0.out) (wsize HR1.out) (wsize HR2.out) (wsize HR3.out) (Km.meet_no2 HG2.out)).mono ?_
            rintro e wq16 ⟨rfl, hb⟩
            have i0 := kcell hb z1 e0
            have i1 := kcell hb z1 e1
            have i2 := kcell hb z2 e2
            have i3 := kcell hb z2 e3
            have iz1 : B1 < wq16.heap.size := by have := hb.size; omega
            have iz2 : B2 < wq16.heap.size := by have := hb.size; omega
            have ib := bstep hbW hb
            clear e0 e1 e2 e3 z1 z2 hbW hb
            have e0 := i0
            have e1 := i1
            have e2 := i2
            have e3 := i3
            have z1 := iz1
            have z2 := iz2
            have hbW := ib
            clear i0 i1 i2 i3 iz1 iz2 ib
            go_wp2
            go_ret
            exact ⟨by first | rfl | simp, hbW⟩
        | false =>
          have HG1 : Hid (Km.good u0 u1 = false) := Lib.hid (lu.trans hl1)
          clear lu
          have ne1 : ¬ u1 = [] := Km.run_ne HR1.out
          have nf1 : u1.isEmpty = false := by simpa using ne1
          go_wp2_with fail
          refine (good_b ⟨u0.toArray⟩ ⟨u1.toArray⟩ false _ (wsize HR0.out) (wsize HR1.out) (by exact HG1.out)).mono ?_
          rintro e wq17 ⟨rfl, hb⟩
          have i0 := kcell hb z1 e0
          have i1 := kcell hb z1 e1
          have i2 := kcell hb z2 e2
          have i3 := kcell hb z2 e3
          have iz1 : B1 < wq17.heap.size := by have := hb.size; omega
          have iz2 : B2 < wq17.heap.size := by have := hb.size; omega
          have ib := bstep hbW hb
          clear e0 e1 e2 e3 z1 z2 hbW hb
          have e0 := i0
          have e1 := i1
          have e2 := i2
          have e3 := i3
          have z1 := iz1
          have z2 := iz2
          have hbW := ib
          clear i0 i1 i2 i3 iz1 iz2 ib
          go_wp2_with fail
          refine (meet_b ⟨u0.toArray⟩ ⟨u1.toArray⟩ ⟨v0.toArray⟩ ⟨v1.toArray⟩ false _ (wsize HR0.out) (wsize HR1.out) (wsize HR2.out) (wsize HR3.out) (Km.meet_no1 HG1.out)).mono ?_
          rintro e wq18 ⟨rfl, hb⟩
          have i0 := kcell hb z1 e0
          have i1 := kcell hb z1 e1
          have i2 := kcell hb z2 e2
          have i3 := kcell hb z2 e3
          have iz1 : B1 < wq18.heap.size := by have := hb.size; omega
          have iz2 : B2 < wq18.heap.size := by have := hb.size; omega
          have ib := bstep hbW hb
          clear e0 e1 e2 e3 z1 z2 hbW hb
          have e0 := i0
          have e1 := i1
          have e2 := i2
          have e3 := i3
          have z1 := iz1
          have z2 := iz2
          have hbW := ib
          clear i0 i1 i2 i3 iz1 iz2 ib
          go_wp2
          go_ret
          exact ⟨by first | rfl | simp, hbW⟩
      · go_wp2_with fail
        have i0 : (wc.setCell ⟨B2, 1, none⟩ (.string ⟨#[]⟩)).cell? ⟨B1, 0, none⟩ = some (.string ⟨u0.toArray⟩) := by go_simp
        have i1 : (wc.setCell ⟨B2, 1, none⟩ (.string ⟨#[]⟩)).cell? ⟨B1, 1, none⟩ = some (.string ⟨u1.toArray⟩) := by go_simp
        have i2 : (wc.setCell ⟨B2, 1, none⟩ (.string ⟨#[]⟩)).cell? ⟨B2, 0, none⟩ = some (.string ⟨v0.toArray⟩) := by go_simp
        have i3 : (wc.setCell ⟨B2, 1, none⟩ (.string ⟨#[]⟩)).cell? ⟨B2, 1, none⟩ = some (.string ⟨#[]⟩) := by go_simp
        have z1 : B1 < (wc.setCell ⟨B2, 1, none⟩ (.string ⟨#[]⟩)).heap.size := by (try simp); omega
        have z2 : B2 < (wc.setCell ⟨B2, 1, none⟩ (.string ⟨#[]⟩)).heap.size := by (try simp); omega
        have ib : Below w.heap.size w (wc.setCell ⟨B2, 1, none⟩ (.string ⟨#[]⟩)) := by exact (hbW.setCell (by show w.heap.size ≤ B2; omega) _)
        clear e0 e1 x2 x3 hbW f1 y3 d4' d5'
        have e0 := i0
        have e1 := i1
        have e2 := i2
        have e3 := i3
        have hbW := ib
        clear i0 i1 i2 i3 ib hBn hBn2 q1' q2' zB2
        generalize (wc.setCell ⟨B2, 1, none⟩ (.string ⟨#[]⟩)) = W at *
        have lu := Km.good_words HR0.out HR1.out
        cases hl1 : Op.bytesLess u0 u1 with
        | true =>
          have HG1 : Hid (Km.good u0 u1 = true) := Lib.hid (lu.trans hl1)
          clear lu
          have ne1 : ¬ u1 = [] := Km.run_ne HR1.out
          have nf1 : u1.isEmpty = false := by simpa using ne1
          go_wp2_with fail
          refine (good_b ⟨u0.toArray⟩ ⟨u1.toArray⟩ true _ (wsize HR0.out) (wsize HR1.out) (by exact HG1.out)).mono ?_
          rintro e wq19 ⟨rfl, hb⟩
          have i0 := kcell hb z1 e0
          have i1 := kcell hb z1 e1
          have i2 := kcell hb z2 e2
          have i3 := kcell hb z2 e3
          have iz1 : B1 < wq19.heap.size := by have := hb.size; omega
          have iz2 : B2 < wq19.heap.size := by have := hb.size; omega
          have ib := bstep hbW hb
          clear e0 e1 e2 e3 z1 z2 hbW hb
          have e0 := i0
          have e1 := i1
          have e2 := i2
          have e3 := i3
          have z1 := iz1
          have z2 := iz2
          have hbW := ib
          clear i0 i1 i2 i3 iz1 iz2 ib
          have HG2 : Hid (Km.good v0 [] = true) := Lib.hid (Km.good_open HR2.out)
          go_wp2_with fail
          refine (good_b ⟨v0.toArray⟩ ⟨#[]⟩ true _ (wsize HR2.out) nsize (by exact HG2.out)).mono ?_
          rintro e wq20 ⟨rfl, hb⟩
          have i0 := kcell hb z1 e0
          have i1 := kcell hb z1 e1
          have i2 := kcell hb z2 e2
          have i3 := kcell hb z2 e3
          have iz1 : B1 < wq20.heap.size := by have := hb.size; omega
          have iz2 : B2 < wq20.heap.size := by have := hb.size; omega
          have ib := bstep hbW hb
          clear e0 e1 e2 e3 z1 z2 hbW hb
          have e0 := i0
          have e1 := i1
          have e2 := i2
          have e3 := i3
          have z1 := iz1
          have z2 := iz2
          have hbW := ib
          clear i0 i1 i2 i3 iz1 iz2 ib
          have HM := Lib.hid (Km.meet_yes HG1.out HG2.out)
          have HM2 := Lib.hid (Km.meet_yes HG2.out HG1.out)
          have HS := Lib.hid (Km.meet_self HG1.out)
          cases hh : Km.has u0 u1 v0 with
          | true =>
            have HH := Lib.hid hh
            clear hh
            go_wp2_with fail
            refine (khas_b ⟨u0.toArray⟩ ⟨u1.toArray⟩ ⟨v0.toArray⟩ true _ (by exact HH.out)).mono ?_
            rintro e wq21 ⟨rfl, hb⟩
            have i0 := kcell hb z1 e0
            have i1 := kcell hb z1 e1
            have i2 := kcell hb z2 e2
            have i3 := kcell hb z2 e3
            have iz1 : B1 < wq21.heap.size := by have := hb.size; omega
            have iz2 : B2 < wq21.heap.size := by have := hb.size; omega
            have ib := bstep hbW hb
            clear e0 e1 e2 e3 z1 z2 hbW hb
            have e0 := i0
            have e1 := i1
            have e2 := i2
            have e3 := i3
            have z1 := iz1
            have z2 := iz2
            have hbW := ib
            clear i0 i1 i2 i3 iz1 iz2 ib
            go_wp2_with fail
            refine (meet_b ⟨u0.toArray⟩ ⟨u1.toArray⟩ ⟨v0.toArray⟩ ⟨#[]⟩ true _ (wsize HR0.out) (wsize HR1.out) (wsize HR2.out) nsize (by have e := HM.out; rw [HH.out] at e; exact e)).mono ?_
            rintro e wq22 ⟨rfl, hb⟩
            have i0 := kcell hb z1 e0
            have i1 := kcell hb z1 e1
            have i2 := kcell hb z2 e2
            have i3 := kcell hb z2 e3
            have iz1 : B1 < wq22.heap.size := by have := hb.size; omega
            have iz2 : B2 < wq22.heap.size := by have := hb.size; omega
            have ib := bstep hbW hb
            clear e0 e1 e2 e3 z1 z2 hbW hb
            have e0 := i0
            have e1 := i1
            have e2 := i2
            have e3 := i3
            have z1 := iz1
            have z2 := iz2
            have hbW := ib
            clear i0 i1 i2 i3 iz1 iz2 ib
            go_wp2_with fail
            refine (meet_b ⟨v0.toArray⟩ ⟨#[]⟩ ⟨u0.toArray⟩ ⟨u1.toArray⟩ true _ (wsize HR2.out) nsize (wsize HR0.out) (wsize HR1.out) (by have e := HM2.out; rw [HH.out, Bool.or_true] at e; exact e)).mono ?_
            rintro e wq23 ⟨rfl, hb⟩
            have i0 := kcell hb z1 e0
            have i1 := kcell hb z1 e1
            have i2 := kcell hb z2 e2
            have i3 := kcell hb z2 e3
            have iz1 : B1 < wq23.heap.size := by have := hb.size; omega
            have iz2 : B2 < wq23.heap.size := by have := hb.size; omega
            have ib := bstep hbW hb
            clear e0 e1 e2 e3 z1 z2 hbW hb
            have e0 := i0
            have e1 := i1
            have e2 := i2
            have e3 := i3
            have z1 := iz1
            have z2 := iz2
            have hbW := ib
            clear i0 i1 i2 i3 iz1 iz2 ib
            go_wp2_with fail
            refine (meet_b ⟨u0.toArray⟩ ⟨u1.toArray⟩ ⟨u0.toArray⟩ ⟨u1.toArray⟩ true _ (wsize HR0.out) (wsize HR1.out) (wsize HR0.out) (wsize HR1.out) (by exact HS.out)).mono ?_
            rintro e wq24 ⟨rfl, hb⟩
            have i0 := kcell hb z1 e0
            have i1 := kcell hb z1 e1
            have i2 := kcell hb z2 e2
            have i3 := kcell hb z2 e3
            have iz1 : B1 < wq24.heap.size := by have := hb.size; omega
            have iz2 : B2 < wq24.heap.size := by have := hb.size; omega
            have ib := bstep hbW hb
            clear e0 e1 e2 e3 z1 z2 hbW hb
            have e0 := i0
            have e1 := i1
            have e2 := i2
            have e3 := i3
            have z1 := iz1
            have z2 := iz2
            have hbW := ib
            clear i0 i1 i2 i3 iz1 iz2 ib
            go_wp2
            go_ret
            exact ⟨by first | rfl | simp, hbW⟩
          | false =>
            have HH := Lib.hid hh
            clear hh
            obtain ⟨b, hb2⟩ : ∃ b, Km.has v0 [] u0 = b := ⟨_, rfl⟩
            have HH2 := Lib.hid hb2
            clear hb2
            go_wp2_with fail
            refine (khas_b ⟨u0.toArray⟩ ⟨u1.toArray⟩ ⟨v0.toArray⟩ false _ (by exact HH.out)).mono ?_
            rintro e wq25 ⟨rfl, hb⟩
            have i0 := kcell hb z1 e0
            have i1 := kcell hb z1 e1
            have i2 := kcell hb z2 e2
            have i3 := kcell hb z2 e3
            have iz1 : B1 < wq25.heap.size := by have := hb.size; omega
            have iz2 : B2 < wq25.heap.size := by have := hb.size; omega
            have ib := bstep hbW hb
            clear e0 e1 e2 e3 z1 z2 hbW hb
            have e0 := i0
            have e1 := i1
            have e2 := i2
            have e3 := i3
            have z1 := iz1
            have z2 := iz2
            have hbW := ib
            clear i0 i1 i2 i3 iz1 iz2 ib
            go_wp2_with fail
            refine (khas_b ⟨v0.toArray⟩ ⟨#[]⟩ ⟨u0.toArray⟩ b _ (by exact HH2.out)).mono ?_
            rintro e wq26 ⟨rfl, hb⟩
            have i0 := kcell hb z1 e0
            have i1 := kcell hb z1 e1
            have i2 := kcell hb z2 e2
            have i3 := kcell hb z2 e3
            have iz1 : B1 < wq26.heap.size := by have := hb.size; omega
            have iz2 : B2 < wq26.heap.size := by have := hb.size; omega
            have ib := bstep hbW hb
            clear e0 e1 e2 e3 z1 z2 hbW hb
            have e0 := i0
            have e1 := i1
            have e2 := i2
            have e3 := i3
            have z1 := iz1
            have z2 := iz2
            have hbW := ib
            clear i0 i1 i2 i3 iz1 iz2 ib
            cases b with
            | false =>
              go_wp2_with fail
              refine (meet_b ⟨u0.toArray⟩ ⟨u1.toArray⟩ ⟨v0.toArray⟩ ⟨#[]⟩ false _ (wsize HR0.out) (wsize HR1.out) (wsize HR2.out) nsize (by have e := HM.out; rw [HH.out, HH2.out] at e; exact e)).mono ?_
              rintro e wq27 ⟨rfl, hb⟩
              have i0 := kcell hb z1 e0
              have i1 := kcell hb z1 e1
              have i2 := kcell hb z2 e2
              have i3 := kcell hb z2 e3
              have iz1 : B1 < wq27.heap.size := by have := hb.size; omega
              have iz2 : B2 < wq27.heap.size := by have := hb.size; omega
              have ib := bstep hbW hb
              clear e0 e1 e2 e3 z1 z2 hbW hb
              have e0 := i0
              have e1 := i1
              have e2 := i2
              have e3 := i3
              have z1 := iz1
              have z2 := iz2
              have hbW := ib
              clear i0 i1 i2 i3 iz1 iz2 ib
              go_wp2_with fail
              refine (meet_b ⟨v0.toArray⟩ ⟨#[]⟩ ⟨u0.toArray⟩ ⟨u1.toArray⟩ false _ (wsize HR2.out) nsize (wsize HR0.out) (wsize HR1.out) (by have e := HM2.out; rw [HH.out, HH2.out] at e; exact e)).mono ?_
              rintro e wq28 ⟨rfl, hb⟩
              have i0 := kcell hb z1 e0
              have i1 := kcell hb z1 e1
              have i2 := kcell hb z2 e2
              have i3 := kcell hb z2 e3
              have iz1 : B1 < wq28.heap.size := by have := hb.size; omega
              have iz2 : B2 < wq28.heap.size := by have := hb.size; omega
              have ib := bstep hbW hb
              clear e0 e1 e2 e3 z1 z2 hbW hb
              have e0 := i0
              have e1 := i1
              have e2 := i2
              have e3 := i3
              have z1 := iz1
              have z2 := iz2
              have hbW := ib
              clear i0 i1 i2 i3 iz1 iz2 ib
              go_wp2_with fail
              refine (meet_b ⟨u0.toArray⟩ ⟨u1.toArray⟩ ⟨u0.toArray⟩ ⟨u1.toArray⟩ true _ (wsize HR0.out) (wsize HR1.out) (wsize HR0.out) (wsize HR1.out) (by exact HS.out)).mono ?_
              rintro e wq29 ⟨rfl, hb⟩
              have i0 := kcell hb z1 e0
              have i1 := kcell hb z1 e1
              have i2 := kcell hb z2 e2
              have i3 := kcell hb z2 e3
              have iz1 : B1 < wq29.heap.size := by have := hb.size; omega
              have iz2 : B2 < wq29.heap.size := by have := hb.size; omega
              have ib := bstep hbW hb
              clear e0 e1 e2 e3 z1 z2 hbW hb
              have e0 := i0
              have e1 := i1
              have e2 := i2
              have e3 := i3
              have z1 := iz1
              have z2 := iz2
              have hbW := ib
              clear i0 i1 i2 i3 iz1 iz2 ib
              go_wp2
              go_ret
              exact ⟨by first | rfl | simp, hbW⟩
            | true =>
              go_wp2_with fail
              refine (meet_b ⟨u0.toArray⟩ ⟨u1.toArray⟩ ⟨v0.toArray⟩ ⟨#[]⟩ true _ (wsize HR0.out) (wsize HR1.out) (wsize HR2.out) nsize (by have e := HM.out; rw [HH.out, HH2.out] at e; exact e)).mono ?_
              rintro e wq30 ⟨rfl, hb⟩
              have i0 := kcell hb z1 e0
              have i1 := kcell hb z1 e1
              have i2 := kcell hb z2 e2
              have i3 := kcell hb z2 e3
              have iz1 : B1 < wq30.heap.size := by have := hb.size; omega
              have iz2 : B2 < wq30.heap.size := by have := hb.size; omega
              have ib := bstep hbW hb
              clear e0 e1 e2 e3 z1 z2 hbW hb
              have e0 := i0
              have e1 := i1
              have e2 := i2
              have e3 := i3
              have z1 := iz1
              have z2 := iz2
              have hbW := ib
              clear i0 i1 i2 i3 iz1 iz2 ib
              go_wp2_with fail
              refine (meet_b ⟨v0.toArray⟩ ⟨#[]⟩ ⟨u0.toArray⟩ ⟨u1.toArray⟩ true _ (wsize HR2.out) nsize (wsize HR0.out) (wsize HR1.out) (by have e := HM2.out; rw [HH.out, HH2.out] at e; exact e)).mono ?_
              rintro e wq31 ⟨rfl, hb⟩
              have i0 := kcell hb z1 e0
              have i1 := kcell hb z1 e1
              have i2 := kcell hb z2 e2
              have i3 := kcell hb z2 e3
              have iz1 : B1 < wq31.heap.size := by have := hb.size; omega
              have iz2 : B2 < wq31.heap.size := by have := hb.size; omega
              have ib := bstep hbW hb
              clear e0 e1 e2 e3 z1 z2 hbW hb
              have e0 := i0
              have e1 := i1
              have e2 := i2
              have e3 := i3
              have z1 := iz1
              have z2 := iz2
              have hbW := ib
              clear i0 i1 i2 i3 iz1 iz2 ib
              go_wp2_with fail
              refine (meet_b ⟨u0.toArray⟩ ⟨u1.toArray⟩ ⟨u0.toArray⟩ ⟨u1.toArray⟩ true _ (wsize HR0.out) (wsize HR1.out) (wsize HR0.out) (wsize HR1.out) (by exact HS.out)).mono ?_
              rintro e wq32 ⟨rfl, hb⟩
              have i0 := kcell hb z1 e0
              have i1 := kcell hb z1 e1
              have i2 := kcell hb z2 e2
              have i3 := kcell hb z2 e3
              have iz1 : B1 < wq32.heap.size := by have := hb.size; omega
              have iz2 : B2 < wq32.heap.size := by have := hb.size; omega
              have ib := bstep hbW hb
              clear e0 e1 e2 e3 z1 z2 hbW hb
              have e0 := i0
              have e1 := i1
              have e2 := i2
              have e3 := i3
              have z1 := iz1
              have z2 := iz2
              have hbW := ib
              clear i0 i1 i2 i3 iz1 iz2 ib
              go_wp2
              go_ret
              exact ⟨by first | rfl | simp, hbW⟩
        | false =>
          have HG1 : Hid (Km.good u0 u1 = false) := Lib.hid (lu.trans hl1)
          clear lu
          have ne1 : ¬ u1 = [] := Km.run_ne HR1.out
          have nf1 : u1.isEmpty = false := by simpa using ne1
          go_wp2_with fail
          refine (good_b ⟨u0.toArray⟩ ⟨u1.toArray⟩ false _ (wsize HR0.out) (wsize HR1.out) (by exact HG1.out)).mono ?_
          rintro e wq33 ⟨rfl, hb⟩
          have i0 := kcell hb z1 e0
          have i1 := kcell hb z1 e1
          have i2 := kcell hb z2 e2
          have i3 := kcell hb z2 e3
          have iz1 : B1 < wq33.heap.size := by have := hb.size; omega
          have iz2 : B2 < wq33.heap.size := by have := hb.size; omega
          have ib := bstep hbW hb
          clear e0 e1 e2 e3 z1 z2 hbW hb
          have e0 := i0
          have e1 := i1
          have e2 := i2
          have e3 := i3
          have z1 := iz1
          have z2 := iz2
          have hbW := ib
          clear i0 i1 i2 i3 iz1 iz2 ib
          go_wp2_with fail
          refine (meet_b ⟨u0.toArray⟩ ⟨u1.toArray⟩ ⟨v0.toArray⟩ ⟨#[]⟩ false _ (wsize HR0.out) (wsize HR1.out) (wsize HR2.out) nsize (Km.meet_no1 HG1.out)).mono ?_
          rintro e wq34 ⟨rfl, hb⟩
          have i0 := kcell hb z1 e0
          have i1 := kcell hb z1 e1
          have i2 := kcell hb z2 e2
          have i3 := kcell hb z2 e3
          have iz1 : B1 < wq34.heap.size := by have := hb.size; omega
          have iz2 : B2 < wq34.heap.size := by have := hb.size; omega
          have ib := bstep hbW hb
          clear e0 e1 e2 e3 z1 z2 hbW hb
          have e0 := i0
          have e1 := i1
          have e2 := i2
          have e3 := i3
          have z1 := iz1
          have z2 := iz2
          have hbW := ib
          clear i0 i1 i2 i3 iz1 iz2 ib
          go_wp2
          go_ret
          exact ⟨by first | rfl | simp, hbW⟩
      · go_wp2_with fail
        have i0 : (wc.setCell ⟨B1, 1, none⟩ (.string ⟨#[]⟩)).cell? ⟨B1, 0, none⟩ = some (.string ⟨u0.toArray⟩) := by go_simp
        have i1 : (wc.setCell ⟨B1, 1, none⟩ (.string ⟨#[]⟩)).cell? ⟨B1, 1, none⟩ = some (.string ⟨#[]⟩) := by go_simp
        have i2 : (wc.setCell ⟨B1, 1, none⟩ (.string ⟨#[]⟩)).cell? ⟨B2, 0, none⟩ = some (.string ⟨v0.toArray⟩) := by go_simp
        have i3 : (wc.setCell ⟨B1, 1, none⟩ (.string ⟨#[]⟩)).cell? ⟨B2, 1, none⟩ = some (.string ⟨v1.toArray⟩) := by go_simp
        have z1 : B1 < (wc.setCell ⟨B1, 1, none⟩ (.string ⟨#[]⟩)).heap.size := by (try simp); omega
        have z2 : B2 < (wc.setCell ⟨B1, 1, none⟩ (.string ⟨#[]⟩)).heap.size := by (try simp); omega
        have ib : Below w.heap.size w (wc.setCell ⟨B1, 1, none⟩ (.string ⟨#[]⟩)) := by exact (hbW.setCell (by show w.heap.size ≤ B1; omega) _)
        clear e0 e1 x2 x3 hbW f1 y3 d4' d5'
        have e0 := i0
        have e1 := i1
        have e2 := i2
        have e3 := i3
        have hbW := ib
        clear i0 i1 i2 i3 ib hBn hBn2 q1' q2' zB2
        generalize (wc.setCell ⟨B1, 1, none⟩ (.string ⟨#[]⟩)) = W at *
        have HG1 : Hid (Km.good u0 [] = true) := Lib.hid (Km.good_open HR0.out)
        go_wp2_with fail
        refine (good_b ⟨u0.toArray⟩ ⟨#[]⟩ true _ (wsize HR0.out) nsize (by exact HG1.out)).mono ?_
        rintro e wq35 ⟨rfl, hb⟩
        have i0 := kcell hb z1 e0
        have i1 := kcell hb z1 e1
        have i2 := kcell hb z2 e2
        have i3 := kcell hb z2 e3
        have iz1 : B1 < wq35.heap.size := by have := hb.size; omega
        have iz2 : B2 < wq35.heap.size := by have := hb.size; omega
        have ib := bstep hbW hb
        clear e0 e1 e2 e3 z1 z2 hbW hb
        have e0 := i0
        have e1 := i1
        have e2 := i2
        have e3 := i3
        have z1 := iz1
        have z2 := iz2
        have hbW := ib
        clear i0 i1 i2 i3 iz1 iz2 ib
        have lv := Km.good_words HR2.out HR3.out
        cases hl2 : Op.bytesLess v0 v1 with
        | true =>
          have HG2 : Hid (Km.good v0 v1 = true) := Lib.hid (lv.trans hl2)
          clear lv hl2
          go_wp2_with fail
          refine (good_b ⟨v0.toArray⟩ ⟨v1.toArray⟩ true _ (wsize HR2.out) (wsize HR3.out) (by exact HG2.out)).mono ?_
          rintro e wq36 ⟨rfl, hb⟩
          have i0 := kcell hb z1 e0
          have i1 := kcell hb z1 e1
          have i2 := kcell hb z2 e2
          have i3 := kcell hb z2 e3
          have iz1 : B1 < wq36.heap.size := by have := hb.size; omega
          have iz2 : B2 < wq36.heap.size := by have := hb.size; omega
          have ib := bstep hbW hb
          clear e0 e1 e2 e3 z1 z2 hbW hb
          have e0 := i0
          have e1 := i1
          have e2 := i2
          have e3 := i3
          have z1 := iz1
          have z2 := iz2
          have hbW := ib
          clear i0 i1 i2 i3 iz1 iz2 ib
          have HM := Lib.hid (Km.meet_yes HG1.out HG2.out)
          have HM2 := Lib.hid (Km.meet_yes HG2.out HG1.out)
          have HS := Lib.hid (Km.meet_self HG1.out)
          cases hh : Km.has u0 [] v0 with
          | true =>
            have HH := Lib.hid hh
            clear hh
            go_wp2_with fail
            refine (khas_b ⟨u0.toArray⟩ ⟨#[]⟩ ⟨v0.toArray⟩ true _ (by exact HH.out)).mono ?_
            rintro e wq37 ⟨rfl, hb⟩
            have i0 := kcell hb z1 e0
            have i1 := kcell hb z1 e1
            have i2 := kcell hb z2 e2
            have i3 := kcell hb z2 e3
            have iz1 : B1 < wq37.heap.size := by have := hb.size; omega
            have iz2 : B2 < wq37.heap.size := by have := hb.size; omega
            have ib := bstep hbW hb
            clear e0 e1 e2 e3 z1 z2 hbW hb
            have e0 := i0
            have e1 := i1
            have e2 := i2
            have e3 := i3
            have z1 := iz1
            have z2 := iz2
            have hbW := ib
            clear i0 i1 i2 i3 iz1 iz2 ib
            go_wp2_with fail
            refine (meet_b ⟨u0.toArray⟩ ⟨#[]⟩ ⟨v0.toArray⟩ ⟨v1.toArray⟩ true _ (wsize HR0.out) nsize (wsize HR2.out) (wsize HR3.out) (by have e := HM.out; rw [HH.out] at e; exact e)).mono ?_
            rintro e wq38 ⟨rfl, hb⟩
            have i0 := kcell hb z1 e0
            have i1 := kcell hb z1 e1
            have i2 := kcell hb z2 e2
            have i3 := kcell hb z2 e3
            have iz1 : B1 < wq38.heap.size := by have := hb.size; omega
            have iz2 : B2 < wq38.heap.size := by have := hb.size; omega
            have ib := bstep hbW hb
            clear e0 e1 e2 e3 z1 z2 hbW hb
            have e0 := i0
            have e1 := i1
            have e2 := i2
            have e3 := i3
            have z1 := iz1
            have z2 := iz2
            have hbW := ib
            clear i0 i1 i2 i3 iz1 iz2 ib
            go_wp2_with fail
            refine (meet_b ⟨v0.toArray⟩ ⟨v1.toArray⟩ ⟨u0.toArray⟩ ⟨#[]⟩ true _ (wsize HR2.out) (wsize HR3.out) (wsize HR0.out) nsize (by have e := HM2.out; rw [HH.out, Bool.or_true] at e; exact e)).mono ?_
            rintro e wq39 ⟨rfl, hb⟩
            have i0 := kcell hb z1 e0
            have i1 := kcell hb z1 e1
            have i2 := kcell hb z2 e2
            have i3 := kcell hb z2 e3
            have iz1 : B1 < wq39.heap.size := by have := hb.size; omega
            have iz2 : B2 < wq39.heap.size := by have := hb.size; omega
            have ib := bstep hbW hb
            clear e0 e1 e2 e3 z1 z2 hbW hb
            have e0 := i0
            have e1 := i1
            have e2 := i2
            have e3 := i3
            have z1 := iz1
            have z2 := iz2
            have hbW := ib
            clear i0 i1 i2 i3 iz1 iz2 ib
            go_wp2_with fail
            refine (meet_b ⟨u0.toArray⟩ ⟨#[]⟩ ⟨u0.toArray⟩ ⟨#[]⟩ true _ (wsize HR0.out) nsize (wsize HR0.out) nsize (by exact HS.out)).mono ?_
            rintro e wq40 ⟨rfl, hb⟩
            have i0 := kcell hb z1 e0
            have i1 := kcell hb z1 e1
            have i2 := kcell hb z2 e2
            have i3 := kcell hb z2 e3
            have iz1 : B1 < wq40.heap.size := by have := hb.size; omega
            have iz2 : B2 < wq40.heap.size := by have := hb.size; omega
            have ib := bstep hbW hb
            clear e0 e1 e2 e3 z1 z2 hbW hb
            have e0 := i0
            have e1 := i1
            have e2 := i2
            have e3 := i3
            have z1 := iz1
            have z2 := iz2
            have hbW := ib
            clear i0 i1 i2 i3 iz1 iz2 ib
            go_wp2
            go_ret
            exact ⟨by first | rfl | simp, hbW⟩
          | false =>
            have HH := Lib.hid hh
            clear hh
            obtain ⟨b, hb2⟩ : ∃ b, Km.has v0 v1 u0 = b := ⟨_, rfl⟩
            have HH2 := Lib.hid hb2
            clear hb2
            go_wp2_with fail
            refine (khas_b ⟨u0.toArray⟩ ⟨#[]⟩ ⟨v0.toArray⟩ false _ (by exact HH.out)).mono ?_
            rintro e wq41 ⟨rfl, hb⟩
            have i0 := kcell hb z1 e0
            have i1 := kcell hb z1 e1
            have i2 := kcell hb z2 e2
            have i3 := kcell hb z2 e3
            have iz1 : B1 < wq41.heap.size := by have := hb.size; omega
            have iz2 : B2 < wq41.heap.size := by have := hb.size; omega
            have ib := bstep hbW hb
            clear e0 e1 e2 e3 z1 z2 hbW hb
            have e0 := i0
            have e1 := i1
            have e2 := i2
            have e3 := i3
            have z1 := iz1
            have z2 := iz2
            have hbW := ib
            clear i0 i1 i2 i3 iz1 iz2 ib
            go_wp2_with fail
            refine (khas_b ⟨v0.toArray⟩ ⟨v1.toArray⟩ ⟨u0.toArray⟩ b _ (by exact HH2.out)).mono ?_
            rintro e wq42 ⟨rfl, hb⟩
            have i0 := kcell hb z1 e0
            have i1 := kcell hb z1 e1
            have i2 := kcell hb z2 e2
            have i3 := kcell hb z2 e3
            have iz1 : B1 < wq42.heap.size := by have := hb.size; omega
            have iz2 : B2 < wq42.heap.size := by have := hb.size; omega
            have ib := bstep hbW hb
            clear e0 e1 e2 e3 z1 z2 hbW hb
            have e0 := i0
            have e1 := i1
            have e2 := i2
            have e3 := i3
            have z1 := iz1
            have z2 := iz2
            have hbW := ib
            clear i0 i1 i2 i3 iz1 iz2 ib
            cases b with
            | false =>
              go_wp2_with fail
              refine (meet_b ⟨u0.toArray⟩ ⟨#[]⟩ ⟨v0.toArray⟩ ⟨v1.toArray⟩ false _ (wsize HR0.out) nsize (wsize HR2.out) (wsize HR3.out) (by have e := HM.out; rw [HH.out, HH2.out] at e; exact e)).mono ?_
              rintro e wq43 ⟨rfl, hb⟩
              have i0 := kcell hb z1 e0
              have i1 := kcell hb z1 e1
              have i2 := kcell hb z2 e2
              have i3 := kcell hb z2 e3
              have iz1 : B1 < wq43.heap.size := by have := hb.size; omega
              have iz2 : B2 < wq43.heap.size := by have := hb.size; omega
              have ib := bstep hbW hb
              clear e0 e1 e2 e3 z1 z2 hbW hb
              have e0 := i0
              have e1 := i1
              have e2 := i2
              have e3 := i3
              have z1 := iz1
              have z2 := iz2
              have hbW := ib
              clear i0 i1 i2 i3 iz1 iz2 ib
              go_wp2_with fail
              refine (meet_b ⟨v0.toArray⟩ ⟨v1.toArray⟩ ⟨u0.toArray⟩ ⟨#[]⟩ false _ (wsize HR2.out) (wsize HR3.out) (wsize HR0.out) nsize (by have e := HM2.out; rw [HH.out, HH2.out] at e; exact e)).mono ?_
              rintro e wq44 ⟨rfl, hb⟩
              have i0 := kcell hb z1 e0
              have i1 := kcell hb z1 e1
              have i2 := kcell hb z2 e2
              have i3 := kcell hb z2 e3
              have iz1 : B1 < wq44.heap.size := by have := hb.size; omega
              have iz2 : B2 < wq44.heap.size := by have := hb.size; omega
              have ib := bstep hbW hb
              clear e0 e1 e2 e3 z1 z2 hbW hb
              have e0 := i0
              have e1 := i1
              have e2 := i2
              have e3 := i3
              have z1 := iz1
              have z2 := iz2
              have hbW := ib
              clear i0 i1 i2 i3 iz1 iz2 ib
              go_wp2_with fail
              refine (meet_b ⟨u0.toArray⟩ ⟨#[]⟩ ⟨u0.toArray⟩ ⟨#[]⟩ true _ (wsize HR0.out) nsize (wsize HR0.out) nsize (by exact HS.out)).mono ?_
              rintro e wq45 ⟨rfl, hb⟩
              have i0 := kcell hb z1 e0
              have i1 := kcell hb z1 e1
              have i2 := kcell hb z2 e2
              have i3 := kcell hb z2 e3
              have iz1 : B1 < wq45.heap.size := by have := hb.size; omega
              have iz2 : B2 < wq45.heap.size := by have := hb.size; omega
              have ib := bstep hbW hb
              clear e0 e1 e2 e3 z1 z2 hbW hb
              have e0 := i0
              have e1 := i1
              have e2 := i2
              have e3 := i3
              have z1 := iz1
              have z2 := iz2
              have hbW := ib
              clear i0 i1 i2 i3 iz1 iz2 ib
              go_wp2
              go_ret
              exact ⟨by first | rfl | simp, hbW⟩
            | true =>
              go_wp2_with fail
              refine (meet_b ⟨u0.toArray⟩ ⟨#[]⟩ ⟨v0.toArray⟩ ⟨v1.toArray⟩ true _ (wsize HR0.out) nsize (wsize HR2.out) (wsize HR3.out) (by have e := HM.out; rw [HH.out, HH2.out] at e; exact e)).mono ?_
              rintro e wq46 ⟨rfl, hb⟩
              have i0 := kcell hb z1 e0
              have i1 := kcell hb z1 e1
              have i2 := kcell hb z2 e2
              have i3 := kcell hb z2 e3
              have iz1 : B1 < wq46.heap.size := by have := hb.size; omega
              have iz2 : B2 < wq46.heap.size := by have := hb.size; omega
              have ib := bstep hbW hb
              clear e0 e1 e2 e3 z1 z2 hbW hb
              have e0 := i0
              have e1 := i1
              have e2 := i2
              have e3 := i3
              have z1 := iz1
              have z2 := iz2
              have hbW := ib
              clear i0 i1 i2 i3 iz1 iz2 ib
              go_wp2_with fail
              refine (meet_b ⟨v0.toArray⟩ ⟨v1.toArray⟩ ⟨u0.toArray⟩ ⟨#[]⟩ true _ (wsize HR2.out) (wsize HR3.out) (wsize HR0.out) nsize (by have e := HM2.out; rw [HH.out, HH2.out] at e; exact e)).mono ?_
              rintro e wq47 ⟨rfl, hb⟩
              have i0 := kcell hb z1 e0
              have i1 := kcell hb z1 e1
              have i2 := kcell hb z2 e2
              have i3 := kcell hb z2 e3
              have iz1 : B1 < wq47.heap.size := by have := hb.size; omega
              have iz2 : B2 < wq47.heap.size := by have := hb.size; omega
              have ib := bstep hbW hb
              clear e0 e1 e2 e3 z1 z2 hbW hb
              have e0 := i0
              have e1 := i1
              have e2 := i2
              have e3 := i3
              have z1 := iz1
              have z2 := iz2
              have hbW := ib
              clear i0 i1 i2 i3 iz1 iz2 ib
              go_wp2_with fail
              refine (meet_b ⟨u0.toArray⟩ ⟨#[]⟩ ⟨u0.toArray⟩ ⟨#[]⟩ true _ (wsize HR0.out) nsize (wsize HR0.out) nsize (by exact HS.out)).mono ?_
              rintro e wq48 ⟨rfl, hb⟩
              have i0 := kcell hb z1 e0
              have i1 := kcell hb z1 e1
              have i2 := kcell hb z2 e2
              have i3 := kcell hb z2 e3
              have iz1 : B1 < wq48.heap.size := by have := hb.size; omega
              have iz2 : B2 < wq48.heap.size := by have := hb.size; omega
              have ib := bstep hbW hb
              clear e0 e1 e2 e3 z1 z2 hbW hb
              have e0 := i0
              have e1 := i1
              have e2 := i2
              have e3 := i3
              have z1 := iz1
              have z2 := iz2
              have hbW := ib
              clear i0 i1 i2 i3 iz1 iz2 ib
              go_wp2
              go_ret
              exact ⟨by first | rfl | simp, hbW⟩
        | false =>
          have HG2 : Hid (Km.good v0 v1 = false) := Lib.hid (lv.trans hl2)
          clear lv
          have ne2 : ¬ v1 = [] := Km.run_ne HR3.out
          have nf2 : v1.isEmpty = false := by simpa using ne2
          go_wp2_with fail
          refine (good_b ⟨v0.toArray⟩ ⟨v1.toArray⟩ false _ (wsize HR2.out) (wsize HR3.out) (by exact HG2.out)).mono ?_
          rintro e wq49 ⟨rfl, hb⟩
          have i0 := kcell hb z1 e0
          have i1 := kcell hb z1 e1
          have i2 := kcell hb z2 e2
          have i3 := kcell hb z2 e3
          have iz1 : B1 < wq49.heap.size := by have := hb.size; omega
          have iz2 : B2 < wq49.heap.size := by have := hb.size; omega
          have ib := bstep hbW hb
          clear e0 e1 e2 e3 z1 z2 hbW hb
          have e0 := i0
          have e1 := i1
          have e2 := i2
          have e3 := i3
          have z1 := iz1
          have z2 := iz2
          have hbW := ib
          clear i0 i1 i2 i3 iz1 iz2 ib
          go_wp2_with fail
          refine (meet_b ⟨u0.toArray⟩ ⟨#[]⟩ ⟨v0.toArray⟩ ⟨v1.toArray⟩ false _ (wsize HR0.out) nsize (wsize HR2.out) (wsize HR3.out) (Km.meet_no2 HG2.out)).mono ?_
          rintro e wq50 ⟨rfl, hb⟩
          have i0 := kcell hb z1 e0
          have i1 := kcell hb z1 e1
          have i2 := kcell hb z2 e2
          have i3 := kcell hb z2 e3
          have iz1 : B1 < wq50.heap.size := by have := hb.size; omega
          have iz2 : B2 < wq50.heap.size := by have := hb.size; omega
          have ib := bstep hbW hb
          clear e0 e1 e2 e3 z1 z2 hbW hb
          have e0 := i0
          have e1 := i1
          have e2 := i2
          have e3 := i3
          have z1 := iz1
          have z2 := iz2
          have hbW := ib
          clear i0 i1 i2 i3 iz1 iz2 ib
          go_wp2
          go_ret
          exact ⟨by first | rfl | simp, hbW⟩
      · go_wp2_with fail
        have i0 : ((wc.setCell ⟨B1, 1, none⟩ (.string ⟨#[]⟩)).setCell ⟨B2, 1, none⟩ (.string ⟨#[]⟩)).cell? ⟨B1, 0, none⟩ = some (.string ⟨u0.toArray⟩) := by go_simp
        have i1 : ((wc.setCell ⟨B1, 1, none⟩ (.string ⟨#[]⟩)).setCell ⟨B2, 1, none⟩ (.string ⟨#[]⟩)).cell? ⟨B1, 1, none⟩ = some (.string ⟨#[]⟩) := by go_simp
        have i2 : ((wc.setCell ⟨B1, 1, none⟩ (.string ⟨#[]⟩)).setCell ⟨B2, 1, none⟩ (.string ⟨#[]⟩)).cell? ⟨B2, 0, none⟩ = some (.string ⟨v0.toArray⟩) := by go_simp
        have i3 : ((wc.setCell ⟨B1, 1, none⟩ (.string ⟨#[]⟩)).setCell ⟨B2, 1, none⟩ (.string ⟨#[]⟩)).cell? ⟨B2, 1, none⟩ = some (.string ⟨#[]⟩) := by go_simp
        have z1 : B1 < ((wc.setCell ⟨B1, 1, none⟩ (.string ⟨#[]⟩)).setCell ⟨B2, 1, none⟩ (.string ⟨#[]⟩)).heap.size := by (try simp); omega
        have z2 : B2 < ((wc.setCell ⟨B1, 1, none⟩ (.string ⟨#[]⟩)).setCell ⟨B2, 1, none⟩ (.string ⟨#[]⟩)).heap.size := by (try simp); omega
        have ib : Below w.heap.size w ((wc.setCell ⟨B1, 1, none⟩ (.string ⟨#[]⟩)).setCell ⟨B2, 1, none⟩ (.string ⟨#[]⟩)) := by exact (hbW.setCell (by show w.heap.size ≤ B1; omega) _).setCell (by show w.heap.size ≤ B2; omega) _
        clear e0 e1 x2 x3 hbW f1 y3 d4' d5'
        have e0 := i0
        have e1 := i1
        have e2 := i2
        have e3 := i3
        have hbW := ib
        clear i0 i1 i2 i3 ib hBn hBn2 q1' q2' zB2
        generalize ((wc.setCell ⟨B1, 1, none⟩ (.string ⟨#[]⟩)).setCell ⟨B2, 1, none⟩ (.string ⟨#[]⟩)) = W at *
        have HG1 : Hid (Km.good u0 [] = true) := Lib.hid (Km.good_open HR0.out)
        go_wp2_with fail
        refine (good_b ⟨u0.toArray⟩ ⟨#[]⟩ true _ (wsize HR0.out) nsize (by exact HG1.out)).mono ?_
        rintro e wq51 ⟨rfl, hb⟩
        have i0 := kcell hb z1 e0
        have i1 := kcell hb z1 e1
        have i2 := kcell hb z2 e2
        have i3 := kcell hb z2 e3
        have iz1 : B1 < wq51.heap.size := by have := hb.size; omega
        have iz2 : B2 < wq51.heap.size := by have := hb.size; omega
        have ib := bstep hbW hb
        clear e0 e1 e2 e3 z1 z2 hbW hb
        have e0 := i0
        have e1 := i1
        have e2 := i2
        have e3 := i3
        have z1 := iz1
        have z2 := iz2
        have hbW := ib
        clear i0 i1 i2 i3 iz1 iz2 ib
        have HG2 : Hid (Km.good v0 [] = true) := Lib.hid (Km.good_open HR2.out)
        go_wp2_with fail
        refine (good_b ⟨v0.toArray⟩ ⟨#[]⟩ true _ (wsize HR2.out) nsize (by exact HG2.out)).mono ?_
        rintro e wq52 ⟨rfl, hb⟩
        have i0 := kcell hb z1 e0
        have i1 := kcell hb z1 e1
        have i2 := kcell hb z2 e2
        have i3 := kcell hb z2 e3
        have iz1 : B1 < wq52.heap.size := by have := hb.size; omega
        have iz2 : B2 < wq52.heap.size := by have := hb.size; omega
        have ib := bstep hbW hb
        clear e0 e1 e2 e3 z1 z2 hbW hb
        have e0 := i0
        have e1 := i1
        have e2 := i2
        have e3 := i3
        have z1 := iz1
        have z2 := iz2
        have hbW := ib
        clear i0 i1 i2 i3 iz1 iz2 ib
        have HM := Lib.hid (Km.meet_yes HG1.out HG2.out)
        have HM2 := Lib.hid (Km.meet_yes HG2.out HG1.out)
        have HS := Lib.hid (Km.meet_self HG1.out)
        cases hh : Km.has u0 [] v0 with
        | true =>
          have HH := Lib.hid hh
          clear hh
          go_wp2_with fail
          refine (khas_b ⟨u0.toArray⟩ ⟨#[]⟩ ⟨v0.toArray⟩ true _ (by exact HH.out)).mono ?_
          rintro e wq53 ⟨rfl, hb⟩
          have i0 := kcell hb z1 e0
          have i1 := kcell hb z1 e1
          have i2 := kcell hb z2 e2
          have i3 := kcell hb z2 e3
          have iz1 : B1 < wq53.heap.size := by have := hb.size; omega
          have iz2 : B2 < wq53.heap.size := by have := hb.size; omega
          have ib := bstep hbW hb
          clear e0 e1 e2 e3 z1 z2 hbW hb
          have e0 := i0
          have e1 := i1
          have e2 := i2
          have e3 := i3
          have z1 := iz1
          have z2 := iz2
          have hbW := ib
          clear i0 i1 i2 i3 iz1 iz2 ib
          go_wp2_with fail
          refine (meet_b ⟨u0.toArray⟩ ⟨#[]⟩ ⟨v0.toArray⟩ ⟨#[]⟩ true _ (wsize HR0.out) nsize (wsize HR2.out) nsize (by have e := HM.out; rw [HH.out] at e; exact e)).mono ?_
          rintro e wq54 ⟨rfl, hb⟩
          have i0 := kcell hb z1 e0
          have i1 := kcell hb z1 e1
          have i2 := kcell hb z2 e2
          have i3 := kcell hb z2 e3
          have iz1 : B1 < wq54.heap.size := by have := hb.size; omega
          have iz2 : B2 < wq54.heap.size := by have := hb.size; omega
          have ib := bstep hbW hb
          clear e0 e1 e2 e3 z1 z2 hbW hb
          have e0 := i0
          have e1 := i1
          have e2 := i2
          have e3 := i3
          have z1 := iz1
          have z2 := iz2
          have hbW := ib
          clear i0 i1 i2 i3 iz1 iz2 ib
          go_wp2_with fail
          refine (meet_b ⟨v0.toArray⟩ ⟨#[]⟩ ⟨u0.toArray⟩ ⟨#[]⟩ true _ (wsize HR2.out) nsize (wsize HR0.out) nsize (by have e := HM2.out; rw [HH.out, Bool.or_true] at e; exact e)).mono ?_
          rintro e wq55 ⟨rfl, hb⟩
          have i0 := kcell hb z1 e0
          have i1 := kcell hb z1 e1
          have i2 := kcell hb z2 e2
          have i3 := kcell hb z2 e3
          have iz1 : B1 < wq55.heap.size := by have := hb.size; omega
          have iz2 : B2 < wq55.heap.size := by have := hb.size; omega
          have ib := bstep hbW hb
          clear e0 e1 e2 e3 z1 z2 hbW hb
          have e0 := i0
          have e1 := i1
          have e2 := i2
          have e3 := i3
          have z1 := iz1
          have z2 := iz2
          have hbW := ib
          clear i0 i1 i2 i3 iz1 iz2 ib
          go_wp2_with fail
          refine (meet_b ⟨u0.toArray⟩ ⟨#[]⟩ ⟨u0.toArray⟩ ⟨#[]⟩ true _ (wsize HR0.out) nsize (wsize HR0.out) nsize (by exact HS.out)).mono ?_
          rintro e wq56 ⟨rfl, hb⟩
          have i0 := kcell hb z1 e0
          have i1 := kcell hb z1 e1
          have i2 := kcell hb z2 e2
          have i3 := kcell hb z2 e3
          have iz1 : B1 < wq56.heap.size := by have := hb.size; omega
          have iz2 : B2 < wq56.heap.size := by have := hb.size; omega
          have ib := bstep hbW hb
          clear e0 e1 e2 e3 z1 z2 hbW hb
          have e0 := i0
          have e1 := i1
          have e2 := i2
          have e3 := i3
          have z1 := iz1
          have z2 := iz2
          have hbW := ib
          clear i0 i1 i2 i3 iz1 iz2 ib
          go_wp2
          go_ret
          exact ⟨by first | rfl | simp, hbW⟩
        | false =>
          have HH := Lib.hid hh
          clear hh
          obtain ⟨b, hb2⟩ : ∃ b, Km.has v0 [] u0 = b := ⟨_, rfl⟩
          have HH2 := Lib.hid hb2
          clear hb2
          go_wp2_with fail
          refine (khas_b ⟨u0.toArray⟩ ⟨#[]⟩ ⟨v0.toArray⟩ false _ (by exact HH.out)).mono ?_
          rintro e wq57 ⟨rfl, hb⟩
          have i0 := kcell hb z1 e0
          have i1 := kcell hb z1 e1
          have i2 := kcell hb z2 e2
          have i3 := kcell hb z2 e3
          have iz1 : B1 < wq57.heap.size := by have := hb.size; omega
          have iz2 : B2 < wq57.heap.size := by have := hb.size; omega
          have ib := bstep hbW hb
          clear e0 e1 e2 e3 z1 z2 hbW hb
          have e0 := i0
          have e1 := i1
          have e2 := i2
          have e3 := i3
          have z1 := iz1
          have z2 := iz2
          have hbW := ib
          clear i0 i1 i2 i3 iz1 iz2 ib
          go_wp2_with fail
          refine (khas_b ⟨v0.toArray⟩ ⟨#[]⟩ ⟨u0.toArray⟩ b _ (by exact HH2.out)).mono ?_
          rintro e wq58 ⟨rfl, hb⟩
          have i0 := kcell hb z1 e0
          have i1 := kcell hb z1 e1
          have i2 := kcell hb z2 e2
          have i3 := kcell hb z2 e3
          have iz1 : B1 < wq58.heap.size := by have := hb.size; omega
          have iz2 : B2 < wq58.heap.size := by have := hb.size; omega
          have ib := bstep hbW hb
          clear e0 e1 e2 e3 z1 z2 hbW hb
          have e0 := i0
          have e1 := i1
          have e2 := i2
          have e3 := i3
          have z1 := iz1
          have z2 := iz2
          have hbW := ib
          clear i0 i1 i2 i3 iz1 iz2 ib
          cases b with
          | false =>
            go_wp2_with fail
            refine (meet_b ⟨u0.toArray⟩ ⟨#[]⟩ ⟨v0.toArray⟩ ⟨#[]⟩ false _ (wsize HR0.out) nsize (wsize HR2.out) nsize (by have e := HM.out; rw [HH.out, HH2.out] at e; exact e)).mono ?_
            rintro e wq59 ⟨rfl, hb⟩
            have i0 := kcell hb z1 e0
            have i1 := kcell hb z1 e1
            have i2 := kcell hb z2 e2
            have i3 := kcell hb z2 e3
            have iz1 : B1 < wq59.heap.size := by have := hb.size; omega
            have iz2 : B2 < wq59.heap.size := by have := hb.size; omega
            have ib := bstep hbW hb
            clear e0 e1 e2 e3 z1 z2 hbW hb
            have e0 := i0
            have e1 := i1
            have e2 := i2
            have e3 := i3
            have z1 := iz1
            have z2 := iz2
            have hbW := ib
            clear i0 i1 i2 i3 iz1 iz2 ib
            go_wp2_with fail
            refine (meet_b ⟨v0.toArray⟩ ⟨#[]⟩ ⟨u0.toArray⟩ ⟨#[]⟩ false _ (wsize HR2.out) nsize (wsize HR0.out) nsize (by have e := HM2.out; rw [HH.out, HH2.out] at e; exact e)).mono ?_
            rintro e wq60 ⟨rfl, hb⟩
            have i0 := kcell hb z1 e0
            have i1 := kcell hb z1 e1
            have i2 := kcell hb z2 e2
            have i3 := kcell hb z2 e3
            have iz1 : B1 < wq60.heap.size := by have := hb.size; omega
            have iz2 : B2 < wq60.heap.size := by have := hb.size; omega
            have ib := bstep hbW hb
            clear e0 e1 e2 e3 z1 z2 hbW hb
            have e0 := i0
            have e1 := i1
            have e2 := i2
            have e3 := i3
            have z1 := iz1
            have z2 := iz2
            have hbW := ib
            clear i0 i1 i2 i3 iz1 iz2 ib
            go_wp2_with fail
            refine (meet_b ⟨u0.toArray⟩ ⟨#[]⟩ ⟨u0.toArray⟩ ⟨#[]⟩ true _ (wsize HR0.out) nsize (wsize HR0.out) nsize (by exact HS.out)).mono ?_
            rintro e wq61 ⟨rfl, hb⟩
            have i0 := kcell hb z1 e0
            have i1 := kcell hb z1 e1
            have i2 := kcell hb z2 e2
            have i3 := kcell hb z2 e3
            have iz1 : B1 < wq61.heap.size := by have := hb.size; omega
            have iz2 : B2 < wq61.heap.size := by have := hb.size; omega
            have ib := bstep hbW hb
            clear e0 e1 e2 e3 z1 z2 hbW hb
            have e0 := i0
            have e1 := i1
            have e2 := i2
            have e3 := i3
            have z1 := iz1
            have z2 := iz2
            have hbW := ib
            clear i0 i1 i2 i3 iz1 iz2 ib
            go_wp2
            go_ret
            exact ⟨by first | rfl | simp, hbW⟩
          | true =>
            go_wp2_with fail
            refine (meet_b ⟨u0.toArray⟩ ⟨#[]⟩ ⟨v0.toArray⟩ ⟨#[]⟩ true _ (wsize HR0.out) nsize (wsize HR2.out) nsize (by have e := HM.out; rw [HH.out, HH2.out] at e; exact e)).mono ?_
            rintro e wq62 ⟨rfl, hb⟩
            have i0 := kcell hb z1 e0
            have i1 := kcell hb z1 e1
            have i2 := kcell hb z2 e2
            have i3 := kcell hb z2 e3
            have iz1 : B1 < wq62.heap.size := by have := hb.size; omega
            have iz2 : B2 < wq62.heap.size := by have := hb.size; omega
            have ib := bstep hbW hb
            clear e0 e1 e2 e3 z1 z2 hbW hb
            have e0 := i0
            have e1 := i1
            have e2 := i2
            have e3 := i3
            have z1 := iz1
            have z2 := iz2
            have hbW := ib
            clear i0 i1 i2 i3 iz1 iz2 ib
            go_wp2_with fail
            refine (meet_b ⟨v0.toArray⟩ ⟨#[]⟩ ⟨u0.toArray⟩ ⟨#[]⟩ true _ (wsize HR2.out) nsize (wsize HR0.out) nsize (by have e := HM2.out; rw [HH.out, HH2.out] at e; exact e)).mono ?_
            rintro e wq63 ⟨rfl, hb⟩
            have i0 := kcell hb z1 e0
            have i1 := kcell hb z1 e1
            have i2 := kcell hb z2 e2
            have i3 := kcell hb z2 e3
            have iz1 : B1 < wq63.heap.size := by have := hb.size; omega
            have iz2 : B2 < wq63.heap.size := by have := hb.size; omega
            have ib := bstep hbW hb
            clear e0 e1 e2 e3 z1 z2 hbW hb
            have e0 := i0
            have e1 := i1
            have e2 := i2
            have e3 := i3
            have z1 := iz1
            have z2 := iz2
            have hbW := ib
            clear i0 i1 i2 i3 iz1 iz2 ib
            go_wp2_with fail
            refine (meet_b ⟨u0.toArray⟩ ⟨#[]⟩ ⟨u0.toArray⟩ ⟨#[]⟩ true _ (wsize HR0.out) nsize (wsize HR0.out) nsize (by exact HS.out)).mono ?_
            rintro e wq64 ⟨rfl, hb⟩
            have i0 := kcell hb z1 e0
            have i1 := kcell hb z1 e1
            have i2 := kcell hb z2 e2
            have i3 := kcell hb z2 e3
            have iz1 : B1 < wq64.heap.size := by have := hb.size; omega
            have iz2 : B2 < wq64.heap.size := by have := hb.size; omega
            have ib := bstep hbW hb
            clear e0 e1 e2 e3 z1 z2 hbW hb
            have e0 := i0
            have e1 := i1
            have e2 := i2
            have e3 := i3
            have z1 := iz1
            have z2 := iz2
            have hbW := ib
            clear i0 i1 i2 i3 iz1 iz2 ib
            go_wp2
            go_ret
            exact ⟨by first | rfl | simp, hbW⟩
end Go.Proofs.Ytmmgicdnbedmdaa
