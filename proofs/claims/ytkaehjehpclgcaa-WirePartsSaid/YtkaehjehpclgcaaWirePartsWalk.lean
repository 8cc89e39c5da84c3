/- WireParts, walked: versions that differ in some part have other bytes. -/
import Derived.Test.YtkaehjehpclgcaaGW20
namespace Go.Proofs.Ytkaehjehpclgcaa
open Go.RowKit
set_option linter.unusedVariables false
set_option linter.unusedSimpArgs false

/-- The first one with the second one's value, or with its stamp. -/
def mixV (a b : Wv) : Wv := ⟨a.key, b.val, b.gone, a.st, a.past⟩
def mixS (a b : Wv) : Wv := ⟨a.key, a.val, a.gone, b.st, a.past⟩
theorem okW_mixV {a b : Wv} (h : okW a = true) (k : okW b = true) : okW (mixV a b) = true := by
  unfold okW mixV at *
  simp only [Bool.and_eq_true] at *
  exact ⟨⟨⟨k.1.1.1, h.1.1.2⟩, h.1.2⟩, h.2⟩
theorem okW_mixS {a b : Wv} (h : okW a = true) (k : okW b = true) : okW (mixS a b) = true := by
  unfold okW mixS at *
  simp only [Bool.and_eq_true] at *
  exact ⟨⟨⟨h.1.1.1, h.1.1.2⟩, k.1.2⟩, h.2⟩
theorem bytes_dec {a b : Wv} (h : okW a = true) (k : okW b = true) {A B : ByteArray} (hA : A = ⟨(wbV a).toArray⟩) (hB : B = ⟨(wbV b).toArray⟩) : (A = B) ↔ a = b := by
  constructor
  · intro e
    refine wbV_inj h k ?_
    have := congrArg (fun x : ByteArray => x.data.toList) e
    rw [hA, hB] at this
    exact this
  · rintro rfl
    rw [hA, hB]
theorem mixV_eq (a b : Wv) : mixV a b = a ↔ (a.val = b.val ∧ a.gone = b.gone) := by
  obtain ⟨k, v, g, s, p⟩ := a
  obtain ⟨k', v', g', s', p'⟩ := b
  simp [mixV, eq_comm]
theorem mixS_eq (a b : Wv) : mixS a b = a ↔ a.st = b.st := by
  obtain ⟨k, v, g, s, p⟩ := a
  obtain ⟨k', v', g', s', p'⟩ := b
  simp [mixS, eq_comm]
theorem wbeq_dec (l m : List UInt8) : (l == m) = decide (l = m) := by rw [Bool.eq_iff_iff, beq_iff_eq, decide_eq_true_eq]
/-- A text held against another one, as the walk writes it. -/
theorem list_eq (A B : ByteArray) : (A.toList = B.toList) ↔ A = B := by
  constructor
  · intro h
    exact ba_inj (by rw [← Lib.toList_data, ← Lib.toList_data]; exact h)
  · rintro rfl; rfl

theorem keep24 {w w' : World} {b b' c d : Nat} {x0 x1 x2 x3 x4 x5 y0 y1 y2 y3 y4 y5 z0 z1 z2 z3 z4 z5 t0 t1 t2 t3 t4 t5 : Value} (hb : Below w.heap.size w w') (h : (w.cell? ⟨b, 0, none⟩ = some x0 ∧ w.cell? ⟨b, 1, none⟩ = some x1 ∧ w.cell? ⟨b, 2, none⟩ = some x2 ∧ w.cell? ⟨b, 3, none⟩ = some x3 ∧ w.cell? ⟨b, 4, none⟩ = some x4 ∧ w.cell? ⟨b, 5, none⟩ = some x5) ∧ (w.cell? ⟨b', 0, none⟩ = some y0 ∧ w.cell? ⟨b', 1, none⟩ = some y1 ∧ w.cell? ⟨b', 2, none⟩ = some y2 ∧ w.cell? ⟨b', 3, none⟩ = some y3 ∧ w.cell? ⟨b', 4, none⟩ = some y4 ∧ w.cell? ⟨b', 5, none⟩ = some y5) ∧ (w.cell? ⟨c, 0, none⟩ = some z0 ∧ w.cell? ⟨c, 1, none⟩ = some z1 ∧ w.cell? ⟨c, 2, none⟩ = some z2 ∧ w.cell? ⟨c, 3, none⟩ = some z3 ∧ w.cell? ⟨c, 4, none⟩ = some z4 ∧ w.cell? ⟨c, 5, none⟩ = some z5) ∧ (w.cell? ⟨d, 0, none⟩ = some t0 ∧ w.cell? ⟨d, 1, none⟩ = some t1 ∧ w.cell? ⟨d, 2, none⟩ = some t2 ∧ w.cell? ⟨d, 3, none⟩ = some t3 ∧ w.cell? ⟨d, 4, none⟩ = some t4 ∧ w.cell? ⟨d, 5, none⟩ = some t5)) : (w'.cell? ⟨b, 0, none⟩ = some x0 ∧ w'.cell? ⟨b, 1, none⟩ = some x1 ∧ w'.cell? ⟨b, 2, none⟩ = some x2 ∧ w'.cell? ⟨b, 3, none⟩ = some x3 ∧ w'.cell? ⟨b, 4, none⟩ = some x4 ∧ w'.cell? ⟨b, 5, none⟩ = some x5) ∧ (w'.cell? ⟨b', 0, none⟩ = some y0 ∧ w'.cell? ⟨b', 1, none⟩ = some y1 ∧ w'.cell? ⟨b', 2, none⟩ = some y2 ∧ w'.cell? ⟨b', 3, none⟩ = some y3 ∧ w'.cell? ⟨b', 4, none⟩ = some y4 ∧ w'.cell? ⟨b', 5, none⟩ = some y5) ∧ (w'.cell? ⟨c, 0, none⟩ = some z0 ∧ w'.cell? ⟨c, 1, none⟩ = some z1 ∧ w'.cell? ⟨c, 2, none⟩ = some z2 ∧ w'.cell? ⟨c, 3, none⟩ = some z3 ∧ w'.cell? ⟨c, 4, none⟩ = some z4 ∧ w'.cell? ⟨c, 5, none⟩ = some z5) ∧ (w'.cell? ⟨d, 0, none⟩ = some t0 ∧ w'.cell? ⟨d, 1, none⟩ = some t1 ∧ w'.cell? ⟨d, 2, none⟩ = some t2 ∧ w'.cell? ⟨d, 3, none⟩ = some t3 ∧ w'.cell? ⟨d, 4, none⟩ = some t4 ∧ w'.cell? ⟨d, 5, none⟩ = some t5) :=
  ⟨⟨kc hb h.1.1, kc hb h.1.2.1, kc hb h.1.2.2.1, kc hb h.1.2.2.2.1, kc hb h.1.2.2.2.2.1, kc hb h.1.2.2.2.2.2⟩, ⟨kc hb h.2.1.1, kc hb h.2.1.2.1, kc hb h.2.1.2.2.1, kc hb h.2.1.2.2.2.1, kc hb h.2.1.2.2.2.2.1, kc hb h.2.1.2.2.2.2.2⟩, ⟨kc hb h.2.2.1.1, kc hb h.2.2.1.2.1, kc hb h.2.2.1.2.2.1, kc hb h.2.2.1.2.2.2.1, kc hb h.2.2.1.2.2.2.2.1, kc hb h.2.2.1.2.2.2.2.2⟩, ⟨kc hb h.2.2.2.1, kc hb h.2.2.2.2.1, kc hb h.2.2.2.2.2.1, kc hb h.2.2.2.2.2.2.1, kc hb h.2.2.2.2.2.2.2.1, kc hb h.2.2.2.2.2.2.2.2⟩⟩

set_option maxRecDepth 100000 in
set_option maxHeartbeats 12800000 in
theorem walkWireParts (w : World) (v1 : Wv) (u1 : Value) (hk1 : v1.key.size ≤ 9223372036854775807) (hv1 : v1.val.size ≤ 9223372036854775807) (hz1 : Szd v1.past) (hd1 : DepAt w u1 v1.past) (v2 : Wv) (u2 : Value) (hk2 : v2.key.size ≤ 9223372036854775807) (hv2 : v2.val.size ≤ 9223372036854775807) (hz2 : Szd v2.past) (hd2 : DepAt w u2 v2.past) :
    Calls Try.prog 8 #[.agg (wvs v1 u1), .agg (wvs v2 u2)] w fun e w' => e = .returned (.bool true) ∧ Below w.heap.size w w' := by
  have hi1 : WvIn w v1 u1 := ⟨hk1, hv1, hz1, hd1⟩
  have hi2 : WvIn w v2 u2 := ⟨hk2, hv2, hz2, hd2⟩
  have hb1 : Below w.heap.size w (w.alloc (.cells (wvs v1 u1) 26)) := balloc (Below.refl _ w) _
  have hA := VwP.new w v1 u1 26
  have hb2 := balloc (Below.refl _ (w.alloc (.cells (wvs v1 u1) 26))) (.cells (wvs v2 u2) 26)
  have hB := VwP.new (w.alloc (.cells (wvs v1 u1) 26)) v2 u2 26
  rw [World.size_alloc] at hB
  have hA2 := hA.keep hb2
  have hbw := bstep hb1 hb2
  have hsz : ((w.alloc (.cells (wvs v1 u1) 26)).alloc (.cells (wvs v2 u2) 26)).heap.size = w.heap.size + 1 + 1 := by simp
  have hf1 := fun W (h : WvIn W v1 u1) => wfew_any v1 u1 W h.key h.val h.szd h.at_
  have hf2 := fun W (h : WvIn W v2 u2) => wfew_any v2 u2 W h.key h.val h.szd h.at_
  have hok1 : ∀ W u, DepAt W u (fewW v1).past → WvOk W (fewW v1) u := fun W u h => fewW_ok h
  have hok2 : ∀ W u, DepAt W u (fewW v2).past → WvOk W (fewW v2) u := fun W u h => fewW_ok h
  generalize fewW v1 = f1 at hf1 hok1
  generalize fewW v2 = f2 at hf2 hok2
  have HOK1 := Lib.hid hok1
  have HOK2 := Lib.hid hok2
  have HI1 := Lib.hid hi1
  have HI2 := Lib.hid hi2
  have hp1 := hd1
  have hp2 := hd2
  obtain ⟨pa1, pc1, hu1, _⟩ := hp1
  obtain ⟨pa2, pc2, hu2, _⟩ := hp2
  clear hb1 hb2 hA hok1 hok2 hi1 hi2 hk1 hv1 hz1 hd1 hk2 hv2 hz2 hd2
  subst hu1 hu2
  dsimp only [wvs] at *
  go_enter Try.func8, Try.ntmps8
  go_upto_region 1 with fail
  generalize (w.alloc (.cells #[.string v1.key, .string v1.val, .bool v1.gone, .int .i64 v1.st.1, .int .i64 v1.st.2, (.slice pa1 v1.past.length pc1)] 26)).alloc (.cells #[.string v2.key, .string v2.val, .bool v2.gone, .int .i64 v2.st.1, .int .i64 v2.st.2, (.slice pa2 v2.past.length pc2)] 26) = w2 at *
  have HA := Lib.hid hA2
  have HB := Lib.hid hB
  have HBW := Lib.hid hbw
  have HSZ := Lib.hid hsz
  clear hA2 hB hbw hsz
  go_wp2_with fail
  refine (wawake_any _).mono ?_
  rintro e w3 ⟨rfl, hb3⟩
  have hA3 := HA.out.keep hb3
  have HB3 := Lib.hid (HB.out.keep hb3)
  have HBW3 := Lib.hid (bstep HBW.out hb3)
  have HSZ3 : Hid (w.heap.size + 1 < w3.heap.size) := Lib.hid (by have := hb3.size; have := HSZ.out; omega)
  have HA3 := Lib.hid hA3
  obtain ⟨x0, x1, x2, x3, x4, x5, _⟩ := hA3
  clear HA HB HBW HSZ hb3
  go_wp2_with fail
  refine (hf1 _ (HI1.out.below HBW3.out)).mono ?_
  rintro e w4 ⟨u1', rfl, hd4, hn4, hb4⟩
  have hA4 := HA3.out.keep hb4
  have hB4 := HB3.out.keep hb4
  have hsz4 : w3.heap.size ≤ w4.heap.size := hb4.size
  have HA5 := Lib.hid (hA4.putw f1 u1')
  have HB5 := Lib.hid (hB4.otherw (b' := w.heap.size) (x := f1) (z := u1') (by omega))
  have HD5 := Lib.hid (hd4.putw (b := w.heap.size) (x := f1) (z := u1') (fun g e => by have := hn4 g e; have := HSZ3.out; omega))
  have HN5 : Hid (∀ g, u1'.ownBlock = some g → w3.heap.size ≤ g) := Lib.hid hn4
  have hbw4 := bstep HBW3.out hb4
  have HBW5 := Lib.hid (below_putw hbw4 (Nat.le_refl _) f1 u1')
  have HI25 := Lib.hid (HI2.out.putw_low (HI2.out.below hbw4) (b := w.heap.size) (x := f1) (z := u1') (Nat.le_refl _))
  have HSZ5 : Hid (w.heap.size + 1 < w4.heap.size) := Lib.hid (by have := HSZ3.out; omega)
  have hs5 : (World.putw w4 w.heap.size f1 u1').heap.size = w4.heap.size := by simp [World.putw]
  have HS5 := Lib.hid hs5
  obtain ⟨pa1', pc1', hu1', _⟩ := id hd4
  clear x0 x1 x2 x3 x4 x5
  obtain ⟨x0, x1, x2, x3, x4, x5, _⟩ := id hA4
  have q0 := hA4.f 0 (by decide)
  have q1 := hA4.f 1 (by decide)
  have q2 := hA4.f 2 (by decide)
  have q3 := hA4.f 3 (by decide)
  have q4 := hA4.f 4 (by decide)
  have q5 := hA4.f 5 (by decide)
  obtain ⟨y0, y1, y2, y3, y4, y5, _⟩ := HB5.out
  clear hA4 hB4 hd4 hn4 hb4 hbw4 hs5 hsz4 HA3 HB3 HBW3 hf1
  subst hu1'
  dsimp only [World.putw] at y0 y1 y2 y3 y4 y5
  go_wp2_with fail
  dsimp only [World.putw] at HA5 HB5 HD5 HBW5 HI25 HS5
  generalize ((((((w4.setCell ⟨w.heap.size, 0, none⟩ (.string f1.key)).setCell ⟨w.heap.size, 1, none⟩ (.string f1.val)).setCell ⟨w.heap.size, 2, none⟩ (.bool f1.gone)).setCell ⟨w.heap.size, 3, none⟩ (.int .i64 f1.st.1)).setCell ⟨w.heap.size, 4, none⟩ (.int .i64 f1.st.2)).setCell ⟨w.heap.size, 5, none⟩ (.slice pa1' f1.past.length pc1')) = w5 at *
  refine (hf2 _ HI25.out).mono ?_
  rintro e w6 ⟨u2', rfl, hd6, hn6, hb6⟩
  have hA6 := HA5.out.keep hb6
  have hB6 := HB5.out.keep hb6
  have HA7 := Lib.hid (hA6.otherw (b' := w.heap.size + 1) (x := f2) (z := u2') (by omega))
  have HB7 := Lib.hid (hB6.putw f2 u2')
  have HO1 := Lib.hid (HOK1.out _ _ ((HD5.out.below hb6).putw (b := w.heap.size + 1) (x := f2) (z := u2') (fun g e => by have := HN5.out g e; have := HSZ3.out; omega)))
  have HO2 := Lib.hid (HOK2.out _ _ (hd6.putw (b := w.heap.size + 1) (x := f2) (z := u2') (fun g e => by have := hn6 g e; have := HS5.out; have := HSZ5.out; omega)))
  have HBW7 := Lib.hid (below_putw (bstep HBW5.out hb6) (show w.heap.size ≤ w.heap.size + 1 by omega) f2 u2')
  obtain ⟨pa2', pc2', hu2', _⟩ := id hd6
  clear x0 x1 x2 x3 x4 x5 y0 y1 y2 y3 y4 y5 q0 q1 q2 q3 q4 q5
  obtain ⟨y0, y1, y2, y3, y4, y5, _⟩ := id hB6
  have q0 := hB6.f 0 (by decide)
  have q1 := hB6.f 1 (by decide)
  have q2 := hB6.f 2 (by decide)
  have q3 := hB6.f 3 (by decide)
  have q4 := hB6.f 4 (by decide)
  have q5 := hB6.f 5 (by decide)
  obtain ⟨x0, x1, x2, x3, x4, x5, _⟩ := HA7.out
  clear hA6 hB6 hd6 hn6 hb6 HA5 HB5 HD5 HBW5 HI25 hf2 HN5 HSZ5 HS5
  subst hu2'
  dsimp only [World.putw] at x0 x1 x2 x3 x4 x5
  go_upto_region 4 with fail
  dsimp only [World.putw] at HA7 HB7 HO1 HO2 HBW7
  generalize ((((((w6.setCell ⟨(w.heap.size + 1), 0, none⟩ (.string f2.key)).setCell ⟨(w.heap.size + 1), 1, none⟩ (.string f2.val)).setCell ⟨(w.heap.size + 1), 2, none⟩ (.bool f2.gone)).setCell ⟨(w.heap.size + 1), 3, none⟩ (.int .i64 f2.st.1)).setCell ⟨(w.heap.size + 1), 4, none⟩ (.int .i64 f2.st.2)).setCell ⟨(w.heap.size + 1), 5, none⟩ (.slice pa2' f2.past.length pc2')) = w7 at *
  clear x0 x1 x2 x3 x4 x5 y0 y1 y2 y3 y4 y5 q0 q1 q2 q3 q4 q5
  have hc1 := fun W (h : Below w7.heap.size w7 W) => wcheck_any f1 (.slice pa1' f1.past.length pc1') W (HO1.out.below h)
  have hc2 := fun W (h : Below w7.heap.size w7 W) => wcheck_any f2 (.slice pa2' f2.past.length pc2') W (HO2.out.below h)
  have hc3 := fun W (h : Below w7.heap.size w7 W) => wsame_any f1 f2 (.slice pa1' f1.past.length pc1') (.slice pa2' f2.past.length pc2') W (HO1.out.below h) (HO2.out.below h)
  obtain ⟨x0, x1, x2, x3, x4, x5, _⟩ := HA7.out
  obtain ⟨y0, y1, y2, y3, y4, y5, _⟩ := HB7.out
  cases hk1 : okW f1 with
  | false =>
    rw [hk1] at hc1
    clear hk1
    go_wp2_with fail
    refine (hc1 _ (Below.refl _ _)).mono ?_
    rintro e w8 ⟨rfl, hb8⟩
    go_wp2
    go_ret
    exact ⟨rfl, bstep HBW7.out hb8⟩
  | true =>
    rw [hk1] at hc1
    go_wp2_with fail
    refine (hc1 _ (Below.refl _ _)).mono ?_
    rintro e w8 ⟨rfl, hb8⟩
    have HA8 := Lib.hid (HA7.out.keep hb8)
    have HB8 := Lib.hid (HB7.out.keep hb8)
    have z8 := bstep (Below.refl w7.heap.size w7) hb8
    clear x0 x1 x2 x3 x4 x5 y0 y1 y2 y3 y4 y5 hb8 HA7 HB7
    obtain ⟨x0, x1, x2, x3, x4, x5, _⟩ := HA8.out
    obtain ⟨y0, y1, y2, y3, y4, y5, _⟩ := HB8.out
    cases hk2 : okW f2 with
    | false =>
      rw [hk2] at hc2
      clear hk1 hk2
      go_wp2_with fail
      refine (hc2 _ z8).mono ?_
      rintro e w9 ⟨rfl, hb9⟩
      go_wp2
      go_ret
      exact ⟨rfl, bstep HBW7.out (bstep z8 hb9)⟩
    | true =>
      rw [hk2] at hc2
      have HK1 := Lib.hid hk1
      have HK2 := Lib.hid hk2
      clear hk1 hk2
      go_wp2_with fail
      refine (hc2 _ z8).mono ?_
      rintro e w9 ⟨rfl, hb9⟩
      have HA9 := Lib.hid (HA8.out.keep hb9)
      have HB9 := Lib.hid (HB8.out.keep hb9)
      have z9 := bstep z8 hb9
      clear x0 x1 x2 x3 x4 x5 y0 y1 y2 y3 y4 y5 hb9 HA8 HB8 z8
      obtain ⟨x0, x1, x2, x3, x4, x5, _⟩ := HA9.out
      obtain ⟨y0, y1, y2, y3, y4, y5, _⟩ := HB9.out
      go_wp2_with fail
      refine (hc3 _ z9).mono ?_
      rintro e wa ⟨rfl, hba⟩
      have HAa := Lib.hid (HA9.out.keep hba)
      have HBa := Lib.hid (HB9.out.keep hba)
      have za := bstep z9 hba
      clear x0 x1 x2 x3 x4 x5 y0 y1 y2 y3 y4 y5 hba HA9 HB9 z9
      obtain ⟨x0, x1, x2, x3, x4, x5, _⟩ := HAa.out
      obtain ⟨y0, y1, y2, y3, y4, y5, _⟩ := HBa.out
      go_upto_region 8 with fail
      have hX := VwP.new wa f1 (.slice pa1' f1.past.length pc1') 26
      have hbn := balloc (Below.refl _ wa) (.cells #[.string f1.key, .string f1.val, .bool f1.gone, .int .i64 f1.st.1, .int .i64 f1.st.2, (.slice pa1' f1.past.length pc1')] 26)
      have hAb := HAa.out.keep hbn
      have hBb := HBa.out.keep hbn
      have zb := bstep za hbn
      have hXl1 : wa.heap.size ≠ w.heap.size := by have := HAa.out.lt; omega
      have hXl2 : wa.heap.size ≠ w.heap.size + 1 := by have := HBa.out.lt; omega
      have hXw : w7.heap.size ≤ wa.heap.size := za.size
      dsimp only [wvs] at hX
      generalize wa.alloc (.cells #[.string f1.key, .string f1.val, .bool f1.gone, .int .i64 f1.st.1, .int .i64 f1.st.2, (.slice pa1' f1.past.length pc1')] 26) = wb at *
      generalize wa.heap.size = X at *
      have HAb := Lib.hid hAb
      have HBb := Lib.hid hBb
      have HXb := Lib.hid hX
      clear x0 x1 x2 x3 x4 x5 y0 y1 y2 y3 y4 y5 hbn za HAa HBa
      obtain ⟨x0, x1, x2, x3, x4, x5, _⟩ := hAb
      obtain ⟨y0, y1, y2, y3, y4, y5, _⟩ := hBb
      have q1 := hX.f 1 (by decide)
      have q2 := hX.f 2 (by decide)
      obtain ⟨_, p1, p2, _, _, _, _⟩ := hX
      go_upto_region 10 with fail
      have hXc := (HXb.out.put1 f2.val).put2 f2.gone
      have hAc := (HAb.out.other (b' := X) (o := 1) hXl1 (.string f2.val)).other (b' := X) (o := 2) hXl1 (.bool f2.gone)
      have hBc := (HBb.out.other (b' := X) (o := 1) hXl2 (.string f2.val)).other (b' := X) (o := 2) hXl2 (.bool f2.gone)
      have zc := (zb.setCell (p := ⟨X, 1, none⟩) hXw (.string f2.val)).setCell (p := ⟨X, 2, none⟩) hXw (.bool f2.gone)
      generalize (wb.setCell ⟨X, 1, none⟩ (.string f2.val)).setCell ⟨X, 2, none⟩ (.bool f2.gone) = wc at *
      have HAc := Lib.hid hAc
      have HBc := Lib.hid hBc
      have HXc := Lib.hid hXc
      clear x0 x1 x2 x3 x4 x5 y0 y1 y2 y3 y4 y5 p1 p2 q1 q2 HAb HBb HXb zb
      obtain ⟨x0, x1, x2, x3, x4, x5, _⟩ := hAc
      obtain ⟨y0, y1, y2, y3, y4, y5, _⟩ := hBc
      go_upto_region 11 with fail
      have hY := VwP.new wc f1 (.slice pa1' f1.past.length pc1') 26
      have hbn := balloc (Below.refl _ wc) (.cells #[.string f1.key, .string f1.val, .bool f1.gone, .int .i64 f1.st.1, .int .i64 f1.st.2, (.slice pa1' f1.past.length pc1')] 26)
      have hAd := HAc.out.keep hbn
      have hBd := HBc.out.keep hbn
      have hXd := hXc.keep hbn
      have zd := bstep zc hbn
      have hYl1 : wc.heap.size ≠ w.heap.size := by have := HAc.out.lt; omega
      have hYl2 : wc.heap.size ≠ w.heap.size + 1 := by have := HBc.out.lt; omega
      have hYl3 : wc.heap.size ≠ X := by have := HXc.out.lt; omega
      have hYw : w7.heap.size ≤ wc.heap.size := zc.size
      dsimp only [wvs] at hY
      generalize wc.alloc (.cells #[.string f1.key, .string f1.val, .bool f1.gone, .int .i64 f1.st.1, .int .i64 f1.st.2, (.slice pa1' f1.past.length pc1')] 26) = wd at *
      generalize wc.heap.size = Y at *
      have HAd := Lib.hid hAd
      have HBd := Lib.hid hBd
      have HXd := Lib.hid hXd
      have HYd := Lib.hid hY
      clear x0 x1 x2 x3 x4 x5 y0 y1 y2 y3 y4 y5 hbn zc HAc HBc HXc hXc hXd
      obtain ⟨x0, x1, x2, x3, x4, x5, _⟩ := hAd
      obtain ⟨y0, y1, y2, y3, y4, y5, _⟩ := hBd
      have q3 := hY.f 3 (by decide)
      have q4 := hY.f 4 (by decide)
      obtain ⟨_, _, _, p3, p4, _, _⟩ := hY
      go_upto_region 12 with fail
      have hYe := HYd.out.put3 f2.st.1 f2.st.2
      have hAe := (HAd.out.other (b' := Y) (o := 3) hYl1 (.int .i64 f2.st.1)).other (b' := Y) (o := 4) hYl1 (.int .i64 f2.st.2)
      have hBe := (HBd.out.other (b' := Y) (o := 3) hYl2 (.int .i64 f2.st.1)).other (b' := Y) (o := 4) hYl2 (.int .i64 f2.st.2)
      have hXe := (HXd.out.other (b' := Y) (o := 3) hYl3 (.int .i64 f2.st.1)).other (b' := Y) (o := 4) hYl3 (.int .i64 f2.st.2)
      have ze := (zd.setCell (p := ⟨Y, 3, none⟩) hYw (.int .i64 f2.st.1)).setCell (p := ⟨Y, 4, none⟩) hYw (.int .i64 f2.st.2)
      generalize (wd.setCell ⟨Y, 3, none⟩ (.int .i64 f2.st.1)).setCell ⟨Y, 4, none⟩ (.int .i64 f2.st.2) = we at *
      clear x0 x1 x2 x3 x4 x5 y0 y1 y2 y3 y4 y5 p3 p4 q3 q4 HAd HBd HXd HYd zd hXl1 hXl2 hXw hYl1 hYl2 hYl3 hYw
      have g0 := And.intro hAe.six (And.intro hBe.six (And.intro hXe.six hYe.six))
      have hoX : WvOk w7 (mixV f1 f2) (.slice pa1' f1.past.length pc1') := ⟨HO1.out.key, HO2.out.val, HO1.out.len, HO1.out.szd, HO1.out.at_⟩
      have hoY : WvOk w7 (mixS f1 f2) (.slice pa1' f1.past.length pc1') := ⟨HO1.out.key, HO1.out.val, HO1.out.len, HO1.out.szd, HO1.out.at_⟩
      have HOX := Lib.hid hoX
      have HOY := Lib.hid hoY
      have kA := fun W (h : Below w7.heap.size w7 W) => wbytes_any f1 (.slice pa1' f1.past.length pc1') W (HO1.out.below h)
      have kB := fun W (h : Below w7.heap.size w7 W) => wbytes_any f2 (.slice pa2' f2.past.length pc2') W (HO2.out.below h)
      have kX := fun W (h : Below w7.heap.size w7 W) => wbytes_any (mixV f1 f2) (.slice pa1' f1.past.length pc1') W (HOX.out.below h)
      have kY := fun W (h : Below w7.heap.size w7 W) => wbytes_any (mixS f1 f2) (.slice pa1' f1.past.length pc1') W (HOY.out.below h)
      obtain ⟨A, hA⟩ : ∃ A : ByteArray, A = ⟨(wbV f1).toArray⟩ := ⟨_, rfl⟩
      obtain ⟨B, hB⟩ : ∃ A : ByteArray, A = ⟨(wbV f2).toArray⟩ := ⟨_, rfl⟩
      obtain ⟨SX, hSX⟩ : ∃ A : ByteArray, A = ⟨(wbV (mixV f1 f2)).toArray⟩ := ⟨_, rfl⟩
      obtain ⟨SY, hSY⟩ : ∃ A : ByteArray, A = ⟨(wbV (mixS f1 f2)).toArray⟩ := ⟨_, rfl⟩
      have i12 := bytes_dec HK1.out HK2.out hA hB
      have iX := (bytes_dec (okW_mixV HK1.out HK2.out) HK1.out hSX hA).trans (mixV_eq f1 f2)
      have iY := (bytes_dec (okW_mixS HK1.out HK2.out) HK1.out hSY hA).trans (mixS_eq f1 f2)
      have iS := sameW_iff f1 f2
      rw [← hA] at kA
      rw [← hB] at kB
      rw [← hSX] at kX
      rw [← hSY] at kY
      clear hA hB hSX hSY hAe hBe hXe hYe hc1 hc2 hc3 HOX HOY hoX hoY HK1 HK2 HO1 HO2 HOK1 HOK2
      generalize sameW f1 f2 = eb at *
      obtain ⟨key1, val1, gone1, ⟨n1, t1⟩, past1⟩ := f1
      obtain ⟨key2, val2, gone2, ⟨n2, t2⟩, past2⟩ := f2
      have heq1 := fun w' => eq_stamp w' n1 t1 n2 t2
      dsimp only [mixV, mixS, wvs, Cells6] at *
      have z0 : Below w7.heap.size w7 we.drew := ze.drew
      have dAB : decide (A.toList = B.toList) = eb := by
        cases eb with
        | true => exact decide_eq_true ((list_eq A B).2 (i12.2 (iS.1 rfl)))
        | false => exact decide_eq_false (fun h => by have := iS.2 (i12.1 ((list_eq A B).1 h)); cases this)
      have bAB : (A.toList == B.toList) = eb := by rw [← dAB]; exact wbeq_dec _ _
      generalize hsb : decide (((n1, t1) : Int × Int) = (n2, t2)) = sb at heq1
      have dY : decide (SY.toList = A.toList) = sb := by rw [← hsb, decide_eq_decide]; exact (list_eq SY A).trans iY
      have bY : (SY.toList == A.toList) = sb := by rw [← dY]; exact wbeq_dec _ _
      generalize hbg : (gone1 == gone2) = bg
      have HBG := Lib.hid hbg
      have dX : decide (SX.toList = A.toList) = (decide (val1 = val2) && bg) := by
        rw [← hbg, Bool.eq_iff_iff, decide_eq_true_eq, list_eq, iX]
        simp
      clear i12 iX iY iS hsb
      by_cases hv : val1 = val2
      · rw [decide_eq_true hv, Bool.true_and] at dX
        have bX : (SX.toList == A.toList) = bg := by rw [← dX]; exact wbeq_dec _ _
        subst hv
        go_region_held3 (fun w' => (w'.cell? ⟨w.heap.size, 0, none⟩ = some (.string key1) ∧ w'.cell? ⟨w.heap.size, 1, none⟩ = some (.string val1) ∧ w'.cell? ⟨w.heap.size, 2, none⟩ = some (.bool gone1) ∧ w'.cell? ⟨w.heap.size, 3, none⟩ = some (.int .i64 n1) ∧ w'.cell? ⟨w.heap.size, 4, none⟩ = some (.int .i64 t1) ∧ w'.cell? ⟨w.heap.size, 5, none⟩ = some (.slice pa1' past1.length pc1')) ∧ (w'.cell? ⟨w.heap.size + 1, 0, none⟩ = some (.string key2) ∧ w'.cell? ⟨w.heap.size + 1, 1, none⟩ = some (.string val1) ∧ w'.cell? ⟨w.heap.size + 1, 2, none⟩ = some (.bool gone2) ∧ w'.cell? ⟨w.heap.size + 1, 3, none⟩ = some (.int .i64 n2) ∧ w'.cell? ⟨w.heap.size + 1, 4, none⟩ = some (.int .i64 t2) ∧ w'.cell? ⟨w.heap.size + 1, 5, none⟩ = some (.slice pa2' past2.length pc2')) ∧ (w'.cell? ⟨X, 0, none⟩ = some (.string key1) ∧ w'.cell? ⟨X, 1, none⟩ = some (.string val1) ∧ w'.cell? ⟨X, 2, none⟩ = some (.bool gone2) ∧ w'.cell? ⟨X, 3, none⟩ = some (.int .i64 n1) ∧ w'.cell? ⟨X, 4, none⟩ = some (.int .i64 t1) ∧ w'.cell? ⟨X, 5, none⟩ = some (.slice pa1' past1.length pc1')) ∧ (w'.cell? ⟨Y, 0, none⟩ = some (.string key1) ∧ w'.cell? ⟨Y, 1, none⟩ = some (.string val1) ∧ w'.cell? ⟨Y, 2, none⟩ = some (.bool gone1) ∧ w'.cell? ⟨Y, 3, none⟩ = some (.int .i64 n2) ∧ w'.cell? ⟨Y, 4, none⟩ = some (.int .i64 t2) ∧ w'.cell? ⟨Y, 5, none⟩ = some (.slice pa1' past1.length pc1')))
          (exact g0)
          (first | (go_at_call 15; ((with_reducible refine (kA _ z0).mono ?_); rintro e wf ⟨rfl, hf⟩; have z0 := bstep z0 hf; have g0 := keep24 hf g0)) | (go_at_call 15; ((with_reducible refine (kB _ z0).mono ?_); rintro e wf ⟨rfl, hf⟩; have z0 := bstep z0 hf; have g0 := keep24 hf g0)) | (go_at_call 15; ((with_reducible refine (kX _ z0).mono ?_); rintro e wf ⟨rfl, hf⟩; have z0 := bstep z0 hf; have g0 := keep24 hf g0)) | (go_at_call 15; ((with_reducible refine (kY _ z0).mono ?_); rintro e wf ⟨rfl, hf⟩; have z0 := bstep z0 hf; have g0 := keep24 hf g0)))
        have HZ := Lib.hid z0
        clear g0 z0
        go_wp2
        go_ret
        exact ⟨ret_bool (by simp_all), bstep HBW7.out HZ.out⟩
      · rw [decide_eq_false hv, Bool.false_and] at dX
        have bX : (SX.toList == A.toList) = false := by rw [← dX]; exact wbeq_dec _ _
        have hvl : ¬ val1.toList = val2.toList := fun h => hv ((list_eq _ _).1 h)
        have bvl : (val1.toList == val2.toList) = false := beq_eq_false_iff_ne.2 hvl
        have dvl : decide (val1.toList = val2.toList) = false := decide_eq_false hvl
        clear hv
        refine wp_region_held_drew (S := fun w' => (w'.cell? ⟨w.heap.size, 0, none⟩ = some (.string key1) ∧ w'.cell? ⟨w.heap.size, 1, none⟩ = some (.string val1) ∧ w'.cell? ⟨w.heap.size, 2, none⟩ = some (.bool gone1) ∧ w'.cell? ⟨w.heap.size, 3, none⟩ = some (.int .i64 n1) ∧ w'.cell? ⟨w.heap.size, 4, none⟩ = some (.int .i64 t1) ∧ w'.cell? ⟨w.heap.size, 5, none⟩ = some (.slice pa1' past1.length pc1')) ∧ (w'.cell? ⟨w.heap.size + 1, 0, none⟩ = some (.string key2) ∧ w'.cell? ⟨w.heap.size + 1, 1, none⟩ = some (.string val2) ∧ w'.cell? ⟨w.heap.size + 1, 2, none⟩ = some (.bool gone2) ∧ w'.cell? ⟨w.heap.size + 1, 3, none⟩ = some (.int .i64 n2) ∧ w'.cell? ⟨w.heap.size + 1, 4, none⟩ = some (.int .i64 t2) ∧ w'.cell? ⟨w.heap.size + 1, 5, none⟩ = some (.slice pa2' past2.length pc2')) ∧ (w'.cell? ⟨X, 0, none⟩ = some (.string key1) ∧ w'.cell? ⟨X, 1, none⟩ = some (.string val2) ∧ w'.cell? ⟨X, 2, none⟩ = some (.bool gone2) ∧ w'.cell? ⟨X, 3, none⟩ = some (.int .i64 n1) ∧ w'.cell? ⟨X, 4, none⟩ = some (.int .i64 t1) ∧ w'.cell? ⟨X, 5, none⟩ = some (.slice pa1' past1.length pc1')) ∧ (w'.cell? ⟨Y, 0, none⟩ = some (.string key1) ∧ w'.cell? ⟨Y, 1, none⟩ = some (.string val1) ∧ w'.cell? ⟨Y, 2, none⟩ = some (.bool gone1) ∧ w'.cell? ⟨Y, 3, none⟩ = some (.int .i64 n2) ∧ w'.cell? ⟨Y, 4, none⟩ = some (.int .i64 t2) ∧ w'.cell? ⟨Y, 5, none⟩ = some (.slice pa1' past1.length pc1'))) (by kernel_rfl) (g0) (fun hHeld => ?_)
        refine wpAnyH_take (i := 0) (v := ?vu0) rfl (by kernel_rfl) (by kernel_rfl) (by kernel_rfl) (fun _ _ _ h => h) (Or.inl ⟨by rfl, ?yu0⟩) (by assumption) ?ru0
        case yu0 => (intro w hSw; (try dsimp only at hSw); go_simp; try with_reducible rfl)
        try simp only [Act.put, List.setIfInBounds_toArray, List.set_cons_zero, List.set_cons_succ, List.getElem_toArray, List.getElem_cons_zero, List.getElem_cons_succ]
        refine wpAnyH_take (i := 1) (v := ?vu1) rfl (by kernel_rfl) (by kernel_rfl) (by kernel_rfl) (fun _ _ _ h => h) (Or.inl ⟨by rfl, ?yu1⟩) (by assumption) ?ru1
        case yu1 => (intro w hSw; (try dsimp only at hSw); go_simp; try with_reducible rfl)
        try simp only [Act.put, List.setIfInBounds_toArray, List.set_cons_zero, List.set_cons_succ, List.getElem_toArray, List.getElem_cons_zero, List.getElem_cons_succ]
        refine wpAnyH_take (i := 2) (v := ?vu2) rfl (by kernel_rfl) (by kernel_rfl) (by kernel_rfl) (fun _ _ _ h => h) (Or.inl ⟨by rfl, ?yu2⟩) (by assumption) ?ru2
        case yu2 => (intro w hSw; (try dsimp only at hSw); go_simp; try with_reducible rfl)
        try simp only [Act.put, List.setIfInBounds_toArray, List.set_cons_zero, List.set_cons_succ, List.getElem_toArray, List.getElem_cons_zero, List.getElem_cons_succ]
        refine wpAnyH_take (i := 4) (v := ?vu4) rfl (by kernel_rfl) (by kernel_rfl) (by kernel_rfl) (fun _ _ _ h => h) (Or.inl ⟨by rfl, ?yu4⟩) (by assumption) ?ru4
        case yu4 => (intro w hSw; (try dsimp only at hSw); go_simp; try with_reducible rfl)
        try simp only [Act.put, List.setIfInBounds_toArray, List.set_cons_zero, List.set_cons_succ, List.getElem_toArray, List.getElem_cons_zero, List.getElem_cons_succ]
        refine wpAnyH_take (i := 7) (v := ?vu7) rfl (by kernel_rfl) (by kernel_rfl) (by kernel_rfl) (fun _ _ _ h => h) (Or.inl ⟨by rfl, ?yu7⟩) (by assumption) ?ru7
        case yu7 => (intro w hSw; (try dsimp only at hSw); go_simp; try with_reducible rfl)
        try simp only [Act.put, List.setIfInBounds_toArray, List.set_cons_zero, List.set_cons_succ, List.getElem_toArray, List.getElem_cons_zero, List.getElem_cons_succ]
        refine wpAnyH_ready (rs := [3]) (by kernel_rfl) (by simp) ?_
        refine AllReadyH.cons rfl (fun K hK => ?_) AllReadyH.nil
        go_simp
        go_at_call 15
        refine (kA _ z0).mono ?_
        rintro e v0 ⟨rfl, q0⟩
        have z1 := bstep z0 q0; have g1 := keep24 q0 g0
        go_wp2_with fail
        refine hK.out _ _ (g1) (fun hHeld => ?_)
        clear hK K
        try simp only [Act.put, List.setIfInBounds_toArray, List.set_cons_zero, List.set_cons_succ, List.getElem_toArray, List.getElem_cons_zero, List.getElem_cons_succ]
        refine wpAnyH_ready (rs := [5]) (by kernel_rfl) (by simp) ?_
        refine AllReadyH.cons rfl (fun K hK => ?_) AllReadyH.nil
        go_simp
        go_at_call 15
        refine (kB _ z1).mono ?_
        rintro e v1 ⟨rfl, q1⟩
        have z2 := bstep z1 q1; have g2 := keep24 q1 g1
        go_wp2_with fail
        refine hK.out _ _ (g2) (fun hHeld => ?_)
        clear hK K
        try simp only [Act.put, List.setIfInBounds_toArray, List.set_cons_zero, List.set_cons_succ, List.getElem_toArray, List.getElem_cons_zero, List.getElem_cons_succ]
        refine wpAnyH_take (i := 6) (v := ?vu6) rfl (by kernel_rfl) (by kernel_rfl) (by kernel_rfl) (fun _ _ _ h => h) (Or.inl ⟨by rfl, ?yu6⟩) (by assumption) ?ru6
        case yu6 => (intro w hSw; (try dsimp only at hSw); go_simp; try with_reducible rfl)
        try simp only [Act.put, List.setIfInBounds_toArray, List.set_cons_zero, List.set_cons_succ, List.getElem_toArray, List.getElem_cons_zero, List.getElem_cons_succ]
        refine wpAnyH_take (i := 8) (v := ?vu8) rfl (by kernel_rfl) (by kernel_rfl) (by kernel_rfl) (fun _ _ _ h => h) (Or.inl ⟨by rfl, ?yu8⟩) (by assumption) ?ru8
        case yu8 => (intro w hSw; (try dsimp only at hSw); go_simp; try with_reducible rfl)
        try simp only [Act.put, List.setIfInBounds_toArray, List.set_cons_zero, List.set_cons_succ, List.getElem_toArray, List.getElem_cons_zero, List.getElem_cons_succ]
        refine wpAnyH_take (i := 9) (v := ?vu9) rfl (by kernel_rfl) (by kernel_rfl) (by kernel_rfl) (fun _ _ _ h => h) (Or.inl ⟨by rfl, ?yu9⟩) (by assumption) ?ru9
        case yu9 => (intro w hSw; (try dsimp only at hSw); go_simp; try with_reducible rfl)
        try simp only [Act.put, List.setIfInBounds_toArray, List.set_cons_zero, List.set_cons_succ, List.getElem_toArray, List.getElem_cons_zero, List.getElem_cons_succ]
        refine wpAnyH_take (i := 10) (v := ?vu10) rfl (by kernel_rfl) (by kernel_rfl) (by kernel_rfl) (fun _ _ _ h => h) (Or.inl ⟨by rfl, ?yu10⟩) (by assumption) ?ru10
        case yu10 => (intro w hSw; (try dsimp only at hSw); go_simp; try with_reducible rfl)
        try simp only [Act.put, List.setIfInBounds_toArray, List.set_cons_zero, List.set_cons_succ, List.getElem_toArray, List.getElem_cons_zero, List.getElem_cons_succ]
        refine wpAnyH_take (i := 11) (v := ?vu11) rfl (by kernel_rfl) (by kernel_rfl) (by kernel_rfl) (fun _ _ _ h => h) (Or.inl ⟨by rfl, ?yu11⟩) (by assumption) ?ru11
        case yu11 => (intro w hSw; (try dsimp only at hSw); go_simp; try with_reducible rfl)
        try simp only [Act.put, List.setIfInBounds_toArray, List.set_cons_zero, List.set_cons_succ, List.getElem_toArray, List.getElem_cons_zero, List.getElem_cons_succ]
        refine wpAnyH_take (i := 13) (v := ?vu13) rfl (by kernel_rfl) (by kernel_rfl) (by kernel_rfl) (fun _ _ _ h => h) (Or.inl ⟨by rfl, ?yu13⟩) (by assumption) ?ru13
        case yu13 => (intro w hSw; (try dsimp only at hSw); go_simp; try with_reducible rfl)
        try simp only [Act.put, List.setIfInBounds_toArray, List.set_cons_zero, List.set_cons_succ, List.getElem_toArray, List.getElem_cons_zero, List.getElem_cons_succ]
        refine wpAnyH_take (i := 16) (v := ?vu16) rfl (by kernel_rfl) (by kernel_rfl) (by kernel_rfl) (fun _ _ _ h => h) (Or.inl ⟨by rfl, ?yu16⟩) (by assumption) ?ru16
        case yu16 => (intro w hSw; (try dsimp only at hSw); go_simp; try with_reducible rfl)
        try simp only [Act.put, List.setIfInBounds_toArray, List.set_cons_zero, List.set_cons_succ, List.getElem_toArray, List.getElem_cons_zero, List.getElem_cons_succ]
        refine wpAnyH_take (i := 17) (v := ?vu17) rfl (by kernel_rfl) (by kernel_rfl) (by kernel_rfl) (fun _ _ _ h => h) (Or.inl ⟨by rfl, ?yu17⟩) (by assumption) ?ru17
        case yu17 => (intro w hSw; (try dsimp only at hSw); go_simp; try with_reducible rfl)
        try simp only [Act.put, List.setIfInBounds_toArray, List.set_cons_zero, List.set_cons_succ, List.getElem_toArray, List.getElem_cons_zero, List.getElem_cons_succ]
        refine wpAnyH_take (i := 18) (v := ?vu18) rfl (by kernel_rfl) (by kernel_rfl) (by kernel_rfl) (fun _ _ _ h => h) (Or.inl ⟨by rfl, ?yu18⟩) (by assumption) ?ru18
        case yu18 => (intro w hSw; (try dsimp only at hSw); go_simp; try with_reducible rfl)
        try simp only [Act.put, List.setIfInBounds_toArray, List.set_cons_zero, List.set_cons_succ, List.getElem_toArray, List.getElem_cons_zero, List.getElem_cons_succ]
        refine wpAnyH_take (i := 19) (v := ?vu19) rfl (by kernel_rfl) (by kernel_rfl) (by kernel_rfl) (fun _ _ _ h => h) (Or.inl ⟨by rfl, ?yu19⟩) (by assumption) ?ru19
        case yu19 => (intro w hSw; (try dsimp only at hSw); go_simp; try with_reducible rfl)
        try simp only [Act.put, List.setIfInBounds_toArray, List.set_cons_zero, List.set_cons_succ, List.getElem_toArray, List.getElem_cons_zero, List.getElem_cons_succ]
        refine wpAnyH_take (i := 20) (v := ?vu20) rfl (by kernel_rfl) (by kernel_rfl) (by kernel_rfl) (fun _ _ _ h => h) (Or.inl ⟨by rfl, ?yu20⟩) (by assumption) ?ru20
        case yu20 => (intro w hSw; (try dsimp only at hSw); go_simp; try with_reducible rfl)
        try simp only [Act.put, List.setIfInBounds_toArray, List.set_cons_zero, List.set_cons_succ, List.getElem_toArray, List.getElem_cons_zero, List.getElem_cons_succ]
        refine wpAnyH_ready (rs := [12]) (by kernel_rfl) (by simp) ?_
        refine AllReadyH.cons rfl (fun K hK => ?_) AllReadyH.nil
        go_simp
        go_at_call 15
        refine (kX _ z2).mono ?_
        rintro e v2 ⟨rfl, q2⟩
        have z3 := bstep z2 q2; have g3 := keep24 q2 g2
        go_wp2_with fail
        refine hK.out _ _ (g3) (fun hHeld => ?_)
        clear hK K
        try simp only [Act.put, List.setIfInBounds_toArray, List.set_cons_zero, List.set_cons_succ, List.getElem_toArray, List.getElem_cons_zero, List.getElem_cons_succ]
        refine wpAnyH_ready (rs := [14]) (by kernel_rfl) (by simp) ?_
        refine AllReadyH.cons rfl (fun K hK => ?_) AllReadyH.nil
        go_simp
        go_at_call 15
        refine (kA _ z3).mono ?_
        rintro e v3 ⟨rfl, q3⟩
        have z4 := bstep z3 q3; have g4 := keep24 q3 g3
        go_wp2_with fail
        refine hK.out _ _ (g4) (fun hHeld => ?_)
        clear hK K
        try simp only [Act.put, List.setIfInBounds_toArray, List.set_cons_zero, List.set_cons_succ, List.getElem_toArray, List.getElem_cons_zero, List.getElem_cons_succ]
        refine wpAnyH_take (i := 15) (v := ?vu15) rfl (by kernel_rfl) (by kernel_rfl) (by kernel_rfl) (fun _ _ _ h => h) (Or.inl ⟨by rfl, ?yu15⟩) (by assumption) ?ru15
        case yu15 => (intro w hSw; (try dsimp only at hSw); go_simp; try with_reducible rfl)
        try simp only [Act.put, List.setIfInBounds_toArray, List.set_cons_zero, List.set_cons_succ, List.getElem_toArray, List.getElem_cons_zero, List.getElem_cons_succ]
        refine wpAnyH_take (i := 21) (v := ?vu21) rfl (by kernel_rfl) (by kernel_rfl) (by kernel_rfl) (fun _ _ _ h => h) (Or.inl ⟨by rfl, ?yu21⟩) (by assumption) ?ru21
        case yu21 => (intro w hSw; (try dsimp only at hSw); go_simp; try with_reducible rfl)
        try simp only [Act.put, List.setIfInBounds_toArray, List.set_cons_zero, List.set_cons_succ, List.getElem_toArray, List.getElem_cons_zero, List.getElem_cons_succ]
        refine wpAnyH_take (i := 22) (v := undef) rfl (by kernel_rfl) (by kernel_rfl) (by kernel_rfl) (fun _ _ _ h => h) (Or.inr ⟨by rfl, rfl⟩) (by assumption) ?_
        try simp only [Act.put, List.setIfInBounds_toArray, List.set_cons_zero, List.set_cons_succ, List.getElem_toArray, List.getElem_cons_zero, List.getElem_cons_succ]
        refine wpAnyH_take (i := 23) (v := undef) rfl (by kernel_rfl) (by kernel_rfl) (by kernel_rfl) (fun _ _ _ h => h) (Or.inr ⟨by rfl, rfl⟩) (by assumption) ?_
        try simp only [Act.put, List.setIfInBounds_toArray, List.set_cons_zero, List.set_cons_succ, List.getElem_toArray, List.getElem_cons_zero, List.getElem_cons_succ]
        refine wpAnyH_take (i := 24) (v := undef) rfl (by kernel_rfl) (by kernel_rfl) (by kernel_rfl) (fun _ _ _ h => h) (Or.inr ⟨by rfl, rfl⟩) (by assumption) ?_
        try simp only [Act.put, List.setIfInBounds_toArray, List.set_cons_zero, List.set_cons_succ, List.getElem_toArray, List.getElem_cons_zero, List.getElem_cons_succ]
        refine wpAnyH_take (i := 25) (v := undef) rfl (by kernel_rfl) (by kernel_rfl) (by kernel_rfl) (fun _ _ _ h => h) (Or.inr ⟨by rfl, rfl⟩) (by assumption) ?_
        try simp only [Act.put, List.setIfInBounds_toArray, List.set_cons_zero, List.set_cons_succ, List.getElem_toArray, List.getElem_cons_zero, List.getElem_cons_succ]
        refine wpAnyH_take (i := 26) (v := undef) rfl (by kernel_rfl) (by kernel_rfl) (by kernel_rfl) (fun _ _ _ h => h) (Or.inr ⟨by rfl, rfl⟩) (by assumption) ?_
        try simp only [Act.put, List.setIfInBounds_toArray, List.set_cons_zero, List.set_cons_succ, List.getElem_toArray, List.getElem_cons_zero, List.getElem_cons_succ]
        refine wpAnyH_take (i := 27) (v := ?vu27) rfl (by kernel_rfl) (by kernel_rfl) (by kernel_rfl) (fun _ _ _ h => h) (Or.inl ⟨by rfl, ?yu27⟩) (by assumption) ?ru27
        case yu27 => (intro w hSw; (try dsimp only at hSw); go_simp; try with_reducible rfl)
        try simp only [Act.put, List.setIfInBounds_toArray, List.set_cons_zero, List.set_cons_succ, List.getElem_toArray, List.getElem_cons_zero, List.getElem_cons_succ]
        refine wpAnyH_take (i := 28) (v := ?vu28) rfl (by kernel_rfl) (by kernel_rfl) (by kernel_rfl) (fun _ _ _ h => h) (Or.inl ⟨by rfl, ?yu28⟩) (by assumption) ?ru28
        case yu28 => (intro w hSw; (try dsimp only at hSw); go_simp; try with_reducible rfl)
        try simp only [Act.put, List.setIfInBounds_toArray, List.set_cons_zero, List.set_cons_succ, List.getElem_toArray, List.getElem_cons_zero, List.getElem_cons_succ]
        refine wpAnyH_take (i := 29) (v := ?vu29) rfl (by kernel_rfl) (by kernel_rfl) (by kernel_rfl) (fun _ _ _ h => h) (Or.inl ⟨by rfl, ?yu29⟩) (by assumption) ?ru29
        case yu29 => (intro w hSw; (try dsimp only at hSw); go_simp; try with_reducible rfl)
        try simp only [Act.put, List.setIfInBounds_toArray, List.set_cons_zero, List.set_cons_succ, List.getElem_toArray, List.getElem_cons_zero, List.getElem_cons_succ]
        refine wpAnyH_take (i := 30) (v := ?vu30) rfl (by kernel_rfl) (by kernel_rfl) (by kernel_rfl) (fun _ _ _ h => h) (Or.inl ⟨by rfl, ?yu30⟩) (by assumption) ?ru30
        case yu30 => (intro w hSw; (try dsimp only at hSw); go_simp; try with_reducible rfl)
        try simp only [Act.put, List.setIfInBounds_toArray, List.set_cons_zero, List.set_cons_succ, List.getElem_toArray, List.getElem_cons_zero, List.getElem_cons_succ]
        refine wpAnyH_take (i := 31) (v := ?vu31) rfl (by kernel_rfl) (by kernel_rfl) (by kernel_rfl) (fun _ _ _ h => h) (Or.inl ⟨by rfl, ?yu31⟩) (by assumption) ?ru31
        case yu31 => (intro w hSw; (try dsimp only at hSw); go_simp; try with_reducible rfl)
        try simp only [Act.put, List.setIfInBounds_toArray, List.set_cons_zero, List.set_cons_succ, List.getElem_toArray, List.getElem_cons_zero, List.getElem_cons_succ]
        refine wpAnyH_take (i := 33) (v := ?vu33) rfl (by kernel_rfl) (by kernel_rfl) (by kernel_rfl) (fun _ _ _ h => h) (Or.inl ⟨by rfl, ?yu33⟩) (by assumption) ?ru33
        case yu33 => (intro w hSw; (try dsimp only at hSw); go_simp; try with_reducible rfl)
        try simp only [Act.put, List.setIfInBounds_toArray, List.set_cons_zero, List.set_cons_succ, List.getElem_toArray, List.getElem_cons_zero, List.getElem_cons_succ]
        refine wpAnyH_take (i := 36) (v := ?vu36) rfl (by kernel_rfl) (by kernel_rfl) (by kernel_rfl) (fun _ _ _ h => h) (Or.inl ⟨by rfl, ?yu36⟩) (by assumption) ?ru36
        case yu36 => (intro w hSw; (try dsimp only at hSw); go_simp; try with_reducible rfl)
        try simp only [Act.put, List.setIfInBounds_toArray, List.set_cons_zero, List.set_cons_succ, List.getElem_toArray, List.getElem_cons_zero, List.getElem_cons_succ]
        refine wpAnyH_take (i := 37) (v := ?vu37) rfl (by kernel_rfl) (by kernel_rfl) (by kernel_rfl) (fun _ _ _ h => h) (Or.inl ⟨by rfl, ?yu37⟩) (by assumption) ?ru37
        case yu37 => (intro w hSw; (try dsimp only at hSw); go_simp; try with_reducible rfl)
        try simp only [Act.put, List.setIfInBounds_toArray, List.set_cons_zero, List.set_cons_succ, List.getElem_toArray, List.getElem_cons_zero, List.getElem_cons_succ]
        refine wpAnyH_take (i := 38) (v := ?vu38) rfl (by kernel_rfl) (by kernel_rfl) (by kernel_rfl) (fun _ _ _ h => h) (Or.inl ⟨by rfl, ?yu38⟩) (by assumption) ?ru38
        case yu38 => (intro w hSw; (try dsimp only at hSw); go_simp; try with_reducible rfl)
        try simp only [Act.put, List.setIfInBounds_toArray, List.set_cons_zero, List.set_cons_succ, List.getElem_toArray, List.getElem_cons_zero, List.getElem_cons_succ]
        refine wpAnyH_take (i := 39) (v := ?vu39) rfl (by kernel_rfl) (by kernel_rfl) (by kernel_rfl) (fun _ _ _ h => h) (Or.inl ⟨by rfl, ?yu39⟩) (by assumption) ?ru39
        case yu39 => (intro w hSw; (try dsimp only at hSw); go_simp; try with_reducible rfl)
        try simp only [Act.put, List.setIfInBounds_toArray, List.set_cons_zero, List.set_cons_succ, List.getElem_toArray, List.getElem_cons_zero, List.getElem_cons_succ]
        refine wpAnyH_take (i := 40) (v := ?vu40) rfl (by kernel_rfl) (by kernel_rfl) (by kernel_rfl) (fun _ _ _ h => h) (Or.inl ⟨by rfl, ?yu40⟩) (by assumption) ?ru40
        case yu40 => (intro w hSw; (try dsimp only at hSw); go_simp; try with_reducible rfl)
        try simp only [Act.put, List.setIfInBounds_toArray, List.set_cons_zero, List.set_cons_succ, List.getElem_toArray, List.getElem_cons_zero, List.getElem_cons_succ]
        refine wpAnyH_ready (rs := [32]) (by kernel_rfl) (by simp) ?_
        refine AllReadyH.cons rfl (fun K hK => ?_) AllReadyH.nil
        go_simp
        go_at_call 15
        refine (kY _ z4).mono ?_
        rintro e v4 ⟨rfl, q4⟩
        have z5 := bstep z4 q4; have g5 := keep24 q4 g4
        go_wp2_with fail
        refine hK.out _ _ (g5) (fun hHeld => ?_)
        clear hK K
        try simp only [Act.put, List.setIfInBounds_toArray, List.set_cons_zero, List.set_cons_succ, List.getElem_toArray, List.getElem_cons_zero, List.getElem_cons_succ]
        refine wpAnyH_ready (rs := [34]) (by kernel_rfl) (by simp) ?_
        refine AllReadyH.cons rfl (fun K hK => ?_) AllReadyH.nil
        go_simp
        go_at_call 15
        refine (kA _ z5).mono ?_
        rintro e v5 ⟨rfl, q5⟩
        have z6 := bstep z5 q5; have g6 := keep24 q5 g5
        go_wp2_with fail
        refine hK.out _ _ (g6) (fun hHeld => ?_)
        clear hK K
        try simp only [Act.put, List.setIfInBounds_toArray, List.set_cons_zero, List.set_cons_succ, List.getElem_toArray, List.getElem_cons_zero, List.getElem_cons_succ]
        refine wpAnyH_take (i := 35) (v := ?vu35) rfl (by kernel_rfl) (by kernel_rfl) (by kernel_rfl) (fun _ _ _ h => h) (Or.inl ⟨by rfl, ?yu35⟩) (by assumption) ?ru35
        case yu35 => (intro w hSw; (try dsimp only at hSw); go_simp; try with_reducible rfl)
        try simp only [Act.put, List.setIfInBounds_toArray, List.set_cons_zero, List.set_cons_succ, List.getElem_toArray, List.getElem_cons_zero, List.getElem_cons_succ]
        refine wpAnyH_take (i := 41) (v := ?vu41) rfl (by kernel_rfl) (by kernel_rfl) (by kernel_rfl) (fun _ _ _ h => h) (Or.inl ⟨by rfl, ?yu41⟩) (by assumption) ?ru41
        case yu41 => (intro w hSw; (try dsimp only at hSw); go_simp; try with_reducible rfl)
        try simp only [Act.put, List.setIfInBounds_toArray, List.set_cons_zero, List.set_cons_succ, List.getElem_toArray, List.getElem_cons_zero, List.getElem_cons_succ]
        refine wpAnyH_take (i := 42) (v := ?vu42) rfl (by kernel_rfl) (by kernel_rfl) (by kernel_rfl) (fun _ _ _ h => h) (Or.inl ⟨by rfl, ?yu42⟩) (by assumption) ?ru42
        case yu42 => (intro w hSw; (try dsimp only at hSw); go_simp; try with_reducible rfl)
        try simp only [Act.put, List.setIfInBounds_toArray, List.set_cons_zero, List.set_cons_succ, List.getElem_toArray, List.getElem_cons_zero, List.getElem_cons_succ]
        refine wpAnyH_take (i := 43) (v := ?vu43) rfl (by kernel_rfl) (by kernel_rfl) (by kernel_rfl) (fun _ _ _ h => h) (Or.inl ⟨by rfl, ?yu43⟩) (by assumption) ?ru43
        case yu43 => (intro w hSw; (try dsimp only at hSw); go_simp; try with_reducible rfl)
        try simp only [Act.put, List.setIfInBounds_toArray, List.set_cons_zero, List.set_cons_succ, List.getElem_toArray, List.getElem_cons_zero, List.getElem_cons_succ]
        refine wpAnyH_done (by kernel_rfl) ?_ _
        have HZ := Lib.hid z6
        clear g0 z0 g1 g2 g3 g4 g5 g6 z1 z2 z3 z4 z5 z6
        go_wp2
        go_ret
        exact ⟨ret_bool (by simp_all), bstep HBW7.out HZ.out⟩
end Go.Proofs.Ytkaehjehpclgcaa
