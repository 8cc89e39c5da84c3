/- WireWrites, walked: versions are told, and written, as the document says. -/
import Derived.Test.YtkaehjehpclgcaaGW20
namespace Go.Proofs.Ytkaehjehpclgcaa
open Go.RowKit
set_option linter.unusedVariables false
set_option linter.unusedSimpArgs false

theorem keep12 {w w' : World} {b b' : Nat} {v v' : Wv} {u u' : Value} (hb : Below w.heap.size w w') (h : (w.cell? ⟨b, 0, none⟩ = some (.string v.key) ∧ w.cell? ⟨b, 1, none⟩ = some (.string v.val) ∧ w.cell? ⟨b, 2, none⟩ = some (.bool v.gone) ∧ w.cell? ⟨b, 3, none⟩ = some (.int .i64 v.st.1) ∧ w.cell? ⟨b, 4, none⟩ = some (.int .i64 v.st.2) ∧ w.cell? ⟨b, 5, none⟩ = some (u)) ∧ (w.cell? ⟨b', 0, none⟩ = some (.string v'.key) ∧ w.cell? ⟨b', 1, none⟩ = some (.string v'.val) ∧ w.cell? ⟨b', 2, none⟩ = some (.bool v'.gone) ∧ w.cell? ⟨b', 3, none⟩ = some (.int .i64 v'.st.1) ∧ w.cell? ⟨b', 4, none⟩ = some (.int .i64 v'.st.2) ∧ w.cell? ⟨b', 5, none⟩ = some (u'))) : (w'.cell? ⟨b, 0, none⟩ = some (.string v.key) ∧ w'.cell? ⟨b, 1, none⟩ = some (.string v.val) ∧ w'.cell? ⟨b, 2, none⟩ = some (.bool v.gone) ∧ w'.cell? ⟨b, 3, none⟩ = some (.int .i64 v.st.1) ∧ w'.cell? ⟨b, 4, none⟩ = some (.int .i64 v.st.2) ∧ w'.cell? ⟨b, 5, none⟩ = some (u)) ∧ (w'.cell? ⟨b', 0, none⟩ = some (.string v'.key) ∧ w'.cell? ⟨b', 1, none⟩ = some (.string v'.val) ∧ w'.cell? ⟨b', 2, none⟩ = some (.bool v'.gone) ∧ w'.cell? ⟨b', 3, none⟩ = some (.int .i64 v'.st.1) ∧ w'.cell? ⟨b', 4, none⟩ = some (.int .i64 v'.st.2) ∧ w'.cell? ⟨b', 5, none⟩ = some (u')) :=
  ⟨Cells6.keep h.1 hb, Cells6.keep h.2 hb⟩

set_option maxRecDepth 100000 in
set_option maxHeartbeats 3200000 in
theorem walkWireWrites (w : World) (v1 : Wv) (u1 : Value) (hk1 : v1.key.size ≤ 9223372036854775807) (hv1 : v1.val.size ≤ 9223372036854775807) (hz1 : Szd v1.past) (hd1 : DepAt w u1 v1.past) (v2 : Wv) (u2 : Value) (hk2 : v2.key.size ≤ 9223372036854775807) (hv2 : v2.val.size ≤ 9223372036854775807) (hz2 : Szd v2.past) (hd2 : DepAt w u2 v2.past) :
    Calls Try.prog 3 #[.agg (wvs v1 u1), .agg (wvs v2 u2)] w fun e w' => e = .returned (.bool true) ∧ Below w.heap.size w w' := by
  have hi1 : WvIn w v1 u1 := ⟨hk1, hv1, hz1, hd1⟩
  have hi2 : WvIn w v2 u2 := ⟨hk2, hv2, hz2, hd2⟩
  have hb1 : Below w.heap.size w (w.alloc (.cells (wvs v1 u1) 26)) := balloc (Below.refl _ w) _
  have hA := VwP.new w v1 u1 26
  have hb2 := balloc (Below.refl _ (w.alloc (.cells (wvs v1 u1) 26))) (.cells (wvs v2 u2) 26)
  have hB := VwP.new (w.alloc (.cells (wvs v1 u1) 26)) v2 u2 26
  rw [World.size_alloc] at hB
  have hA2 := hA.keep hb2
  have hbw := bstep hb1 hb2
  have hsz : ((w.alloc (.cells (wvs v1 u1) 26)).alloc (.cells (wvs v2 u2) 26)).heap.size = w.heap.size + 1 + 1 := by simp
  have hf1 := fun W (h : WvIn W v1 u1) => wfew_any v1 u1 W h.key h.val h.szd h.at_
  have hf2 := fun W (h : WvIn W v2 u2) => wfew_any v2 u2 W h.key h.val h.szd h.at_
  have hok1 : ∀ W u, DepAt W u (fewW v1).past → WvOk W (fewW v1) u := fun W u h => fewW_ok h
  have hok2 : ∀ W u, DepAt W u (fewW v2).past → WvOk W (fewW v2) u := fun W u h => fewW_ok h
  generalize fewW v1 = f1 at hf1 hok1
  generalize fewW v2 = f2 at hf2 hok2
  have HOK1 := Lib.hid hok1
  have HOK2 := Lib.hid hok2
  have HI1 := Lib.hid hi1
  have HI2 := Lib.hid hi2
  have hp1 := hd1
  have hp2 := hd2
  obtain ⟨pa1, pc1, hu1, _⟩ := hp1
  obtain ⟨pa2, pc2, hu2, _⟩ := hp2
  clear hb1 hb2 hA hok1 hok2 hi1 hi2 hk1 hv1 hz1 hd1 hk2 hv2 hz2 hd2
  subst hu1 hu2
  dsimp only [wvs] at *
  go_enter Try.func3, Try.ntmps3
  go_upto_region 1 with fail
  generalize (w.alloc (.cells #[.string v1.key, .string v1.val, .bool v1.gone, .int .i64 v1.st.1, .int .i64 v1.st.2, (.slice pa1 v1.past.length pc1)] 26)).alloc (.cells #[.string v2.key, .string v2.val, .bool v2.gone, .int .i64 v2.st.1, .int .i64 v2.st.2, (.slice pa2 v2.past.length pc2)] 26) = w2 at *
  have HA := Lib.hid hA2
  have HB := Lib.hid hB
  have HBW := Lib.hid hbw
  have HSZ := Lib.hid hsz
  clear hA2 hB hbw hsz
  go_wp2_with fail
  refine (wawake_any _).mono ?_
  rintro e w3 ⟨rfl, hb3⟩
  have hA3 := HA.out.keep hb3
  have HB3 := Lib.hid (HB.out.keep hb3)
  have HBW3 := Lib.hid (bstep HBW.out hb3)
  have HSZ3 : Hid (w.heap.size + 1 < w3.heap.size) := Lib.hid (by have := hb3.size; have := HSZ.out; omega)
  have HA3 := Lib.hid hA3
  obtain ⟨x0, x1, x2, x3, x4, x5, _⟩ := hA3
  clear HA HB HBW HSZ hb3
  go_wp2_with fail
  refine (hf1 _ (HI1.out.below HBW3.out)).mono ?_
  rintro e w4 ⟨u1', rfl, hd4, hn4, hb4⟩
  have hA4 := HA3.out.keep hb4
  have hB4 := HB3.out.keep hb4
  have hsz4 : w3.heap.size ≤ w4.heap.size := hb4.size
  have HA5 := Lib.hid (hA4.putw f1 u1')
  have HB5 := Lib.hid (hB4.otherw (b' := w.heap.size) (x := f1) (z := u1') (by omega))
  have HD5 := Lib.hid (hd4.putw (b := w.heap.size) (x := f1) (z := u1') (fun g e => by have := hn4 g e; have := HSZ3.out; omega))
  have HN5 : Hid (∀ g, u1'.ownBlock = some g → w3.heap.size ≤ g) := Lib.hid hn4
  have hbw4 := bstep HBW3.out hb4
  have HBW5 := Lib.hid (below_putw hbw4 (Nat.le_refl _) f1 u1')
  have HI25 := Lib.hid (HI2.out.putw_low (HI2.out.below hbw4) (b := w.heap.size) (x := f1) (z := u1') (Nat.le_refl _))
  have HSZ5 : Hid (w.heap.size + 1 < w4.heap.size) := Lib.hid (by have := HSZ3.out; omega)
  have hs5 : (World.putw w4 w.heap.size f1 u1').heap.size = w4.heap.size := by simp [World.putw]
  have HS5 := Lib.hid hs5
  obtain ⟨pa1', pc1', hu1', _⟩ := id hd4
  clear x0 x1 x2 x3 x4 x5
  obtain ⟨x0, x1, x2, x3, x4, x5, _⟩ := id hA4
  have q0 := hA4.f 0 (by decide)
  have q1 := hA4.f 1 (by decide)
  have q2 := hA4.f 2 (by decide)
  have q3 := hA4.f 3 (by decide)
  have q4 := hA4.f 4 (by decide)
  have q5 := hA4.f 5 (by decide)
  obtain ⟨y0, y1, y2, y3, y4, y5, _⟩ := HB5.out
  clear hA4 hB4 hd4 hn4 hb4 hbw4 hs5 hsz4 HA3 HB3 HBW3 hf1
  subst hu1'
  dsimp only [World.putw] at y0 y1 y2 y3 y4 y5
  go_wp2_with fail
  dsimp only [World.putw] at HA5 HB5 HD5 HBW5 HI25 HS5
  generalize ((((((w4.setCell ⟨w.heap.size, 0, none⟩ (.string f1.key)).setCell ⟨w.heap.size, 1, none⟩ (.string f1.val)).setCell ⟨w.heap.size, 2, none⟩ (.bool f1.gone)).setCell ⟨w.heap.size, 3, none⟩ (.int .i64 f1.st.1)).setCell ⟨w.heap.size, 4, none⟩ (.int .i64 f1.st.2)).setCell ⟨w.heap.size, 5, none⟩ (.slice pa1' f1.past.length pc1')) = w5 at *
  refine (hf2 _ HI25.out).mono ?_
  rintro e w6 ⟨u2', rfl, hd6, hn6, hb6⟩
  have hA6 := HA5.out.keep hb6
  have hB6 := HB5.out.keep hb6
  have HA7 := Lib.hid (hA6.otherw (b' := w.heap.size + 1) (x := f2) (z := u2') (by omega))
  have HB7 := Lib.hid (hB6.putw f2 u2')
  have HO1 := Lib.hid (HOK1.out _ _ ((HD5.out.below hb6).putw (b := w.heap.size + 1) (x := f2) (z := u2') (fun g e => by have := HN5.out g e; have := HSZ3.out; omega)))
  have HO2 := Lib.hid (HOK2.out _ _ (hd6.putw (b := w.heap.size + 1) (x := f2) (z := u2') (fun g e => by have := hn6 g e; have := HS5.out; have := HSZ5.out; omega)))
  have HBW7 := Lib.hid (below_putw (bstep HBW5.out hb6) (show w.heap.size ≤ w.heap.size + 1 by omega) f2 u2')
  obtain ⟨pa2', pc2', hu2', _⟩ := id hd6
  clear x0 x1 x2 x3 x4 x5 y0 y1 y2 y3 y4 y5 q0 q1 q2 q3 q4 q5
  obtain ⟨y0, y1, y2, y3, y4, y5, _⟩ := id hB6
  have q0 := hB6.f 0 (by decide)
  have q1 := hB6.f 1 (by decide)
  have q2 := hB6.f 2 (by decide)
  have q3 := hB6.f 3 (by decide)
  have q4 := hB6.f 4 (by decide)
  have q5 := hB6.f 5 (by decide)
  obtain ⟨x0, x1, x2, x3, x4, x5, _⟩ := HA7.out
  clear hA6 hB6 hd6 hn6 hb6 HA5 HB5 HD5 HBW5 HI25 hf2 HN5 HSZ5 HS5
  subst hu2'
  dsimp only [World.putw] at x0 x1 x2 x3 x4 x5
  go_upto_region 4 with fail
  dsimp only [World.putw] at HA7 HB7 HO1 HO2 HBW7
  generalize ((((((w6.setCell ⟨(w.heap.size + 1), 0, none⟩ (.string f2.key)).setCell ⟨(w.heap.size + 1), 1, none⟩ (.string f2.val)).setCell ⟨(w.heap.size + 1), 2, none⟩ (.bool f2.gone)).setCell ⟨(w.heap.size + 1), 3, none⟩ (.int .i64 f2.st.1)).setCell ⟨(w.heap.size + 1), 4, none⟩ (.int .i64 f2.st.2)).setCell ⟨(w.heap.size + 1), 5, none⟩ (.slice pa2' f2.past.length pc2')) = w7 at *
  clear x0 x1 x2 x3 x4 x5 y0 y1 y2 y3 y4 y5 q0 q1 q2 q3 q4 q5
  have g0 : (w7.cell? ⟨w.heap.size, 0, none⟩ = some (.string f1.key) ∧ w7.cell? ⟨w.heap.size, 1, none⟩ = some (.string f1.val) ∧ w7.cell? ⟨w.heap.size, 2, none⟩ = some (.bool f1.gone) ∧ w7.cell? ⟨w.heap.size, 3, none⟩ = some (.int .i64 f1.st.1) ∧ w7.cell? ⟨w.heap.size, 4, none⟩ = some (.int .i64 f1.st.2) ∧ w7.cell? ⟨w.heap.size, 5, none⟩ = some (.slice pa1' f1.past.length pc1')) ∧ (w7.cell? ⟨w.heap.size + 1, 0, none⟩ = some (.string f2.key) ∧ w7.cell? ⟨w.heap.size + 1, 1, none⟩ = some (.string f2.val) ∧ w7.cell? ⟨w.heap.size + 1, 2, none⟩ = some (.bool f2.gone) ∧ w7.cell? ⟨w.heap.size + 1, 3, none⟩ = some (.int .i64 f2.st.1) ∧ w7.cell? ⟨w.heap.size + 1, 4, none⟩ = some (.int .i64 f2.st.2) ∧ w7.cell? ⟨w.heap.size + 1, 5, none⟩ = some (.slice pa2' f2.past.length pc2')) := ⟨HA7.out.six, HB7.out.six⟩
  have hc1 := fun W (h : Below w7.heap.size w7 W) => wcheck_any f1 (.slice pa1' f1.past.length pc1') W (HO1.out.below h)
  have hc2 := fun W (h : Below w7.heap.size w7 W) => refWCheck_any f1 (.slice pa1' f1.past.length pc1') W (HO1.out.below h)
  have hc3 := fun W (h : Below w7.heap.size w7 W) => wbytes_any f1 (.slice pa1' f1.past.length pc1') W (HO1.out.below h)
  have hc4 := fun W (h : Below w7.heap.size w7 W) => refWBytes_any f1 (.slice pa1' f1.past.length pc1') W (HO1.out.below h)
  have hc5 := fun W (h : Below w7.heap.size w7 W) => wsame_any f1 f2 (.slice pa1' f1.past.length pc1') (.slice pa2' f2.past.length pc2') W (HO1.out.below h) (HO2.out.below h)
  have hc6 := fun W (h : Below w7.heap.size w7 W) => refWSame_any f1 f2 (.slice pa1' f1.past.length pc1') (.slice pa2' f2.past.length pc2') W (HO1.out.below h) (HO2.out.below h)
  have hc7 := fun W (h : Below w7.heap.size w7 W) => wsame_any f1 f1 (.slice pa1' f1.past.length pc1') (.slice pa1' f1.past.length pc1') W (HO1.out.below h) (HO1.out.below h)
  rw [sameW_self] at hc7
  generalize okW f1 = cb at hc1 hc2
  generalize (⟨(wbV f1).toArray⟩ : ByteArray) = sb at hc3 hc4
  generalize sameW f1 f2 = eb at hc5 hc6
  have z0 : Below w7.heap.size w7 w7.drew := (Below.refl _ w7).drew
  dsimp only [wvs] at hc1 hc2 hc3 hc4 hc5 hc6 hc7
  go_region_held3 (fun w' => (w'.cell? ⟨w.heap.size, 0, none⟩ = some (.string f1.key) ∧ w'.cell? ⟨w.heap.size, 1, none⟩ = some (.string f1.val) ∧ w'.cell? ⟨w.heap.size, 2, none⟩ = some (.bool f1.gone) ∧ w'.cell? ⟨w.heap.size, 3, none⟩ = some (.int .i64 f1.st.1) ∧ w'.cell? ⟨w.heap.size, 4, none⟩ = some (.int .i64 f1.st.2) ∧ w'.cell? ⟨w.heap.size, 5, none⟩ = some (.slice pa1' f1.past.length pc1')) ∧ (w'.cell? ⟨w.heap.size + 1, 0, none⟩ = some (.string f2.key) ∧ w'.cell? ⟨w.heap.size + 1, 1, none⟩ = some (.string f2.val) ∧ w'.cell? ⟨w.heap.size + 1, 2, none⟩ = some (.bool f2.gone) ∧ w'.cell? ⟨w.heap.size + 1, 3, none⟩ = some (.int .i64 f2.st.1) ∧ w'.cell? ⟨w.heap.size + 1, 4, none⟩ = some (.int .i64 f2.st.2) ∧ w'.cell? ⟨w.heap.size + 1, 5, none⟩ = some (.slice pa2' f2.past.length pc2')))
    (first | exact g0 | exact g1 | exact g2 | exact g3 | exact g4 | exact g5 | exact g6 | exact g7)
    (first
      | (go_at_call 13; ((refine (hc1 _ z0).mono ?_); rintro e wa ⟨rfl, ha⟩; have z1 := bstep z0 ha; have g1 := keep12 ha g0))
      | (go_at_call 14; ((refine (hc2 _ z1).mono ?_); rintro e wb ⟨rfl, hb⟩; have z2 := bstep z1 hb; have g2 := keep12 hb g1))
      | (go_at_call 15; ((refine (hc3 _ z2).mono ?_); rintro e wc ⟨rfl, hc⟩; have z3 := bstep z2 hc; have g3 := keep12 hc g2))
      | (go_at_call 16; ((refine (hc4 _ z3).mono ?_); rintro e wd ⟨rfl, hd⟩; have z4 := bstep z3 hd; have g4 := keep12 hd g3))
      | (go_at_call 17; ((with_reducible refine (hc5 _ z4).mono ?_); rintro e we ⟨rfl, he⟩; have z5 := bstep z4 he; have g5 := keep12 he g4))
      | (go_at_call 18; ((refine (hc6 _ z5).mono ?_); rintro e wf ⟨rfl, hf⟩; have z6 := bstep z5 hf; have g6 := keep12 hf g5))
      | (go_at_call 17; ((with_reducible refine (hc7 _ z6).mono ?_); rintro e wg ⟨rfl, hg⟩; have z7 := bstep z6 hg; have g7 := keep12 hg g6)))
  go_wp2
  go_ret
  exact ⟨ret_bool (by simp), bstep HBW7.out z7⟩
end Go.Proofs.Ytkaehjehpclgcaa
