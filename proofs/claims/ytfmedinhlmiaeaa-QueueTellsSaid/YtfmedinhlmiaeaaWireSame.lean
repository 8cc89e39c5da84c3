/- What wire.Same and the document's Same answer of two versions. -/
import Derived.Test.YtfmedinhlmiaeaaGQ27
namespace Go.Proofs.Ytfmedinhlmiaeaa
open Go.RowKit
set_option linter.unusedVariables false
set_option linter.unusedSimpArgs false

def sameW (a b : Wv) : Bool := decide (a.key = b.key) && (decide (a.val = b.val) && (decide (a.gone = b.gone) && (decide (a.st = b.st) && decide (a.past = b.past))))
theorem sameW_iff (a b : Wv) : sameW a b = true ↔ a = b := by
  obtain ⟨k, v, g, s, p⟩ := a
  obtain ⟨k', v', g', s', p'⟩ := b
  simp [sameW]
theorem sameW_self (a : Wv) : sameW a a = true := (sameW_iff a a).2 rfl

set_option maxRecDepth 100000 in
set_option maxHeartbeats 800000 in
theorem refWSameB_any (v1 v2 : Wv) (u1 u2 : Value) (w : World) (h1 : WvB w v1 u1) (h2 : WvB w v2 u2) :
    Calls Try.prog 20 #[.agg (wvs v1 u1), .agg (wvs v2 u2)] w fun e w' => e = .returned (.bool (sameW v1 v2)) ∧ Below w.heap.size w w' := by
  have hb1 : Below w.heap.size w (w.alloc (.cells (wvs v1 u1) 27)) := balloc (Below.refl _ w) _
  have hV1 := VwP.new w v1 u1 27
  have hb2 := balloc (Below.refl _ (w.alloc (.cells (wvs v1 u1) 27))) (.cells (wvs v2 u2) 27)
  have hV2 := VwP.new (w.alloc (.cells (wvs v1 u1) 27)) v2 u2 27
  have hV1' := hV1.keep hb2
  have hA := (h1.below hb1).below hb2
  have hB := (h2.below hb1).below hb2
  have hbw := bstep hb1 hb2
  rw [World.size_alloc] at hV2
  have hps := fun W (k1 : WvB W v1 u1) (k2 : WvB W v2 u2) => refPSame_any u1 u2 v1.past v2.past W h1.len k1.at_ k2.at_
  have heq := eq_stamp
  obtain ⟨a1, c1, hu1, _⟩ := h1.at_
  obtain ⟨a2, c2, hu2, _⟩ := h2.at_
  subst hu1 hu2
  clear h1 h2 hb1 hb2 hV1
  unfold sameW
  obtain ⟨key1, val1, gone1, ⟨n1, t1⟩, past1⟩ := v1
  obtain ⟨key2, val2, gone2, ⟨n2, t2⟩, past2⟩ := v2
  dsimp only [wvs] at *
  have heq1 := fun w' => heq w' n1 t1 n2 t2
  generalize decide (((n1, t1) : Int × Int) = (n2, t2)) = sb at *
  generalize decide (past1 = past2) = pb at *
  clear heq
  go_enter Try.func20, Try.ntmps20
  go_upto_region 1 with fail
  generalize (w.alloc (.cells #[.string key1, .string val1, .bool gone1, .int .i64 n1, .int .i64 t1, .slice a1 past1.length c1] 27)).alloc (.cells #[.string key2, .string val2, .bool gone2, .int .i64 n2, .int .i64 t2, .slice a2 past2.length c2] 27) = w2 at *
  have HA := Lib.hid hA
  have HB := Lib.hid hB
  have HBW := Lib.hid hbw
  have HV1 := Lib.hid hV1'
  have HV2 := Lib.hid hV2
  clear hA hB hbw hV1' hV2
  obtain ⟨x0, x1, x2, x3, x4, x5, _⟩ := HV1.out
  obtain ⟨y0, y1, y2, y3, y4, y5, _⟩ := HV2.out
  dsimp only at x0 x1 x2 x3 x4 y0 y1 y2 y3 y4
  go_wp2_with fail
  refine (hps _ HA.out HB.out).mono ?_
  rintro e w3 ⟨rfl, hb3⟩
  have HV1' := Lib.hid (HV1.out.keep hb3)
  have HV2' := Lib.hid (HV2.out.keep hb3)
  have HBW' := Lib.hid (bstep HBW.out hb3)
  clear x0 x1 x2 x3 x4 x5 y0 y1 y2 y3 y4 y5 HV1 HV2 HBW HA HB hb3 hps
  obtain ⟨x0, x1, x2, x3, x4, x5, _⟩ := HV1'.out
  obtain ⟨y0, y1, y2, y3, y4, y5, _⟩ := HV2'.out
  dsimp only at x0 x1 x2 x3 x4 y0 y1 y2 y3 y4
  cases pb with
  | false =>
    go_wp2
    go_ret
    exact ⟨ret_bool (by simp), HBW'.out⟩
  | true =>
    by_cases hk : key1 = key2
    · subst hk
      by_cases hv : val1 = val2
      · subst hv
        rcases (show gone1 = gone2 ∨ (gone1 = true ∧ gone2 = false) ∨ (gone1 = false ∧ gone2 = true) by cases gone1 <;> cases gone2 <;> simp) with rfl | ⟨rfl, rfl⟩ | ⟨rfl, rfl⟩
        · cases sb with
          | false =>
            go_wp2
            go_ret
            exact ⟨ret_bool (by simp_all), HBW'.out⟩
          | true =>
            go_wp2
            go_ret
            exact ⟨ret_bool (by simp_all), HBW'.out⟩
        · skip
          go_wp2
          go_ret
          exact ⟨ret_bool (by simp_all), HBW'.out⟩
        · skip
          go_wp2
          go_ret
          exact ⟨ret_bool (by simp_all), HBW'.out⟩
      · have hvl : ¬ val1.toList = val2.toList := fun h => hv (ba_inj (by rw [← Lib.toList_data, ← Lib.toList_data]; exact h))
        go_wp2
        go_ret
        exact ⟨ret_bool (by simp_all), HBW'.out⟩
    · have hkl : ¬ key1.toList = key2.toList := fun h => hk (ba_inj (by rw [← Lib.toList_data, ← Lib.toList_data]; exact h))
      go_wp2
      go_ret
      exact ⟨ret_bool (by simp_all), HBW'.out⟩
theorem refWSame_any (v1 v2 : Wv) (u1 u2 : Value) (w : World) (h1 : WvOk w v1 u1) (h2 : WvOk w v2 u2) :
    Calls Try.prog 20 #[.agg (wvs v1 u1), .agg (wvs v2 u2)] w fun e w' => e = .returned (.bool (sameW v1 v2)) ∧ Below w.heap.size w w' := refWSameB_any v1 v2 u1 u2 w h1.big h2.big
end Go.Proofs.Ytfmedinhlmiaeaa
