/- The walk of the law TableTells. -/
import Derived.Test.YtllagelopdedfaaTabFew
import Derived.Test.YtllagelopdedfaaTabRngR
namespace Go.Proofs.Ytllagelopdedfaa
open Go.RowKit Go.ChangeShapes Go.WideShapes Go.ChangeAt Go.Joins
set_option linter.unusedVariables false
set_option linter.unusedSimpArgs false

theorem keep5 {W w' : World} {b1 b2 : Nat} {x1 x2 x3 x4 x5 : Value} (hb : Below W.heap.size W w')
    (h : W.cell? ⟨b1, 0, none⟩ = some x1 ∧ W.cell? ⟨b1, 1, none⟩ = some x2 ∧ W.cell? ⟨b1, 2, none⟩ = some x3 ∧ W.cell? ⟨b2, 0, none⟩ = some x4 ∧ W.cell? ⟨b2, 1, none⟩ = some x5) :
    w'.cell? ⟨b1, 0, none⟩ = some x1 ∧ w'.cell? ⟨b1, 1, none⟩ = some x2 ∧ w'.cell? ⟨b1, 2, none⟩ = some x3 ∧ w'.cell? ⟨b2, 0, none⟩ = some x4 ∧ w'.cell? ⟨b2, 1, none⟩ = some x5 :=
  ⟨kc7 hb h.1, kc7 hb h.2.1, kc7 hb h.2.2.1, kc7 hb h.2.2.2.1, kc7 hb h.2.2.2.2⟩

set_option maxRecDepth 100000 in
set_option maxHeartbeats 3200000 in
theorem walkTableTells (w : World) (a0 b0 c0 : Value) (l0 : List (ByteArray × ByteArray)) (m0 n0 : List Int) (w0 : RowAt KR w a0 l0 ∧ ∀ r ∈ l0, r.1.size ≤ maxLen ∧ r.2.size ≤ maxLen) (x0 : RowAt KI w b0 m0 ∧ ∀ z ∈ m0, -9223372036854775808 ≤ z ∧ z ≤ 9223372036854775807) (y0 : RowAt KI w c0 n0 ∧ ∀ z ∈ n0, -9223372036854775808 ≤ z ∧ z ≤ 9223372036854775807) (key : ByteArray) (w1 : key.size ≤ maxLen) (q0 q1 : Int) (b1 : -9223372036854775808 ≤ q0 ∧ q0 ≤ 9223372036854775807) (b2 : -9223372036854775808 ≤ q1 ∧ q1 ≤ 9223372036854775807) :
    Calls Try.prog 3 #[.agg #[a0, b0, c0], .string key, .agg #[.int .i64 q0, .int .i64 q1]] w fun e w' => e = .returned (.bool true) ∧ Below w.heap.size w w' := by
  obtain ⟨w0, hz⟩ := w0
  obtain ⟨x0, _⟩ := x0
  obtain ⟨y0, _⟩ := y0
  obtain ⟨i1, j1, rfl, hx1, hx2, hx3⟩ := id x0
  obtain ⟨i2, j2, rfl, hy1, hy2, hy3⟩ := id y0
  have HX0 := Lib.hid x0
  have HY0 := Lib.hid y0
  have hfew := fun W hb => few7_any a0 i1 i2 j1 j2 l0 m0 n0 W (w0.below hb) hz (x0.below hb) (y0.below hb)
  obtain ⟨i0, j0, rfl, _⟩ := w0
  clear x0 y0
  clear hz w1
  have hV := VrP.new w (.slice i0 l0.length j0) (.slice i1 m0.length j1) (.slice i2 n0.length j2) 25
  have hb1 := balloc (Below.refl _ w) (.cells #[.slice i0 l0.length j0, .slice i1 m0.length j1, .slice i2 n0.length j2] 25)
  have hb2 := balloc (Below.refl _ (w.alloc (.cells #[.slice i0 l0.length j0, .slice i1 m0.length j1, .slice i2 n0.length j2] 25))) (.cells #[.int .i64 q0, .int .i64 q1] 26)
  have k0 : ((w.alloc (.cells #[.slice i0 l0.length j0, .slice i1 m0.length j1, .slice i2 n0.length j2] 25)).alloc (.cells #[.int .i64 q0, .int .i64 q1] 26)).cell? ⟨w.heap.size + 1, 0, none⟩ = some (.int .i64 q0) := by simp
  have k1 : ((w.alloc (.cells #[.slice i0 l0.length j0, .slice i1 m0.length j1, .slice i2 n0.length j2] 25)).alloc (.cells #[.int .i64 q0, .int .i64 q1] 26)).cell? ⟨w.heap.size + 1, 1, none⟩ = some (.int .i64 q1) := by simp
  have hV1 := hV.keep hb2
  have hb := bstep hb1 hb2
  clear hV hb1 hb2
  go_enter Try.func3, Try.ntmps3
  go_wp2_with fail
  generalize (w.alloc (.cells #[.slice i0 l0.length j0, .slice i1 m0.length j1, .slice i2 n0.length j2] 25)).alloc (.cells #[.int .i64 q0, .int .i64 q1] 26) = wb at *
  refine (awake7_any _).mono ?_
  rintro e wa ⟨rfl, hba⟩
  have k0' := kc7 hba k0
  have k1' := kc7 hba k1
  have hV2 := hV1.keep hba
  have HBA := Lib.hid (bstep hb hba)
  have HV2 := Lib.hid hV2
  clear k0 k1 hV1 hb hba
  obtain ⟨c0, c1, c2, _⟩ := hV2
  go_wp2_with fail
  refine (hfew _ HBA.out).mono ?_
  rintro e w3 ⟨u0, l, n1, n2, rfl, hn1, hn2, ho, hsz, hl9, hb3⟩
  have k0 := kc7 hb3 k0'
  have k1 := kc7 hb3 k1'
  have hV3 := HV2.out.keep hb3
  have hbw3 := bstep HBA.out hb3
  have hlo : w.heap.size < wa.heap.size := HV2.out.lt
  clear hfew c0 c1 c2 k0' k1' hb3 HV2
  obtain ⟨x0, y0, rfl⟩ := ho.shape
  have hwl : w.heap.size < w3.heap.size := hV3.lt
  have hVf := ((hV3.put0 (.slice x0 l.length y0)).put1 (.slice i1 n1 j1)).put2 (.slice i2 n2 j2)
  have hbf : Below w.heap.size w (((w3.setCell ⟨w.heap.size, 0, none⟩ (.slice x0 l.length y0)).setCell ⟨w.heap.size, 1, none⟩ (.slice i1 n1 j1)).setCell ⟨w.heap.size, 2, none⟩ (.slice i2 n2 j2)) := ((hbw3.setCell (p := ⟨w.heap.size, 0, none⟩) (Nat.le_refl _) _).setCell (p := ⟨w.heap.size, 1, none⟩) (Nat.le_refl _) _).setCell (p := ⟨w.heap.size, 2, none⟩) (Nat.le_refl _) _
  have kf0 : (((w3.setCell ⟨w.heap.size, 0, none⟩ (.slice x0 l.length y0)).setCell ⟨w.heap.size, 1, none⟩ (.slice i1 n1 j1)).setCell ⟨w.heap.size, 2, none⟩ (.slice i2 n2 j2)).cell? ⟨w.heap.size + 1, 0, none⟩ = some (.int .i64 q0) := by
    rw [World.cell?_setCell_other _ _ _ _ (by simp), World.cell?_setCell_other _ _ _ _ (by simp), World.cell?_setCell_other _ _ _ _ (by simp)]; exact k0
  have kf1 : (((w3.setCell ⟨w.heap.size, 0, none⟩ (.slice x0 l.length y0)).setCell ⟨w.heap.size, 1, none⟩ (.slice i1 n1 j1)).setCell ⟨w.heap.size, 2, none⟩ (.slice i2 n2 j2)).cell? ⟨w.heap.size + 1, 1, none⟩ = some (.int .i64 q1) := by
    rw [World.cell?_setCell_other _ _ _ _ (by simp), World.cell?_setCell_other _ _ _ _ (by simp), World.cell?_setCell_other _ _ _ _ (by simp)]; exact k1
  have hR : RwAt (((w3.setCell ⟨w.heap.size, 0, none⟩ (.slice x0 l.length y0)).setCell ⟨w.heap.size, 1, none⟩ (.slice i1 n1 j1)).setCell ⟨w.heap.size, 2, none⟩ (.slice i2 n2 j2)) (.slice x0 l.length y0) (.slice i1 n1 j1) (.slice i2 n2 j2) ⟨l, m0.take n1, n0.take n2⟩ :=
    ⟨RowAt.of_own kr_ok (((ho.put7 (ho.lo hlo)).put7 (ho.lo hlo)).put7 (ho.lo hlo)), (HX0.out.take7 hn1).below hbf, (HY0.out.take7 hn2).below hbf, hsz⟩
  obtain ⟨c, hc⟩ : ∃ c : Rw, c = ⟨l, m0.take n1, n0.take n2⟩ := ⟨_, rfl⟩
  have e0 : c.rs.length = l.length := by rw [hc]
  have e1 : c.ow.length = n1 := by rw [hc]; simp; omega
  have e2 : c.pa.length = n2 := by rw [hc]; simp; omega
  rw [← hc] at hR
  have hcp : (0 : Nat) ≤ n2 := Nat.zero_le _
  have hn2m : n2 ≤ 9223372036854775807 := by unfold maxLen at hy2; omega
  have hl9' : c.rs.length ≤ 9 := by rw [e0]; exact hl9
  have HE2 := Lib.hid e2
  have hV3f := hV3.f
  have z0 := hV3.c0
  have z1 := hV3.c1
  have z2 := hV3.c2
  have zf0 := hV3f 0 (by decide)
  have zf1 := hV3f 1 (by decide)
  have zf2 := hV3f 2 (by decide)
  clear hc e0 e1 e2 hV3 hV3f ho hsz HX0 HY0 hbw3 hn1 hn2
  generalize l.length = ll at *
  have HVF := Lib.hid hVf
  have HBF := Lib.hid hbf
  have HKF := Lib.hid (And.intro kf0 kf1)
  have HR := Lib.hid hR
  clear hVf hbf kf0 kf1 hR
  go_upto_region 3 with fail
  clear z0 z1 z2 zf0 zf1 zf2
  generalize ((w3.setCell ⟨w.heap.size, 0, none⟩ (.slice x0 ll y0)).setCell ⟨w.heap.size, 1, none⟩ (.slice i1 n1 j1)).setCell ⟨w.heap.size, 2, none⟩ (.slice i2 n2 j2) = wf at *
  have gA : wf.cell? ⟨w.heap.size, 0, none⟩ = some (.slice x0 ll y0) ∧ wf.cell? ⟨w.heap.size, 1, none⟩ = some (.slice i1 n1 j1) ∧ wf.cell? ⟨w.heap.size, 2, none⟩ = some (.slice i2 n2 j2) ∧ wf.cell? ⟨w.heap.size + 1, 0, none⟩ = some (.int .i64 q0) ∧ wf.cell? ⟨w.heap.size + 1, 1, none⟩ = some (.int .i64 q1) := ⟨HVF.out.c0, HVF.out.c1, HVF.out.c2, HKF.out.1, HKF.out.2⟩
  have hrg := fun W (hb : Below wf.heap.size wf W) => ranges7_any c _ _ _ q0 W (HR.out.below hb) b1
  have hrr := fun W (hb : Below wf.heap.size wf W) => refRanges7_any c _ _ _ q0 W (HR.out.below hb) (by omega) b1
  have hck := fun W (hb : Below wf.heap.size wf W) => check7_any c _ _ _ W (HR.out.below hb)
  have hckr := fun W (hb : Below wf.heap.size wf W) => refCheck7_any c _ _ _ W (HR.out.below hb) (by omega)
  have hst := fun W (hb : Below wf.heap.size wf W) => sites_any c (.slice x0 ll y0) (.slice i1 n1 j1) _ W (HR.out.below hb).pa
  rw [HE2.out] at hst
  have hon := fun W (hb : Below wf.heap.size wf W) => owners7_any c _ _ _ key W (HR.out.below hb)
  have honr := fun W (hb : Below wf.heap.size wf W) => refOwners7_any c _ _ _ key W (HR.out.below hb) (by omega)
  have hos := fun W (hb : Below wf.heap.size wf W) => owns7_any c _ _ _ q0 key W (HR.out.below hb) b1
  have hosr := fun W (hb : Below wf.heap.size wf W) => refOwns7_any c _ _ _ q0 key W (HR.out.below hb) (by omega) b1
  have hfs := fun W (hb : Below wf.heap.size wf W) => first7_any c _ _ _ key W (HR.out.below hb)
  have hfsr := fun W (hb : Below wf.heap.size wf W) => refFirst7_any c _ _ _ key W (HR.out.below hb) (by omega)
  have hmn := fun W => many7_any q1 W b2
  have hmnr := fun W => refMany7_any q1 W b2
  have hln : (rngsN c q0).length ≤ 100 := by
    unfold rngsN
    split
    · rw [List.length_map]
      refine Nat.le_trans (List.length_filter_le _ _) ?_
      simp
      omega
    · simp
  have hlt7 := ownN_lt c key.data.toList
  generalize tOk c = okc at *
  generalize bitN (ownN c key.data.toList) q0 = bt at *
  generalize firstN (ownN c key.data.toList) = fN at *
  generalize ownN c key.data.toList = oN at *
  generalize manyI q1 = mI at *
  have HBD : Hid (Below wf.heap.size wf wf.drew) := Lib.hid (Below.refl _ _).drew
  clear HVF HKF HR HE2 hl9 hl9'
  go_wp2_with fail
  refine wp_region_held_drew (S := fun w' => w'.cell? ⟨w.heap.size, 0, none⟩ = some (.slice x0 ll y0) ∧ w'.cell? ⟨w.heap.size, 1, none⟩ = some (.slice i1 n1 j1) ∧ w'.cell? ⟨w.heap.size, 2, none⟩ = some (.slice i2 n2 j2) ∧ w'.cell? ⟨w.heap.size + 1, 0, none⟩ = some (.int .i64 q0) ∧ w'.cell? ⟨w.heap.size + 1, 1, none⟩ = some (.int .i64 q1)) (by kernel_rfl) (gA) (fun hHeld => ?_)
  refine wpAnyH_take (i := 0) (v := ?va0) rfl (by kernel_rfl) (by kernel_rfl) (by kernel_rfl) (fun _ _ _ h => h) (Or.inl ⟨by rfl, ?ya0⟩) (by assumption) ?ra0
  case ya0 => (intro w hSw; (try dsimp only at hSw); go_simp; try with_reducible rfl)
  try simp only [Act.put, List.setIfInBounds_toArray, List.set_cons_zero, List.set_cons_succ, List.getElem_toArray, List.getElem_cons_zero, List.getElem_cons_succ]
  refine wpAnyH_take (i := 1) (v := ?va1) rfl (by kernel_rfl) (by kernel_rfl) (by kernel_rfl) (fun _ _ _ h => h) (Or.inl ⟨by rfl, ?ya1⟩) (by assumption) ?ra1
  case ya1 => (intro w hSw; (try dsimp only at hSw); go_simp; try with_reducible rfl)
  try simp only [Act.put, List.setIfInBounds_toArray, List.set_cons_zero, List.set_cons_succ, List.getElem_toArray, List.getElem_cons_zero, List.getElem_cons_succ]
  refine wpAnyH_take (i := 2) (v := ?va2) rfl (by kernel_rfl) (by kernel_rfl) (by kernel_rfl) (fun _ _ _ h => h) (Or.inl ⟨by rfl, ?ya2⟩) (by assumption) ?ra2
  case ya2 => (intro w hSw; (try dsimp only at hSw); go_simp; try with_reducible rfl)
  try simp only [Act.put, List.setIfInBounds_toArray, List.set_cons_zero, List.set_cons_succ, List.getElem_toArray, List.getElem_cons_zero, List.getElem_cons_succ]
  refine wpAnyH_take (i := 4) (v := ?va4) rfl (by kernel_rfl) (by kernel_rfl) (by kernel_rfl) (fun _ _ _ h => h) (Or.inl ⟨by rfl, ?ya4⟩) (by assumption) ?ra4
  case ya4 => (intro w hSw; (try dsimp only at hSw); go_simp; try with_reducible rfl)
  try simp only [Act.put, List.setIfInBounds_toArray, List.set_cons_zero, List.set_cons_succ, List.getElem_toArray, List.getElem_cons_zero, List.getElem_cons_succ]
  refine wpAnyH_take (i := 5) (v := ?va5) rfl (by kernel_rfl) (by kernel_rfl) (by kernel_rfl) (fun _ _ _ h => h) (Or.inl ⟨by rfl, ?ya5⟩) (by assumption) ?ra5
  case ya5 => (intro w hSw; (try dsimp only at hSw); go_simp; try with_reducible rfl)
  try simp only [Act.put, List.setIfInBounds_toArray, List.set_cons_zero, List.set_cons_succ, List.getElem_toArray, List.getElem_cons_zero, List.getElem_cons_succ]
  refine wpAnyH_take (i := 6) (v := ?va6) rfl (by kernel_rfl) (by kernel_rfl) (by kernel_rfl) (fun _ _ _ h => h) (Or.inl ⟨by rfl, ?ya6⟩) (by assumption) ?ra6
  case ya6 => (intro w hSw; (try dsimp only at hSw); go_simp; try with_reducible rfl)
  try simp only [Act.put, List.setIfInBounds_toArray, List.set_cons_zero, List.set_cons_succ, List.getElem_toArray, List.getElem_cons_zero, List.getElem_cons_succ]
  refine wpAnyH_ready (rs := [3]) (by kernel_rfl) (by simp) ?_
  refine AllReadyH.cons rfl (fun K hK => ?_) AllReadyH.nil
  go_simp
  go_at_call 15
  refine (hrg _ (HBD.out)).mono ?_
  rintro e va1 ⟨rv1, rfl, ho1, qa1⟩
  have ag1 := keep5 qa1 gA
  go_wp2_with fail
  refine hK.out _ _ (ag1) (fun hHeld => ?_)
  clear hK K
  try simp only [Act.put, List.setIfInBounds_toArray, List.set_cons_zero, List.set_cons_succ, List.getElem_toArray, List.getElem_cons_zero, List.getElem_cons_succ]
  refine wpAnyH_ready (rs := [7]) (by kernel_rfl) (by simp) ?_
  refine AllReadyH.cons rfl (fun K hK => ?_) AllReadyH.nil
  go_simp
  go_at_call 16
  refine (hrr _ (bstep (HBD.out) qa1)).mono ?_
  rintro e va2 ⟨rv2, rfl, ho2, qa2⟩
  have ag2 := keep5 qa2 ag1
  go_wp2_with fail
  refine hK.out _ _ (ag2) (fun hHeld => ?_)
  clear hK K
  try simp only [Act.put, List.setIfInBounds_toArray, List.set_cons_zero, List.set_cons_succ, List.getElem_toArray, List.getElem_cons_zero, List.getElem_cons_succ]
  refine wpAnyH_ready (rs := [8]) (by kernel_rfl) (by simp) ?_
  refine AllReadyH.cons rfl (fun K hK => ?_) AllReadyH.nil
  go_simp
  go_at_call 14
  refine (sameRanges7_any rv1 rv2 (rngsN c q0) _ hln ((RowAt.of_own kr_ok ho1).below qa2) (RowAt.of_own kr_ok ho2)).mono ?_
  rintro e va3 ⟨rfl, qa3⟩
  have ag3 := keep5 qa3 ag2
  go_wp2_with fail
  refine hK.out _ _ (ag3) (fun hHeld => ?_)
  clear hK K
  try simp only [Act.put, List.setIfInBounds_toArray, List.set_cons_zero, List.set_cons_succ, List.getElem_toArray, List.getElem_cons_zero, List.getElem_cons_succ]
  refine wpAnyH_take (i := 9) (v := ?va9) rfl (by kernel_rfl) (by kernel_rfl) (by kernel_rfl) (fun _ _ _ h => h) (Or.inl ⟨by rfl, ?ya9⟩) (by assumption) ?ra9
  case ya9 => (intro w hSw; (try dsimp only at hSw); go_simp; try with_reducible rfl)
  try simp only [Act.put, List.setIfInBounds_toArray, List.set_cons_zero, List.set_cons_succ, List.getElem_toArray, List.getElem_cons_zero, List.getElem_cons_succ]
  refine wpAnyH_done (by kernel_rfl) ?_ _
  have HB3 := Lib.hid (bstep (bstep (bstep (HBD.out) qa1) qa2) qa3)
  have hgB := ag3
  clear ag1 ag2 ag3 qa1 qa2 qa3 ho1 ho2 gA hrg hrr hln hHeld
  go_upto_region 4 with fail
  generalize va3 = wq at *
  have HBE : Hid (Below wf.heap.size wf wq.drew) := Lib.hid HB3.out.drew
  have gB : wq.cell? ⟨w.heap.size, 0, none⟩ = some (.slice x0 ll y0) ∧ wq.cell? ⟨w.heap.size, 1, none⟩ = some (.slice i1 n1 j1) ∧ wq.cell? ⟨w.heap.size, 2, none⟩ = some (.slice i2 n2 j2) ∧ wq.cell? ⟨w.heap.size + 1, 0, none⟩ = some (.int .i64 q0) ∧ wq.cell? ⟨w.heap.size + 1, 1, none⟩ = some (.int .i64 q1) := hgB
  clear hgB HB3 HBD
  go_wp2_with fail
  refine wp_region_held_drew (S := fun w' => w'.cell? ⟨w.heap.size, 0, none⟩ = some (.slice x0 ll y0) ∧ w'.cell? ⟨w.heap.size, 1, none⟩ = some (.slice i1 n1 j1) ∧ w'.cell? ⟨w.heap.size, 2, none⟩ = some (.slice i2 n2 j2) ∧ w'.cell? ⟨w.heap.size + 1, 0, none⟩ = some (.int .i64 q0) ∧ w'.cell? ⟨w.heap.size + 1, 1, none⟩ = some (.int .i64 q1)) (by kernel_rfl) (gB) (fun hHeld => ?_)
  refine wpAnyH_take (i := 0) (v := ?vb0) rfl (by kernel_rfl) (by kernel_rfl) (by kernel_rfl) (fun _ _ _ h => h) (Or.inl ⟨by rfl, ?yb0⟩) (by assumption) ?rb0
  case yb0 => (intro w hSw; (try dsimp only at hSw); go_simp; try with_reducible rfl)
  try simp only [Act.put, List.setIfInBounds_toArray, List.set_cons_zero, List.set_cons_succ, List.getElem_toArray, List.getElem_cons_zero, List.getElem_cons_succ]
  refine wpAnyH_take (i := 1) (v := ?vb1) rfl (by kernel_rfl) (by kernel_rfl) (by kernel_rfl) (fun _ _ _ h => h) (Or.inl ⟨by rfl, ?yb1⟩) (by assumption) ?rb1
  case yb1 => (intro w hSw; (try dsimp only at hSw); go_simp; try with_reducible rfl)
  try simp only [Act.put, List.setIfInBounds_toArray, List.set_cons_zero, List.set_cons_succ, List.getElem_toArray, List.getElem_cons_zero, List.getElem_cons_succ]
  refine wpAnyH_take (i := 2) (v := ?vb2) rfl (by kernel_rfl) (by kernel_rfl) (by kernel_rfl) (fun _ _ _ h => h) (Or.inl ⟨by rfl, ?yb2⟩) (by assumption) ?rb2
  case yb2 => (intro w hSw; (try dsimp only at hSw); go_simp; try with_reducible rfl)
  try simp only [Act.put, List.setIfInBounds_toArray, List.set_cons_zero, List.set_cons_succ, List.getElem_toArray, List.getElem_cons_zero, List.getElem_cons_succ]
  refine wpAnyH_take (i := 3) (v := ?vb3) rfl (by kernel_rfl) (by kernel_rfl) (by kernel_rfl) (fun _ _ _ h => h) (Or.inl ⟨by rfl, ?yb3⟩) (by assumption) ?rb3
  case yb3 => (intro w hSw; (try dsimp only at hSw); go_simp; try with_reducible rfl)
  try simp only [Act.put, List.setIfInBounds_toArray, List.set_cons_zero, List.set_cons_succ, List.getElem_toArray, List.getElem_cons_zero, List.getElem_cons_succ]
  refine wpAnyH_take (i := 4) (v := ?vb4) rfl (by kernel_rfl) (by kernel_rfl) (by kernel_rfl) (fun _ _ _ h => h) (Or.inl ⟨by rfl, ?yb4⟩) (by assumption) ?rb4
  case yb4 => (intro w hSw; (try dsimp only at hSw); go_simp; try with_reducible rfl)
  try simp only [Act.put, List.setIfInBounds_toArray, List.set_cons_zero, List.set_cons_succ, List.getElem_toArray, List.getElem_cons_zero, List.getElem_cons_succ]
  refine wpAnyH_take (i := 5) (v := ?vb5) rfl (by kernel_rfl) (by kernel_rfl) (by kernel_rfl) (fun _ _ _ h => h) (Or.inl ⟨by rfl, ?yb5⟩) (by assumption) ?rb5
  case yb5 => (intro w hSw; (try dsimp only at hSw); go_simp; try with_reducible rfl)
  try simp only [Act.put, List.setIfInBounds_toArray, List.set_cons_zero, List.set_cons_succ, List.getElem_toArray, List.getElem_cons_zero, List.getElem_cons_succ]
  refine wpAnyH_take (i := 7) (v := ?vb7) rfl (by kernel_rfl) (by kernel_rfl) (by kernel_rfl) (fun _ _ _ h => h) (Or.inl ⟨by rfl, ?yb7⟩) (by assumption) ?rb7
  case yb7 => (intro w hSw; (try dsimp only at hSw); go_simp; try with_reducible rfl)
  try simp only [Act.put, List.setIfInBounds_toArray, List.set_cons_zero, List.set_cons_succ, List.getElem_toArray, List.getElem_cons_zero, List.getElem_cons_succ]
  refine wpAnyH_ready (rs := [6]) (by kernel_rfl) (by simp) ?_
  refine AllReadyH.cons rfl (fun K hK => ?_) AllReadyH.nil
  go_simp
  go_at_call 17
  refine (hck _ (HBE.out)).mono ?_
  rintro e vb1 ⟨rfl, qb1⟩
  have bg1 := keep5 qb1 gB
  go_wp2_with fail
  refine hK.out _ _ (bg1) (fun hHeld => ?_)
  clear hK K
  try simp only [Act.put, List.setIfInBounds_toArray, List.set_cons_zero, List.set_cons_succ, List.getElem_toArray, List.getElem_cons_zero, List.getElem_cons_succ]
  refine wpAnyH_ready (rs := [8]) (by kernel_rfl) (by simp) ?_
  refine AllReadyH.cons rfl (fun K hK => ?_) AllReadyH.nil
  go_simp
  go_at_call 18
  refine (hckr _ (bstep (HBE.out) qb1)).mono ?_
  rintro e vb2 ⟨rfl, qb2⟩
  have bg2 := keep5 qb2 bg1
  go_wp2_with fail
  refine hK.out _ _ (bg2) (fun hHeld => ?_)
  clear hK K
  try simp only [Act.put, List.setIfInBounds_toArray, List.set_cons_zero, List.set_cons_succ, List.getElem_toArray, List.getElem_cons_zero, List.getElem_cons_succ]
  refine wpAnyH_take (i := 9) (v := ?vb9) rfl (by kernel_rfl) (by kernel_rfl) (by kernel_rfl) (fun _ _ _ h => h) (Or.inl ⟨by rfl, ?yb9⟩) (by assumption) ?rb9
  case yb9 => (intro w hSw; (try dsimp only at hSw); go_simp; try with_reducible rfl)
  try simp only [Act.put, List.setIfInBounds_toArray, List.set_cons_zero, List.set_cons_succ, List.getElem_toArray, List.getElem_cons_zero, List.getElem_cons_succ]
  refine wpAnyH_take (i := 10) (v := ?vb10) rfl (by kernel_rfl) (by kernel_rfl) (by kernel_rfl) (fun _ _ _ h => h) (Or.inl ⟨by rfl, ?yb10⟩) (by assumption) ?rb10
  case yb10 => (intro w hSw; (try dsimp only at hSw); go_simp; try with_reducible rfl)
  try simp only [Act.put, List.setIfInBounds_toArray, List.set_cons_zero, List.set_cons_succ, List.getElem_toArray, List.getElem_cons_zero, List.getElem_cons_succ]
  refine wpAnyH_take (i := 11) (v := ?vb11) rfl (by kernel_rfl) (by kernel_rfl) (by kernel_rfl) (fun _ _ _ h => h) (Or.inl ⟨by rfl, ?yb11⟩) (by assumption) ?rb11
  case yb11 => (intro w hSw; (try dsimp only at hSw); go_simp; try with_reducible rfl)
  try simp only [Act.put, List.setIfInBounds_toArray, List.set_cons_zero, List.set_cons_succ, List.getElem_toArray, List.getElem_cons_zero, List.getElem_cons_succ]
  refine wpAnyH_take (i := 12) (v := ?vb12) rfl (by kernel_rfl) (by kernel_rfl) (by kernel_rfl) (fun _ _ _ h => h) (Or.inl ⟨by rfl, ?yb12⟩) (by assumption) ?rb12
  case yb12 => (intro w hSw; (try dsimp only at hSw); go_simp; try with_reducible rfl)
  try simp only [Act.put, List.setIfInBounds_toArray, List.set_cons_zero, List.set_cons_succ, List.getElem_toArray, List.getElem_cons_zero, List.getElem_cons_succ]
  refine wpAnyH_take (i := 14) (v := ?vb14) rfl (by kernel_rfl) (by kernel_rfl) (by kernel_rfl) (fun _ _ _ h => h) (Or.inl ⟨by rfl, ?yb14⟩) (by assumption) ?rb14
  case yb14 => (intro w hSw; (try dsimp only at hSw); go_simp; try with_reducible rfl)
  try simp only [Act.put, List.setIfInBounds_toArray, List.set_cons_zero, List.set_cons_succ, List.getElem_toArray, List.getElem_cons_zero, List.getElem_cons_succ]
  refine wpAnyH_take (i := 15) (v := ?vb15) rfl (by kernel_rfl) (by kernel_rfl) (by kernel_rfl) (fun _ _ _ h => h) (Or.inl ⟨by rfl, ?yb15⟩) (by assumption) ?rb15
  case yb15 => (intro w hSw; (try dsimp only at hSw); go_simp; try with_reducible rfl)
  try simp only [Act.put, List.setIfInBounds_toArray, List.set_cons_zero, List.set_cons_succ, List.getElem_toArray, List.getElem_cons_zero, List.getElem_cons_succ]
  refine wpAnyH_take (i := 16) (v := ?vb16) rfl (by kernel_rfl) (by kernel_rfl) (by kernel_rfl) (fun _ _ _ h => h) (Or.inl ⟨by rfl, ?yb16⟩) (by assumption) ?rb16
  case yb16 => (intro w hSw; (try dsimp only at hSw); go_simp; try with_reducible rfl)
  try simp only [Act.put, List.setIfInBounds_toArray, List.set_cons_zero, List.set_cons_succ, List.getElem_toArray, List.getElem_cons_zero, List.getElem_cons_succ]
  refine wpAnyH_ready (rs := [13]) (by kernel_rfl) (by simp) ?_
  refine AllReadyH.cons rfl (fun K hK => ?_) AllReadyH.nil
  go_simp
  go_at_call 19
  refine (hst _ (bstep (bstep (HBE.out) qb1) qb2)).mono ?_
  rintro e vb3 ⟨rfl, qb3⟩
  have bg3 := keep5 qb3 bg2
  go_wp2_with fail
  refine hK.out _ _ (bg3) (fun hHeld => ?_)
  clear hK K
  try simp only [Act.put, List.setIfInBounds_toArray, List.set_cons_zero, List.set_cons_succ, List.getElem_toArray, List.getElem_cons_zero, List.getElem_cons_succ]
  refine wpAnyH_take (i := 17) (v := ?vb17) rfl (by kernel_rfl) (by kernel_rfl) (by kernel_rfl) (fun _ _ _ h => h) (Or.inl ⟨by rfl, ?yb17⟩) (by assumption) ?rb17
  case yb17 => (intro w hSw; (try dsimp only at hSw); go_simp; try with_reducible rfl)
  try simp only [Act.put, List.setIfInBounds_toArray, List.set_cons_zero, List.set_cons_succ, List.getElem_toArray, List.getElem_cons_zero, List.getElem_cons_succ]
  refine wpAnyH_take (i := 18) (v := ?vb18) rfl (by kernel_rfl) (by kernel_rfl) (by kernel_rfl) (fun _ _ _ h => h) (Or.inl ⟨by rfl, ?yb18⟩) (by assumption) ?rb18
  case yb18 => (intro w hSw; (try dsimp only at hSw); go_simp; try with_reducible rfl)
  try simp only [Act.put, List.setIfInBounds_toArray, List.set_cons_zero, List.set_cons_succ, List.getElem_toArray, List.getElem_cons_zero, List.getElem_cons_succ]
  refine wpAnyH_take (i := 19) (v := ?vb19) rfl (by kernel_rfl) (by kernel_rfl) (by kernel_rfl) (fun _ _ _ h => h) (Or.inl ⟨by rfl, ?yb19⟩) (by assumption) ?rb19
  case yb19 => (intro w hSw; (try dsimp only at hSw); go_simp; try with_reducible rfl)
  try simp only [Act.put, List.setIfInBounds_toArray, List.set_cons_zero, List.set_cons_succ, List.getElem_toArray, List.getElem_cons_zero, List.getElem_cons_succ]
  refine wpAnyH_take (i := 20) (v := ?vb20) rfl (by kernel_rfl) (by kernel_rfl) (by kernel_rfl) (fun _ _ _ h => h) (Or.inl ⟨by rfl, ?yb20⟩) (by assumption) ?rb20
  case yb20 => (intro w hSw; (try dsimp only at hSw); go_simp; try with_reducible rfl)
  try simp only [Act.put, List.setIfInBounds_toArray, List.set_cons_zero, List.set_cons_succ, List.getElem_toArray, List.getElem_cons_zero, List.getElem_cons_succ]
  refine wpAnyH_take (i := 21) (v := ?vb21) rfl (by kernel_rfl) (by kernel_rfl) (by kernel_rfl) (fun _ _ _ h => h) (Or.inl ⟨by rfl, ?yb21⟩) (by assumption) ?rb21
  case yb21 => (intro w hSw; (try dsimp only at hSw); go_simp; try with_reducible rfl)
  try simp only [Act.put, List.setIfInBounds_toArray, List.set_cons_zero, List.set_cons_succ, List.getElem_toArray, List.getElem_cons_zero, List.getElem_cons_succ]
  refine wpAnyH_take (i := 23) (v := ?vb23) rfl (by kernel_rfl) (by kernel_rfl) (by kernel_rfl) (fun _ _ _ h => h) (Or.inl ⟨by rfl, ?yb23⟩) (by assumption) ?rb23
  case yb23 => (intro w hSw; (try dsimp only at hSw); go_simp; try with_reducible rfl)
  try simp only [Act.put, List.setIfInBounds_toArray, List.set_cons_zero, List.set_cons_succ, List.getElem_toArray, List.getElem_cons_zero, List.getElem_cons_succ]
  refine wpAnyH_take (i := 24) (v := ?vb24) rfl (by kernel_rfl) (by kernel_rfl) (by kernel_rfl) (fun _ _ _ h => h) (Or.inl ⟨by rfl, ?yb24⟩) (by assumption) ?rb24
  case yb24 => (intro w hSw; (try dsimp only at hSw); go_simp; try with_reducible rfl)
  try simp only [Act.put, List.setIfInBounds_toArray, List.set_cons_zero, List.set_cons_succ, List.getElem_toArray, List.getElem_cons_zero, List.getElem_cons_succ]
  refine wpAnyH_ready (rs := [22]) (by kernel_rfl) (by simp) ?_
  refine AllReadyH.cons rfl (fun K hK => ?_) AllReadyH.nil
  go_simp
  go_at_call 20
  refine (hon _ (bstep (bstep (bstep (HBE.out) qb1) qb2) qb3)).mono ?_
  rintro e vb4 ⟨rfl, qb4⟩
  have bg4 := keep5 qb4 bg3
  go_wp2_with fail
  refine hK.out _ _ (bg4) (fun hHeld => ?_)
  clear hK K
  try simp only [Act.put, List.setIfInBounds_toArray, List.set_cons_zero, List.set_cons_succ, List.getElem_toArray, List.getElem_cons_zero, List.getElem_cons_succ]
  refine wpAnyH_ready (rs := [25]) (by kernel_rfl) (by simp) ?_
  refine AllReadyH.cons rfl (fun K hK => ?_) AllReadyH.nil
  go_simp
  go_at_call 21
  refine (honr _ (bstep (bstep (bstep (bstep (HBE.out) qb1) qb2) qb3) qb4)).mono ?_
  rintro e vb5 ⟨rfl, qb5⟩
  have bg5 := keep5 qb5 bg4
  go_wp2_with fail
  refine hK.out _ _ (bg5) (fun hHeld => ?_)
  clear hK K
  try simp only [Act.put, List.setIfInBounds_toArray, List.set_cons_zero, List.set_cons_succ, List.getElem_toArray, List.getElem_cons_zero, List.getElem_cons_succ]
  refine wpAnyH_take (i := 26) (v := ?vb26) rfl (by kernel_rfl) (by kernel_rfl) (by kernel_rfl) (fun _ _ _ h => h) (Or.inl ⟨by rfl, ?yb26⟩) (by assumption) ?rb26
  case yb26 => (intro w hSw; (try dsimp only at hSw); go_simp; try with_reducible rfl)
  try simp only [Act.put, List.setIfInBounds_toArray, List.set_cons_zero, List.set_cons_succ, List.getElem_toArray, List.getElem_cons_zero, List.getElem_cons_succ]
  refine wpAnyH_take (i := 27) (v := ?vb27) rfl (by kernel_rfl) (by kernel_rfl) (by kernel_rfl) (fun _ _ _ h => h) (Or.inl ⟨by rfl, ?yb27⟩) (by assumption) ?rb27
  case yb27 => (intro w hSw; (try dsimp only at hSw); go_simp; try with_reducible rfl)
  try simp only [Act.put, List.setIfInBounds_toArray, List.set_cons_zero, List.set_cons_succ, List.getElem_toArray, List.getElem_cons_zero, List.getElem_cons_succ]
  refine wpAnyH_take (i := 28) (v := ?vb28) rfl (by kernel_rfl) (by kernel_rfl) (by kernel_rfl) (fun _ _ _ h => h) (Or.inl ⟨by rfl, ?yb28⟩) (by assumption) ?rb28
  case yb28 => (intro w hSw; (try dsimp only at hSw); go_simp; try with_reducible rfl)
  try simp only [Act.put, List.setIfInBounds_toArray, List.set_cons_zero, List.set_cons_succ, List.getElem_toArray, List.getElem_cons_zero, List.getElem_cons_succ]
  refine wpAnyH_take (i := 29) (v := ?vb29) rfl (by kernel_rfl) (by kernel_rfl) (by kernel_rfl) (fun _ _ _ h => h) (Or.inl ⟨by rfl, ?yb29⟩) (by assumption) ?rb29
  case yb29 => (intro w hSw; (try dsimp only at hSw); go_simp; try with_reducible rfl)
  try simp only [Act.put, List.setIfInBounds_toArray, List.set_cons_zero, List.set_cons_succ, List.getElem_toArray, List.getElem_cons_zero, List.getElem_cons_succ]
  refine wpAnyH_take (i := 30) (v := ?vb30) rfl (by kernel_rfl) (by kernel_rfl) (by kernel_rfl) (fun _ _ _ h => h) (Or.inl ⟨by rfl, ?yb30⟩) (by assumption) ?rb30
  case yb30 => (intro w hSw; (try dsimp only at hSw); go_simp; try with_reducible rfl)
  try simp only [Act.put, List.setIfInBounds_toArray, List.set_cons_zero, List.set_cons_succ, List.getElem_toArray, List.getElem_cons_zero, List.getElem_cons_succ]
  refine wpAnyH_take (i := 31) (v := ?vb31) rfl (by kernel_rfl) (by kernel_rfl) (by kernel_rfl) (fun _ _ _ h => h) (Or.inl ⟨by rfl, ?yb31⟩) (by assumption) ?rb31
  case yb31 => (intro w hSw; (try dsimp only at hSw); go_simp; try with_reducible rfl)
  try simp only [Act.put, List.setIfInBounds_toArray, List.set_cons_zero, List.set_cons_succ, List.getElem_toArray, List.getElem_cons_zero, List.getElem_cons_succ]
  refine wpAnyH_take (i := 32) (v := ?vb32) rfl (by kernel_rfl) (by kernel_rfl) (by kernel_rfl) (fun _ _ _ h => h) (Or.inl ⟨by rfl, ?yb32⟩) (by assumption) ?rb32
  case yb32 => (intro w hSw; (try dsimp only at hSw); go_simp; try with_reducible rfl)
  try simp only [Act.put, List.setIfInBounds_toArray, List.set_cons_zero, List.set_cons_succ, List.getElem_toArray, List.getElem_cons_zero, List.getElem_cons_succ]
  refine wpAnyH_take (i := 34) (v := ?vb34) rfl (by kernel_rfl) (by kernel_rfl) (by kernel_rfl) (fun _ _ _ h => h) (Or.inl ⟨by rfl, ?yb34⟩) (by assumption) ?rb34
  case yb34 => (intro w hSw; (try dsimp only at hSw); go_simp; try with_reducible rfl)
  try simp only [Act.put, List.setIfInBounds_toArray, List.set_cons_zero, List.set_cons_succ, List.getElem_toArray, List.getElem_cons_zero, List.getElem_cons_succ]
  refine wpAnyH_take (i := 35) (v := ?vb35) rfl (by kernel_rfl) (by kernel_rfl) (by kernel_rfl) (fun _ _ _ h => h) (Or.inl ⟨by rfl, ?yb35⟩) (by assumption) ?rb35
  case yb35 => (intro w hSw; (try dsimp only at hSw); go_simp; try with_reducible rfl)
  try simp only [Act.put, List.setIfInBounds_toArray, List.set_cons_zero, List.set_cons_succ, List.getElem_toArray, List.getElem_cons_zero, List.getElem_cons_succ]
  refine wpAnyH_take (i := 36) (v := ?vb36) rfl (by kernel_rfl) (by kernel_rfl) (by kernel_rfl) (fun _ _ _ h => h) (Or.inl ⟨by rfl, ?yb36⟩) (by assumption) ?rb36
  case yb36 => (intro w hSw; (try dsimp only at hSw); go_simp; try with_reducible rfl)
  try simp only [Act.put, List.setIfInBounds_toArray, List.set_cons_zero, List.set_cons_succ, List.getElem_toArray, List.getElem_cons_zero, List.getElem_cons_succ]
  refine wpAnyH_take (i := 37) (v := ?vb37) rfl (by kernel_rfl) (by kernel_rfl) (by kernel_rfl) (fun _ _ _ h => h) (Or.inl ⟨by rfl, ?yb37⟩) (by assumption) ?rb37
  case yb37 => (intro w hSw; (try dsimp only at hSw); go_simp; try with_reducible rfl)
  try simp only [Act.put, List.setIfInBounds_toArray, List.set_cons_zero, List.set_cons_succ, List.getElem_toArray, List.getElem_cons_zero, List.getElem_cons_succ]
  refine wpAnyH_ready (rs := [33]) (by kernel_rfl) (by simp) ?_
  refine AllReadyH.cons rfl (fun K hK => ?_) AllReadyH.nil
  go_simp
  go_at_call 22
  refine (hos _ (bstep (bstep (bstep (bstep (bstep (HBE.out) qb1) qb2) qb3) qb4) qb5)).mono ?_
  rintro e vb6 ⟨rfl, qb6⟩
  have bg6 := keep5 qb6 bg5
  go_wp2_with fail
  refine hK.out _ _ (bg6) (fun hHeld => ?_)
  clear hK K
  try simp only [Act.put, List.setIfInBounds_toArray, List.set_cons_zero, List.set_cons_succ, List.getElem_toArray, List.getElem_cons_zero, List.getElem_cons_succ]
  refine wpAnyH_ready (rs := [38]) (by kernel_rfl) (by simp) ?_
  refine AllReadyH.cons rfl (fun K hK => ?_) AllReadyH.nil
  go_simp
  go_at_call 23
  refine (hosr _ (bstep (bstep (bstep (bstep (bstep (bstep (HBE.out) qb1) qb2) qb3) qb4) qb5) qb6)).mono ?_
  rintro e vb7 ⟨rfl, qb7⟩
  have bg7 := keep5 qb7 bg6
  go_wp2_with fail
  refine hK.out _ _ (bg7) (fun hHeld => ?_)
  clear hK K
  try simp only [Act.put, List.setIfInBounds_toArray, List.set_cons_zero, List.set_cons_succ, List.getElem_toArray, List.getElem_cons_zero, List.getElem_cons_succ]
  refine wpAnyH_take (i := 39) (v := ?vb39) rfl (by kernel_rfl) (by kernel_rfl) (by kernel_rfl) (fun _ _ _ h => h) (Or.inl ⟨by rfl, ?yb39⟩) (by assumption) ?rb39
  case yb39 => (intro w hSw; (try dsimp only at hSw); go_simp; try with_reducible rfl)
  try simp only [Act.put, List.setIfInBounds_toArray, List.set_cons_zero, List.set_cons_succ, List.getElem_toArray, List.getElem_cons_zero, List.getElem_cons_succ]
  refine wpAnyH_take (i := 40) (v := ?vb40) rfl (by kernel_rfl) (by kernel_rfl) (by kernel_rfl) (fun _ _ _ h => h) (Or.inl ⟨by rfl, ?yb40⟩) (by assumption) ?rb40
  case yb40 => (intro w hSw; (try dsimp only at hSw); go_simp; try with_reducible rfl)
  try simp only [Act.put, List.setIfInBounds_toArray, List.set_cons_zero, List.set_cons_succ, List.getElem_toArray, List.getElem_cons_zero, List.getElem_cons_succ]
  refine wpAnyH_take (i := 41) (v := ?vb41) rfl (by kernel_rfl) (by kernel_rfl) (by kernel_rfl) (fun _ _ _ h => h) (Or.inl ⟨by rfl, ?yb41⟩) (by assumption) ?rb41
  case yb41 => (intro w hSw; (try dsimp only at hSw); go_simp; try with_reducible rfl)
  try simp only [Act.put, List.setIfInBounds_toArray, List.set_cons_zero, List.set_cons_succ, List.getElem_toArray, List.getElem_cons_zero, List.getElem_cons_succ]
  refine wpAnyH_take (i := 42) (v := ?vb42) rfl (by kernel_rfl) (by kernel_rfl) (by kernel_rfl) (fun _ _ _ h => h) (Or.inl ⟨by rfl, ?yb42⟩) (by assumption) ?rb42
  case yb42 => (intro w hSw; (try dsimp only at hSw); go_simp; try with_reducible rfl)
  try simp only [Act.put, List.setIfInBounds_toArray, List.set_cons_zero, List.set_cons_succ, List.getElem_toArray, List.getElem_cons_zero, List.getElem_cons_succ]
  refine wpAnyH_take (i := 43) (v := ?vb43) rfl (by kernel_rfl) (by kernel_rfl) (by kernel_rfl) (fun _ _ _ h => h) (Or.inl ⟨by rfl, ?yb43⟩) (by assumption) ?rb43
  case yb43 => (intro w hSw; (try dsimp only at hSw); go_simp; try with_reducible rfl)
  try simp only [Act.put, List.setIfInBounds_toArray, List.set_cons_zero, List.set_cons_succ, List.getElem_toArray, List.getElem_cons_zero, List.getElem_cons_succ]
  refine wpAnyH_take (i := 45) (v := ?vb45) rfl (by kernel_rfl) (by kernel_rfl) (by kernel_rfl) (fun _ _ _ h => h) (Or.inl ⟨by rfl, ?yb45⟩) (by assumption) ?rb45
  case yb45 => (intro w hSw; (try dsimp only at hSw); go_simp; try with_reducible rfl)
  try simp only [Act.put, List.setIfInBounds_toArray, List.set_cons_zero, List.set_cons_succ, List.getElem_toArray, List.getElem_cons_zero, List.getElem_cons_succ]
  refine wpAnyH_take (i := 46) (v := ?vb46) rfl (by kernel_rfl) (by kernel_rfl) (by kernel_rfl) (fun _ _ _ h => h) (Or.inl ⟨by rfl, ?yb46⟩) (by assumption) ?rb46
  case yb46 => (intro w hSw; (try dsimp only at hSw); go_simp; try with_reducible rfl)
  try simp only [Act.put, List.setIfInBounds_toArray, List.set_cons_zero, List.set_cons_succ, List.getElem_toArray, List.getElem_cons_zero, List.getElem_cons_succ]
  refine wpAnyH_ready (rs := [44]) (by kernel_rfl) (by simp) ?_
  refine AllReadyH.cons rfl (fun K hK => ?_) AllReadyH.nil
  go_simp
  go_at_call 24
  refine (hfs _ (bstep (bstep (bstep (bstep (bstep (bstep (bstep (HBE.out) qb1) qb2) qb3) qb4) qb5) qb6) qb7)).mono ?_
  rintro e vb8 ⟨rfl, qb8⟩
  have bg8 := keep5 qb8 bg7
  go_wp2_with fail
  refine hK.out _ _ (bg8) (fun hHeld => ?_)
  clear hK K
  try simp only [Act.put, List.setIfInBounds_toArray, List.set_cons_zero, List.set_cons_succ, List.getElem_toArray, List.getElem_cons_zero, List.getElem_cons_succ]
  refine wpAnyH_ready (rs := [47]) (by kernel_rfl) (by simp) ?_
  refine AllReadyH.cons rfl (fun K hK => ?_) AllReadyH.nil
  go_simp
  go_at_call 25
  refine (hfsr _ (bstep (bstep (bstep (bstep (bstep (bstep (bstep (bstep (HBE.out) qb1) qb2) qb3) qb4) qb5) qb6) qb7) qb8)).mono ?_
  rintro e vb9 ⟨rfl, qb9⟩
  have bg9 := keep5 qb9 bg8
  go_wp2_with fail
  refine hK.out _ _ (bg9) (fun hHeld => ?_)
  clear hK K
  try simp only [Act.put, List.setIfInBounds_toArray, List.set_cons_zero, List.set_cons_succ, List.getElem_toArray, List.getElem_cons_zero, List.getElem_cons_succ]
  refine wpAnyH_take (i := 48) (v := ?vb48) rfl (by kernel_rfl) (by kernel_rfl) (by kernel_rfl) (fun _ _ _ h => h) (Or.inl ⟨by rfl, ?yb48⟩) (by assumption) ?rb48
  case yb48 => (intro w hSw; (try dsimp only at hSw); go_simp; try with_reducible rfl)
  try simp only [Act.put, List.setIfInBounds_toArray, List.set_cons_zero, List.set_cons_succ, List.getElem_toArray, List.getElem_cons_zero, List.getElem_cons_succ]
  refine wpAnyH_take (i := 49) (v := ?vb49) rfl (by kernel_rfl) (by kernel_rfl) (by kernel_rfl) (fun _ _ _ h => h) (Or.inl ⟨by rfl, ?yb49⟩) (by assumption) ?rb49
  case yb49 => (intro w hSw; (try dsimp only at hSw); go_simp; try with_reducible rfl)
  try simp only [Act.put, List.setIfInBounds_toArray, List.set_cons_zero, List.set_cons_succ, List.getElem_toArray, List.getElem_cons_zero, List.getElem_cons_succ]
  refine wpAnyH_take (i := 50) (v := ?vb50) rfl (by kernel_rfl) (by kernel_rfl) (by kernel_rfl) (fun _ _ _ h => h) (Or.inl ⟨by rfl, ?yb50⟩) (by assumption) ?rb50
  case yb50 => (intro w hSw; (try dsimp only at hSw); go_simp; try with_reducible rfl)
  try simp only [Act.put, List.setIfInBounds_toArray, List.set_cons_zero, List.set_cons_succ, List.getElem_toArray, List.getElem_cons_zero, List.getElem_cons_succ]
  refine wpAnyH_take (i := 51) (v := ?vb51) rfl (by kernel_rfl) (by kernel_rfl) (by kernel_rfl) (fun _ _ _ h => h) (Or.inl ⟨by rfl, ?yb51⟩) (by assumption) ?rb51
  case yb51 => (intro w hSw; (try dsimp only at hSw); go_simp; try with_reducible rfl)
  try simp only [Act.put, List.setIfInBounds_toArray, List.set_cons_zero, List.set_cons_succ, List.getElem_toArray, List.getElem_cons_zero, List.getElem_cons_succ]
  refine wpAnyH_take (i := 52) (v := ?vb52) rfl (by kernel_rfl) (by kernel_rfl) (by kernel_rfl) (fun _ _ _ h => h) (Or.inl ⟨by rfl, ?yb52⟩) (by assumption) ?rb52
  case yb52 => (intro w hSw; (try dsimp only at hSw); go_simp; try with_reducible rfl)
  try simp only [Act.put, List.setIfInBounds_toArray, List.set_cons_zero, List.set_cons_succ, List.getElem_toArray, List.getElem_cons_zero, List.getElem_cons_succ]
  refine wpAnyH_take (i := 54) (v := ?vb54) rfl (by kernel_rfl) (by kernel_rfl) (by kernel_rfl) (fun _ _ _ h => h) (Or.inl ⟨by rfl, ?yb54⟩) (by assumption) ?rb54
  case yb54 => (intro w hSw; (try dsimp only at hSw); go_simp; try with_reducible rfl)
  try simp only [Act.put, List.setIfInBounds_toArray, List.set_cons_zero, List.set_cons_succ, List.getElem_toArray, List.getElem_cons_zero, List.getElem_cons_succ]
  refine wpAnyH_take (i := 55) (v := ?vb55) rfl (by kernel_rfl) (by kernel_rfl) (by kernel_rfl) (fun _ _ _ h => h) (Or.inl ⟨by rfl, ?yb55⟩) (by assumption) ?rb55
  case yb55 => (intro w hSw; (try dsimp only at hSw); go_simp; try with_reducible rfl)
  try simp only [Act.put, List.setIfInBounds_toArray, List.set_cons_zero, List.set_cons_succ, List.getElem_toArray, List.getElem_cons_zero, List.getElem_cons_succ]
  refine wpAnyH_ready (rs := [53]) (by kernel_rfl) (by simp) ?_
  refine AllReadyH.cons rfl (fun K hK => ?_) AllReadyH.nil
  go_simp
  go_at_call 26
  refine (hmn _).mono ?_
  rintro e vb10 ⟨rfl, rfl⟩
  have bg10 := bg9
  go_wp2_with fail
  refine hK.out _ _ (bg10) (fun hHeld => ?_)
  clear hK K
  try simp only [Act.put, List.setIfInBounds_toArray, List.set_cons_zero, List.set_cons_succ, List.getElem_toArray, List.getElem_cons_zero, List.getElem_cons_succ]
  refine wpAnyH_ready (rs := [56]) (by kernel_rfl) (by simp) ?_
  refine AllReadyH.cons rfl (fun K hK => ?_) AllReadyH.nil
  go_simp
  go_at_call 27
  refine (hmnr _).mono ?_
  rintro e vb11 ⟨rfl, rfl⟩
  have bg11 := bg10
  go_wp2_with fail
  refine hK.out _ _ (bg11) (fun hHeld => ?_)
  clear hK K
  try simp only [Act.put, List.setIfInBounds_toArray, List.set_cons_zero, List.set_cons_succ, List.getElem_toArray, List.getElem_cons_zero, List.getElem_cons_succ]
  refine wpAnyH_take (i := 57) (v := ?vb57) rfl (by kernel_rfl) (by kernel_rfl) (by kernel_rfl) (fun _ _ _ h => h) (Or.inl ⟨by rfl, ?yb57⟩) (by assumption) ?rb57
  case yb57 => (intro w hSw; (try dsimp only at hSw); go_simp; try with_reducible rfl)
  try simp only [Act.put, List.setIfInBounds_toArray, List.set_cons_zero, List.set_cons_succ, List.getElem_toArray, List.getElem_cons_zero, List.getElem_cons_succ]
  refine wpAnyH_take (i := 58) (v := ?vb58) rfl (by kernel_rfl) (by kernel_rfl) (by kernel_rfl) (fun _ _ _ h => h) (Or.inl ⟨by rfl, ?yb58⟩) (by assumption) ?rb58
  case yb58 => (intro w hSw; (try dsimp only at hSw); go_simp; try with_reducible rfl)
  try simp only [Act.put, List.setIfInBounds_toArray, List.set_cons_zero, List.set_cons_succ, List.getElem_toArray, List.getElem_cons_zero, List.getElem_cons_succ]
  refine wpAnyH_take (i := 59) (v := ?vb59) rfl (by kernel_rfl) (by kernel_rfl) (by kernel_rfl) (fun _ _ _ h => h) (Or.inl ⟨by rfl, ?yb59⟩) (by assumption) ?rb59
  case yb59 => (intro w hSw; (try dsimp only at hSw); go_simp; try with_reducible rfl)
  try simp only [Act.put, List.setIfInBounds_toArray, List.set_cons_zero, List.set_cons_succ, List.getElem_toArray, List.getElem_cons_zero, List.getElem_cons_succ]
  refine wpAnyH_done (by kernel_rfl) ?_ _
  go_wp2
  go_ret
  exact ⟨rfl, bstep HBF.out (bstep (bstep (bstep (bstep (bstep (bstep (bstep (bstep (bstep (HBE.out) qb1) qb2) qb3) qb4) qb5) qb6) qb7) qb8) qb9)⟩
end Go.Proofs.Ytllagelopdedfaa
