/- What past.Add answers of a past that may be. -/
import Derived.Test.YtplpeokmhomojaaPastAddMath
import Derived.Test.YtplpeokmhomojaaPastConc
import Derived.Test.YtplpeokmhomojaaStampRows
namespace Go.Proofs.Ytplpeokmhomojaa
open Go.RowKit
set_option linter.unusedVariables false
set_option linter.unusedSimpArgs false

theorem gtr_klt (x key : ByteArray) : (!Op.bytesLess x.toList key.toList && !x.toList == key.toList) = Op.bytesLess key.toList x.toList := by
  rw [Lib.toList_data, Lib.toList_data]
  generalize x.data.toList = a
  generalize key.data.toList = b
  cases h1 : Op.bytesLess a b with
  | true => rw [Km.bl_asymm h1]; rfl
  | false =>
    cases h2 : Op.bytesLess b a with
    | true =>
      have : a ≠ b := fun e => by rw [e, Km.bl_irrefl] at h2; cases h2
      simp [this]
    | false => rw [Km.bl_tri h1 h2]; simp
set_option maxRecDepth 100000 in
theorem addC_any (key : ByteArray) (B : Nat) (x : ByteArray) (y z : Int) (w : World) (hB : B < w.heap.size) (hc : w.cell? ⟨B, 0, none⟩ = some (.string key)) :
    Calls Try.prog 35 #[.agg #[.string x, .int .i64 y, .int .i64 z], .pointer (some ⟨B, 0, none⟩)] w fun e w' => e = .returned (.bool (klt key x)) ∧ Below w.heap.size w w' := by
  have hne : B ≠ w.heap.size := by omega
  have hc1 : ∀ o, (w.alloc o).cell? ⟨B, 0, none⟩ = some (.string key) := fun o => (((Below.refl _ w).alloc (Nat.le_refl _) o).cell (p := ⟨B, 0, none⟩) hB).trans hc
  unfold klt
  rw [← Lib.toList_data, ← Lib.toList_data]
  go_enter Try.func35, Try.ntmps35
  go_wp2
  all_goals
    go_ret
    exact ⟨ret_bool (by first | (simp_all; done) | (simp_all; exact gtr_klt _ _)), balloc (Below.refl _ w) _⟩

/-- The row of two stamps that a call lays. -/
theorem st_two (w : World) (a b c d : Int) (T : TypeId) : StIn (w.alloc (.cells #[.int .i64 a, .int .i64 b, .int .i64 c, .int .i64 d] T)) (some ⟨w.heap.size, 0, none⟩) [(a, b), (c, d)] := by
  intro i hi
  refine ⟨w.heap.size, 0, rfl, ?_, ?_⟩
  · match i, hi with
    | 0, _ => simp
    | 1, _ => simp
  · match i, hi with
    | 0, _ => simp
    | 1, _ => simp
theorem st_twoD (w : World) (a b c d : Int) (T : TypeId) : StIn (w.alloc (.cells #[.int .i64 a, .int .i64 b, .int .i64 c, .int .i64 d] T)).drew (some ⟨w.heap.size, 0, none⟩) [(a, b), (c, d)] := st_two w a b c d T
theorem below_put2 {w w' : World} {n b p q : Nat} (hb : Below n w w') (h : n ≤ b) (x y : Value) : Below n w ((w'.setCell ⟨b, p, none⟩ x).setCell ⟨b, q, none⟩ y) := (hb.setCell h _).setCell h _
theorem keepF {W w1 : World} {b1 b2 b3 b4 o1 o2 o3 o4 : Nat} {x1 x2 x3 x4 : Value} (hb : Below W.heap.size W w1)
    (h : W.cell? ⟨b1, o1, none⟩ = some x1 ∧ W.cell? ⟨b2, o2, none⟩ = some x2 ∧ W.cell? ⟨b3, o3, none⟩ = some x3 ∧ W.cell? ⟨b4, o4, none⟩ = some x4) :
    w1.cell? ⟨b1, o1, none⟩ = some x1 ∧ w1.cell? ⟨b2, o2, none⟩ = some x2 ∧ w1.cell? ⟨b3, o3, none⟩ = some x3 ∧ w1.cell? ⟨b4, o4, none⟩ = some x4 := ⟨kc hb h.1, kc hb h.2.1, kc hb h.2.2.1, kc hb h.2.2.2⟩
theorem keepP {W : World} {b1 b2 b3 b4 o1 o2 o3 o4 g p q : Nat} {x1 x2 x3 x4 u v : Value} (n1 : b1 ≠ g) (n2 : b2 ≠ g) (n3 : b3 ≠ g) (n4 : b4 ≠ g)
    (h : W.cell? ⟨b1, o1, none⟩ = some x1 ∧ W.cell? ⟨b2, o2, none⟩ = some x2 ∧ W.cell? ⟨b3, o3, none⟩ = some x3 ∧ W.cell? ⟨b4, o4, none⟩ = some x4) :
    ((W.setCell ⟨g, p, none⟩ u).setCell ⟨g, q, none⟩ v).cell? ⟨b1, o1, none⟩ = some x1 ∧ ((W.setCell ⟨g, p, none⟩ u).setCell ⟨g, q, none⟩ v).cell? ⟨b2, o2, none⟩ = some x2 ∧ ((W.setCell ⟨g, p, none⟩ u).setCell ⟨g, q, none⟩ v).cell? ⟨b3, o3, none⟩ = some x3 ∧ ((W.setCell ⟨g, p, none⟩ u).setCell ⟨g, q, none⟩ v).cell? ⟨b4, o4, none⟩ = some x4 := by
  refine ⟨?_, ?_, ?_, ?_⟩ <;> rw [World.cell?_setCell_other _ _ _ _ (by simp_all), World.cell?_setCell_other _ _ _ _ (by simp_all)]
  · exact h.1
  · exact h.2.1
  · exact h.2.2.1
  · exact h.2.2.2

set_option maxRecDepth 100000 in
set_option maxHeartbeats 3200000 in
/-- The key is there. -/
theorem padd_at (v : Value) (l : List De) (k : ByteArray) (n s : Int) (i : Nat) (w : World) (hl : l.length ≤ 100000) (hk : k.size ≤ 9223372036854775807) (hr : DepAt w v l) (hok : okD (k, n, s) = true) (hi : i < l.length) (hki : kidx l k = i) (x : ByteArray) (y z m0 m1 : Int) (hli : l[i] = (x, y, z)) (hm : Sm.mx (0, 0) [(y, z), (n, s)] = (m0, m1)) :
    Calls Try.prog 12 #[v, .agg #[.string k, .int .i64 n, .int .i64 s]] w fun e w' => ∃ u, e = .returned u ∧ DepAt w' u (l.set i (x, m0, m1)) ∧ Below w.heap.size w w' := by
  have hb0 : Below w.heap.size w (w.alloc (.cells #[.string k, .int .i64 n, .int .i64 s] 26)) := balloc (Below.refl _ _) _
  have hD0 := VarD.new w k n s 26
  have HV := Lib.hid hr
  obtain ⟨a, cap, rfl, hcap, hmx, _, _⟩ := hr
  have HM := Lib.hid hm
  have HOK := Lib.hid hok
  have HKI := Lib.hid hki
  have HKK := Lib.hid hi
  have HLI : Hid (l[i]'(HKK.out) = (x, y, z)) := Lib.hid hli
  have hil : (i : Int) < (l.length : Int) := by omega
  have hil0 : (0 : Int) ≤ (i : Int) := by omega
  clear hm hok hki hli hi
  go_enter Try.func12, Try.ntmps12
  go_wp2_with fail
  refine (valid_b k n s true _ hk HOK.out).mono ?_
  rintro e w1 ⟨rfl, hb1⟩
  have hD1 := hD0.keep hb1
  obtain ⟨p0, p1, p2, _, _, _⟩ := id hD1
  have hbel1 := bstep hb0 hb1
  clear hD0 hb1 hb0
  have hfnd := pfind_any _ l k w1 (by omega) (HV.out.below hbel1)
  rw [HKI.out] at hfnd
  have h0i : decide ((0 : Int) ≤ (i : Int)) = true := by simp
  go_wp2_with fail
  refine hfnd.mono ?_
  rintro e w2 ⟨rfl, hb2⟩
  have hD2 := hD1.keep hb2
  have hbel2 := bstep hbel1 hb2
  clear hD1 p0 p1 p2 hb2 hbel1 hfnd
  have hcl := clone_any _ l w2 hl (HV.out.below hbel2)
  go_wp2_with fail
  refine hcl.mono ?_
  rintro e w3 ⟨v3, rfl, ho3, hb3⟩
  have hD3 := hD2.keep hb3
  have hbel3 := bstep hbel2 hb3
  have hs2 := hD2.lt
  have hs3 := hb3.size
  clear hcl hD2
  obtain ⟨a', cap', e', _, _, _, hin⟩ := HV.out
  cases e'
  obtain ⟨b, off, rfl, hblw, c0, c1, c2⟩ := hin i HKK.out
  rw [HLI.out] at c0 c1 c2
  dsimp only at c0 c1 c2
  have c0 := kcell hbel3 hblw c0
  have c1 := kcell hbel3 hblw c1
  have c2 := kcell hbel3 hblw c2
  obtain ⟨gg, gc, rfl⟩ : ∃ g c, v3 = .slice (some ⟨g, 0, none⟩) l.length c := by
    rcases ho3.2 with ⟨_, h0⟩ | ⟨g, c, cur, hv, _⟩
    · have := HKK.out; omega
    · exact ⟨g, c, hv⟩
  have hgg := ho3.blk
  have hown := Lib.hid ho3
  have hset : Hid (∀ W, OwnD W w2.heap.size (.slice (some ⟨gg, 0, none⟩) l.length gc) l → OwnD ((W.setCell ⟨gg, i * 3 + 1, none⟩ (.int .i64 m0)).setCell ⟨gg, i * 3 + 2, none⟩ (.int .i64 m1)) w2.heap.size (.slice (some ⟨gg, 0, none⟩) l.length gc) (l.set i (x, m0, m1))) := Lib.hid (fun W h => by
    have := OwnD.setS h i HKK.out m0 m1
    rw [HLI.out] at this
    exact this)
  have hget : Hid (∀ W, OwnD W w2.heap.size (.slice (some ⟨gg, 0, none⟩) l.length gc) l → W.cell? ⟨gg, i * 3 + 1, none⟩ = some (.int .i64 y) ∧ W.cell? ⟨gg, i * 3 + 2, none⟩ = some (.int .i64 z)) := Lib.hid (fun W h => by
    have := OwnD.at h i HKK.out
    rw [HLI.out] at this
    exact this.2)
  clear ho3
  obtain ⟨p0, p1, p2, _, _, _⟩ := hD3
  have g0 : w3.cell? ⟨b, off + i * 3 + 1, none⟩ = some (.int .i64 y) ∧ w3.cell? ⟨b, off + i * 3 + 2, none⟩ = some (.int .i64 z) ∧ w3.cell? ⟨w.heap.size, 1, none⟩ = some (.int .i64 n) ∧ w3.cell? ⟨w.heap.size, 2, none⟩ = some (.int .i64 s) := ⟨c1, c2, p1, p2⟩
  clear c0 c1 c2 p0 p1 p2
  go_wp2_with fail
  go_region_held3 (fun w' => w'.cell? ⟨b, off + i * 3 + 1, none⟩ = some (.int .i64 y) ∧ w'.cell? ⟨b, off + i * 3 + 2, none⟩ = some (.int .i64 z) ∧ w'.cell? ⟨w.heap.size, 1, none⟩ = some (.int .i64 n) ∧ w'.cell? ⟨w.heap.size, 2, none⟩ = some (.int .i64 s))
    (first | exact g0 | exact keepF ((balloc (Below.refl _ w3) _).drew) g0 | exact g1 | exact keepP (by omega) (by omega) (by omega) (by omega) g1)
    (first
      | (go_at_call 33; ((refine (max_at _ 2 2 [(y, z), (n, s)] m0 m1 _ rfl (by simp) (st_twoD w3 y z n s _) HM.out).mono ?_); rintro e wa ⟨rfl, ha⟩; have g1 := keepF ha (keepF ((balloc (Below.refl _ w3) _).drew) g0); have oa := OwnD.below (OwnD.below hown.out ((balloc (Below.refl _ w3) _).drew)) ha; have q1 := (hget.out _ oa).1; have q2 := (hget.out _ oa).2; have f1 := oa.fr (i * 3 + 1); have f2 := oa.fr (i * 3 + 2))))
  have hbz := bstep hbel3 (bstep ((balloc (Below.refl _ w3) _).drew) ha)
  have HO := Lib.hid (hset.out _ oa)
  go_wp2
  go_ret
  exact ⟨_, rfl, DepAt.of_own HO.out, below_put2 hbz (by omega) _ _⟩

/-- Three slices that were just laid, as a row of pasts. -/
theorem RowsAt.three {w : World} {v1 v2 v3 : Value} {l m o : List De} (T : TypeId) (h1 : DepAt w v1 l) (h2 : DepAt w v2 m) (h3 : DepAt w v3 o) : RowsAt (w.alloc (.cells #[v1, v2, v3] T)) (some ⟨w.heap.size, 0, none⟩) [l, m, o] := by
  refine ⟨[v1, v2, v3], rfl, fun i hi => ⟨w.heap.size, 0, rfl, by simp, ?_⟩, fun i hi hi' => ?_⟩
  · rw [Lib.cell_of_heap (heap_alloc_new w _), Nat.zero_add]
    match i, hi with
    | 0, _ => rfl
    | 1, _ => rfl
    | 2, _ => rfl
  · match i, hi' with
    | 0, _ => exact h1.alloc _
    | 1, _ => exact h2.alloc _
    | 2, _ => exact h3.alloc _
theorem RowsAt.drew {w : World} {a : Option Addr} {ls : List (List De)} (h : RowsAt w a ls) : RowsAt w.drew a ls := h
theorem DepAt.one (w : World) (k : ByteArray) (n s : Int) (T : TypeId) : DepAt (w.alloc (.cells #[.string k, .int .i64 n, .int .i64 s] T)) (.slice (some ⟨w.heap.size, 0, none⟩) 1 1) [(k, n, s)] := by
  refine ⟨_, _, rfl, by simp, by unfold maxLen; simp, by simp, fun i hi => ⟨w.heap.size, 0, rfl, by simp, ?_, ?_, ?_⟩⟩
  all_goals
    match i, hi with
    | 0, _ => simp
/-- A past, cut in two. -/
theorem DepAt.cut {w : World} {b off cap : Nat} {l : List De} (h : DepAt w (.slice (some ⟨b, off, none⟩) l.length cap) l) (k : Nat) (hk : k ≤ l.length) :
    DepAt w (.slice (some ⟨b, off, none⟩) k cap) (l.take k) ∧ DepAt w (.slice (some ⟨b, off + k * 3, none⟩) (l.length - k) (cap - k)) (l.drop k) := by
  obtain ⟨a, c, e, h1, h2, h3, h4⟩ := h
  cases e
  refine ⟨⟨_, _, by rw [List.length_take, Nat.min_eq_left hk], by rw [List.length_take]; omega, h2, by simp, h4.take k⟩, ⟨_, _, by rw [List.length_drop], by rw [List.length_drop]; omega, by omega, by simp, h4.drop k⟩⟩

set_option maxRecDepth 100000 in
set_option maxHeartbeats 3200000 in
/-- The key is not there, but others are. -/
theorem padd_ins (b off cap : Nat) (l : List De) (k : ByteArray) (n s : Int) (j : Nat) (r : Int) (w : World) (hl : l.length ≤ 100000) (hk : k.size ≤ 9223372036854775807) (hr : DepAt w (.slice (some ⟨b, off, none⟩) l.length cap) l) (hok : okD (k, n, s) = true) (hki : kidx l k = -1) (hj : j ≤ l.length)
    (hfi : fidxD (fun e => klt k e.1) l = r) (hrj : (r = -1 ∧ j = l.length) ∨ (r = j ∧ j < l.length)) :
    Calls Try.prog 12 #[.slice (some ⟨b, off, none⟩) l.length cap, .agg #[.string k, .int .i64 n, .int .i64 s]] w fun e w' => ∃ u, e = .returned u ∧ DepAt w' u (l.take j ++ (k, n, s) :: l.drop j) ∧ Below w.heap.size w w' := by
  have hmf : ∀ (fn : Fn) (first cap : Array Value) (w : World), (Instr.makeFunc fn first cap).run Try.prog w = .ok (.func fn first cap) w := fun _ _ _ _ => rfl
  have hb0 : Below w.heap.size w (w.alloc (.cells #[.string k, .int .i64 n, .int .i64 s] 26)) := balloc (Below.refl _ _) _
  have hD0 := VarD.new w k n s 26
  have HV := Lib.hid hr
  obtain ⟨a, cap', e', hcap, hmx, _, _⟩ := hr
  cases e'
  have HOK := Lib.hid hok
  have HKI := Lib.hid hki
  have HFI := Lib.hid hfi
  have HJ := Lib.hid hj
  have HRJ := Lib.hid hrj
  have HQ : Hid (l.take j ++ (k, n, s) :: l.drop j = [l.take j, [(k, n, s)], l.drop j].flatten) := Lib.hid (by simp)
  have HT : Hid (tot [l.take j, [(k, n, s)], l.drop j] ≤ 1000000) := Lib.hid (by rw [← tot_flat]; simp; omega)
  generalize l.take j ++ (k, n, s) :: l.drop j = res at HQ ⊢
  clear hok hki hfi hj hrj
  go_enter Try.func12, Try.ntmps12
  go_wp2_with fail
  refine (valid_b k n s true _ hk HOK.out).mono ?_
  rintro e w1 ⟨rfl, hb1⟩
  have hD1 := hD0.keep hb1
  obtain ⟨p0, p1, p2, _, _, _⟩ := id hD1
  have hbel1 := bstep hb0 hb1
  clear hD0 hb1 hb0
  have hfnd := pfind_any _ l k w1 (by omega) (HV.out.below hbel1)
  rw [HKI.out] at hfnd
  go_wp2_with fail
  refine hfnd.mono ?_
  rintro e w2 ⟨rfl, hb2⟩
  have hD2 := hD1.keep hb2
  have hbel2 := bstep hbel1 hb2
  clear hD1 p0 p1 p2 hb2 hbel1 hfnd
  have hV2 := HV.out.below hbel2
  have hidx := idxFunc_any 35 #[.pointer (some ⟨w.heap.size, 0, none⟩)] (enters_of Try.func35 (by kernel_rfl) rfl) (fun e => klt k e.1) (some ⟨b, off, none⟩) cap w2.heap.size l w2 (by omega) (by obtain ⟨a', c', e, _, _, _, h⟩ := hV2; cases e; exact h) (Nat.le_refl _) (fun W d _ hb => by
    have hDW := hD2.keep hb
    exact addC_any k w.heap.size d.1 d.2.1 d.2.2 W hDW.lt hDW.c0)
  rw [HFI.out] at hidx
  clear hV2
  go_wp2_with fail
  refine hidx.mono ?_
  rintro e w3 ⟨rfl, hb3⟩
  have hD3 := hD2.keep hb3
  have hbel3 := bstep hbel2 hb3
  have HV3 := Lib.hid (HV.out.below hbel3)
  clear hD2 hb3 hbel2 hidx
  obtain ⟨p0, p1, p2, _, _, _⟩ := hD3
  have g0 : w3.cell? ⟨w.heap.size, 0, none⟩ = some (.string k) ∧ w3.cell? ⟨w.heap.size, 1, none⟩ = some (.int .i64 n) ∧ w3.cell? ⟨w.heap.size, 2, none⟩ = some (.int .i64 s) := ⟨p0, p1, p2⟩
  have hjl : (j : Int) ≤ (l.length : Int) := by have := HJ.out; omega
  have hjc : (j : Int) ≤ (cap : Int) := by omega
  have hlc : (l.length : Int) ≤ (cap : Int) := by omega
  have hj0 : (0 : Int) ≤ (j : Int) := by omega
  have hj1 : ¬ (j : Int) < 0 := by omega
  clear p0 p1 p2
  have hrj := HRJ.out
  rcases hrj with ⟨rfl, rfl⟩ | ⟨rfl, hlt⟩
  · obtain ⟨cut1, _⟩ := HV3.out.cut l.length HJ.out
    by_cases hcl : cap = l.length
    · subst hcl
      have cut2 : DepAt w3 (.slice (some ⟨b, off, none⟩) 0 0) (l.drop l.length) := by
        rw [List.drop_length]
        exact ⟨_, _, rfl, Nat.zero_le _, by omega, by simp, DepIn.nil _ _⟩
      have hrow := RowsAt.three 22 (cut1.alloc (.cells #[.string k, .int .i64 n, .int .i64 s] 26)) (DepAt.one w3 k n s 26) (cut2.alloc (.cells #[.string k, .int .i64 n, .int .i64 s] 26))
      rw [show (w3.alloc (.cells #[.string k, .int .i64 n, .int .i64 s] 26)).heap.size = w3.heap.size + 1 by simp] at hrow
      have HW := Lib.hid hrow
      clear cut1 cut2 hrow
      go_wp2_with fail
      go_region_held3 (fun w' => w'.cell? ⟨w.heap.size, 0, none⟩ = some (.string k) ∧ w'.cell? ⟨w.heap.size, 1, none⟩ = some (.int .i64 n) ∧ w'.cell? ⟨w.heap.size, 2, none⟩ = some (.int .i64 s))
        (first | exact g0 | exact keepC3 ((balloc (Below.refl _ w3) _).drew) g0 | exact keepC3 ((balloc (balloc (Below.refl _ w3) _) _).drew) g0 | exact g1)
        (first
          | (go_at_call 36; ((refine (concat_any _ 3 [l.take l.length, [(k, n, s)], l.drop l.length] _ (by simp) HT.out (RowsAt.drew HW.out)).mono ?_); rintro e wa ⟨va, rfl, oa, ha⟩; have g1 := keepC3 ha (keepC3 ((balloc (balloc (Below.refl _ w3) _) _).drew) g0); rw [← HQ.out] at oa; have hsh := oa.shape; obtain ⟨sa, sc, rfl⟩ := hsh)))
      have hbz := bstep hbel3 (bstep ((balloc (balloc (Below.refl _ w3) _) _).drew) ha)
      have HO := Lib.hid oa
      clear oa
      go_wp2
      go_ret
      exact ⟨_, rfl, DepAt.of_own HO.out, hbz⟩
    · have cut2 : DepAt w3 (.slice (some ⟨b, off + l.length * 3, none⟩) 0 (cap - l.length)) (l.drop l.length) := by
        rw [List.drop_length]
        exact ⟨_, _, rfl, Nat.zero_le _, by omega, by simp, DepIn.nil _ _⟩
      have hrow := RowsAt.three 22 (cut1.alloc (.cells #[.string k, .int .i64 n, .int .i64 s] 26)) (DepAt.one w3 k n s 26) (cut2.alloc (.cells #[.string k, .int .i64 n, .int .i64 s] 26))
      rw [show (w3.alloc (.cells #[.string k, .int .i64 n, .int .i64 s] 26)).heap.size = w3.heap.size + 1 by simp] at hrow
      have HW := Lib.hid hrow
      clear cut1 cut2 hrow
      go_wp2_with fail
      go_region_held3 (fun w' => w'.cell? ⟨w.heap.size, 0, none⟩ = some (.string k) ∧ w'.cell? ⟨w.heap.size, 1, none⟩ = some (.int .i64 n) ∧ w'.cell? ⟨w.heap.size, 2, none⟩ = some (.int .i64 s))
        (first | exact g0 | exact keepC3 ((balloc (Below.refl _ w3) _).drew) g0 | exact keepC3 ((balloc (balloc (Below.refl _ w3) _) _).drew) g0 | exact g1)
        (first
          | (go_at_call 36; ((refine (concat_any _ 3 [l.take l.length, [(k, n, s)], l.drop l.length] _ (by simp) HT.out (RowsAt.drew HW.out)).mono ?_); rintro e wa ⟨va, rfl, oa, ha⟩; have g1 := keepC3 ha (keepC3 ((balloc (balloc (Below.refl _ w3) _) _).drew) g0); rw [← HQ.out] at oa; have hsh := oa.shape; obtain ⟨sa, sc, rfl⟩ := hsh)))
      have hbz := bstep hbel3 (bstep ((balloc (balloc (Below.refl _ w3) _) _).drew) ha)
      have HO := Lib.hid oa
      clear oa
      go_wp2
      go_ret
      exact ⟨_, rfl, DepAt.of_own HO.out, hbz⟩
  · have hcj : ¬ cap = j := by omega
    obtain ⟨cut1, cut2⟩ := HV3.out.cut j HJ.out
    have hrow := RowsAt.three 22 (cut1.alloc (.cells #[.string k, .int .i64 n, .int .i64 s] 26)) (DepAt.one w3 k n s 26) (cut2.alloc (.cells #[.string k, .int .i64 n, .int .i64 s] 26))
    rw [show (w3.alloc (.cells #[.string k, .int .i64 n, .int .i64 s] 26)).heap.size = w3.heap.size + 1 by simp] at hrow
    have HW := Lib.hid hrow
    clear cut1 cut2 hrow
    go_wp2_with fail
    go_region_held3 (fun w' => w'.cell? ⟨w.heap.size, 0, none⟩ = some (.string k) ∧ w'.cell? ⟨w.heap.size, 1, none⟩ = some (.int .i64 n) ∧ w'.cell? ⟨w.heap.size, 2, none⟩ = some (.int .i64 s))
      (first | exact g0 | exact keepC3 ((balloc (Below.refl _ w3) _).drew) g0 | exact keepC3 ((balloc (balloc (Below.refl _ w3) _) _).drew) g0 | exact g1)
      (first
        | (go_at_call 36; ((refine (concat_any _ 3 [l.take j, [(k, n, s)], l.drop j] _ (by simp) HT.out (RowsAt.drew HW.out)).mono ?_); rintro e wa ⟨va, rfl, oa, ha⟩; have g1 := keepC3 ha (keepC3 ((balloc (balloc (Below.refl _ w3) _) _).drew) g0); rw [← HQ.out] at oa; have hsh := oa.shape; obtain ⟨sa, sc, rfl⟩ := hsh)))
    have hbz := bstep hbel3 (bstep ((balloc (balloc (Below.refl _ w3) _) _).drew) ha)
    have HO := Lib.hid oa
    clear oa
    go_wp2
    go_ret
    exact ⟨_, rfl, DepAt.of_own HO.out, hbz⟩

set_option maxRecDepth 100000 in
set_option maxHeartbeats 3200000 in
/-- Nothing is there. -/
theorem padd_nil (k : ByteArray) (n s : Int) (w : World) (hk : k.size ≤ 9223372036854775807) (hok : okD (k, n, s) = true) :
    Calls Try.prog 12 #[.slice none 0 0, .agg #[.string k, .int .i64 n, .int .i64 s]] w fun e w' => ∃ u, e = .returned u ∧ DepAt w' u [(k, n, s)] ∧ Below w.heap.size w w' := by
  have hmf : ∀ (fn : Fn) (first cap : Array Value) (w : World), (Instr.makeFunc fn first cap).run Try.prog w = .ok (.func fn first cap) w := fun _ _ _ _ => rfl
  have hb0 : Below w.heap.size w (w.alloc (.cells #[.string k, .int .i64 n, .int .i64 s] 26)) := balloc (Below.refl _ _) _
  have hD0 := VarD.new w k n s 26
  have HOK := Lib.hid hok
  obtain ⟨res, hres⟩ : ∃ res : List De, res = [(k, n, s)] := ⟨_, rfl⟩
  rw [← hres]
  have HQ : Hid (res = [([] : List De), [(k, n, s)], []].flatten) := Lib.hid (by simp [hres])
  clear hres
  clear hok
  go_enter Try.func12, Try.ntmps12
  go_wp2_with fail
  refine (valid_b k n s true _ hk HOK.out).mono ?_
  rintro e w1 ⟨rfl, hb1⟩
  have hD1 := hD0.keep hb1
  obtain ⟨p0, p1, p2, _, _, _⟩ := id hD1
  have hbel1 := bstep hb0 hb1
  clear hD0 hb1 hb0
  have hfnd := pfind_any _ [] k w1 (by simp) (DepAt.nil w1)
  rw [show kidx [] k = -1 from rfl] at hfnd
  go_wp2_with fail
  refine hfnd.mono ?_
  rintro e w2 ⟨rfl, hb2⟩
  have hD2 := hD1.keep hb2
  have hbel2 := bstep hbel1 hb2
  clear hD1 p0 p1 p2 hb2 hbel1 hfnd
  have hidx := idxFunc_any 35 #[.pointer (some ⟨w.heap.size, 0, none⟩)] (enters_of Try.func35 (by kernel_rfl) rfl) (fun e => klt k e.1) none 0 w2.heap.size [] w2 (by simp) (DepIn.nil _ _) (Nat.le_refl _) (fun W d hd hb => by simp at hd)
  rw [show fidxD (fun e => klt k e.1) [] = -1 from rfl] at hidx
  go_wp2_with fail
  refine hidx.mono ?_
  rintro e w3 ⟨rfl, hb3⟩
  have hD3 := hD2.keep hb3
  have hbel3 := bstep hbel2 hb3
  clear hD2 hb3 hbel2 hidx
  obtain ⟨p0, p1, p2, _, _, _⟩ := hD3
  have g0 : w3.cell? ⟨w.heap.size, 0, none⟩ = some (.string k) ∧ w3.cell? ⟨w.heap.size, 1, none⟩ = some (.int .i64 n) ∧ w3.cell? ⟨w.heap.size, 2, none⟩ = some (.int .i64 s) := ⟨p0, p1, p2⟩
  clear p0 p1 p2
  have hrow := RowsAt.three 22 (DepAt.nil (w3.alloc (.cells #[.string k, .int .i64 n, .int .i64 s] 26))) (DepAt.one w3 k n s 26) (DepAt.nil (w3.alloc (.cells #[.string k, .int .i64 n, .int .i64 s] 26)))
  rw [show (w3.alloc (.cells #[.string k, .int .i64 n, .int .i64 s] 26)).heap.size = w3.heap.size + 1 by simp] at hrow
  have HW := Lib.hid hrow
  clear hrow
  go_wp2_with fail
  go_region_held3 (fun w' => w'.cell? ⟨w.heap.size, 0, none⟩ = some (.string k) ∧ w'.cell? ⟨w.heap.size, 1, none⟩ = some (.int .i64 n) ∧ w'.cell? ⟨w.heap.size, 2, none⟩ = some (.int .i64 s))
    (first | exact g0 | exact keepC3 ((balloc (Below.refl _ w3) _).drew) g0 | exact keepC3 ((balloc (balloc (Below.refl _ w3) _) _).drew) g0 | exact g1)
    (first
      | (go_at_call 36; ((refine (concat_any _ 3 [[], [(k, n, s)], []] _ (by simp) (by simp [tot]) (RowsAt.drew HW.out)).mono ?_); rintro e wa ⟨va, rfl, oa, ha⟩; have g1 := keepC3 ha (keepC3 ((balloc (balloc (Below.refl _ w3) _) _).drew) g0); rw [← HQ.out] at oa; have hsh := oa.shape; obtain ⟨sa, sc, rfl⟩ := hsh)))
  have hbz := bstep hbel3 (bstep ((balloc (balloc (Below.refl _ w3) _) _).drew) ha)
  have HO := Lib.hid oa
  clear oa
  go_wp2
  go_ret
  exact ⟨_, rfl, DepAt.of_own HO.out, hbz⟩

set_option maxRecDepth 100000 in
set_option maxHeartbeats 3200000 in
/-- Nothing is there, but a place. -/
theorem padd_e (x : Addr) (cap : Nat) (hcap : cap ≤ maxLen) (k : ByteArray) (n s : Int) (w : World) (hk : k.size ≤ 9223372036854775807) (hok : okD (k, n, s) = true) :
    Calls Try.prog 12 #[.slice (some x) 0 cap, .agg #[.string k, .int .i64 n, .int .i64 s]] w fun e w' => ∃ u, e = .returned u ∧ DepAt w' u [(k, n, s)] ∧ Below w.heap.size w w' := by
  have hmf : ∀ (fn : Fn) (first cap : Array Value) (w : World), (Instr.makeFunc fn first cap).run Try.prog w = .ok (.func fn first cap) w := fun _ _ _ _ => rfl
  have hb0 : Below w.heap.size w (w.alloc (.cells #[.string k, .int .i64 n, .int .i64 s] 26)) := balloc (Below.refl _ _) _
  have hD0 := VarD.new w k n s 26
  have HOK := Lib.hid hok
  have HE : ∀ W : World, DepAt W (.slice (some x) 0 cap) [] := fun W => ⟨_, _, rfl, Nat.zero_le _, hcap, by simp, DepIn.nil _ _⟩
  obtain ⟨res, hres⟩ : ∃ res : List De, res = [(k, n, s)] := ⟨_, rfl⟩
  rw [← hres]
  have HQ : Hid (res = [([] : List De), [(k, n, s)], []].flatten) := Lib.hid (by simp [hres])
  clear hres
  clear hok
  go_enter Try.func12, Try.ntmps12
  go_wp2_with fail
  refine (valid_b k n s true _ hk HOK.out).mono ?_
  rintro e w1 ⟨rfl, hb1⟩
  have hD1 := hD0.keep hb1
  obtain ⟨p0, p1, p2, _, _, _⟩ := id hD1
  have hbel1 := bstep hb0 hb1
  clear hD0 hb1 hb0
  have hfnd := pfind_any (l := []) (key := k) (hl := by simp) (hr := HE w1)
  rw [show kidx [] k = -1 from rfl] at hfnd
  go_wp2_with fail
  refine hfnd.mono ?_
  rintro e w2 ⟨rfl, hb2⟩
  have hD2 := hD1.keep hb2
  have hbel2 := bstep hbel1 hb2
  clear hD1 p0 p1 p2 hb2 hbel1 hfnd
  have hidx := idxFunc_any 35 #[.pointer (some ⟨w.heap.size, 0, none⟩)] (enters_of Try.func35 (by kernel_rfl) rfl) (fun e => klt k e.1) (some x) cap w2.heap.size [] w2 (by simp) (DepIn.nil _ _) (Nat.le_refl _) (fun W d hd hb => by simp at hd)
  rw [show fidxD (fun e => klt k e.1) [] = -1 from rfl] at hidx
  go_wp2_with fail
  refine hidx.mono ?_
  rintro e w3 ⟨rfl, hb3⟩
  have hD3 := hD2.keep hb3
  have hbel3 := bstep hbel2 hb3
  clear hD2 hb3 hbel2 hidx
  obtain ⟨p0, p1, p2, _, _, _⟩ := hD3
  have g0 : w3.cell? ⟨w.heap.size, 0, none⟩ = some (.string k) ∧ w3.cell? ⟨w.heap.size, 1, none⟩ = some (.int .i64 n) ∧ w3.cell? ⟨w.heap.size, 2, none⟩ = some (.int .i64 s) := ⟨p0, p1, p2⟩
  clear p0 p1 p2
  have hrow := RowsAt.three 22 (HE (w3.alloc (.cells #[.string k, .int .i64 n, .int .i64 s] 26))) (DepAt.one w3 k n s 26) (HE (w3.alloc (.cells #[.string k, .int .i64 n, .int .i64 s] 26)))
  rw [show (w3.alloc (.cells #[.string k, .int .i64 n, .int .i64 s] 26)).heap.size = w3.heap.size + 1 by simp] at hrow
  have HW := Lib.hid hrow
  clear hrow
  go_wp2_with fail
  go_region_held3 (fun w' => w'.cell? ⟨w.heap.size, 0, none⟩ = some (.string k) ∧ w'.cell? ⟨w.heap.size, 1, none⟩ = some (.int .i64 n) ∧ w'.cell? ⟨w.heap.size, 2, none⟩ = some (.int .i64 s))
    (first | exact g0 | exact keepC3 ((balloc (Below.refl _ w3) _).drew) g0 | exact keepC3 ((balloc (balloc (Below.refl _ w3) _) _).drew) g0 | exact g1)
    (first
      | (go_at_call 36; ((refine (concat_any _ 3 [[], [(k, n, s)], []] _ (by simp) (by simp [tot]) (RowsAt.drew HW.out)).mono ?_); rintro e wa ⟨va, rfl, oa, ha⟩; have g1 := keepC3 ha (keepC3 ((balloc (balloc (Below.refl _ w3) _) _).drew) g0); rw [← HQ.out] at oa; have hsh := oa.shape; obtain ⟨sa, sc, rfl⟩ := hsh)))
  have hbz := bstep hbel3 (bstep ((balloc (balloc (Below.refl _ w3) _) _).drew) ha)
  have HO := Lib.hid oa
  clear oa
  go_wp2
  go_ret
  exact ⟨_, rfl, DepAt.of_own HO.out, hbz⟩

set_option maxRecDepth 100000 in
set_option maxHeartbeats 1600000 in
/-- A dependency that may not be. -/
theorem padd_no (v : Value) (l : List De) (k : ByteArray) (n s : Int) (w : World) (hl : l.length ≤ 100000) (hk : k.size ≤ 9223372036854775807) (hr : DepAt w v l) (hok : okD (k, n, s) = false) :
    Calls Try.prog 12 #[v, .agg #[.string k, .int .i64 n, .int .i64 s]] w fun e w' => ∃ u, e = .returned u ∧ DepAt w' u l ∧ Below w.heap.size w w' := by
  have hb0 : Below w.heap.size w (w.alloc (.cells #[.string k, .int .i64 n, .int .i64 s] 26)) := balloc (Below.refl _ _) _
  have HV := Lib.hid hr
  obtain ⟨a, cap, rfl, hcap, hmx, _, _⟩ := hr
  have HOK := Lib.hid hok
  clear hok
  go_enter Try.func12, Try.ntmps12
  go_wp2_with fail
  refine (valid_b k n s false _ hk HOK.out).mono ?_
  rintro e w1 ⟨rfl, hb1⟩
  have hbel1 := bstep hb0 hb1
  have hcl := clone_any _ l w1 hl (HV.out.below hbel1)
  go_wp2_with fail
  refine hcl.mono ?_
  rintro e w3 ⟨v3, rfl, ho3, hb3⟩
  have HO := Lib.hid ho3
  obtain ⟨sa, sc, rfl⟩ := ho3.shape
  clear ho3
  go_wp2
  go_ret
  exact ⟨_, rfl, DepAt.of_own HO.out, bstep hbel1 hb3⟩

theorem padd_any (v : Value) (l : List De) (k : ByteArray) (n s : Int) (w : World) (hl : l.length ≤ 100000) (hs : Srt l) (hk : k.size ≤ 9223372036854775807) (hr : DepAt w v l) :
    Calls Try.prog 12 #[v, .agg #[.string k, .int .i64 n, .int .i64 s]] w fun e w' => ∃ u, e = .returned u ∧ DepAt w' u (addR l (k, n, s)) ∧ Below w.heap.size w w' := by
  cases hok : okD (k, n, s) with
  | false =>
    rw [show addR l (k, n, s) = l by simp [addR, hok]]
    exact padd_no v l k n s w hl hk hr hok
  | true =>
    rw [show addR l (k, n, s) = addGo (k, n, s) false l by simp [addR, hok]]
    rcases kidx_cases l k with ⟨h1, _⟩ | ⟨i, hi, h1, h2, _⟩
    · have hne := kidx_no h1
      obtain ⟨a, cap, rfl, hcap, hmx, hnil, hin⟩ := id hr
      cases a with
      | none =>
        have h0 := hnil rfl
        obtain rfl : l = [] := List.length_eq_zero_iff.1 (by omega)
        subst h0
        exact padd_nil k n s w hk hok
      | some a =>
        obtain ⟨b, off, spot⟩ := a
        by_cases hl0 : l = []
        · subst hl0
          exact padd_e _ cap hmx k n s w hk hok
        · obtain ⟨b', off', e, _⟩ := hin 0 (List.length_pos_iff.2 hl0)
          cases e
          rcases fidx_ins' (d := (k, n, s)) hne with h3 | ⟨j, hj, h3, h4⟩
          · have h5 := padd_ins b off cap l k n s l.length (-1) w hl hk hr hok h1 (Nat.le_refl _) h3 (.inl ⟨rfl, rfl⟩)
            rw [fidx_ins (d := (k, n, s)) hne h3]
            simpa using h5
          · rw [h4]
            exact padd_ins b off cap l k n s j j w hl hk hr hok h1 (by omega) h3 (.inr ⟨rfl, hj⟩)
    · rw [addGo_at l hs i hi h2]
      have h3 := okD_pos (hs.1 l[i] (List.getElem_mem hi))
      exact padd_at v l k n s i w hl hk hr hok hi h1 l[i].1 l[i].2.1 l[i].2.2 _ _ rfl (mx_two (x := l[i].2) (y := (n, s)) h3)
end Go.Proofs.Ytplpeokmhomojaa
