/- What the document's Read of a past answers: the loop. -/
import Derived.Test.YtkaehjehpclgcaaGW20
import Derived.Test.YtkaehjehpclgcaaPastRefRead
namespace Go.Proofs.Ytkaehjehpclgcaa
open Go.RowKit
set_option linter.unusedVariables false
set_option linter.unusedSimpArgs false

theorem goL_no1 {s : List UInt8} {n : Nat} {acc : List De} {a : Nat} (h : rdt s (a : Int) 32 = none) : finL (goL s (n + 1) acc a) = none := by
  rw [goL_none (by simp [rdD, h])]; rfl
theorem goL_no2 {s : List UInt8} {n : Nat} {acc : List De} {a : Nat} {k : List UInt8} {m : Nat} (h : rdt s (a : Int) 32 = some (k, m)) (h2 : Sm.rdS (rd s) (m : Int) = none) : finL (goL s (n + 1) acc a) = none := by
  rw [goL_none (by simp [rdD, h, h2])]; rfl
theorem goL_yes {s : List UInt8} {n : Nat} {acc : List De} {a : Nat} {k : List UInt8} {m e : Nat} {x y : Int} (h : rdt s (a : Int) 32 = some (k, m)) (h2 : Sm.rdS (rd s) (m : Int) = some ((x, y), e)) : goL s (n + 1) acc a = goL s n (acc ++ [(⟨k.toArray⟩, x, y)]) e :=
  goL_step (by simp [rdD, h, h2])

set_option maxRecDepth 100000 in
set_option maxHeartbeats 1600000 in
theorem refPRead_in (s : ByteArray) (at_ : Int) (n e0 : Nat) (w : World) (hs : s.size ≤ 1000000) (h : rd s.data.toList at_ = some (n, e0)) (h24 : n ≤ 24) :
    Calls Try.prog 56 #[.string s, .int .i64 at_] w fun e w' => ∃ u, e = .returned (.agg #[u, .int .i64 (prE (finL (goL s.data.toList n [] e0)) : Int)]) ∧ OwnD w' w.heap.size u (prL (finL (goL s.data.toList n [] e0))) ∧ Below w.heap.size w w' := by
  have hrd := fun W => refRead_any s at_ W hs
  have hb0 : Below w.heap.size w (w.alloc (.cells #[.slice none 0 0, .int .i64 0] 95)) := balloc (Below.refl _ _) _
  have hB0 := V2.new w 95 (.slice none 0 0) (.int .i64 0)
  obtain ⟨_, _, _, hgt⟩ := rd_some h
  rw [h, gotV] at hrd
  have he0 : ((e0 : Int) == 0) = false := by simp; omega
  have he1 : (e0 == 0) = false := by simp; omega
  have h24i : ¬ (24 : Int) < (n : Int) := by omega
  clear h hgt
  generalize hR : finL (goL s.data.toList n [] e0) = R
  have HR := Lib.hid hR
  clear hR
  have htx := fun (a : Int) W => refReadText_any s a 32 W hs (by omega)
  have hsx := fun (a : Int) W => refSRead_any s a W hs
  generalize s.data.toList = sl at HR htx hsx
  go_enter Try.func56, Try.ntmps56
  go_wp2_with fail
  refine (hrd _).mono ?_
  rintro e w1 ⟨rfl, hb1⟩
  have hb2 : Below w1.heap.size w1 ((w1.alloc (.cells #[.int .u64 n, .int .i64 e0] 89)).alloc (.cells #[.slice none 0 0, .int .i64 e0] 95)) := balloc (balloc (Below.refl _ w1) _) _
  have hV0 := (hB0.keep hb1).keep hb2
  have hlt0 := (hB0.keep hb1).lt
  have hVn : V2 ((w1.alloc (.cells #[.int .u64 n, .int .i64 e0] 89)).alloc (.cells #[.slice none 0 0, .int .i64 e0] 95)) w1.heap.size (.int .u64 n) (.int .i64 e0) := ⟨by simp, by simp, by simp, by simp⟩
  have hVg := V2.new (w1.alloc (.cells #[.int .u64 n, .int .i64 e0] 89)) 95 (.slice none 0 0) (.int .i64 e0)
  rw [show (w1.alloc (.cells #[.int .u64 n, .int .i64 e0] 89)).heap.size = w1.heap.size + 1 by simp] at hVg
  have hbel0 := bstep (bstep hb0 hb1) hb2
  have HV0 := Lib.hid hV0
  have HVn := Lib.hid hVn
  have HVg := Lib.hid hVg
  clear hV0 hVn hVg hrd hB0 hb0 hb1 hb2
  go_wp2
  go_loopw [7] (fun i wr => ∃ (k : Nat) (acc : List De) (a : Nat) (p : Value), k ≤ n ∧ i = .int .u64 k ∧ acc.length = k ∧ (∀ d ∈ acc, d.1.size ≤ 32) ∧ OwnD wr (w1.heap.size + 2) p acc ∧ V2 wr w.heap.size (.slice none 0 0) (.int .i64 0) ∧ V2 wr w1.heap.size (.int .u64 n) (.int .i64 e0) ∧ V2 wr (w1.heap.size + 1) p (.int .i64 a) ∧ finL (goL sl (n - k) acc a) = R ∧ Below w.heap.size w wr ∧ w1.heap.size + 2 ≤ wr.heap.size) (fun i _ => n - (intOf i).toNat)
  case atStart => exact ⟨0, [], e0, .slice none 0 0, by omega, rfl, rfl, by simp, OwnD.nil _ _, HV0.out, HVn.out, HVg.out, by rw [Nat.sub_zero]; exact HR.out, hbel0, by simp⟩
  case round =>
    obtain ⟨k, acc, a, p, hk, rfl, rfl, hsz, ho, hV0, hVn, hVg, hfin, hbel, hwz⟩ := hrel
    clear hbel0 HV0 HVn HVg HR
    have HF := Lib.hid hfin
    have HSZ := Lib.hid hsz
    have hbs := hbel.size
    obtain ⟨sa, sc, rfl⟩ := ho.shape
    have HO := Lib.hid ho
    clear hsz hfin ho
    by_cases hlt : acc.length < n
    · have hai : (acc.length : Int) < (n : Int) := by omega
      obtain ⟨m, hm⟩ : ∃ m, n - acc.length = m + 1 := ⟨n - acc.length - 1, by omega⟩
      rw [hm] at HF
      have HM := Lib.hid hm
      clear hm
      have hc1 := htx (a : Int)
      cases ht : rdt sl (a : Int) 32 with
      | none =>
        have HN : Hid (R = none) := Lib.hid (by rw [← HF.out]; exact goL_no1 ht)
        rw [ht, gotTV] at hc1
        clear ht HF
        obtain ⟨n0, n1, _, _⟩ := id hVn
        obtain ⟨g0, g1, _, _⟩ := id hVg
        go_wp2_with fail
        refine (hc1 _).mono ?_
        rintro e w3 ⟨rfl, hb3⟩
        have hb4 := balloc (bstep hbel hb3) (.cells #[.string ⟨#[]⟩, .int .i64 0] 86)
        have hV := (hV0.keep hb3).keep (balloc (Below.refl _ w3) (.cells #[.string ⟨#[]⟩, .int .i64 0] 86))
        have hne : w.heap.size ≠ w3.heap.size := by have := (hV0.keep hb3).lt; omega
        have HV := Lib.hid hV
        obtain ⟨c0, c1, f0, f1⟩ := hV
        clear hc1 hV0 hVn hVg hb3 hbel n0 n1 g0 g1
        go_wp2
        have hw := HV.out.put (.slice none 0 0) (.int .i64 0)
        refine bodyPost_ret (v := .agg #[.slice none 0 0, .int .i64 0]) (by simp [results, Try.results56, go_sem, hw.c0, hw.c1]) rfl ⟨_, by rw [HN.out]; rfl, by rw [HN.out]; exact OwnD.nil _ _, below_put2S hb4 (Nat.le_refl _) _ _⟩
      | some x =>
        obtain ⟨K, mm⟩ := x
        have hp1 := rdt_pos ht
        obtain ⟨_, hmm, hK, _⟩ := hp1
        rw [ht, gotTV] at hc1
        have HT := Lib.hid ht
        clear ht
        obtain ⟨KK, hKK⟩ : ∃ B : ByteArray, B = ⟨K.toArray⟩ := ⟨_, rfl⟩
        rw [← hKK] at hc1
        have hKz : KK.size ≤ 32 := by
          have : KK.size = K.length := by rw [hKK]; simp [ByteArray.size]
          omega
        have HKK := Lib.hid hKK
        clear hKK hK
        have hm0 : ((mm : Int) == 0) = false := by simp; omega
        have hm1 : (mm == 0) = false := by simp; omega
        have hc2 := hsx (mm : Int)
        obtain ⟨n0, n1, _, _⟩ := id hVn
        obtain ⟨g0, g1, _, _⟩ := id hVg
        cases hs2 : Sm.rdS (rd sl) (mm : Int) with
        | none =>
          have HN : Hid (R = none) := Lib.hid (by rw [← HF.out]; exact goL_no2 HT.out hs2)
          rw [hs2, sgV] at hc2
          clear hs2 HF HT HKK
          go_wp2_with fail
          refine (hc1 _).mono ?_
          rintro e w3 ⟨rfl, hb3⟩
          have hq3 := balloc (Below.refl _ w3) (.cells #[.string KK, .int .i64 mm] 86)
          have hVa := (hV0.keep hb3).keep hq3
          have hbel3 := bstep (bstep hbel hb3) hq3
          have hKV := V2.new w3 86 (.string KK) (.int .i64 mm)
          have hlt3 := (hV0.keep hb3).lt
          clear hc1 hV0 hVn hVg hb3 hbel n0 n1 g0 g1 hq3
          go_wp2_with fail
          refine (hc2 _).mono ?_
          rintro e w4 ⟨rfl, hb4⟩
          have hq4 := balloc (Below.refl _ w4) (.cells #[.int .i64 0, .int .i64 0, .int .i64 0] 92)
          have hV := (hVa.keep hb4).keep hq4
          have hne : w.heap.size ≠ w4.heap.size := by have := (hVa.keep hb4).lt; omega
          have hb5 := bstep (bstep hbel3 hb4) hq4
          have HV := Lib.hid hV
          obtain ⟨c0, c1, f0, f1⟩ := hV
          clear hc2 hVa hb4 hbel3 hq4 hKV
          go_wp2
          have hw := HV.out.put (.slice none 0 0) (.int .i64 0)
          refine bodyPost_ret (v := .agg #[.slice none 0 0, .int .i64 0]) (by simp [results, Try.results56, go_sem, hw.c0, hw.c1]) rfl ⟨_, by rw [HN.out]; rfl, by rw [HN.out]; exact OwnD.nil _ _, below_put2S hb5 (Nat.le_refl _) _ _⟩
        | some y =>
          obtain ⟨⟨x, y⟩, e1⟩ := y
          obtain ⟨hpe, _⟩ := rdS_pos hs2
          have he2 : ((e1 : Int) == 0) = false := by simp; omega
          have he3 : (e1 == 0) = false := by simp; omega
          have HY : Hid (finL (goL sl m (acc ++ [(KK, x, y)]) e1) = R) := Lib.hid (by rw [HKK.out, ← goL_yes HT.out hs2]; exact HF.out)
          rw [hs2, sgV] at hc2
          dsimp only at hc2
          clear hs2 HF HT HKK hpe hmm
          go_wp2_with fail
          refine (hc1 _).mono ?_
          rintro e w3 ⟨rfl, hb3⟩
          have hq3 := balloc (Below.refl _ w3) (.cells #[.string KK, .int .i64 mm] 86)
          have hVa := (hV0.keep hb3).keep hq3
          have hVb := (hVn.keep hb3).keep hq3
          have hVc := (hVg.keep hb3).keep hq3
          have hOa := Lib.hid (OwnD.below (OwnD.below HO.out hb3) hq3)
          have hbel3 := bstep (bstep hbel hb3) hq3
          have hKV := V2.new w3 86 (.string KK) (.int .i64 mm)
          have hz3 := hb3.size
          clear hc1 hV0 hVn hVg hb3 hbel n0 n1 g0 g1 hq3 HO
          go_wp2_with fail
          refine (hc2 _).mono ?_
          rintro e w4 ⟨rfl, hb4⟩
          have hq4 := balloc (Below.refl _ w4) (.cells #[.int .i64 x, .int .i64 y, .int .i64 e1] 92)
          have hVa4 := (hVa.keep hb4).keep hq4
          have hVb4 := (hVb.keep hb4).keep hq4
          have hVc4 := (hVc.keep hb4).keep hq4
          have hKV4 := (hKV.keep hb4).keep hq4
          have hX4 := Var3.new w4 92 (.int .i64 x) (.int .i64 y) (.int .i64 e1)
          have HNE := Lib.hid (OwnD.lt' (OwnD.below hOa.out hb4) (Nat.le_refl _))
          have HO4 := Lib.hid (OwnD.below (OwnD.below hOa.out hb4) hq4)
          have hbel4 := bstep (bstep hbel3 hb4) hq4
          have hz4 := (hKV.keep hb4).lt
          have hz5 : w1.heap.size + 2 ≤ w4.heap.size := by omega
          clear hc2 hVa hVb hVc hKV hOa hb4 hbel3 hq4
          obtain ⟨k0, k1, _, _⟩ := id hKV4
          obtain ⟨g0, g1, _, _⟩ := id hVc4
          have HA := Lib.hid hVa4
          have HB := Lib.hid hVb4
          have HC := Lib.hid hVc4
          have HX := Lib.hid hX4
          clear hVa4 hVb4 hVc4 hKV4 hX4
          go_wp2_with (at_builtin; refine wp_pushD (wr := w4.alloc (.cells #[.int .i64 x, .int .i64 y, .int .i64 e1] 92)) rfl _ _ rfl (w1.heap.size + 2) (.slice sa acc.length sc) acc KK x y rfl HO4.out (by simp; rfl) (by omega) (by simp; omega) ?_; intro g gcap w5 ho5 hb5 hk5 hg5; obtain ⟨p0, p1, p2, p3⟩ := HC.out.block (hk5 (w1.heap.size + 1) (by simp; omega) (OwnD.lo HO4.out (by omega))); have hX5 : w5.cell? ⟨w4.heap.size, 2, none⟩ = some (.int .i64 e1) := KeptD.cell hk5 (by simp) HNE.out HX.out.c2)
          go_roundw
          case rel =>
            refine ⟨acc.length + 1, acc ++ [(KK, x, y)], e1, _, by omega, by go_num, by simp, ?_, ownsRow_setCell_below (ownsRow_setCell_below ho5 (by simp) _) (by simp) _, ?_, ?_, (V2.mk p0 p1 p2 p3).put _ _, by rw [show n - (acc.length + 1) = m by have := HM.out; omega]; exact HY.out, ?_, ?_⟩
            · intro d hd
              rw [List.mem_append, List.mem_singleton] at hd
              rcases hd with hd | rfl
              · exact HSZ.out d hd
              · exact hKz
            · exact ((HA.out.block (hk5 w.heap.size (by simp; omega) (OwnD.lo HO4.out (by omega)))).other (by omega) _ _).other (by omega) _ _
            · exact ((HB.out.block (hk5 w1.heap.size (by simp; omega) (OwnD.lo HO4.out (by omega)))).other (by omega) _ _).other (by omega) _ _
            · exact below_put2S (hbel4.trans (hb5.mono (by omega))) (by omega) _ _
            · have := hb5.size
              simp [World.setCell] at this ⊢
              omega
          case measure => simp [intOf]; omega
    · obtain rfl : acc.length = n := by omega
      have hirr : ¬ (acc.length : Int) < (acc.length : Int) := by omega
      have HF0 : Hid (finL (some (acc, a)) = R) := Lib.hid (by have h := HF.out; rw [Nat.sub_self, goL] at h; exact h)
      obtain ⟨n0, n1, _, _⟩ := id hVn
      obtain ⟨g0, g1, _, _⟩ := id hVg
      have hck := refPCheck_any (.slice sa acc.length sc) acc wr (by omega) (fun d hd => by have := HSZ.out d hd; omega) (DepAt.of_own HO.out)
      cases hc : chkD acc with
      | false =>
        have HN : Hid (R = none) := Lib.hid (by
          rw [← HF0.out, finL, if_neg]
          intro hs
          rw [chkD, decide_eq_true hs, Bool.and_true] at hc
          simp at hc
          omega)
        rw [hc] at hck
        clear hc
        go_wp2_with fail
        refine hck.mono ?_
        rintro e w3 ⟨rfl, hb3⟩
        have HV := Lib.hid (hV0.keep hb3)
        have hb4 := bstep hbel hb3
        obtain ⟨c0, c1, f0, f1⟩ := hV0.keep hb3
        clear hck hVn hVg hb3 n0 n1 g0 g1 hV0
        go_wp2
        have hw := HV.out.put (.slice none 0 0) (.int .i64 0)
        refine bodyPost_ret (v := .agg #[.slice none 0 0, .int .i64 0]) (by simp [results, Try.results56, go_sem, hw.c0, hw.c1]) rfl ⟨_, by rw [HN.out]; rfl, by rw [HN.out]; exact OwnD.nil _ _, below_put2S hb4 (Nat.le_refl _) _ _⟩
      | true =>
        have HN : Hid (R = some (acc, a)) := Lib.hid (by rw [← HF0.out, finL, if_pos (chkD_parts hc).2])
        rw [hc] at hck
        clear hc
        go_wp2_with fail
        refine hck.mono ?_
        rintro e w3 ⟨rfl, hb3⟩
        have HV := Lib.hid (hV0.keep hb3)
        have hb4 := bstep hbel hb3
        obtain ⟨c0, c1, f0, f1⟩ := hV0.keep hb3
        obtain ⟨k0, k1, _, _⟩ := hVg.keep hb3
        have HO3 := Lib.hid (OwnD.below HO.out hb3)
        clear hck hVn hVg hb3 n0 n1 g0 g1 hV0
        go_wp2
        have hw := HV.out.put (.slice sa acc.length sc) (.int .i64 a)
        refine bodyPost_ret (v := .agg #[.slice sa acc.length sc, .int .i64 a]) (by simp [results, Try.results56, go_sem, hw.c0, hw.c1]) rfl ⟨_, by rw [HN.out]; rfl, by rw [HN.out]; exact OwnD.mono (ownsRow_setCell_below (ownsRow_setCell_below HO3.out (by simp; omega) _) (by simp; omega) _) (by omega), below_put2S hb4 (Nat.le_refl _) _ _⟩

theorem refPRead_new (s : ByteArray) (at_ : Int) (w : World) (hs : s.size ≤ 1000000) :
    Calls Try.prog 56 #[.string s, .int .i64 at_] w fun e w' => ∃ u, e = .returned (.agg #[u, .int .i64 (prE (prD s.data.toList at_) : Int)]) ∧ OwnD w' w.heap.size u (prL (prD s.data.toList at_)) ∧ Below w.heap.size w w' := by
  cases h : rd s.data.toList at_ with
  | none =>
    have e1 : prD s.data.toList at_ = none := by simp [prD, h]
    rw [e1]
    exact (refPRead_no s at_ w hs (by rw [h]; intro n e he; cases he)).mono fun e w' ⟨he, hb⟩ => ⟨_, he, OwnD.nil _ _, hb⟩
  | some x =>
    obtain ⟨n, e0⟩ := x
    by_cases h24 : 24 < n
    · have e1 : prD s.data.toList at_ = none := by simp [prD, h, h24]
      rw [e1]
      exact (refPRead_no s at_ w hs (by rw [h]; intro n' e he; cases he; exact h24)).mono fun e w' ⟨he, hb⟩ => ⟨_, he, OwnD.nil _ _, hb⟩
    · have e1 : prD s.data.toList at_ = finL (goL s.data.toList n [] e0) := by simp [prD, h, h24]
      rw [e1]
      exact refPRead_in s at_ n e0 w hs h (by omega)
theorem refPRead_any (s : ByteArray) (at_ : Int) (w : World) (hs : s.size ≤ 1000000) :
    Calls Try.prog 56 #[.string s, .int .i64 at_] w fun e w' => ∃ u, e = .returned (.agg #[u, .int .i64 (prE (prD s.data.toList at_) : Int)]) ∧ DepAt w' u (prL (prD s.data.toList at_)) ∧ Below w.heap.size w w' :=
  (refPRead_new s at_ w hs).mono fun e w' ⟨u, h1, h2, h3⟩ => ⟨u, h1, DepAt.of_own h2, h3⟩
end Go.Proofs.Ytkaehjehpclgcaa
