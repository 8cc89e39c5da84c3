/- Texts of this proof, one behind the other: PastRefRead, PastRefRead2, Open4. -/
import Derived.Test.YtplpeokmhomojaaGPastReads14
/- What the document's Read of a past answers. -/
namespace Go.Proofs.Ytplpeokmhomojaa
open Go.RowKit
set_option linter.unusedVariables false
set_option linter.unusedSimpArgs false

/-- A variable of two cells: block b holds it, and may be written. -/
structure V2 (w : World) (b : Nat) (x y : Value) : Prop where
  c0 : w.cell? ⟨b, 0, none⟩ = some x
  c1 : w.cell? ⟨b, 1, none⟩ = some y
  f0 : w.frozen? ⟨b, 0, none⟩ = false
  f1 : w.frozen? ⟨b, 1, none⟩ = false
theorem V2.new (w : World) (T : TypeId) (x y : Value) : V2 (w.alloc (.cells #[x, y] T)) w.heap.size x y := ⟨by simp, by simp, by simp, by simp⟩
theorem V2.lt {w : World} {b : Nat} {x y : Value} (h : V2 w b x y) : b < w.heap.size := lt_of_cellN h.c0
theorem V2.keep {w w' : World} {b : Nat} {x y : Value} (h : V2 w b x y) (hb : Below w.heap.size w w') : V2 w' b x y :=
  ⟨kc hb h.c0, kc hb h.c1, (hb.frozen (p := ⟨b, 0, none⟩) h.lt).trans h.f0, (hb.frozen (p := ⟨b, 1, none⟩) h.lt).trans h.f1⟩
theorem V2.block {w w' : World} {b : Nat} {x y : Value} (h : V2 w b x y) (hb : w'.heap[b]? = w.heap[b]?) : V2 w' b x y := by
  refine ⟨?_, ?_, ?_, ?_⟩
  · rw [World.cell?_of_block hb]; exact h.c0
  · rw [World.cell?_of_block hb]; exact h.c1
  · rw [World.frozen?_of_block hb]; exact h.f0
  · rw [World.frozen?_of_block hb]; exact h.f1
theorem V2.put {w : World} {b : Nat} {x y : Value} (h : V2 w b x y) (x' y' : Value) : V2 ((w.setCell ⟨b, 0, none⟩ x').setCell ⟨b, 1, none⟩ y') b x' y' := by
  have c1 : (w.setCell ⟨b, 0, none⟩ x').cell? ⟨b, 1, none⟩ = some y := by rw [World.cell?_setCell_other _ _ _ _ (by simp)]; exact h.c1
  refine ⟨?_, World.cell?_setCell_same _ _ _ c1, by simpa using h.f0, by simpa using h.f1⟩
  rw [World.cell?_setCell_other _ _ _ _ (by simp)]
  exact World.cell?_setCell_same _ _ _ h.c0
theorem V2.other {w : World} {b b2 : Nat} {x y : Value} (h : V2 w b x y) (hne : b ≠ b2) (o : Nat) (u : Value) : V2 (w.setCell ⟨b2, o, none⟩ u) b x y := h.block (Below.heap_setCell _ _ _ _ hne)
theorem below_put2S {n b : Nat} {w w' : World} (hb : Below n w w') (h : n ≤ b) (x y : Value) : Below n w ((w'.setCell ⟨b, 0, none⟩ x).setCell ⟨b, 1, none⟩ y) := (hb.setCell h _).setCell h _

theorem rdt_pos {l : List UInt8} {a : Int} {most : Int} {t : List UInt8} {m : Nat} (h : rdt l a most = some (t, m)) : a < m ∧ 0 < m ∧ (t.length : Int) ≤ most ∧ m ≤ l.length := by
  unfold rdt at h
  cases hr : rd l a with
  | none => rw [hr] at h; cases h
  | some z =>
    obtain ⟨n, e⟩ := z
    obtain ⟨_, h2, h3, h4⟩ := rd_some hr
    rw [hr] at h
    simp only at h
    split at h
    · cases h
    · rename_i hc
      simp at h
      obtain ⟨rfl, rfl⟩ := h
      simp
      omega
theorem rdS_pos {l : List UInt8} {a : Int} {p : Int × Int} {e : Nat} (h : Sm.rdS (rd l) a = some (p, e)) : 0 < e ∧ e ≤ l.length := by
  unfold Sm.rdS at h
  split at h
  · cases h
  · split at h
    · cases h
    · rename_i hb
      split at h
      · simp at h
        obtain ⟨_, rfl⟩ := h
        have := rd_bounds hb
        omega
      · cases h

set_option maxRecDepth 100000 in
set_option maxHeartbeats 1600000 in
theorem refPRead_no (s : ByteArray) (at_ : Int) (w : World) (hs : s.size ≤ 1000000) (h : ∀ n e, rd s.data.toList at_ = some (n, e) → 24 < n) :
    Calls Try.prog 28 #[.string s, .int .i64 at_] w fun e w' => e = .returned (.agg #[.slice none 0 0, .int .i64 0]) ∧ Below w.heap.size w w' := by
  have hrd := fun W => refRead_any s at_ W hs
  have hb0 : Below w.heap.size w (w.alloc (.cells #[.slice none 0 0, .int .i64 0] 48)) := balloc (Below.refl _ _) _
  have hB0 := V2.new w 48 (.slice none 0 0) (.int .i64 0)
  cases hr : rd s.data.toList at_ with
  | none =>
    rw [hr, gotV] at hrd
    clear h hr
    go_enter Try.func28, Try.ntmps28
    go_wp2_with fail
    refine (hrd _).mono ?_
    rintro e w1 ⟨rfl, hb1⟩
    have hV := (hB0.keep hb1).keep (balloc (Below.refl _ w1) (.cells #[.int .u64 0, .int .i64 0] 93))
    have hb2 := balloc (bstep hb0 hb1) (.cells #[.int .u64 0, .int .i64 0] 93)
    have hlt := hV.lt
    have hne : w.heap.size ≠ w1.heap.size := by have := (hB0.keep hb1).lt; omega
    have HV := Lib.hid hV
    obtain ⟨c0, c1, f0, f1⟩ := hV
    clear hrd hB0 hb0 hb1
    go_wp2
    have hw := HV.out.put (.slice none 0 0) (.int .i64 0)
    refine bodyPost_ret (v := .agg #[.slice none 0 0, .int .i64 0]) (by simp [results, Try.results28, go_sem, hw.c0, hw.c1]) rfl ⟨rfl, below_put2S hb2 (Nat.le_refl _) _ _⟩
  | some x =>
    obtain ⟨n, e0⟩ := x
    have h24 := h n e0 hr
    obtain ⟨_, _, _, hgt⟩ := rd_some hr
    rw [hr, gotV] at hrd
    have he0 : ((e0 : Int) == 0) = false := by simp; omega
    have he1 : (e0 == 0) = false := by simp; omega
    have h24i : (24 : Int) < (n : Int) := by omega
    clear h hr hgt
    go_enter Try.func28, Try.ntmps28
    go_wp2_with fail
    refine (hrd _).mono ?_
    rintro e w1 ⟨rfl, hb1⟩
    have hV := (hB0.keep hb1).keep (balloc (Below.refl _ w1) (.cells #[.int .u64 n, .int .i64 e0] 93))
    have hb2 := balloc (bstep hb0 hb1) (.cells #[.int .u64 n, .int .i64 e0] 93)
    have hne : w.heap.size ≠ w1.heap.size := by have := (hB0.keep hb1).lt; omega
    have HV := Lib.hid hV
    obtain ⟨c0, c1, f0, f1⟩ := hV
    clear hrd hB0 hb0 hb1
    go_wp2
    have hw := HV.out.put (.slice none 0 0) (.int .i64 0)
    refine bodyPost_ret (v := .agg #[.slice none 0 0, .int .i64 0]) (by simp [results, Try.results28, go_sem, hw.c0, hw.c1]) rfl ⟨rfl, below_put2S hb2 (Nat.le_refl _) _ _⟩
end Go.Proofs.Ytplpeokmhomojaa
/- What the document's Read of a past answers: the loop. -/
namespace Go.Proofs.Ytplpeokmhomojaa
open Go.RowKit
set_option linter.unusedVariables false
set_option linter.unusedSimpArgs false

theorem goL_no1 {s : List UInt8} {n : Nat} {acc : List De} {a : Nat} (h : rdt s (a : Int) 32 = none) : finL (goL s (n + 1) acc a) = none := by
  rw [goL_none (by simp [rdD, h])]; rfl
theorem goL_no2 {s : List UInt8} {n : Nat} {acc : List De} {a : Nat} {k : List UInt8} {m : Nat} (h : rdt s (a : Int) 32 = some (k, m)) (h2 : Sm.rdS (rd s) (m : Int) = none) : finL (goL s (n + 1) acc a) = none := by
  rw [goL_none (by simp [rdD, h, h2])]; rfl
theorem goL_yes {s : List UInt8} {n : Nat} {acc : List De} {a : Nat} {k : List UInt8} {m e : Nat} {x y : Int} (h : rdt s (a : Int) 32 = some (k, m)) (h2 : Sm.rdS (rd s) (m : Int) = some ((x, y), e)) : goL s (n + 1) acc a = goL s n (acc ++ [(⟨k.toArray⟩, x, y)]) e :=
  goL_step (by simp [rdD, h, h2])

set_option maxRecDepth 100000 in
set_option maxHeartbeats 1600000 in
theorem refPRead_in (s : ByteArray) (at_ : Int) (n e0 : Nat) (w : World) (hs : s.size ≤ 1000000) (h : rd s.data.toList at_ = some (n, e0)) (h24 : n ≤ 24) :
    Calls Try.prog 28 #[.string s, .int .i64 at_] w fun e w' => ∃ u, e = .returned (.agg #[u, .int .i64 (prE (finL (goL s.data.toList n [] e0)) : Int)]) ∧ DepAt w' u (prL (finL (goL s.data.toList n [] e0))) ∧ Below w.heap.size w w' := by
  have hrd := fun W => refRead_any s at_ W hs
  have hb0 : Below w.heap.size w (w.alloc (.cells #[.slice none 0 0, .int .i64 0] 48)) := balloc (Below.refl _ _) _
  have hB0 := V2.new w 48 (.slice none 0 0) (.int .i64 0)
  obtain ⟨_, _, _, hgt⟩ := rd_some h
  rw [h, gotV] at hrd
  have he0 : ((e0 : Int) == 0) = false := by simp; omega
  have he1 : (e0 == 0) = false := by simp; omega
  have h24i : ¬ (24 : Int) < (n : Int) := by omega
  clear h hgt
  generalize hR : finL (goL s.data.toList n [] e0) = R
  have HR := Lib.hid hR
  clear hR
  have htx := fun (a : Int) W => refReadText_any s a 32 W hs (by omega)
  have hsx := fun (a : Int) W => refSRead_any s a W hs
  generalize s.data.toList = sl at HR htx hsx
  go_enter Try.func28, Try.ntmps28
  go_wp2_with fail
  refine (hrd _).mono ?_
  rintro e w1 ⟨rfl, hb1⟩
  have hb2 : Below w1.heap.size w1 ((w1.alloc (.cells #[.int .u64 n, .int .i64 e0] 93)).alloc (.cells #[.slice none 0 0, .int .i64 e0] 48)) := balloc (balloc (Below.refl _ w1) _) _
  have hV0 := (hB0.keep hb1).keep hb2
  have hlt0 := (hB0.keep hb1).lt
  have hVn : V2 ((w1.alloc (.cells #[.int .u64 n, .int .i64 e0] 93)).alloc (.cells #[.slice none 0 0, .int .i64 e0] 48)) w1.heap.size (.int .u64 n) (.int .i64 e0) := ⟨by simp, by simp, by simp, by simp⟩
  have hVg := V2.new (w1.alloc (.cells #[.int .u64 n, .int .i64 e0] 93)) 48 (.slice none 0 0) (.int .i64 e0)
  rw [show (w1.alloc (.cells #[.int .u64 n, .int .i64 e0] 93)).heap.size = w1.heap.size + 1 by simp] at hVg
  have hbel0 := bstep (bstep hb0 hb1) hb2
  have HV0 := Lib.hid hV0
  have HVn := Lib.hid hVn
  have HVg := Lib.hid hVg
  clear hV0 hVn hVg hrd hB0 hb0 hb1 hb2
  go_wp2
  go_loopw [7] (fun i wr => ∃ (k : Nat) (acc : List De) (a : Nat) (p : Value), k ≤ n ∧ i = .int .u64 k ∧ acc.length = k ∧ (∀ d ∈ acc, d.1.size ≤ 32) ∧ OwnD wr (w1.heap.size + 2) p acc ∧ V2 wr w.heap.size (.slice none 0 0) (.int .i64 0) ∧ V2 wr w1.heap.size (.int .u64 n) (.int .i64 e0) ∧ V2 wr (w1.heap.size + 1) p (.int .i64 a) ∧ finL (goL sl (n - k) acc a) = R ∧ Below w.heap.size w wr ∧ w1.heap.size + 2 ≤ wr.heap.size) (fun i _ => n - (intOf i).toNat)
  case atStart => exact ⟨0, [], e0, .slice none 0 0, by omega, rfl, rfl, by simp, OwnD.nil _ _, HV0.out, HVn.out, HVg.out, by rw [Nat.sub_zero]; exact HR.out, hbel0, by simp⟩
  case round =>
    obtain ⟨k, acc, a, p, hk, rfl, rfl, hsz, ho, hV0, hVn, hVg, hfin, hbel, hwz⟩ := hrel
    clear hbel0 HV0 HVn HVg HR
    have HF := Lib.hid hfin
    have HSZ := Lib.hid hsz
    have hbs := hbel.size
    obtain ⟨sa, sc, rfl⟩ := ho.shape
    have HO := Lib.hid ho
    clear hsz hfin ho
    by_cases hlt : acc.length < n
    · have hai : (acc.length : Int) < (n : Int) := by omega
      obtain ⟨m, hm⟩ : ∃ m, n - acc.length = m + 1 := ⟨n - acc.length - 1, by omega⟩
      rw [hm] at HF
      have HM := Lib.hid hm
      clear hm
      have hc1 := htx (a : Int)
      cases ht : rdt sl (a : Int) 32 with
      | none =>
        have HN : Hid (R = none) := Lib.hid (by rw [← HF.out]; exact goL_no1 ht)
        rw [ht, gotTV] at hc1
        clear ht HF
        obtain ⟨n0, n1, _, _⟩ := id hVn
        obtain ⟨g0, g1, _, _⟩ := id hVg
        go_wp2_with fail
        refine (hc1 _).mono ?_
        rintro e w3 ⟨rfl, hb3⟩
        have hb4 := balloc (bstep hbel hb3) (.cells #[.string ⟨#[]⟩, .int .i64 0] 96)
        have hV := (hV0.keep hb3).keep (balloc (Below.refl _ w3) (.cells #[.string ⟨#[]⟩, .int .i64 0] 96))
        have hne : w.heap.size ≠ w3.heap.size := by have := (hV0.keep hb3).lt; omega
        have HV := Lib.hid hV
        obtain ⟨c0, c1, f0, f1⟩ := hV
        clear hc1 hV0 hVn hVg hb3 hbel n0 n1 g0 g1
        go_wp2
        have hw := HV.out.put (.slice none 0 0) (.int .i64 0)
        refine bodyPost_ret (v := .agg #[.slice none 0 0, .int .i64 0]) (by simp [results, Try.results28, go_sem, hw.c0, hw.c1]) rfl ⟨_, by rw [HN.out]; rfl, by rw [HN.out]; exact DepAt.nil _, below_put2S hb4 (Nat.le_refl _) _ _⟩
      | some x =>
        obtain ⟨K, mm⟩ := x
        have hp1 := rdt_pos ht
        obtain ⟨_, hmm, hK, _⟩ := hp1
        rw [ht, gotTV] at hc1
        have HT := Lib.hid ht
        clear ht
        obtain ⟨KK, hKK⟩ : ∃ B : ByteArray, B = ⟨K.toArray⟩ := ⟨_, rfl⟩
        rw [← hKK] at hc1
        have hKz : KK.size ≤ 32 := by
          have : KK.size = K.length := by rw [hKK]; simp [ByteArray.size]
          omega
        have HKK := Lib.hid hKK
        clear hKK hK
        have hm0 : ((mm : Int) == 0) = false := by simp; omega
        have hm1 : (mm == 0) = false := by simp; omega
        have hc2 := hsx (mm : Int)
        obtain ⟨n0, n1, _, _⟩ := id hVn
        obtain ⟨g0, g1, _, _⟩ := id hVg
        cases hs2 : Sm.rdS (rd sl) (mm : Int) with
        | none =>
          have HN : Hid (R = none) := Lib.hid (by rw [← HF.out]; exact goL_no2 HT.out hs2)
          rw [hs2, sgV] at hc2
          clear hs2 HF HT HKK
          go_wp2_with fail
          refine (hc1 _).mono ?_
          rintro e w3 ⟨rfl, hb3⟩
          have hq3 := balloc (Below.refl _ w3) (.cells #[.string KK, .int .i64 mm] 96)
          have hVa := (hV0.keep hb3).keep hq3
          have hbel3 := bstep (bstep hbel hb3) hq3
          have hKV := V2.new w3 96 (.string KK) (.int .i64 mm)
          have hlt3 := (hV0.keep hb3).lt
          clear hc1 hV0 hVn hVg hb3 hbel n0 n1 g0 g1 hq3
          go_wp2_with fail
          refine (hc2 _).mono ?_
          rintro e w4 ⟨rfl, hb4⟩
          have hq4 := balloc (Below.refl _ w4) (.cells #[.int .i64 0, .int .i64 0, .int .i64 0] 99)
          have hV := (hVa.keep hb4).keep hq4
          have hne : w.heap.size ≠ w4.heap.size := by have := (hVa.keep hb4).lt; omega
          have hb5 := bstep (bstep hbel3 hb4) hq4
          have HV := Lib.hid hV
          obtain ⟨c0, c1, f0, f1⟩ := hV
          clear hc2 hVa hb4 hbel3 hq4 hKV
          go_wp2
          have hw := HV.out.put (.slice none 0 0) (.int .i64 0)
          refine bodyPost_ret (v := .agg #[.slice none 0 0, .int .i64 0]) (by simp [results, Try.results28, go_sem, hw.c0, hw.c1]) rfl ⟨_, by rw [HN.out]; rfl, by rw [HN.out]; exact DepAt.nil _, below_put2S hb5 (Nat.le_refl _) _ _⟩
        | some y =>
          obtain ⟨⟨x, y⟩, e1⟩ := y
          obtain ⟨hpe, _⟩ := rdS_pos hs2
          have he2 : ((e1 : Int) == 0) = false := by simp; omega
          have he3 : (e1 == 0) = false := by simp; omega
          have HY : Hid (finL (goL sl m (acc ++ [(KK, x, y)]) e1) = R) := Lib.hid (by rw [HKK.out, ← goL_yes HT.out hs2]; exact HF.out)
          rw [hs2, sgV] at hc2
          dsimp only at hc2
          clear hs2 HF HT HKK hpe hmm
          go_wp2_with fail
          refine (hc1 _).mono ?_
          rintro e w3 ⟨rfl, hb3⟩
          have hq3 := balloc (Below.refl _ w3) (.cells #[.string KK, .int .i64 mm] 96)
          have hVa := (hV0.keep hb3).keep hq3
          have hVb := (hVn.keep hb3).keep hq3
          have hVc := (hVg.keep hb3).keep hq3
          have hOa := Lib.hid (OwnD.below (OwnD.below HO.out hb3) hq3)
          have hbel3 := bstep (bstep hbel hb3) hq3
          have hKV := V2.new w3 96 (.string KK) (.int .i64 mm)
          have hz3 := hb3.size
          clear hc1 hV0 hVn hVg hb3 hbel n0 n1 g0 g1 hq3 HO
          go_wp2_with fail
          refine (hc2 _).mono ?_
          rintro e w4 ⟨rfl, hb4⟩
          have hq4 := balloc (Below.refl _ w4) (.cells #[.int .i64 x, .int .i64 y, .int .i64 e1] 99)
          have hVa4 := (hVa.keep hb4).keep hq4
          have hVb4 := (hVb.keep hb4).keep hq4
          have hVc4 := (hVc.keep hb4).keep hq4
          have hKV4 := (hKV.keep hb4).keep hq4
          have hX4 := Var3.new w4 99 (.int .i64 x) (.int .i64 y) (.int .i64 e1)
          have HNE := Lib.hid (OwnD.lt' (OwnD.below hOa.out hb4) (Nat.le_refl _))
          have HO4 := Lib.hid (OwnD.below (OwnD.below hOa.out hb4) hq4)
          have hbel4 := bstep (bstep hbel3 hb4) hq4
          have hz4 := (hKV.keep hb4).lt
          have hz5 : w1.heap.size + 2 ≤ w4.heap.size := by omega
          clear hc2 hVa hVb hVc hKV hOa hb4 hbel3 hq4
          obtain ⟨k0, k1, _, _⟩ := id hKV4
          obtain ⟨g0, g1, _, _⟩ := id hVc4
          have HA := Lib.hid hVa4
          have HB := Lib.hid hVb4
          have HC := Lib.hid hVc4
          have HX := Lib.hid hX4
          clear hVa4 hVb4 hVc4 hKV4 hX4
          go_wp2_with (at_builtin; refine wp_pushD (wr := w4.alloc (.cells #[.int .i64 x, .int .i64 y, .int .i64 e1] 99)) rfl _ _ rfl (w1.heap.size + 2) (.slice sa acc.length sc) acc KK x y rfl HO4.out (by simp; rfl) (by omega) (by simp; omega) ?_; intro g gcap w5 ho5 hb5 hk5 hg5; obtain ⟨p0, p1, p2, p3⟩ := HC.out.block (hk5 (w1.heap.size + 1) (by simp; omega) (OwnD.lo HO4.out (by omega))); have hX5 : w5.cell? ⟨w4.heap.size, 2, none⟩ = some (.int .i64 e1) := KeptD.cell hk5 (by simp) HNE.out HX.out.c2)
          go_roundw
          case rel =>
            refine ⟨acc.length + 1, acc ++ [(KK, x, y)], e1, _, by omega, by go_num, by simp, ?_, ownsRow_setCell_below (ownsRow_setCell_below ho5 (by simp) _) (by simp) _, ?_, ?_, (V2.mk p0 p1 p2 p3).put _ _, by rw [show n - (acc.length + 1) = m by have := HM.out; omega]; exact HY.out, ?_, ?_⟩
            · intro d hd
              rw [List.mem_append, List.mem_singleton] at hd
              rcases hd with hd | rfl
              · exact HSZ.out d hd
              · exact hKz
            · exact ((HA.out.block (hk5 w.heap.size (by simp; omega) (OwnD.lo HO4.out (by omega)))).other (by omega) _ _).other (by omega) _ _
            · exact ((HB.out.block (hk5 w1.heap.size (by simp; omega) (OwnD.lo HO4.out (by omega)))).other (by omega) _ _).other (by omega) _ _
            · exact below_put2S (hbel4.trans (hb5.mono (by omega))) (by omega) _ _
            · have := hb5.size
              simp [World.setCell] at this ⊢
              omega
          case measure => simp [intOf]; omega
    · obtain rfl : acc.length = n := by omega
      have hirr : ¬ (acc.length : Int) < (acc.length : Int) := by omega
      have HF0 : Hid (finL (some (acc, a)) = R) := Lib.hid (by have h := HF.out; rw [Nat.sub_self, goL] at h; exact h)
      obtain ⟨n0, n1, _, _⟩ := id hVn
      obtain ⟨g0, g1, _, _⟩ := id hVg
      have hck := refPCheck_any (.slice sa acc.length sc) acc wr (by omega) (fun d hd => by have := HSZ.out d hd; omega) (DepAt.of_own HO.out)
      cases hc : chkD acc with
      | false =>
        have HN : Hid (R = none) := Lib.hid (by
          rw [← HF0.out, finL, if_neg]
          intro hs
          rw [chkD, decide_eq_true hs, Bool.and_true] at hc
          simp at hc
          omega)
        rw [hc] at hck
        clear hc
        go_wp2_with fail
        refine hck.mono ?_
        rintro e w3 ⟨rfl, hb3⟩
        have HV := Lib.hid (hV0.keep hb3)
        have hb4 := bstep hbel hb3
        obtain ⟨c0, c1, f0, f1⟩ := hV0.keep hb3
        clear hck hVn hVg hb3 n0 n1 g0 g1 hV0
        go_wp2
        have hw := HV.out.put (.slice none 0 0) (.int .i64 0)
        refine bodyPost_ret (v := .agg #[.slice none 0 0, .int .i64 0]) (by simp [results, Try.results28, go_sem, hw.c0, hw.c1]) rfl ⟨_, by rw [HN.out]; rfl, by rw [HN.out]; exact DepAt.nil _, below_put2S hb4 (Nat.le_refl _) _ _⟩
      | true =>
        have HN : Hid (R = some (acc, a)) := Lib.hid (by rw [← HF0.out, finL, if_pos (chkD_parts hc).2])
        rw [hc] at hck
        clear hc
        go_wp2_with fail
        refine hck.mono ?_
        rintro e w3 ⟨rfl, hb3⟩
        have HV := Lib.hid (hV0.keep hb3)
        have hb4 := bstep hbel hb3
        obtain ⟨c0, c1, f0, f1⟩ := hV0.keep hb3
        obtain ⟨k0, k1, _, _⟩ := hVg.keep hb3
        have HO3 := Lib.hid (OwnD.below HO.out hb3)
        clear hck hVn hVg hb3 n0 n1 g0 g1 hV0
        go_wp2
        have hw := HV.out.put (.slice sa acc.length sc) (.int .i64 a)
        refine bodyPost_ret (v := .agg #[.slice sa acc.length sc, .int .i64 a]) (by simp [results, Try.results28, go_sem, hw.c0, hw.c1]) rfl ⟨_, by rw [HN.out]; rfl, by rw [HN.out]; exact DepAt.of_own (ownsRow_setCell_below (ownsRow_setCell_below HO3.out (by simp; omega) _) (by simp; omega) _), below_put2S hb4 (Nat.le_refl _) _ _⟩

theorem refPRead_any (s : ByteArray) (at_ : Int) (w : World) (hs : s.size ≤ 1000000) :
    Calls Try.prog 28 #[.string s, .int .i64 at_] w fun e w' => ∃ u, e = .returned (.agg #[u, .int .i64 (prE (prD s.data.toList at_) : Int)]) ∧ DepAt w' u (prL (prD s.data.toList at_)) ∧ Below w.heap.size w w' := by
  cases h : rd s.data.toList at_ with
  | none =>
    have e1 : prD s.data.toList at_ = none := by simp [prD, h]
    rw [e1]
    exact (refPRead_no s at_ w hs (by rw [h]; intro n e he; cases he)).mono fun e w' ⟨he, hb⟩ => ⟨_, he, DepAt.nil _, hb⟩
  | some x =>
    obtain ⟨n, e0⟩ := x
    by_cases h24 : 24 < n
    · have e1 : prD s.data.toList at_ = none := by simp [prD, h, h24]
      rw [e1]
      exact (refPRead_no s at_ w hs (by rw [h]; intro n' e he; cases he; exact h24)).mono fun e w' ⟨he, hb⟩ => ⟨_, he, DepAt.nil _, hb⟩
    · have e1 : prD s.data.toList at_ = finL (goL s.data.toList n [] e0) := by simp [prD, h, h24]
      rw [e1]
      exact refPRead_in s at_ n e0 w hs h (by omega)
end Go.Proofs.Ytplpeokmhomojaa
/- Dependencies, rows of them, a dependency with ranges, and three ints among the arguments, opened. -/
namespace Go.Proofs.Ytplpeokmhomojaa
open Go.ChangeShapes Go.WideShapes Go.ChangeAt Go.RowKit Go.Joins Go.Deep
set_option linter.unusedVariables false

section
variable {H : Type} {enc : TypeId × Value → H} {P : Program} {w : World} {base : Nat} {spare : Nat → Bool} {held : Bool}

/-- Cells that read as a text and a struct of two ints. -/
theorem trod_dep {e : TypeId} {f0 f1 g0 g1 : Field} {fuel : Nat} {cs : List Value} {x : DataW H × List MemPlace} (he : P.underlying e = some (.struct #[f0, f1])) (hf : f0.offset = 0 ∧ f1.offset = 1 ∧ P.cellsOf f0.type = 1 ∧ P.cellsOf f1.type = 2)
    (hC : P.cellsOf e = 3) (h0 : P.underlying f0.type = some .string) (h1 : P.underlying f1.type = some (.struct #[g0, g1])) (hg : g0.offset = 0 ∧ g1.offset = 1 ∧ P.cellsOf g0.type = 1 ∧ P.cellsOf g1.type = 1)
    (h2 : P.underlying g0.type = some (.int .i64)) (h3 : P.underlying g1.type = some (.int .i64)) (h : DataW.trod enc P w base spare held fuel e cs = some x) :
    ∃ (k : ByteArray) (n s : Int), cs = [.string k, .int .i64 n, .int .i64 s] ∧ k.size ≤ maxLen ∧ In64 (n, s) := by
  obtain ⟨y0, y1, n', hx, hcl, k0, k1⟩ := trod_struct2 he h
  obtain ⟨a1, a2, a3, a4⟩ := hf
  obtain ⟨b1, b2, b3, b4⟩ := hg
  rw [hC] at hcl
  match cs, hcl with
  | [c0, c1, c2], _ =>
    rw [a1, a3] at k0
    rw [a2, a4] at k1
    obtain ⟨z0, z1, n2, hx2, hcl2, m0, m1⟩ := trod_struct2 h1 k1
    rw [b1, b3] at m0
    rw [b2, b4] at m1
    obtain ⟨k, e0, _, z0⟩ := DataW.trod_string h0 k0
    obtain ⟨n, e1, _, z1⟩ := DataW.trod_int h2 m0
    obtain ⟨s, e2, _, z2⟩ := DataW.trod_int h3 m1
    simp at e0 e1 e2
    subst e0 e1 e2
    exact ⟨k, n, s, rfl, z0, bounds_i64 z1, bounds_i64 z2⟩

/-- A dependency, by value. -/
theorem open_dep {r : Reach} {b0 : Nat} {e : TypeId} {f0 f1 g0 g1 : Field} {v : Value} {d : DataW H} {p : List MemPlace} (he : P.underlying e = some (.struct #[f0, f1])) (hf : f0.offset = 0 ∧ f1.offset = 1 ∧ P.cellsOf f0.type = 1 ∧ P.cellsOf f1.type = 2)
    (hC : P.cellsOf e = 3) (h0 : P.underlying f0.type = some .string) (h1 : P.underlying f1.type = some (.struct #[g0, g1])) (hg : g0.offset = 0 ∧ g1.offset = 1 ∧ P.cellsOf g0.type = 1 ∧ P.cellsOf g1.type = 1)
    (h2 : P.underlying g0.type = some (.int .i64)) (h3 : P.underlying g1.type = some (.int .i64)) (hv : Value.okWide P w r b0 e v) (h : DataW.Trod enc P w base spare held e v d p) :
    ∃ (k : ByteArray) (n s : Int), v = .agg #[.string k, .int .i64 n, .int .i64 s] ∧ k.size ≤ maxLen ∧ In64 (n, s) := by
  obtain ⟨cs, rfl, hsz⟩ := okWide_struct he hv
  obtain ⟨fuel, hf'⟩ := h
  obtain ⟨k, n, s, e1, hk, hb⟩ := trod_dep he hf hC h0 h1 hg h2 h3 hf'
  have e2 : cs = #[.string k, .int .i64 n, .int .i64 s] := by
    apply Array.ext'
    simpa [Value.cells] using e1
  subst e2
  exact ⟨k, n, s, rfl, hk, hb⟩

/-- A row of dependencies. -/
theorem open_deps {t e : TypeId} {f0 f1 g0 g1 : Field} {fuel : Nat} {v : Value} {x : DataW H × List MemPlace} (ht : P.underlying t = some (.slice e)) (he : P.underlying e = some (.struct #[f0, f1])) (hf : f0.offset = 0 ∧ f1.offset = 1 ∧ P.cellsOf f0.type = 1 ∧ P.cellsOf f1.type = 2)
    (hC : P.cellsOf e = 3) (h0 : P.underlying f0.type = some .string) (h1 : P.underlying f1.type = some (.struct #[g0, g1])) (hg : g0.offset = 0 ∧ g1.offset = 1 ∧ P.cellsOf g0.type = 1 ∧ P.cellsOf g1.type = 1)
    (h2 : P.underlying g0.type = some (.int .i64)) (h3 : P.underlying g1.type = some (.int .i64))
    (h : DataW.trod enc P w base spare held fuel t v.cells.toList = some x) (hv : ∃ a n c, v = .slice a n c) :
    ∃ l : List De, DepAt w v l ∧ Szd l ∧ ∀ d ∈ l, In64 d.2 := by
  obtain ⟨a, len, cap, rfl⟩ := hv
  rcases open_slice ht h with ⟨hcs, _⟩ | ⟨x, l, c, m, n, D, Pl, hcs, _, hl, hm, hmm, _, hi⟩
  · simp [Value.cells] at hcs
    obtain ⟨rfl, rfl, rfl⟩ := hcs
    exact ⟨[], DepAt.nil w, by simp [Szd], by simp⟩
  · simp [Value.cells] at hcs
    obtain ⟨rfl, rfl, rfl⟩ := hcs
    have hlm : len ≤ m := by rw [hmm]; split <;> omega
    have all : ∀ i, ∃ d : De, i < len → (d.1.size ≤ maxLen ∧ In64 d.2) ∧ w.cell? (x.add (i * 3)) = some (.string d.1) ∧ w.cell? (x.add (i * 3 + 1)) = some (.int .i64 d.2.1) ∧ w.cell? (x.add (i * 3 + 2)) = some (.int .i64 d.2.2) := by
      intro i
      by_cases hil : i < len
      · obtain ⟨cs', hc, ht'⟩ := hi i (by omega)
        rw [hC] at hc
        obtain ⟨k, n, s, rfl, hk, hb⟩ := trod_dep he hf hC h0 h1 hg h2 h3 ht'
        obtain ⟨_, hcl', hat⟩ := World.cells?_some hc
        refine ⟨(k, n, s), fun _ => ⟨⟨hk, hb⟩, ?_, ?_, ?_⟩⟩
        · have := hat 0 (by omega)
          simpa [Go.Deep.add_add] using this
        · have := hat 1 (by omega)
          simpa [Go.Deep.add_add] using this
        · have := hat 2 (by omega)
          simpa [Go.Deep.add_add] using this
      · exact ⟨(ByteArray.empty, 0, 0), fun hh => absurd hh hil⟩
    obtain ⟨F, hF⟩ : ∃ F : Nat → De, ∀ i, i < len → ((F i).1.size ≤ maxLen ∧ In64 (F i).2) ∧ w.cell? (x.add (i * 3)) = some (.string (F i).1) ∧ w.cell? (x.add (i * 3 + 1)) = some (.int .i64 (F i).2.1) ∧ w.cell? (x.add (i * 3 + 2)) = some (.int .i64 (F i).2.2) :=
      ⟨fun i => (all i).choose, fun i => (all i).choose_spec⟩
    obtain ⟨b, off, spot⟩ := x
    refine ⟨(List.range len).map F, ⟨some ⟨b, off, spot⟩, cap, by simp, by simpa using hl, hm, by simp, ?_⟩, ?_, ?_⟩
    · intro i hi
      have hi' : i < len := by simpa using hi
      have hspot : spot = none := by
        have := (hF 0 (by omega)).2.1
        simpa [Addr.add] using World.cell?_spot this
      subst hspot
      have q0 := (hF i hi').2.1
      have q1 := (hF i hi').2.2.1
      have q2 := (hF i hi').2.2.2
      rw [Addr.add_lit] at q0 q1 q2
      refine ⟨b, off, rfl, World.block_lt_of_cell? w _ q0, ?_, ?_, ?_⟩
      · simp only [List.getElem_map, List.getElem_range]
        exact q0
      · simp only [List.getElem_map, List.getElem_range]
        rw [Nat.add_assoc]
        exact q1
      · simp only [List.getElem_map, List.getElem_range]
        rw [Nat.add_assoc]
        exact q2
    · intro d hd
      simp at hd
      obtain ⟨i, hi, rfl⟩ := hd
      have := (hF i hi).1.1
      unfold maxLen at this
      exact this
    · intro d hd
      simp at hd
      obtain ⟨i, hi, rfl⟩ := hd
      exact (hF i hi).1.2

/-- A struct of a dependency and a row of ranges, by value. -/
theorem open_ask {r : Reach} {b0 : Nat} {t : TypeId} {f0 f1 g0 g1 : Field} {F G : Field} {R : TypeId} {r0 r1 : Field} {v : Value} {d : DataW H} {p : List MemPlace} (ht : P.underlying t = some (.struct #[F, G])) (hF : F.offset = 0 ∧ G.offset = 3 ∧ P.cellsOf G.type = 1) (hT : P.cellsOf t = 4)
    (he : P.underlying F.type = some (.struct #[f0, f1])) (hf : f0.offset = 0 ∧ f1.offset = 1 ∧ P.cellsOf f0.type = 1 ∧ P.cellsOf f1.type = 2)
    (hC : P.cellsOf F.type = 3) (h0 : P.underlying f0.type = some .string) (h1 : P.underlying f1.type = some (.struct #[g0, g1])) (hg : g0.offset = 0 ∧ g1.offset = 1 ∧ P.cellsOf g0.type = 1 ∧ P.cellsOf g1.type = 1)
    (h2 : P.underlying g0.type = some (.int .i64)) (h3 : P.underlying g1.type = some (.int .i64))
    (hG : P.underlying G.type = some (.slice R)) (hR : P.underlying R = some (.struct #[r0, r1])) (hone : oneCellFields P #[r0, r1] = true) (hRC : P.cellsOf R = 2) (hr0 : P.underlying r0.type = some .string) (hr1 : P.underlying r1.type = some .string)
    (hv : Value.okWide P w r b0 t v) (h : DataW.Trod enc P w base spare held t v d p) :
    ∃ (k : ByteArray) (n s : Int) (a : Option Addr) (rs : List (ByteArray × ByteArray)) (cap : Nat), v = .agg #[.string k, .int .i64 n, .int .i64 s, .slice a rs.length cap] ∧ k.size ≤ maxLen ∧ In64 (n, s) ∧
      rs.length ≤ 9223372036854775807 ∧ (∀ r ∈ rs, r.1.size ≤ maxLen ∧ r.2.size ≤ maxLen) ∧ RngIn w a rs ∧ rs.length ≤ cap := by
  obtain ⟨cs, rfl, hsz⟩ := okWide_struct ht hv
  obtain ⟨fuel, hf'⟩ := h
  obtain ⟨y0, y1, n', hx, hcl, k0, k1⟩ := trod_struct2 ht hf'
  rw [hF.1, hC] at k0
  rw [hF.2.1, hF.2.2] at k1
  have e0 : (Value.agg cs).cells.toList = cs.toList := rfl
  rw [e0] at k0 k1
  obtain ⟨k, n, s, e1, hk, hb⟩ := trod_dep he hf hC h0 h1 hg h2 h3 k0
  rw [hT] at hsz
  obtain ⟨l⟩ := cs
  match l, hsz with
  | [c0, c1, c2, c3], _ =>
    simp at e1
    obtain ⟨rfl, rfl, rfl⟩ := e1
    have k2 : DataW.trod enc P w base spare held n' G.type [c3] = some y1 := by simpa using k1
    have hs : ∃ a n c, c3 = .slice a n c ∧ n ≤ c := by
      rcases open_slice hG k2 with ⟨hcs, _⟩ | ⟨x, l, c, m, n, D, Pl, hcs, _, hl, _⟩
      · simp at hcs
        exact ⟨none, 0, 0, hcs, Nat.le_refl _⟩
      · simp at hcs
        exact ⟨_, _, _, hcs, hl⟩
    obtain ⟨a, len, cap, rfl, hlc⟩ := hs
    obtain ⟨a', rs, cap', e4, q1, q2, q3⟩ := open_ranges (v := .slice a len cap) hG hR hone hRC hr0 hr1 (by simpa [Value.cells] using k2) ⟨_, _, _, rfl⟩
    cases e4
    exact ⟨k, n, s, a, rs, cap, rfl, hk, hb, q1, q2, q3, hlc⟩

/-- An array of three ints. -/
theorem open_ints3 {r : Reach} {b0 : Nat} {t e : TypeId} {v : Value} {d : DataW H} {p : List MemPlace}
    (ht : P.underlying t = some (.array 3 e)) (he : P.underlying e = some (.int .i64)) (hc : P.cellsOf t = 3) (hce : P.cellsOf e = 1)
    (hv : Value.okWide P w r b0 t v) (h : DataW.Trod enc P w base spare held t v d p) :
    ∃ q0 q1 q2 : Int, v = .agg #[.int .i64 q0, .int .i64 q1, .int .i64 q2] ∧ (-9223372036854775808 ≤ q0 ∧ q0 ≤ 9223372036854775807) ∧ (-9223372036854775808 ≤ q1 ∧ q1 ≤ 9223372036854775807) ∧ (-9223372036854775808 ≤ q2 ∧ q2 ≤ 9223372036854775807) := by
  obtain ⟨cs, rfl, hl, hx⟩ := open_arr ht hc hce hv h
  match cs, hl with
  | [c0, c1, c2], _ =>
    obtain ⟨_, _, k0⟩ := hx 0 (by simp)
    obtain ⟨_, _, k1⟩ := hx 1 (by simp)
    obtain ⟨_, _, k2⟩ := hx 2 (by simp)
    obtain ⟨n0, e0, _, w0⟩ := DataW.trod_int he k0
    obtain ⟨n1, e1, _, w1⟩ := DataW.trod_int he k1
    obtain ⟨n2, e2, _, w2⟩ := DataW.trod_int he k2
    simp at e0 e1 e2
    subst e0 e1 e2
    exact ⟨n0, n1, n2, rfl, bounds_i64 w0, bounds_i64 w1, bounds_i64 w2⟩
end
end Go.Proofs.Ytplpeokmhomojaa
