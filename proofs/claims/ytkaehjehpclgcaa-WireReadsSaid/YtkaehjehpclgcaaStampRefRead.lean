/- What the document's own Read of stamps answers. -/
import Derived.Test.YtkaehjehpclgcaaGW20
import Derived.Test.YtkaehjehpclgcaaRefRead
namespace Go.Proofs.Ytkaehjehpclgcaa
open Go.RowKit
set_option linter.unusedVariables false

/-- The answer of the document's Read, as a value. -/
def sgV : Option ((Int × Int) × Nat) → Value
  | none => .agg #[.int .i64 0, .int .i64 0, .int .i64 0]
  | some (p, e) => .agg #[.int .i64 p.1, .int .i64 p.2, .int .i64 (e : Int)]

/-- A variable of three cells: block b holds it, and may be written. -/
structure Var3 (w : World) (b : Nat) (x y z : Value) : Prop where
  c0 : w.cell? ⟨b, 0, none⟩ = some x
  c1 : w.cell? ⟨b, 1, none⟩ = some y
  c2 : w.cell? ⟨b, 2, none⟩ = some z
  f0 : w.frozen? ⟨b, 0, none⟩ = false
  f1 : w.frozen? ⟨b, 1, none⟩ = false
  f2 : w.frozen? ⟨b, 2, none⟩ = false
theorem Var3.keep {w w' : World} {b : Nat} {x y z : Value} (hb : Below w.heap.size w w') (h : Var3 w b x y z) : Var3 w' b x y z :=
  ⟨kc hb h.c0, kc hb h.c1, kc hb h.c2, (hb.frozen (p := ⟨b, 0, none⟩) (lt_of_cellN h.c0)).trans h.f0, (hb.frozen (p := ⟨b, 1, none⟩) (lt_of_cellN h.c0)).trans h.f1, (hb.frozen (p := ⟨b, 2, none⟩) (lt_of_cellN h.c0)).trans h.f2⟩
theorem Var3.new (w : World) (T : TypeId) (x y z : Value) : Var3 (w.alloc (.cells #[x, y, z] T)) w.heap.size x y z := ⟨by simp, by simp, by simp, by simp, by simp, by simp⟩
theorem Var3.put {w : World} {b : Nat} {x y z : Value} (h : Var3 w b x y z) (x' y' z' : Value) : Var3 (((w.setCell ⟨b, 0, none⟩ x').setCell ⟨b, 1, none⟩ y').setCell ⟨b, 2, none⟩ z') b x' y' z' := by
  have s0 : (w.setCell ⟨b, 0, none⟩ x').cell? ⟨b, 0, none⟩ = some x' := World.cell?_setCell_same _ _ _ h.c0
  have s1 : (w.setCell ⟨b, 0, none⟩ x').cell? ⟨b, 1, none⟩ = some y := by
    rw [World.cell?_setCell_other _ _ _ _ (by simp)]; exact h.c1
  have t1 : ((w.setCell ⟨b, 0, none⟩ x').setCell ⟨b, 1, none⟩ y').cell? ⟨b, 1, none⟩ = some y' := World.cell?_setCell_same _ _ _ s1
  have t2 : ((w.setCell ⟨b, 0, none⟩ x').setCell ⟨b, 1, none⟩ y').cell? ⟨b, 2, none⟩ = some z := by
    rw [World.cell?_setCell_other _ _ _ _ (by simp), World.cell?_setCell_other _ _ _ _ (by simp)]; exact h.c2
  refine ⟨?_, ?_, World.cell?_setCell_same _ _ _ t2, by simpa using h.f0, by simpa using h.f1, by simpa using h.f2⟩
  · rw [World.cell?_setCell_other _ _ _ _ (by simp), World.cell?_setCell_other _ _ _ _ (by simp)]; exact s0
  · rw [World.cell?_setCell_other _ _ _ _ (by simp)]; exact t1
theorem below_put3S {w w' : World} {n b : Nat} (hb : Below n w w') (h : n ≤ b) (x y z : Value) : Below n w (((w'.setCell ⟨b, 0, none⟩ x).setCell ⟨b, 1, none⟩ y).setCell ⟨b, 2, none⟩ z) := ((hb.setCell h _).setCell h _).setCell h _

set_option maxRecDepth 100000 in
set_option maxHeartbeats 1000000 in
theorem refSRead_any (s : ByteArray) (at_ : Int) (w : World) (hs : s.size ≤ 1000000) :
    Calls Try.prog 55 #[.string s, .int .i64 at_] w fun e w' => e = .returned (sgV (Sm.rdS (rd s.data.toList) at_)) ∧ Below w.heap.size w w' := by
  cases h : rd s.data.toList at_ with
  | none =>
    have he : Sm.rdS (rd s.data.toList) at_ = none := by simp [Sm.rdS, h]
    rw [he]
    have H := Lib.hid h
    clear h he
    go_enter Try.func55, Try.ntmps55
    go_wp2_with fail
    refine (refRead_any s at_ _ hs).mono ?_
    rintro _ w1 ⟨rfl, hb⟩
    rw [H.out, gotV]
    have hv := (Var3.new w 92 (.int .i64 0) (.int .i64 0) (.int .i64 0)).keep hb
    have hz := lt_of_cellN hv.c0
    have hb2 := bstep (balloc (Below.refl _ w) _) hb
    have HV := Lib.hid hv
    obtain ⟨c0, c1, c2, f0, f1, f2⟩ := hv
    clear hb
    go_wp2
    have hw := (HV.out.put (.int .i64 0) (.int .i64 0) (.int .i64 0)).keep (balloc (Below.refl _ _) (.cells #[.int .u64 0, .int .i64 0] 89))
    refine bodyPost_ret (v := sgV none) (by simp [results, Try.results55, go_sem, sgV, hw.c0, hw.c1, hw.c2]) rfl ⟨rfl, balloc (below_put3S hb2 (Nat.le_refl _) _ _ _) _⟩
  | some x =>
    obtain ⟨n, m⟩ := x
    obtain ⟨hn, hm, hge, hgt⟩ := rd_bounds h
    have hm' : m ≤ s.size := by simpa using hm
    have hm0 : ((m : Int) == 0) = false := by simp; omega
    have hm1 : (m == 0) = false := by simp; omega
    have H := Lib.hid h
    clear hge hgt
    cases h2 : rd s.data.toList (m : Int) with
    | none =>
      have he : Sm.rdS (rd s.data.toList) at_ = none := by simp [Sm.rdS, h, h2]
      rw [he]
      have H2 := Lib.hid h2
      clear h h2 he hm hn
      go_enter Try.func55, Try.ntmps55
      go_wp2_with fail
      refine (refRead_any s at_ _ hs).mono ?_
      rintro _ w1 ⟨rfl, hb⟩
      rw [H.out, gotV]
      have hv := (Var3.new w 92 (.int .i64 0) (.int .i64 0) (.int .i64 0)).keep hb
      have hz := lt_of_cellN hv.c0
      have hb2 := bstep (balloc (Below.refl _ w) _) hb
      have HV := Lib.hid hv
      clear hb hv
      go_wp2_with fail
      refine (refRead_any s m _ hs).mono ?_
      rintro _ w2 ⟨rfl, hb⟩
      rw [H2.out, gotV]
      have hv := (HV.out.keep (balloc (Below.refl _ _) (.cells #[.int .u64 n, .int .i64 m] 89))).keep hb
      have d0 : w2.cell? ⟨w1.heap.size, 0, none⟩ = some (.int .u64 n) := kc hb (by simp)
      have d1 : w2.cell? ⟨w1.heap.size, 1, none⟩ = some (.int .i64 m) := kc hb (by simp)
      have hz2 := lt_of_cellN d0
      have hz3 : w.heap.size < w2.heap.size := by omega
      have hb3 := bstep (balloc hb2 _) hb
      have HV2 := Lib.hid hv
      obtain ⟨c0, c1, c2, f0, f1, f2⟩ := hv
      clear hb hb2 HV
      go_wp2
      have hw := (HV2.out.put (.int .i64 0) (.int .i64 0) (.int .i64 0)).keep (balloc (Below.refl _ _) (.cells #[.int .u64 0, .int .i64 0] 89))
      refine bodyPost_ret (v := sgV none) (by simp [results, Try.results55, go_sem, sgV, hw.c0, hw.c1, hw.c2]) rfl ⟨rfl, balloc (below_put3S hb3 (Nat.le_refl _) _ _ _) _⟩
    | some y =>
      obtain ⟨k, e⟩ := y
      obtain ⟨hk, hq, hge, hgt⟩ := rd_bounds h2
      have hq' : e ≤ s.size := by simpa using hq
      have he0 : ((e : Int) == 0) = false := by simp; omega
      have he1 : (e == 0) = false := by simp; omega
      have he : Sm.rdS (rd s.data.toList) at_ = if Sm.ok n k = true then some (((n : Int), (k : Int)), e) else none := by simp [Sm.rdS, h, h2]
      have H2 := Lib.hid h2
      clear h h2 hm hq hk hn hge hgt
      by_cases hbig : n ≤ 1099511627776 ∧ k ≤ 5
      · obtain ⟨g1, g2⟩ := hbig
        have t1 : decide ((1099511627776 : Int) < (n : Int)) = false := by simp; omega
        have t1' : decide (1099511627776 < n) = false := by simp; omega
        have t2 : decide ((5 : Int) < (k : Int)) = false := by simp; omega
        have t2' : decide (5 < k) = false := by simp; omega
        cases ho : Sm.ok n k with
        | false =>
          rw [ho, if_neg (by simp)] at he
          rw [he]
          have HO := Lib.hid ho
          clear he ho
          go_enter Try.func55, Try.ntmps55
          go_wp2_with fail
          refine (refRead_any s at_ _ hs).mono ?_
          rintro _ w1 ⟨rfl, hb⟩
          rw [H.out, gotV]
          have hv := (Var3.new w 92 (.int .i64 0) (.int .i64 0) (.int .i64 0)).keep hb
          have hz := lt_of_cellN hv.c0
          have hb2 := bstep (balloc (Below.refl _ w) _) hb
          have HV := Lib.hid hv
          clear hb hv
          go_wp2_with fail
          refine (refRead_any s m _ hs).mono ?_
          rintro _ w2 ⟨rfl, hb⟩
          rw [H2.out, gotV]
          have hv := (HV.out.keep (balloc (Below.refl _ _) (.cells #[.int .u64 n, .int .i64 m] 89))).keep hb
          have d0 : w2.cell? ⟨w1.heap.size, 0, none⟩ = some (.int .u64 n) := kc hb (by simp)
          have d1 : w2.cell? ⟨w1.heap.size, 1, none⟩ = some (.int .i64 m) := kc hb (by simp)
          have hz2 := lt_of_cellN d0
          have hz3 : w.heap.size < w2.heap.size := by omega
          have hb3 := bstep (balloc hb2 _) hb
          have HV2 := Lib.hid hv
          clear hb hb2 HV hv
          go_wp2_with fail
          refine (refSCheck_any n k _).mono ?_
          rintro _ w3 ⟨rfl, hb⟩
          rw [HO.out]
          have a1 := balloc (Below.refl _ w2) (.cells #[.int .u64 k, .int .i64 e] 89)
          have a2 := balloc a1 (.cells #[.int .i64 n, .int .i64 k] 23)
          have a3 := bstep a2 hb
          have hv := HV2.out.keep a3
          have d0 : w3.cell? ⟨w2.heap.size, 0, none⟩ = some (.int .u64 k) := kc hb (by simp)
          have d1 : w3.cell? ⟨w2.heap.size, 1, none⟩ = some (.int .i64 e) := kc hb (by simp)
          have d2 : w3.cell? ⟨w2.heap.size + 1, 0, none⟩ = some (.int .i64 n) := kc hb (by simp)
          have d3 : w3.cell? ⟨w2.heap.size + 1, 1, none⟩ = some (.int .i64 k) := kc hb (by simp)
          have hz4 := lt_of_cellN d2
          have hz5 : w.heap.size < w3.heap.size := by omega
          have hb4 := bstep hb3 a3
          have HV3 := Lib.hid hv
          obtain ⟨c0, c1, c2, f0, f1, f2⟩ := hv
          clear hb hb3 HV2 a1 a2 a3
          go_wp2
          have hw := (HV3.out.put (.int .i64 0) (.int .i64 0) (.int .i64 0))
          refine bodyPost_ret (v := sgV none) (by simp [results, Try.results55, go_sem, sgV, hw.c0, hw.c1, hw.c2]) rfl ⟨rfl, below_put3S hb4 (Nat.le_refl _) _ _ _⟩
        | true =>
          rw [ho, if_pos rfl] at he
          rw [he]
          have HO := Lib.hid ho
          clear he ho
          go_enter Try.func55, Try.ntmps55
          go_wp2_with fail
          refine (refRead_any s at_ _ hs).mono ?_
          rintro _ w1 ⟨rfl, hb⟩
          rw [H.out, gotV]
          have hv := (Var3.new w 92 (.int .i64 0) (.int .i64 0) (.int .i64 0)).keep hb
          have hz := lt_of_cellN hv.c0
          have hb2 := bstep (balloc (Below.refl _ w) _) hb
          have HV := Lib.hid hv
          clear hb hv
          go_wp2_with fail
          refine (refRead_any s m _ hs).mono ?_
          rintro _ w2 ⟨rfl, hb⟩
          rw [H2.out, gotV]
          have hv := (HV.out.keep (balloc (Below.refl _ _) (.cells #[.int .u64 n, .int .i64 m] 89))).keep hb
          have d0 : w2.cell? ⟨w1.heap.size, 0, none⟩ = some (.int .u64 n) := kc hb (by simp)
          have d1 : w2.cell? ⟨w1.heap.size, 1, none⟩ = some (.int .i64 m) := kc hb (by simp)
          have hz2 := lt_of_cellN d0
          have hz3 : w.heap.size < w2.heap.size := by omega
          have hb3 := bstep (balloc hb2 _) hb
          have HV2 := Lib.hid hv
          clear hb hb2 HV hv
          go_wp2_with fail
          refine (refSCheck_any n k _).mono ?_
          rintro _ w3 ⟨rfl, hb⟩
          rw [HO.out]
          have a1 := balloc (Below.refl _ w2) (.cells #[.int .u64 k, .int .i64 e] 89)
          have a2 := balloc a1 (.cells #[.int .i64 n, .int .i64 k] 23)
          have a3 := bstep a2 hb
          have hv := HV2.out.keep a3
          have d0 : w3.cell? ⟨w2.heap.size, 0, none⟩ = some (.int .u64 k) := kc hb (by simp)
          have d1 : w3.cell? ⟨w2.heap.size, 1, none⟩ = some (.int .i64 e) := kc hb (by simp)
          have d2 : w3.cell? ⟨w2.heap.size + 1, 0, none⟩ = some (.int .i64 n) := kc hb (by simp)
          have d3 : w3.cell? ⟨w2.heap.size + 1, 1, none⟩ = some (.int .i64 k) := kc hb (by simp)
          have hz4 := lt_of_cellN d2
          have hz5 : w.heap.size < w3.heap.size := by omega
          have hb4 := bstep hb3 a3
          have HV3 := Lib.hid hv
          obtain ⟨c0, c1, c2, f0, f1, f2⟩ := hv
          clear hb hb3 HV2 a1 a2 a3
          go_wp2
          have hw := (HV3.out.put (.int .i64 n) (.int .i64 k) (.int .i64 e))
          refine bodyPost_ret (v := sgV (some ((n, k), e))) (by simp [results, Try.results55, go_sem, sgV, hw.c0, hw.c1, hw.c2]) rfl ⟨rfl, below_put3S hb4 (Nat.le_refl _) _ _ _⟩
      · have ho : Sm.ok n k = false := by
          simp only [Sm.ok, decide_eq_false_iff_not]
          omega
        rw [ho, if_neg (by simp)] at he
        rw [he]
        clear he ho
        have hcs : (decide ((1099511627776 : Int) < (n : Int)) = true ∧ decide (1099511627776 < n) = true) ∨ ((decide ((1099511627776 : Int) < (n : Int)) = false ∧ decide (1099511627776 < n) = false) ∧ decide ((5 : Int) < (k : Int)) = true ∧ decide (5 < k) = true) := by
          simp only [decide_eq_true_eq, decide_eq_false_iff_not]
          omega
        clear hbig
        rcases hcs with ⟨t1, t1'⟩ | ⟨⟨t1, t1'⟩, t2, t2'⟩
        all_goals
          go_enter Try.func55, Try.ntmps55
          go_wp2_with fail
          refine (refRead_any s at_ _ hs).mono ?_
          rintro _ w1 ⟨rfl, hb⟩
          rw [H.out, gotV]
          have hv := (Var3.new w 92 (.int .i64 0) (.int .i64 0) (.int .i64 0)).keep hb
          have hz := lt_of_cellN hv.c0
          have hb2 := bstep (balloc (Below.refl _ w) _) hb
          have HV := Lib.hid hv
          clear hb hv
          go_wp2_with fail
          refine (refRead_any s m _ hs).mono ?_
          rintro _ w2 ⟨rfl, hb⟩
          rw [H2.out, gotV]
          have hv := (HV.out.keep (balloc (Below.refl _ _) (.cells #[.int .u64 n, .int .i64 m] 89))).keep hb
          have d0 : w2.cell? ⟨w1.heap.size, 0, none⟩ = some (.int .u64 n) := kc hb (by simp)
          have d1 : w2.cell? ⟨w1.heap.size, 1, none⟩ = some (.int .i64 m) := kc hb (by simp)
          have hz2 := lt_of_cellN d0
          have hz3 : w.heap.size < w2.heap.size := by omega
          have hb3 := bstep (balloc hb2 _) hb
          have HV2 := Lib.hid hv
          obtain ⟨c0, c1, c2, f0, f1, f2⟩ := hv
          clear hb hb2 HV
          go_wp2
          have hw := (HV2.out.put (.int .i64 0) (.int .i64 0) (.int .i64 0)).keep (balloc (Below.refl _ _) (.cells #[.int .u64 k, .int .i64 e] 89))
          refine bodyPost_ret (v := sgV none) (by simp [results, Try.results55, go_sem, sgV, hw.c0, hw.c1, hw.c2]) rfl ⟨rfl, balloc (below_put3S hb3 (Nat.le_refl _) _ _ _) _⟩
end Go.Proofs.Ytkaehjehpclgcaa
