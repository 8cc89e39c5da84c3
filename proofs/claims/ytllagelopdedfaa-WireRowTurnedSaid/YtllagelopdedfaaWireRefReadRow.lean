/- What the document's ReadRow answers. -/
import Derived.Test.YtllagelopdedfaaGW27
import Derived.Test.YtllagelopdedfaaWireRefRead
namespace Go.Proofs.Ytllagelopdedfaa
open Go.RowKit
set_option linter.unusedVariables false
set_option linter.unusedSimpArgs false

def rD (sl : List UInt8) (ends : List (List UInt8)) (ow : List Int) : Option (List Int × Nat) → Option Rw
  | none => none
  | some (pa, e4) => if e4 = sl.length then some ⟨wbas (Km.chainL [] ends), ow, pa⟩ else none
def rC (sl : List UInt8) (ends : List (List UInt8)) (ow : List Int) : Option (Nat × Nat) → Option Rw
  | none => none
  | some (m, e3) => if 6 < m then none else rD sl ends ow (goN (rdPb sl) m [] e3)
def rB (sl : List UInt8) (ends : List (List UInt8)) : Option (List Int × Nat) → Option Rw
  | none => none
  | some (ow, e2) => rC sl ends ow (rd sl (e2 : Int))
def rA (sl : List UInt8) (n : Nat) : Option (List (List UInt8) × Nat) → Option Rw
  | none => none
  | some (ends, e1) => rB sl ends (goN (rdI sl) n [] e1)
theorem rowR_A {sl : List UInt8} {n e0 : Nat} (h : rd sl 0 = some (n, e0)) (hn : 1 ≤ n) (h8 : n ≤ 8) : rowR sl = rA sl n (goN (fun a => rdt sl a 32) (n - 1) [] e0) := by
  unfold rowR
  rw [h]
  simp only
  rw [if_neg (by omega)]
  cases goN (fun a => rdt sl a 32) (n - 1) [] e0 with
  | none => rfl
  | some x =>
    obtain ⟨ends, e1⟩ := x
    simp only [rA]
    cases goN (rdI sl) n [] e1 with
    | none => rfl
    | some y =>
      obtain ⟨ow, e2⟩ := y
      simp only [rB]
      cases rd sl (e2 : Int) with
      | none => rfl
      | some z =>
        obtain ⟨m, e3⟩ := z
        simp only [rC]
        by_cases hm : 6 < m
        · rw [if_pos hm, if_pos hm]
        · rw [if_neg hm, if_neg hm]
          cases goN (rdPb sl) m [] e3 with
          | none => rfl
          | some v => rfl
theorem rowR_no {sl : List UInt8} (h : ∀ n e, rd sl 0 = some (n, e) → n < 1 ∨ 8 < n) : rowR sl = none := by
  unfold rowR
  cases hr : rd sl 0 with
  | none => rfl
  | some x =>
    obtain ⟨n, e⟩ := x
    simp only
    rw [if_pos (h n e hr)]
/-- How the row's variable, the result's and the number of ranges stand. -/
structure Rf (w : World) (NB C n : Nat) (wr : World) (u0 u1 u2 : Value) (c : Rw) : Prop where
  R : RwV C C wr u0 u1 u2 c
  V : VrP wr w.heap.size (.slice none 0 0) (.slice none 0 0) (.slice none 0 0)
  N : wr.cell? ⟨NB, 0, none⟩ = some (.int .u64 (n : Int))
  B : Below w.heap.size w wr
theorem Rf.below {w : World} {NB C n : Nat} {wr w' : World} {u0 u1 u2 : Value} {c : Rw} (h : Rf w NB C n wr u0 u1 u2 c) (hb : Below wr.heap.size wr w') : Rf w NB C n w' u0 u1 u2 c := ⟨h.R.below hb, h.V.keep hb, kc hb h.N, bstep h.B hb⟩
theorem Rf.cells {w : World} {NB C n : Nat} {wr w2 : World} {u0 u1 u2 u : Value} {c : Rw} (h : Rf w NB C n wr u0 u1 u2 c) (hk : KeptD u wr w2) (hn : u.ownBlock ≠ some C) : VrP w2 C u0 u1 u2 := h.R.v.block (hk _ h.R.v.lt hn)
theorem Rf.put0 {w : World} {NB C n : Nat} {wr w2 : World} {u0 u1 u2 : Value} {c : Rw} {g z cap : Nat} {l : List (ByteArray × ByteArray)} (h : Rf w NB C n wr u0 u1 u2 c) (hV : w.heap.size < C) (hN : NB < C) (ho : OwnR KR w2 C (.slice (some ⟨g, 0, none⟩) z cap) l) (hb : Below C wr w2) (hk : KeptD u0 wr w2) (hat : u0.ownBlock = some g ∨ wr.heap.size ≤ g) :
    Rf w NB C n (w2.setCell ⟨C, 0, none⟩ (.slice (some ⟨g, 0, none⟩) z cap)) (.slice (some ⟨g, 0, none⟩) z cap) u1 u2 ⟨l, c.ow, c.pa⟩ :=
  ⟨h.R.put0 ho hk (fun g e => by obtain rfl := own_at7 g e; exact hat), (h.V.block (hb.block _ hV)).block (Below.heap_setCell _ _ _ _ (by show w.heap.size ≠ C; omega)), (World.cell?_of_block (Below.heap_setCell _ _ _ _ (by show NB ≠ C; omega))).trans ((World.cell?_of_block (hb.block _ hN)).trans h.N), (h.B.trans (hb.mono (by omega))).setCell (p := ⟨C, 0, none⟩) (by show w.heap.size ≤ C; omega) _⟩
theorem Rf.put1 {w : World} {NB C n : Nat} {wr w2 : World} {u0 u1 u2 : Value} {c : Rw} {g z cap : Nat} {l : List Int} (h : Rf w NB C n wr u0 u1 u2 c) (hV : w.heap.size < C) (hN : NB < C) (ho : OwnR KI w2 C (.slice (some ⟨g, 0, none⟩) z cap) l) (hb : Below C wr w2) (hk : KeptD u1 wr w2) (hat : u1.ownBlock = some g ∨ wr.heap.size ≤ g) :
    Rf w NB C n (w2.setCell ⟨C, 1, none⟩ (.slice (some ⟨g, 0, none⟩) z cap)) u0 (.slice (some ⟨g, 0, none⟩) z cap) u2 ⟨c.rs, l, c.pa⟩ :=
  ⟨h.R.put1 ho hk (fun g e => by obtain rfl := own_at7 g e; exact hat), (h.V.block (hb.block _ hV)).block (Below.heap_setCell _ _ _ _ (by show w.heap.size ≠ C; omega)), (World.cell?_of_block (Below.heap_setCell _ _ _ _ (by show NB ≠ C; omega))).trans ((World.cell?_of_block (hb.block _ hN)).trans h.N), (h.B.trans (hb.mono (by omega))).setCell (p := ⟨C, 1, none⟩) (by show w.heap.size ≤ C; omega) _⟩
theorem Rf.put2 {w : World} {NB C n : Nat} {wr w2 : World} {u0 u1 u2 : Value} {c : Rw} {g z cap : Nat} {l : List Int} (h : Rf w NB C n wr u0 u1 u2 c) (hV : w.heap.size < C) (hN : NB < C) (ho : OwnR KI w2 C (.slice (some ⟨g, 0, none⟩) z cap) l) (hb : Below C wr w2) (hk : KeptD u2 wr w2) (hat : u2.ownBlock = some g ∨ wr.heap.size ≤ g) :
    Rf w NB C n (w2.setCell ⟨C, 2, none⟩ (.slice (some ⟨g, 0, none⟩) z cap)) u0 u1 (.slice (some ⟨g, 0, none⟩) z cap) ⟨c.rs, c.ow, l⟩ :=
  ⟨h.R.put2 ho hk (fun g e => by obtain rfl := own_at7 g e; exact hat), (h.V.block (hb.block _ hV)).block (Below.heap_setCell _ _ _ _ (by show w.heap.size ≠ C; omega)), (World.cell?_of_block (Below.heap_setCell _ _ _ _ (by show NB ≠ C; omega))).trans ((World.cell?_of_block (hb.block _ hN)).trans h.N), (h.B.trans (hb.mono (by omega))).setCell (p := ⟨C, 2, none⟩) (by show w.heap.size ≤ C; omega) _⟩
theorem wrap64_small {x : Int} (h0 : -10 ≤ x) (h1 : x ≤ 1000) : wrap64 x = x := by unfold wrap64; omega
theorem rdI_of {sl : List UInt8} {a : Int} {g e : Nat} (h : rd sl a = some (g, e)) (h63 : g ≤ 63) : rdI sl a = some ((g : Int), e) := by
  unfold rdI
  rw [h]
  simp only
  rw [if_pos h63]
theorem rdI_no1 {sl : List UInt8} {a : Int} (h : rd sl a = none) : rdI sl a = none := by
  unfold rdI
  rw [h]
theorem rdI_no2 {sl : List UInt8} {a : Int} {g e : Nat} (h : rd sl a = some (g, e)) (h63 : 63 < g) : rdI sl a = none := by
  unfold rdI
  rw [h]
  simp only
  rw [if_neg (by omega)]
theorem rdPb_of {sl : List UInt8} {a : Int} {g e : Nat} (h : rd sl a = some (g, e)) (h6 : g ≤ 6) : rdPb sl a = some ((g : Int) - 1, e) := by
  unfold rdPb
  rw [h]
  simp only
  rw [if_neg (by omega)]
theorem rdPb_no1 {sl : List UInt8} {a : Int} (h : rd sl a = none) : rdPb sl a = none := by
  unfold rdPb
  rw [h]
theorem rdPb_no2 {sl : List UInt8} {a : Int} {g e : Nat} (h : rd sl a = some (g, e)) (h6 : 6 < g) : rdPb sl a = none := by
  unfold rdPb
  rw [h]
  simp only
  rw [if_pos h6]

set_option maxRecDepth 100000 in
set_option maxHeartbeats 12800000 in
theorem refReadRow_any (s : ByteArray) (w : World) (hs : s.size ≤ 1000000) :
    Calls Try.prog 67 #[.string s] w fun e w' => ∃ a0 n0 c0 a1 n1 c1 a2 n2 c2, e = .returned (.tuple #[.agg #[.slice a0 n0 c0, .slice a1 n1 c1, .slice a2 n2 c2], .bool (rowR s.data.toList).isSome]) ∧ (∀ c, rowR s.data.toList = some c → RwAt w' (.slice a0 n0 c0) (.slice a1 n1 c1) (.slice a2 n2 c2) c) ∧ Below w.heap.size w w' := by
  have hrd := fun (a : Int) W => refRead_any s a W hs
  have htx := fun (a : Int) W => refReadText_any s a 32 W hs (by omega)
  have HLN : Hid (s.data.toList.length = s.size) := Lib.hid rfl
  generalize s.data.toList = sl at hrd htx HLN ⊢
  obtain ⟨R, hR⟩ : ∃ R, R = rowR sl := ⟨_, rfl⟩
  rw [← hR]
  have hb1 : Below w.heap.size w (w.alloc (.cells #[.slice none 0 0, .slice none 0 0, .slice none 0 0] 25)) := balloc (Below.refl _ w) _
  have hV1 := VrP.new w (.slice none 0 0) (.slice none 0 0) (.slice none 0 0) 25
  go_enter Try.func67, Try.ntmps67
  go_upto_region 1 with fail
  generalize w.alloc (.cells #[.slice none 0 0, .slice none 0 0, .slice none 0 0] 25) = w1 at *
  have HV1 := Lib.hid hV1
  have HB1 := Lib.hid hb1
  have HRR := Lib.hid hR
  have HRE := Lib.hid hR
  clear hV1 hb1 hR
  have hc1 := hrd 0
  cases r1 : rd sl 0 with
  | none =>
    have HNO : Hid (R = none) := Lib.hid (by rw [HRR.out]; exact rowR_no (fun n e h => by rw [r1] at h; cases h))
    rw [r1, gotV] at hc1
    clear r1 HRR
    go_wp2_with fail
    refine (hc1 _).mono ?_
    rintro e wm ⟨rfl, hbm⟩
    have hbn := bstepB hbm (.cells #[.int .u64 0, .int .i64 0] 132)
    have HVn := Lib.hid (HV1.out.keep hbn)
    have HBn := Lib.hid (bstep HB1.out hbn)
    have z0 : (wm.alloc (.cells #[.int .u64 0, .int .i64 0] 132)).cell? ⟨wm.heap.size, 1, none⟩ = some (.int .i64 0) := by simp
    clear hbm hbn hc1 hrd htx
    go_upto_region 2 with fail
    generalize wm.alloc (.cells #[.int .u64 0, .int .i64 0] 132) = wn at *
    generalize wm.heap.size = Bn at *
    obtain ⟨b0, b1, b2, hf⟩ := HVn.out
    have q0 := hf 0 (by decide)
    have q1 := hf 1 (by decide)
    have q2 := hf 2 (by decide)
    clear hf
    go_wp2
    obtain ⟨r0, r1, r2, _⟩ := ((HVn.out.put0 (.slice none 0 0)).put1 (.slice none 0 0)).put2 (.slice none 0 0)
    exact bodyPost_ret (v := .tuple #[.agg #[.slice none 0 0, .slice none 0 0, .slice none 0 0], .bool false]) (by simp [results, Try.results67, go_sem, r0, r1, r2]) rfl ⟨none, 0, 0, none, 0, 0, none, 0, 0, by rw [HNO.out]; rfl, (fun c h => by rw [HNO.out] at h; cases h), put3r_below HBn.out _ _ _⟩
  | some y1 =>
    obtain ⟨n, e0⟩ := y1
    have p1 := rd_pos r1
    have z1 : ((e0 : Int) == 0) = false := by simp; omega
    have z2 : (e0 == 0) = false := by simp; omega
    rw [r1, gotV] at hc1
    have R1 := Lib.hid r1
    clear r1
    have hbn1 := fun (wm : World) (hbm : Below w1.heap.size w1 wm) => bstepB hbm (.cells #[.int .u64 (n : Int), .int .i64 (e0 : Int)] 132)
    by_cases hn1 : n < 1
    · have hni : (n : Int) < 1 := by omega
      have HNO : Hid (R = none) := Lib.hid (by rw [HRR.out]; exact rowR_no (fun n' e h => by rw [R1.out] at h; cases h; exact .inl hn1))
      clear HRR R1 hrd htx
      go_wp2_with fail
      refine (hc1 _).mono ?_
      rintro e wm ⟨rfl, hbm⟩
      have hbn := hbn1 wm hbm
      have HVn := Lib.hid (HV1.out.keep hbn)
      have HBn := Lib.hid (bstep HB1.out hbn)
      have y0 : (wm.alloc (.cells #[.int .u64 (n : Int), .int .i64 (e0 : Int)] 132)).cell? ⟨wm.heap.size, 0, none⟩ = some (.int .u64 (n : Int)) := by simp
      have y1 : (wm.alloc (.cells #[.int .u64 (n : Int), .int .i64 (e0 : Int)] 132)).cell? ⟨wm.heap.size, 1, none⟩ = some (.int .i64 (e0 : Int)) := by simp
      have hwm := hbm.size
      clear hbm hbn hc1 hbn1
      go_upto_region 2 with fail
      have hNl := lt_of_cellN y0
      generalize wm.alloc (.cells #[.int .u64 (n : Int), .int .i64 (e0 : Int)] 132) = wn at *
      generalize wm.heap.size = NB at *
      obtain ⟨b0, b1, b2, hf⟩ := HVn.out
      have q0 := hf 0 (by decide)
      have q1 := hf 1 (by decide)
      have q2 := hf 2 (by decide)
      clear hf
      go_wp2
      obtain ⟨r0, r1, r2, _⟩ := ((HVn.out.put0 (.slice none 0 0)).put1 (.slice none 0 0)).put2 (.slice none 0 0)
      exact bodyPost_ret (v := .tuple #[.agg #[.slice none 0 0, .slice none 0 0, .slice none 0 0], .bool false]) (by simp [results, Try.results67, go_sem, r0, r1, r2]) rfl ⟨none, 0, 0, none, 0, 0, none, 0, 0, by rw [HNO.out]; rfl, (fun c h => by rw [HNO.out] at h; cases h), put3r_below HBn.out _ _ _⟩
    by_cases hn8 : 8 < n
    · have hni : (8 : Int) < (n : Int) := by omega
      have hnj : ¬ (n : Int) < 1 := by omega
      have HNO : Hid (R = none) := Lib.hid (by rw [HRR.out]; exact rowR_no (fun n' e h => by rw [R1.out] at h; cases h; exact .inr hn8))
      clear HRR R1 hrd htx
      go_wp2_with fail
      refine (hc1 _).mono ?_
      rintro e wm ⟨rfl, hbm⟩
      have hbn := hbn1 wm hbm
      have HVn := Lib.hid (HV1.out.keep hbn)
      have HBn := Lib.hid (bstep HB1.out hbn)
      have y0 : (wm.alloc (.cells #[.int .u64 (n : Int), .int .i64 (e0 : Int)] 132)).cell? ⟨wm.heap.size, 0, none⟩ = some (.int .u64 (n : Int)) := by simp
      have y1 : (wm.alloc (.cells #[.int .u64 (n : Int), .int .i64 (e0 : Int)] 132)).cell? ⟨wm.heap.size, 1, none⟩ = some (.int .i64 (e0 : Int)) := by simp
      have hwm := hbm.size
      clear hbm hbn hc1 hbn1
      go_upto_region 2 with fail
      have hNl := lt_of_cellN y0
      generalize wm.alloc (.cells #[.int .u64 (n : Int), .int .i64 (e0 : Int)] 132) = wn at *
      generalize wm.heap.size = NB at *
      obtain ⟨b0, b1, b2, hf⟩ := HVn.out
      have q0 := hf 0 (by decide)
      have q1 := hf 1 (by decide)
      have q2 := hf 2 (by decide)
      clear hf
      go_wp2
      obtain ⟨r0, r1, r2, _⟩ := ((HVn.out.put0 (.slice none 0 0)).put1 (.slice none 0 0)).put2 (.slice none 0 0)
      exact bodyPost_ret (v := .tuple #[.agg #[.slice none 0 0, .slice none 0 0, .slice none 0 0], .bool false]) (by simp [results, Try.results67, go_sem, r0, r1, r2]) rfl ⟨none, 0, 0, none, 0, 0, none, 0, 0, by rw [HNO.out]; rfl, (fun c h => by rw [HNO.out] at h; cases h), put3r_below HBn.out _ _ _⟩
    have hni : ¬ (8 : Int) < (n : Int) := by omega
    have hnj : ¬ (n : Int) < 1 := by omega
    have HRA : Hid (rA sl n (goN (fun a => rdt sl a 32) (n - 1) [] e0) = R) := Lib.hid (by rw [HRR.out, rowR_A R1.out (by omega) (by omega)])
    clear HRR R1
    go_wp2_with fail
    refine (hc1 _).mono ?_
    rintro e wm ⟨rfl, hbm⟩
    have hbn := hbn1 wm hbm
    have HVn := Lib.hid (HV1.out.keep hbn)
    have HBn := Lib.hid (bstep HB1.out hbn)
    have y0 : (wm.alloc (.cells #[.int .u64 (n : Int), .int .i64 (e0 : Int)] 132)).cell? ⟨wm.heap.size, 0, none⟩ = some (.int .u64 (n : Int)) := by simp
    have y1 : (wm.alloc (.cells #[.int .u64 (n : Int), .int .i64 (e0 : Int)] 132)).cell? ⟨wm.heap.size, 1, none⟩ = some (.int .i64 (e0 : Int)) := by simp
    have hwm := hbm.size
    clear hbm hbn hc1 hbn1
    go_upto_region 2 with fail
    have hNl := lt_of_cellN y0
    generalize wm.alloc (.cells #[.int .u64 (n : Int), .int .i64 (e0 : Int)] 132) = wn at *
    generalize wm.heap.size = NB at *
    have hlw := HVn.out.lt
    have hCR := RwV.nil wn 25 wn.heap.size (Nat.le_refl _)
    have hbC := balloc (Below.refl _ wn) (.cells #[.slice none 0 0, .slice none 0 0, .slice none 0 0] 25)
    have HF0 : Hid (Rf w NB wn.heap.size n (wn.alloc (.cells #[.slice none 0 0, .slice none 0 0, .slice none 0 0] 25)) (.slice none 0 0) (.slice none 0 0) (.slice none 0 0) ⟨[], [], []⟩) := Lib.hid ⟨hCR, HVn.out.keep hbC, kc hbC y0, bstep HBn.out hbC⟩
    have HC : Hid (w.heap.size < wn.heap.size ∧ NB < wn.heap.size) := Lib.hid ⟨hlw, hNl⟩
    have y1c := kc hbC y1
    clear hCR hbC HVn HBn hlw hNl hwm
    go_upto_region 5 with fail
    clear y0 y1
    generalize wn.alloc (.cells #[.slice none 0 0, .slice none 0 0, .slice none 0 0] 25) = wc at *
    generalize wn.heap.size = C at *
    have HN : Hid (1 ≤ n ∧ n ≤ 8) := Lib.hid (by omega)
    have y0 := HF0.out.N
    clear hn1 hn8 hni hnj z1 z2 p1
    go_wp2_with fail
    clear y0 y1c
    go_loopw [6, 7, 8] (fun at_ f i wr => ∃ (k : Nat) (us : List (List UInt8)) (a : Nat) (F : ByteArray) (u0 : Value) (rs : List (ByteArray × ByteArray)), k ≤ n ∧ i = .int .u64 k ∧ at_ = .int .i64 a ∧ f = .string F ∧ rs.length = k ∧ Rf w NB C n wr u0 (.slice none 0 0) (.slice none 0 0) ⟨rs, [], []⟩ ∧ ((k < n ∧ us.length = k ∧ F = ⟨(Km.lastL [] us).toArray⟩ ∧ rs = wbas (Km.preL [] us) ∧ rA sl n (goN (fun a => rdt sl a 32) (n - 1 - k) us a) = R) ∨ (k = n ∧ rs = wbas (Km.chainL [] us) ∧ rB sl us (goN (rdI sl) n [] a) = R))) (fun _ _ i _ => n - (intOf i).toNat)
    case atStart => exact ⟨0, [], e0, ⟨#[]⟩, _, [], by omega, rfl, rfl, rfl, rfl, HF0.out, .inl ⟨by have := HN.out; omega, rfl, rfl, rfl, HRA.out⟩⟩
    case round =>
      clear HF0 HRA
      obtain ⟨k, us, a, F, u0, rs, hk, rfl, rfl, rfl, hrl, hF, hor⟩ := hrel
      have HF := Lib.hid hF
      have HRL := Lib.hid hrl
      obtain ⟨c0, c1, c2, hf⟩ := hF.R.v
      obtain ⟨sa, sc, rfl⟩ := hF.R.r.shape
      have hNc := hF.N
      have hCl := hF.R.v.lt
      have hol : rs.length ≤ 8 := by have := HN.out; omega
      dsimp only at c0 HF
      clear hF hrl
      rcases hor with ⟨hlt, hul, hFe, hrs, hgo⟩ | ⟨hkn, hrs, hgo⟩
      · have hki : (k : Int) < (n : Int) := by omega
        have hk8 : k < 8 := by have := HN.out; omega
        have HFE := Lib.hid hFe
        have HRS := Lib.hid hrs
        have HGO := Lib.hid hgo
        clear hFe hrs hgo
        have hq0 : Below wr.heap.size wr (wr.alloc (.cells #[.string F, .string ⟨#[]⟩] 44)) := balloc (Below.refl _ wr) _
        have hr0 : (wr.alloc (.cells #[.string F, .string ⟨#[]⟩] 44)).cell? ⟨wr.heap.size, 0, none⟩ = some (.string F) := by simp
        have hr1 : (wr.alloc (.cells #[.string F, .string ⟨#[]⟩] 44)).cell? ⟨wr.heap.size, 1, none⟩ = some (.string ⟨#[]⟩) := by simp
        have hr2 : (wr.alloc (.cells #[.string F, .string ⟨#[]⟩] 44)).frozen? ⟨wr.heap.size, 1, none⟩ = false := by simp
        have hNq := kc hq0 hNc
        go_upto_region 11 with fail
        clear c0 c1 c2 hf hNc
        generalize hwq : wr.alloc (.cells #[.string F, .string ⟨#[]⟩] 44) = wq at *
        have hwqs : wr.heap.size < wq.heap.size := by rw [← hwq]; simp
        clear hwq
        by_cases hlast : k + 1 < n
        · have hli : (k : Int) + 1 < (n : Int) := by omega
          obtain ⟨m, hm⟩ : ∃ m, n - 1 - k = m + 1 := ⟨n - 1 - k - 1, by omega⟩
          have HGO2 := HGO.out
          rw [hm] at HGO2
          have HM := Lib.hid hm
          have HG2 := Lib.hid HGO2
          clear hm HGO2 HGO
          have hct := htx (a : Int)
          cases rt : rdt sl (a : Int) 32 with
          | none =>
            have HNO : Hid (R = none) := Lib.hid (by rw [← HG2.out, goN_no (f := fun a => rdt sl a 32) rt]; rfl)
            rw [rt, gotTV] at hct
            clear rt HG2 HFE HRS htx hrd
            go_wp2_with fail
            refine (hct _).mono ?_
            rintro e wm ⟨rfl, hbm⟩
            have hbn := bstep hq0 (bstepB hbm (.cells #[.string ⟨#[]⟩, .int .i64 0] 135))
            have HFn := Lib.hid (HF.out.below hbn)
            have z0 : (wm.alloc (.cells #[.string ⟨#[]⟩, .int .i64 0] 135)).cell? ⟨wm.heap.size, 1, none⟩ = some (.int .i64 0) := by simp
            clear hbm hbn hct hq0 hr0 hr1 hr2 hNq hCl
            go_upto_region 13 with fail
            generalize wm.alloc (.cells #[.string ⟨#[]⟩, .int .i64 0] 135) = wn at *
            generalize wm.heap.size = Bn at *
            obtain ⟨b0, b1, b2, hf⟩ := HFn.out.V
            have q0 := hf 0 (by decide)
            have q1 := hf 1 (by decide)
            have q2 := hf 2 (by decide)
            clear hf
            go_wp2
            obtain ⟨r0, r1, r2, _⟩ := ((HFn.out.V.put0 (.slice none 0 0)).put1 (.slice none 0 0)).put2 (.slice none 0 0)
            exact bodyPost_ret (v := .tuple #[.agg #[.slice none 0 0, .slice none 0 0, .slice none 0 0], .bool false]) (by simp [results, Try.results67, go_sem, r0, r1, r2]) rfl ⟨none, 0, 0, none, 0, 0, none, 0, 0, by rw [HNO.out]; rfl, (fun c h => by rw [HNO.out] at h; cases h), put3r_below HFn.out.B _ _ _⟩
          | some yt =>
            obtain ⟨K, mm⟩ := yt
            have hp1 := rdt_pos rt
            obtain ⟨_, hmm, hK, _⟩ := hp1
            rw [rt, gotTV] at hct
            have RT := Lib.hid rt
            clear rt
            obtain ⟨KK, hKK⟩ : ∃ B : ByteArray, B = ⟨K.toArray⟩ := ⟨_, rfl⟩
            rw [← hKK] at hct
            have HKK := Lib.hid hKK
            clear hKK hK
            have hm0 : ((mm : Int) == 0) = false := by simp; omega
            have hm1 : (mm == 0) = false := by simp; omega
            have HUS : Hid (rs ++ [(F, KK)] = wbas (Km.preL [] (us ++ [K]))) := Lib.hid (by rw [Km.pre_snoc, HRS.out, HFE.out, HKK.out]; simp [wbas])
            have HLS : Hid (KK = ⟨(Km.lastL [] (us ++ [K])).toArray⟩) := Lib.hid (by rw [Km.last_snoc, HKK.out])
            have HG3 : Hid (rA sl n (goN (fun a => rdt sl a 32) m (us ++ [K]) mm) = R) := Lib.hid (by rw [← HG2.out, goN_step (f := fun a => rdt sl a 32) RT.out])
            clear HG2 RT HFE HRS
            go_wp2_with fail
            refine (hct _).mono ?_
            rintro e wm ⟨rfl, hbm⟩
            have hbt := bstepB hbm (.cells #[.string KK, .int .i64 (mm : Int)] 135)
            have t0 : (wm.alloc (.cells #[.string KK, .int .i64 (mm : Int)] 135)).cell? ⟨wm.heap.size, 0, none⟩ = some (.string KK) := by simp
            have t1 : (wm.alloc (.cells #[.string KK, .int .i64 (mm : Int)] 135)).cell? ⟨wm.heap.size, 1, none⟩ = some (.int .i64 (mm : Int)) := by simp
            have x0 := kc hbt hr0
            have x1 := kc hbt hr1
            have x2 : (wm.alloc (.cells #[.string KK, .int .i64 (mm : Int)] 135)).frozen? ⟨wr.heap.size, 1, none⟩ = false := by rw [World.frozen?_of_block (hbt.block _ hwqs)]; exact hr2
            have hbq := bstep hq0 hbt
            have hne : wr.heap.size ≠ wm.heap.size := by have := hbm.size; omega
            clear hbm hbt hct hr0 hr1 hr2 hNq hq0
            go_upto_region 15 with fail
            generalize wm.alloc (.cells #[.string KK, .int .i64 (mm : Int)] 135) = wt at *
            generalize wm.heap.size = TB at *
            have hbs := hbq.setCell (p := ⟨wr.heap.size, 1, none⟩) (Nat.le_refl _) (.string KK)
            have s0 : (wt.setCell ⟨wr.heap.size, 1, none⟩ (.string KK)).cell? ⟨wr.heap.size, 0, none⟩ = some (.string F) := by rw [World.cell?_setCell_other _ _ _ _ (by simp)]; exact x0
            have s1 := World.cell?_setCell_same wt ⟨wr.heap.size, 1, none⟩ (.string KK) x1
            have s2 : (wt.setCell ⟨wr.heap.size, 1, none⟩ (.string KK)).cell? ⟨TB, 0, none⟩ = some (.string KK) := by rw [World.cell?_of_block (Below.heap_setCell _ _ _ _ (by show TB ≠ wr.heap.size; omega))]; exact t0
            have s3 : (wt.setCell ⟨wr.heap.size, 1, none⟩ (.string KK)).cell? ⟨TB, 1, none⟩ = some (.int .i64 (mm : Int)) := by rw [World.cell?_of_block (Below.heap_setCell _ _ _ _ (by show TB ≠ wr.heap.size; omega))]; exact t1
            have HF5 := Lib.hid (HF.out.below hbs)
            go_upto_region 16 with fail
            clear t0 t1 x0 x1 x2 hbq hbs HF
            generalize wt.setCell ⟨wr.heap.size, 1, none⟩ (.string KK) = w5 at *
            obtain ⟨c0, c1, c2, hf⟩ := HF5.out.R.v
            have hC5 := HF5.out.R.v.lt
            go_wp2_with (at_builtin; refine wp_pushR kr_ok (wr := w5) rfl _ _ rfl C (.slice sa rs.length sc) rs (F, KK) #[.string F, .string KK] rfl rfl HF5.out.R.r rfl (by omega) (by omega) ?_; intro g2 cap2 w6 ho2 hb2 hk2 hat2 hlt2; obtain ⟨d0, d1, d2, df⟩ := HF5.out.cells hk2 HF5.out.R.n0; have f2 := df 0 (by decide))
            have hM3 := HF5.out.put0 HC.out.1 HC.out.2 ho2 hb2 hk2 hat2
            go_wp2
            go_roundw
            case rel => exact ⟨k + 1, us ++ [K], mm, KK, _, _, by omega, by go_num, rfl, rfl, by rw [List.length_append, HRL.out]; rfl, hM3, .inl ⟨by omega, by rw [List.length_append, hul]; rfl, HLS.out, HUS.out, by rw [show n - 1 - (k + 1) = m by have := HM.out; omega]; exact HG3.out⟩⟩
            case measure => simp [intOf]; omega
        · have hli : ¬ (k : Int) + 1 < (n : Int) := by omega
          have HUS : Hid (rs ++ [(F, (⟨#[]⟩ : ByteArray))] = wbas (Km.chainL [] us)) := Lib.hid (by rw [Km.pre_chain, HRS.out, HFE.out]; simp [wbas])
          have HG3 : Hid (rB sl us (goN (rdI sl) n [] a) = R) := Lib.hid (by rw [← HGO.out, show n - 1 - k = 0 by omega]; rfl)
          have HF5 := Lib.hid (HF.out.below hq0)
          clear HGO HFE HRS HF hq0
          obtain ⟨c0, c1, c2, hf⟩ := HF5.out.R.v
          have hC5 := HF5.out.R.v.lt
          go_wp2_with (at_builtin; refine wp_pushR kr_ok (wr := wq) rfl _ _ rfl C (.slice sa rs.length sc) rs (F, ⟨#[]⟩) #[.string F, .string ⟨#[]⟩] rfl rfl HF5.out.R.r rfl (by omega) (by omega) ?_; intro g2 cap2 w6 ho2 hb2 hk2 hat2 hlt2; obtain ⟨d0, d1, d2, df⟩ := HF5.out.cells hk2 HF5.out.R.n0; have f2 := df 0 (by decide))
          have hM3 := HF5.out.put0 HC.out.1 HC.out.2 ho2 hb2 hk2 hat2
          go_wp2
          go_roundw
          case rel => exact ⟨k + 1, us, a, F, _, _, by omega, by go_num, rfl, rfl, by rw [List.length_append, HRL.out]; rfl, hM3, .inr ⟨by omega, HUS.out, HG3.out⟩⟩
          case measure => simp [intOf]; omega
      · subst hkn
        have HRS := Lib.hid hrs
        have HGO := Lib.hid hgo
        have hirr : ¬ (k : Int) < (k : Int) := by omega
        clear hrs hgo hk
        go_wp2_with fail
        clear c0 c1 c2 hf hNc
        go_loopw [6, 11] (fun at_ i wr => ∃ (x a : Nat) (ow : List Int) (u1 : Value), x ≤ k ∧ i = .int .u64 x ∧ at_ = .int .i64 a ∧ ow.length = x ∧ Rf w NB C k wr (.slice sa rs.length sc) u1 (.slice none 0 0) ⟨rs, ow, []⟩ ∧ rB sl us (goN (rdI sl) (k - x) ow a) = R) (fun _ i _ => k - (intOf i).toNat)
        case atStart => exact ⟨0, a, [], _, by omega, rfl, rfl, rfl, HF.out, HGO.out⟩
        case round =>
          clear HF HGO
          obtain ⟨x, a, ow, u1, hx, rfl, rfl, hol2, hF, hgo⟩ := hrel
          have HF := Lib.hid hF
          have HOL := Lib.hid hol2
          have HGO := Lib.hid hgo
          obtain ⟨c0, c1, c2, hf⟩ := hF.R.v
          obtain ⟨ta, tc, rfl⟩ := hF.R.o.shape
          have hNc := hF.N
          dsimp only at c1 HF
          clear hF hol2 hgo
          have how : ow.length ≤ 8 := by have := HN.out; have := HOL.out; omega
          by_cases hlt : x < k
          · have hxi : (x : Int) < (k : Int) := by omega
            obtain ⟨m, hm⟩ : ∃ m, k - x = m + 1 := ⟨k - x - 1, by omega⟩
            have HGO2 := HGO.out
            rw [hm] at HGO2
            have HM := Lib.hid hm
            have HG2 := Lib.hid HGO2
            clear hm HGO2 HGO
            have hct := hrd (a : Int)
            cases rt : rd sl (a : Int) with
            | none =>
              have HNO : Hid (R = none) := Lib.hid (by rw [← HG2.out, goN_no (rdI_no1 rt)]; rfl)
              rw [rt, gotV] at hct
              clear rt HG2 htx hrd HRS
              go_wp2_with fail
              refine (hct _).mono ?_
              rintro e wm ⟨rfl, hbm⟩
              have hbn := bstepB hbm (.cells #[.int .u64 0, .int .i64 0] 132)
              have HFn := Lib.hid (HF.out.below hbn)
              have z0 : (wm.alloc (.cells #[.int .u64 0, .int .i64 0] 132)).cell? ⟨wm.heap.size, 1, none⟩ = some (.int .i64 0) := by simp
              clear hbm hbn hct c0 c1 c2 hf hNc
              go_upto_region 23 with fail
              generalize wm.alloc (.cells #[.int .u64 0, .int .i64 0] 132) = wn at *
              generalize wm.heap.size = Bn at *
              obtain ⟨b0, b1, b2, hf⟩ := HFn.out.V
              have q0 := hf 0 (by decide)
              have q1 := hf 1 (by decide)
              have q2 := hf 2 (by decide)
              clear hf
              go_wp2
              obtain ⟨r0, r1, r2, _⟩ := ((HFn.out.V.put0 (.slice none 0 0)).put1 (.slice none 0 0)).put2 (.slice none 0 0)
              exact bodyPost_ret (v := .tuple #[.agg #[.slice none 0 0, .slice none 0 0, .slice none 0 0], .bool false]) (by simp [results, Try.results67, go_sem, r0, r1, r2]) rfl ⟨none, 0, 0, none, 0, 0, none, 0, 0, by rw [HNO.out]; rfl, (fun c h => by rw [HNO.out] at h; cases h), put3r_below HFn.out.B _ _ _⟩
            | some yt =>
              obtain ⟨g, mm⟩ := yt
              have hp1 := rd_pos rt
              rw [rt, gotV] at hct
              have hm0 : ((mm : Int) == 0) = false := by simp; omega
              have hm1 : (mm == 0) = false := by simp; omega
              have RT := Lib.hid rt
              clear rt hp1
              by_cases h63 : 63 < g
              · have HNO : Hid (R = none) := Lib.hid (by rw [← HG2.out, goN_no (rdI_no2 RT.out h63)]; rfl)
                have h63i : (63 : Int) < (g : Int) := by omega
                clear RT HG2 htx hrd HRS
                go_wp2_with fail
                refine (hct _).mono ?_
                rintro e wm ⟨rfl, hbm⟩
                have hbn := bstepB hbm (.cells #[.int .u64 (g : Int), .int .i64 (mm : Int)] 132)
                have HFn := Lib.hid (HF.out.below hbn)
                have z0 : (wm.alloc (.cells #[.int .u64 (g : Int), .int .i64 (mm : Int)] 132)).cell? ⟨wm.heap.size, 0, none⟩ = some (.int .u64 (g : Int)) := by simp
                have z1 : (wm.alloc (.cells #[.int .u64 (g : Int), .int .i64 (mm : Int)] 132)).cell? ⟨wm.heap.size, 1, none⟩ = some (.int .i64 (mm : Int)) := by simp
                clear hbm hbn hct c0 c1 c2 hf hNc
                go_upto_region 23 with fail
                generalize wm.alloc (.cells #[.int .u64 (g : Int), .int .i64 (mm : Int)] 132) = wn at *
                generalize wm.heap.size = Bn at *
                obtain ⟨b0, b1, b2, hf⟩ := HFn.out.V
                have q0 := hf 0 (by decide)
                have q1 := hf 1 (by decide)
                have q2 := hf 2 (by decide)
                clear hf
                go_wp2
                obtain ⟨r0, r1, r2, _⟩ := ((HFn.out.V.put0 (.slice none 0 0)).put1 (.slice none 0 0)).put2 (.slice none 0 0)
                exact bodyPost_ret (v := .tuple #[.agg #[.slice none 0 0, .slice none 0 0, .slice none 0 0], .bool false]) (by simp [results, Try.results67, go_sem, r0, r1, r2]) rfl ⟨none, 0, 0, none, 0, 0, none, 0, 0, by rw [HNO.out]; rfl, (fun c h => by rw [HNO.out] at h; cases h), put3r_below HFn.out.B _ _ _⟩
              · have h63i : ¬ (63 : Int) < (g : Int) := by omega
                have HG3 : Hid (rB sl us (goN (rdI sl) m (ow ++ [(g : Int)]) mm) = R) := Lib.hid (by rw [← HG2.out, goN_step (rdI_of RT.out (by omega))])
                have hgw : wrap64 (g : Int) = (g : Int) := wrap64_small (by omega) (by omega)
                clear RT HG2
                go_wp2_with fail
                refine (hct _).mono ?_
                rintro e wm ⟨rfl, hbm⟩
                have hbn := bstepB hbm (.cells #[.int .u64 (g : Int), .int .i64 (mm : Int)] 132)
                have HFn := Lib.hid (HF.out.below hbn)
                have z0 : (wm.alloc (.cells #[.int .u64 (g : Int), .int .i64 (mm : Int)] 132)).cell? ⟨wm.heap.size, 0, none⟩ = some (.int .u64 (g : Int)) := by simp
                have z1 : (wm.alloc (.cells #[.int .u64 (g : Int), .int .i64 (mm : Int)] 132)).cell? ⟨wm.heap.size, 1, none⟩ = some (.int .i64 (mm : Int)) := by simp
                have HOB : (Value.slice ta ow.length tc).ownBlock ≠ some wm.heap.size := fun e => by have := (HF.out.R.o.lt _ e).2; have := hbm.size; omega
                have hBC : C < wm.heap.size := by have := HF.out.R.v.lt; have := hbm.size; omega
                clear hbm hbn hct c0 c1 c2 hf hNc
                go_upto_region 23 with fail
                generalize wm.alloc (.cells #[.int .u64 (g : Int), .int .i64 (mm : Int)] 132) = wn at *
                generalize wm.heap.size = Bn at *
                obtain ⟨c0, c1, c2, hf⟩ := HFn.out.R.v
                have hC5 := HFn.out.R.v.lt
                have hBl := lt_of_cellN z1
                go_upto_region 26 with (at_builtin; refine wp_pushR ki_ok (wr := wn) rfl _ _ rfl C (.slice ta ow.length tc) ow ((g : Int)) #[.int .i64 ((g : Int))] rfl rfl HFn.out.R.o rfl (by omega) (by omega) ?_; intro g2 cap2 w6 ho2 hb2 hk2 hat2 hlt2; obtain ⟨d0, d1, d2, df⟩ := HFn.out.cells hk2 HFn.out.R.n1; have f2 := df 1 (by decide); have zz := (World.cell?_of_block (hk2 Bn hBl HOB)).trans z1)
                have hM3 := HFn.out.put1 HC.out.1 HC.out.2 ho2 hb2 hk2 hat2
                have z1' := (World.cell?_of_block (Below.heap_setCell w6 ⟨C, 1, none⟩ (.slice (some ⟨g2, 0, none⟩) (ow.length + 1) cap2) Bn (by show Bn ≠ C; omega))).trans zz
                clear zz z0 z1 d0 d1 d2 df f2 ho2 hb2 hk2 hlt2 c0 c1 c2 hf HFn HF
                generalize w6.setCell ⟨C, 1, none⟩ (.slice (some ⟨g2, 0, none⟩) (ow.length + 1) cap2) = w7 at *
                go_wp2
                go_roundw
                case rel => exact ⟨x + 1, mm, ow ++ [(g : Int)], _, by omega, by go_num, rfl, by rw [List.length_append, HOL.out]; rfl, hM3, by rw [show k - (x + 1) = m by have := HM.out; omega]; exact HG3.out⟩
                case measure => simp [intOf]; omega
          · obtain rfl : x = k := by omega
            have HG1 : Hid (rC sl us ow (rd sl (a : Int)) = R) := Lib.hid (by rw [← HGO.out, Nat.sub_self]; rfl)
            clear hlt hx HGO
            have hct := hrd (a : Int)
            cases rt : rd sl (a : Int) with
            | none =>
              have HNO : Hid (R = none) := Lib.hid (by rw [← HG1.out, rt]; rfl)
              rw [rt, gotV] at hct
              clear rt HG1 htx hrd HRS
              go_wp2_with fail
              refine (hct _).mono ?_
              rintro e wm ⟨rfl, hbm⟩
              have hbn := bstepB hbm (.cells #[.int .u64 0, .int .i64 0] 132)
              have HFn := Lib.hid (HF.out.below hbn)
              have z0 : (wm.alloc (.cells #[.int .u64 0, .int .i64 0] 132)).cell? ⟨wm.heap.size, 1, none⟩ = some (.int .i64 0) := by simp
              clear hbm hbn hct c0 c1 c2 hf hNc
              go_upto_region 28 with fail
              generalize wm.alloc (.cells #[.int .u64 0, .int .i64 0] 132) = wn at *
              generalize wm.heap.size = Bn at *
              obtain ⟨b0, b1, b2, hf⟩ := HFn.out.V
              have q0 := hf 0 (by decide)
              have q1 := hf 1 (by decide)
              have q2 := hf 2 (by decide)
              clear hf
              go_wp2
              obtain ⟨r0, r1, r2, _⟩ := ((HFn.out.V.put0 (.slice none 0 0)).put1 (.slice none 0 0)).put2 (.slice none 0 0)
              exact bodyPost_ret (v := .tuple #[.agg #[.slice none 0 0, .slice none 0 0, .slice none 0 0], .bool false]) (by simp [results, Try.results67, go_sem, r0, r1, r2]) rfl ⟨none, 0, 0, none, 0, 0, none, 0, 0, by rw [HNO.out]; rfl, (fun c h => by rw [HNO.out] at h; cases h), put3r_below HFn.out.B _ _ _⟩
            | some yt =>
              obtain ⟨g, mm⟩ := yt
              have hp1 := rd_pos rt
              rw [rt, gotV] at hct
              have hm0 : ((mm : Int) == 0) = false := by simp; omega
              have hm1 : (mm == 0) = false := by simp; omega
              rw [rt] at HG1
              clear rt hp1
              by_cases h6 : 6 < g
              · have HNO : Hid (R = none) := Lib.hid (by rw [← HG1.out, rC, if_pos h6])
                have h6i : (6 : Int) < (g : Int) := by omega
                clear HG1 htx hrd HRS
                go_wp2_with fail
                refine (hct _).mono ?_
                rintro e wm ⟨rfl, hbm⟩
                have hbn := bstepB hbm (.cells #[.int .u64 (g : Int), .int .i64 (mm : Int)] 132)
                have HFn := Lib.hid (HF.out.below hbn)
                have z0 : (wm.alloc (.cells #[.int .u64 (g : Int), .int .i64 (mm : Int)] 132)).cell? ⟨wm.heap.size, 0, none⟩ = some (.int .u64 (g : Int)) := by simp
                have z1 : (wm.alloc (.cells #[.int .u64 (g : Int), .int .i64 (mm : Int)] 132)).cell? ⟨wm.heap.size, 1, none⟩ = some (.int .i64 (mm : Int)) := by simp
                clear hbm hbn hct c0 c1 c2 hf hNc
                go_upto_region 28 with fail
                generalize wm.alloc (.cells #[.int .u64 (g : Int), .int .i64 (mm : Int)] 132) = wn at *
                generalize wm.heap.size = Bn at *
                obtain ⟨b0, b1, b2, hf⟩ := HFn.out.V
                have q0 := hf 0 (by decide)
                have q1 := hf 1 (by decide)
                have q2 := hf 2 (by decide)
                clear hf
                go_wp2
                obtain ⟨r0, r1, r2, _⟩ := ((HFn.out.V.put0 (.slice none 0 0)).put1 (.slice none 0 0)).put2 (.slice none 0 0)
                exact bodyPost_ret (v := .tuple #[.agg #[.slice none 0 0, .slice none 0 0, .slice none 0 0], .bool false]) (by simp [results, Try.results67, go_sem, r0, r1, r2]) rfl ⟨none, 0, 0, none, 0, 0, none, 0, 0, by rw [HNO.out]; rfl, (fun c h => by rw [HNO.out] at h; cases h), put3r_below HFn.out.B _ _ _⟩
              · have h6i : ¬ (6 : Int) < (g : Int) := by omega
                have HG3 : Hid (rD sl us ow (goN (rdPb sl) g [] mm) = R) := Lib.hid (by rw [← HG1.out, rC, if_neg h6])
                clear HG1
                go_wp2_with fail
                refine (hct _).mono ?_
                rintro e wm ⟨rfl, hbm⟩
                have hbn := bstepB hbm (.cells #[.int .u64 (g : Int), .int .i64 (mm : Int)] 132)
                have HFn := Lib.hid (HF.out.below hbn)
                have z0 : (wm.alloc (.cells #[.int .u64 (g : Int), .int .i64 (mm : Int)] 132)).cell? ⟨wm.heap.size, 0, none⟩ = some (.int .u64 (g : Int)) := by simp
                have z1 : (wm.alloc (.cells #[.int .u64 (g : Int), .int .i64 (mm : Int)] 132)).cell? ⟨wm.heap.size, 1, none⟩ = some (.int .i64 (mm : Int)) := by simp
                have hBC : C < wm.heap.size := by have := HF.out.R.v.lt; have := hbm.size; omega
                clear hbm hbn hct c0 c1 c2 hf hNc
                go_upto_region 28 with fail
                generalize wm.alloc (.cells #[.int .u64 (g : Int), .int .i64 (mm : Int)] 132) = wn at *
                generalize wm.heap.size = Bn at *
                clear HF
                have HG6 : Hid (g ≤ 6) := Lib.hid (by omega)
                go_wp2_with fail
                have HZ0 := Lib.hid z0
                clear z0 z1 h6 h6i hm0 hm1
                go_loopw [6, 14] (fun at_ i wr => ∃ (y a : Nat) (pa : List Int) (u2 : Value), y ≤ g ∧ i = .int .u64 y ∧ at_ = .int .i64 a ∧ pa.length = y ∧ Rf w NB C x wr (.slice sa rs.length sc) (.slice ta ow.length tc) u2 ⟨rs, ow, pa⟩ ∧ wr.cell? ⟨Bn, 0, none⟩ = some (.int .u64 (g : Int)) ∧ u2.ownBlock ≠ some Bn ∧ rD sl us ow (goN (rdPb sl) (g - y) pa a) = R) (fun _ i _ => g - (intOf i).toNat)
                case atStart => exact ⟨0, mm, [], _, by omega, rfl, rfl, rfl, HFn.out, HZ0.out, by simp [Value.ownBlock], HG3.out⟩
                case round =>
                  clear HFn HG3 HZ0
                  obtain ⟨y, a, pa, u2, hy, rfl, rfl, hpl, hF, hMc, hMo, hgo⟩ := hrel
                  have HF := Lib.hid hF
                  have HPL := Lib.hid hpl
                  have HGO := Lib.hid hgo
                  have HMO := Lib.hid hMo
                  obtain ⟨c0, c1, c2, hf⟩ := hF.R.v
                  obtain ⟨va, vc, rfl⟩ := hF.R.p.shape
                  dsimp only at c2 HF
                  clear hF hpl hgo hMo
                  have hpa : pa.length ≤ 6 := by have := HG6.out; have := HPL.out; omega
                  by_cases hlt : y < g
                  · have hyi : (y : Int) < (g : Int) := by omega
                    obtain ⟨m, hm⟩ : ∃ m, g - y = m + 1 := ⟨g - y - 1, by omega⟩
                    have HGO2 := HGO.out
                    rw [hm] at HGO2
                    have HM := Lib.hid hm
                    have HG2 := Lib.hid HGO2
                    clear hm HGO2 HGO
                    have hct := hrd (a : Int)
                    cases rt : rd sl (a : Int) with
                    | none =>
                      have HNO : Hid (R = none) := Lib.hid (by rw [← HG2.out, goN_no (rdPb_no1 rt)]; rfl)
                      rw [rt, gotV] at hct
                      clear rt HG2 htx hrd HRS
                      go_wp2_with fail
                      refine (hct _).mono ?_
                      rintro e wm ⟨rfl, hbm⟩
                      have hbn := bstepB hbm (.cells #[.int .u64 0, .int .i64 0] 132)
                      have HFn := Lib.hid (HF.out.below hbn)
                      have z0 : (wm.alloc (.cells #[.int .u64 0, .int .i64 0] 132)).cell? ⟨wm.heap.size, 1, none⟩ = some (.int .i64 0) := by simp
                      clear hbm hbn hct c0 c1 c2 hf hMc
                      go_upto_region 35 with fail
                      generalize wm.alloc (.cells #[.int .u64 0, .int .i64 0] 132) = wn at *
                      generalize wm.heap.size = Bp at *
                      obtain ⟨b0, b1, b2, hf⟩ := HFn.out.V
                      have q0 := hf 0 (by decide)
                      have q1 := hf 1 (by decide)
                      have q2 := hf 2 (by decide)
                      clear hf
                      go_wp2
                      obtain ⟨r0, r1, r2, _⟩ := ((HFn.out.V.put0 (.slice none 0 0)).put1 (.slice none 0 0)).put2 (.slice none 0 0)
                      exact bodyPost_ret (v := .tuple #[.agg #[.slice none 0 0, .slice none 0 0, .slice none 0 0], .bool false]) (by simp [results, Try.results67, go_sem, r0, r1, r2]) rfl ⟨none, 0, 0, none, 0, 0, none, 0, 0, by rw [HNO.out]; rfl, (fun c h => by rw [HNO.out] at h; cases h), put3r_below HFn.out.B _ _ _⟩
                    | some yt =>
                      obtain ⟨h, mm⟩ := yt
                      have hp1 := rd_pos rt
                      rw [rt, gotV] at hct
                      have hm0 : ((mm : Int) == 0) = false := by simp; omega
                      have hm1 : (mm == 0) = false := by simp; omega
                      have RT := Lib.hid rt
                      clear rt hp1
                      by_cases h6 : 6 < h
                      · have HNO : Hid (R = none) := Lib.hid (by rw [← HG2.out, goN_no (rdPb_no2 RT.out h6)]; rfl)
                        have h6i : (6 : Int) < (h : Int) := by omega
                        clear RT HG2 htx hrd HRS
                        go_wp2_with fail
                        refine (hct _).mono ?_
                        rintro e wm ⟨rfl, hbm⟩
                        have hbn := bstepB hbm (.cells #[.int .u64 (h : Int), .int .i64 (mm : Int)] 132)
                        have HFn := Lib.hid (HF.out.below hbn)
                        have z0 : (wm.alloc (.cells #[.int .u64 (h : Int), .int .i64 (mm : Int)] 132)).cell? ⟨wm.heap.size, 0, none⟩ = some (.int .u64 (h : Int)) := by simp
                        have z1 : (wm.alloc (.cells #[.int .u64 (h : Int), .int .i64 (mm : Int)] 132)).cell? ⟨wm.heap.size, 1, none⟩ = some (.int .i64 (mm : Int)) := by simp
                        clear hbm hbn hct c0 c1 c2 hf hMc
                        go_upto_region 35 with fail
                        generalize wm.alloc (.cells #[.int .u64 (h : Int), .int .i64 (mm : Int)] 132) = wn at *
                        generalize wm.heap.size = Bp at *
                        obtain ⟨b0, b1, b2, hf⟩ := HFn.out.V
                        have q0 := hf 0 (by decide)
                        have q1 := hf 1 (by decide)
                        have q2 := hf 2 (by decide)
                        clear hf
                        go_wp2
                        obtain ⟨r0, r1, r2, _⟩ := ((HFn.out.V.put0 (.slice none 0 0)).put1 (.slice none 0 0)).put2 (.slice none 0 0)
                        exact bodyPost_ret (v := .tuple #[.agg #[.slice none 0 0, .slice none 0 0, .slice none 0 0], .bool false]) (by simp [results, Try.results67, go_sem, r0, r1, r2]) rfl ⟨none, 0, 0, none, 0, 0, none, 0, 0, by rw [HNO.out]; rfl, (fun c h => by rw [HNO.out] at h; cases h), put3r_below HFn.out.B _ _ _⟩
                      · have h6i : ¬ (6 : Int) < (h : Int) := by omega
                        have HG3 : Hid (rD sl us ow (goN (rdPb sl) m (pa ++ [(h : Int) - 1]) mm) = R) := Lib.hid (by rw [← HG2.out, goN_step (rdPb_of RT.out (by omega))])
                        have HW1 : Hid (wrap64 (h : Int) = (h : Int)) := Lib.hid (wrap64_small (by omega) (by omega))
                        have HW2 : Hid (wrap64 ((h : Int) - 1) = (h : Int) - 1) := Lib.hid (wrap64_small (by omega) (by omega))
                        clear RT HG2
                        go_wp2_with fail
                        refine (hct _).mono ?_
                        rintro e wm ⟨rfl, hbm⟩
                        have hbn := bstepB hbm (.cells #[.int .u64 (h : Int), .int .i64 (mm : Int)] 132)
                        have HFn := Lib.hid (HF.out.below hbn)
                        have z0 : (wm.alloc (.cells #[.int .u64 (h : Int), .int .i64 (mm : Int)] 132)).cell? ⟨wm.heap.size, 0, none⟩ = some (.int .u64 (h : Int)) := by simp
                        have z1 : (wm.alloc (.cells #[.int .u64 (h : Int), .int .i64 (mm : Int)] 132)).cell? ⟨wm.heap.size, 1, none⟩ = some (.int .i64 (mm : Int)) := by simp
                        have HOB : (Value.slice va pa.length vc).ownBlock ≠ some wm.heap.size := fun e => by have := (HF.out.R.p.lt _ e).2; have := hbm.size; omega
                        have hBC2 : C < wm.heap.size := by have := HF.out.R.v.lt; have := hbm.size; omega
                        have hMc2 := kc hbn hMc
                        have hMB := lt_of_cellN hMc
                        clear hbm hbn hct c0 c1 c2 hf hMc
                        go_upto_region 35 with fail
                        generalize wm.alloc (.cells #[.int .u64 (h : Int), .int .i64 (mm : Int)] 132) = wn at *
                        generalize wm.heap.size = Bp at *
                        obtain ⟨c0, c1, c2, hf⟩ := HFn.out.R.v
                        have hC5 := HFn.out.R.v.lt
                        have hBl := lt_of_cellN z1
                        have hMl := lt_of_cellN hMc2
                        have hpz : pa.length ≤ 1000000 := by omega
                        have hcz : C ≤ wn.heap.size := by omega
                        have hgw2 := HW2.out
                        go_upto_region 38 with (at_builtin; refine wp_pushR ki_ok (wr := wn) rfl _ _ rfl C (.slice va pa.length vc) pa ((h : Int) - 1) #[.int .i64 ((h : Int) - 1)] rfl rfl HFn.out.R.p rfl hpz hcz ?_; intro g2 cap2 w6 ho2 hb2 hk2 hat2 hlt2; obtain ⟨d0, d1, d2, df⟩ := HFn.out.cells hk2 HFn.out.R.n2; have f2 := df 2 (by decide); have zz := (World.cell?_of_block (hk2 Bp hBl HOB)).trans z1; have zm := (World.cell?_of_block (hk2 Bn hMl HMO.out)).trans hMc2)
                        clear hgw2
                        have hM3 := HFn.out.put2 HC.out.1 HC.out.2 ho2 hb2 hk2 hat2
                        have z1' := (World.cell?_of_block (Below.heap_setCell w6 ⟨C, 2, none⟩ (.slice (some ⟨g2, 0, none⟩) (pa.length + 1) cap2) Bp (by show Bp ≠ C; omega))).trans zz
                        have zm' := (World.cell?_of_block (Below.heap_setCell w6 ⟨C, 2, none⟩ (.slice (some ⟨g2, 0, none⟩) (pa.length + 1) cap2) Bn (by show Bn ≠ C; omega))).trans zm
                        have HNB : Hid ((Value.slice (some ⟨g2, 0, none⟩) (pa.length + 1) cap2).ownBlock ≠ some Bn) := Lib.hid (fun e => by
                          obtain rfl := own_at7 _ e
                          rcases hat2 with h1 | h1
                          · exact HMO.out h1
                          · omega)
                        clear zz zm z0 z1 d0 d1 d2 df f2 ho2 hb2 hk2 hlt2 hat2 c0 c1 c2 hf HFn HF hMc2
                        generalize w6.setCell ⟨C, 2, none⟩ (.slice (some ⟨g2, 0, none⟩) (pa.length + 1) cap2) = w7 at *
                        go_wp2
                        go_roundw
                        case rel => exact ⟨y + 1, mm, pa ++ [(h : Int) - 1], _, by omega, by go_num, rfl, by rw [List.length_append, HPL.out]; rfl, hM3, zm', HNB.out, by rw [show g - (y + 1) = m by have := HM.out; omega]; exact HG3.out⟩
                        case measure => simp [intOf]; omega
                  · obtain rfl : y = g := by omega
                    have HG1 : Hid ((if a = sl.length then some ⟨wbas (Km.chainL [] us), ow, pa⟩ else none) = R) := Lib.hid (by rw [← HGO.out, Nat.sub_self]; rfl)
                    have hyy : ¬ (y : Int) < (y : Int) := by omega
                    clear hlt hy HGO htx hrd
                    obtain ⟨b0, b1, b2, hf2⟩ := HF.out.V
                    have q0 := hf2 0 (by decide)
                    have q1 := hf2 1 (by decide)
                    have q2 := hf2 2 (by decide)
                    have hneC : C ≠ w.heap.size := by have := HC.out.1; omega
                    clear hf hf2
                    obtain ⟨r0, r1, r2, _⟩ := ((HF.out.V.put0 (.slice sa rs.length sc)).put1 (.slice ta ow.length tc)).put2 (.slice va pa.length vc)
                    by_cases he : a = sl.length
                    · have hei : (a : Int) = (s.size : Int) := by have := HLN.out; omega
                      have hei2 : decide ((a : Int) = (s.size : Int)) = true := decide_eq_true hei
                      have HRS2 : Hid (R = some ⟨rs, ow, pa⟩) := Lib.hid (by rw [← HG1.out, if_pos he, HRS.out])
                      have HFA : Hid (∀ r ∈ rs, r.1.size ≤ 32 ∧ r.2.size ≤ 32) := Lib.hid ((rowR_facts (HRE.out.symm.trans HRS2.out)).2.2.2.2.2.2)
                      clear he HG1
                      go_wp2
                      exact bodyPost_ret (v := .tuple #[.agg #[.slice sa rs.length sc, .slice ta ow.length tc, .slice va pa.length vc], .bool true]) (by simp [results, Try.results67, go_sem, r0, r1, r2, hei]) rfl ⟨sa, _, sc, ta, _, tc, va, _, vc, by rw [HRS2.out]; rfl, (fun c h => by rw [HRS2.out] at h; cases h; exact put3r_row HF.out.R.r HF.out.R.o HF.out.R.p HC.out.1 HC.out.1 (fun r hr => by have := HFA.out r hr; omega) _ _ _), put3r_below HF.out.B _ _ _⟩
                    · have hei : ¬ (a : Int) = (s.size : Int) := by have := HLN.out; omega
                      have hei2 : decide ((a : Int) = (s.size : Int)) = false := decide_eq_false hei
                      have HRS2 : Hid (R = none) := Lib.hid (by rw [← HG1.out, if_neg he])
                      clear he HG1
                      go_wp2
                      exact bodyPost_ret (v := .tuple #[.agg #[.slice sa rs.length sc, .slice ta ow.length tc, .slice va pa.length vc], .bool false]) (by simp [results, Try.results67, go_sem, r0, r1, r2, hei]) rfl ⟨sa, _, sc, ta, _, tc, va, _, vc, by rw [HRS2.out]; rfl, (fun c h => by rw [HRS2.out] at h; cases h), put3r_below HF.out.B _ _ _⟩
end Go.Proofs.Ytllagelopdedfaa
