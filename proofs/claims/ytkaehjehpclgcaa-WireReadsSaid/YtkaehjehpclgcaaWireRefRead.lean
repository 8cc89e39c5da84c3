/- What the document's Read answers of bytes. -/
import Derived.Test.YtkaehjehpclgcaaGW20
import Derived.Test.YtkaehjehpclgcaaRefText
import Derived.Test.YtkaehjehpclgcaaStampRefRead
import Derived.Test.YtkaehjehpclgcaaPastRefRead2
namespace Go.Proofs.Ytkaehjehpclgcaa
open Go.RowKit
set_option linter.unusedVariables false
set_option linter.unusedSimpArgs false

theorem rdWR_eq (s : List UInt8) : rdW s 32 18446744073709551615 =
    match rdt s 0 32 with
    | none => none
    | some (k, e1) =>
      match rd s (e1 : Int) with
      | none => none
      | some (g, e2) =>
        match rdt s (e2 : Int) 32 with
        | none => none
        | some (x, e3) =>
          match Sm.rdS (rd s) (e3 : Int) with
          | none => none
          | some (t, e4) =>
            match prD s (e4 : Int) with
            | none => none
            | some (p, e5) => some (⟨⟨k.toArray⟩, ⟨x.toArray⟩, decide (g = 1), t, p⟩, e5) := by
  unfold rdW
  cases rdt s 0 32 with
  | none => rfl
  | some y =>
    obtain ⟨k, e1⟩ := y
    simp only
    cases hr : rd s (e1 : Int) with
    | none => rfl
    | some z =>
      obtain ⟨g, e2⟩ := z
      have := (rd_some hr).1
      simp only
      rw [if_neg (by omega)]
      rfl
theorem rd_pos {s : List UInt8} {a : Int} {n e : Nat} (h : rd s a = some (n, e)) : 0 < e := by
  have := (rd_some h).2.2
  omega
theorem bstepB {w w1 : World} (h : Below w.heap.size w w1) (o : Obj) : Below w.heap.size w (w1.alloc o) := balloc h o
/-- The result's block, and what is below it. -/
structure RB (w W : World) : Prop where
  v : VwP W w.heap.size wz (.slice none 0 0)
  m : Below w.heap.size w W
theorem RB.keep {w W W' : World} (h : RB w W) (hb : Below W.heap.size W W') : RB w W' := ⟨h.v.keep hb, bstep h.m hb⟩

set_option maxRecDepth 100000 in
set_option maxHeartbeats 3200000 in
theorem refWRead_any (s : ByteArray) (w : World) (hs : s.size ≤ 1000000) :
    Calls Try.prog 20 #[.string s] w fun e w' => ∃ u, e = .returned (.tuple #[.agg (wvs (gotW (readW s.data.toList)) u), .bool (readW s.data.toList).isSome]) ∧ DepAt w' u (gotW (readW s.data.toList)).past ∧ Below w.heap.size w w' := by
  rw [← read_same]
  have hrb : RB w (w.alloc (.cells (wvs wz (.slice none 0 0)) 26)) := ⟨VwP.new w wz (.slice none 0 0) _, balloc (Below.refl _ w) _⟩
  dsimp only [wz, wvs] at hrb
  have hrd : readR s.data.toList = finR s.data.toList (rdW s.data.toList 32 18446744073709551615) := rfl
  go_enter Try.func20, Try.ntmps20
  go_upto_region 1 with fail
  generalize w.alloc (.cells #[.string ⟨#[]⟩, .string ⟨#[]⟩, .bool false, .int .i64 0, .int .i64 0, .slice none 0 0] 26) = w1 at *
  have HRB := Lib.hid hrb
  clear hrb
  have hc1 := fun W => refReadText_any s 0 32 W hs (by omega)
  cases r1 : rdt s.data.toList 0 32 with
  | none =>
    have hno : readR s.data.toList = none := by rw [hrd, rdWR_eq];  rw [r1]; rfl
    have HNO := Lib.hid hno
    rw [r1, gotTV] at hc1
    clear hno r1 hrd
    go_wp2_with fail
    refine (hc1 _).mono ?_
    rintro e wm ⟨rfl, hbm⟩
    have hbn := bstepB hbm (.cells #[(.string ⟨#[]⟩), (.int .i64 0)] 86)
    have HRn := Lib.hid (HRB.out.keep hbn)
    have z0 : (wm.alloc (.cells #[(.string ⟨#[]⟩), (.int .i64 0)] 86)).cell? ⟨wm.heap.size, 0, none⟩ = some (.string ⟨#[]⟩) := by simp
    have z1 : (wm.alloc (.cells #[(.string ⟨#[]⟩), (.int .i64 0)] 86)).cell? ⟨wm.heap.size, 1, none⟩ = some (.int .i64 0) := by simp
    clear hbm hbn hc1
    go_upto_region 2 with fail
    generalize wm.alloc (.cells #[(.string ⟨#[]⟩), (.int .i64 0)] 86) = wn at *
    generalize wm.heap.size = Bn at *
    obtain ⟨b0, b1, b2, b3, b4, b5, hf⟩ := HRn.out.v
    have q0 := hf 0 (by decide)
    have q1 := hf 1 (by decide)
    have q2 := hf 2 (by decide)
    have q3 := hf 3 (by decide)
    have q4 := hf 4 (by decide)
    have q5 := hf 5 (by decide)
    dsimp only [wz] at b0 b1 b2 b3 b4
    clear hf
    go_wp2
    have hp := HRn.out.v.putw wz (.slice none 0 0)
    obtain ⟨r0, r1, r2, r3, r4, r5, _⟩ := hp
    dsimp only [wz, World.putw] at r0 r1 r2 r3 r4 r5
    obtain ⟨x1, x2⟩ := wread_no HRn.out.m
    refine bodyPost_ret (v := .tuple #[.agg (wvs wz (.slice none 0 0)), .bool false]) (by simp [results, Try.results20, go_sem, wvs, wz, r0, r1, r2, r3, r4, r5]) rfl (by rw [HNO.out]; exact ⟨_, rfl, x1, x2⟩)
  | some y1 =>
    obtain ⟨k1, e1⟩ := y1
    have p1 := rdt_pos r1
    have z1 : decide ((e1 : Int) = 0) = false := decide_eq_false (by omega)
    have zz1 : ((e1 : Int) == 0) = false := by rw [beq_eq_false_iff_ne]; omega
    have R1 := Lib.hid r1
    rw [r1, gotTV] at hc1
    generalize hK1 : (⟨k1.toArray⟩ : ByteArray) = K1 at hc1
    have HK1 := Lib.hid hK1
    clear hK1
    clear r1
    go_wp2_with fail
    refine (hc1 _).mono ?_
    rintro e wm1 ⟨rfl, hbm⟩
    have hbn := bstepB hbm (.cells #[(.string K1), (.int .i64 (e1 : Int))] 86)
    have HRB1 := Lib.hid (HRB.out.keep hbn)
    have ck0 : (wm1.alloc (.cells #[(.string K1), (.int .i64 (e1 : Int))] 86)).cell? ⟨wm1.heap.size, 0, none⟩ = some (.string K1) := by simp
    have ck1 : (wm1.alloc (.cells #[(.string K1), (.int .i64 (e1 : Int))] 86)).cell? ⟨wm1.heap.size, 1, none⟩ = some (.int .i64 (e1 : Int)) := by simp
    clear hbm hbn hc1 HRB
    go_upto_region 2 with fail
    generalize wm1.alloc (.cells #[(.string K1), (.int .i64 (e1 : Int))] 86) = w2 at *
    generalize wm1.heap.size = Bk at *
    have hc2 := fun W => refRead_any s (e1 : Int) W hs
    cases r2 : rd s.data.toList (e1 : Int) with
    | none =>
      have hno : readR s.data.toList = none := by rw [hrd, rdWR_eq]; rw [R1.out]; simp only; rw [r2]; rfl
      have HNO := Lib.hid hno
      rw [r2, gotV] at hc2
      clear hno r2 hrd
      go_wp2_with fail
      refine (hc2 _).mono ?_
      rintro e wm ⟨rfl, hbm⟩
      have hbn := bstepB hbm (.cells #[(.int .u64 0), (.int .i64 0)] 89)
      have HRn := Lib.hid (HRB1.out.keep hbn)
      have z0 : (wm.alloc (.cells #[(.int .u64 0), (.int .i64 0)] 89)).cell? ⟨wm.heap.size, 0, none⟩ = some (.int .u64 0) := by simp
      have z1 : (wm.alloc (.cells #[(.int .u64 0), (.int .i64 0)] 89)).cell? ⟨wm.heap.size, 1, none⟩ = some (.int .i64 0) := by simp
      clear hbm hbn hc2
      go_upto_region 5 with fail
      generalize wm.alloc (.cells #[(.int .u64 0), (.int .i64 0)] 89) = wn at *
      generalize wm.heap.size = Bn at *
      obtain ⟨b0, b1, b2, b3, b4, b5, hf⟩ := HRn.out.v
      have q0 := hf 0 (by decide)
      have q1 := hf 1 (by decide)
      have q2 := hf 2 (by decide)
      have q3 := hf 3 (by decide)
      have q4 := hf 4 (by decide)
      have q5 := hf 5 (by decide)
      dsimp only [wz] at b0 b1 b2 b3 b4
      clear hf
      go_wp2
      have hp := HRn.out.v.putw wz (.slice none 0 0)
      obtain ⟨r0, r1, r2, r3, r4, r5, _⟩ := hp
      dsimp only [wz, World.putw] at r0 r1 r2 r3 r4 r5
      obtain ⟨x1, x2⟩ := wread_no HRn.out.m
      refine bodyPost_ret (v := .tuple #[.agg (wvs wz (.slice none 0 0)), .bool false]) (by simp [results, Try.results20, go_sem, wvs, wz, r0, r1, r2, r3, r4, r5]) rfl (by rw [HNO.out]; exact ⟨_, rfl, x1, x2⟩)
    | some y2 =>
      obtain ⟨g2, e2⟩ := y2
      have p2 := rd_pos r2
      have z2 : decide ((e2 : Int) = 0) = false := decide_eq_false (by omega)
      have zz2 : ((e2 : Int) == 0) = false := by rw [beq_eq_false_iff_ne]; omega
      have R2 := Lib.hid r2
      rw [r2, gotV] at hc2
      clear r2
      go_wp2_with fail
      refine (hc2 _).mono ?_
      rintro e wm2 ⟨rfl, hbm⟩
      have hbn := bstepB hbm (.cells #[(.int .u64 (g2 : Int)), (.int .i64 (e2 : Int))] 89)
      have HRB2 := Lib.hid (HRB1.out.keep hbn)
      replace ck0 := kc hbn ck0
      replace ck1 := kc hbn ck1
      have cg0 : (wm2.alloc (.cells #[(.int .u64 (g2 : Int)), (.int .i64 (e2 : Int))] 89)).cell? ⟨wm2.heap.size, 0, none⟩ = some (.int .u64 (g2 : Int)) := by simp
      have cg1 : (wm2.alloc (.cells #[(.int .u64 (g2 : Int)), (.int .i64 (e2 : Int))] 89)).cell? ⟨wm2.heap.size, 1, none⟩ = some (.int .i64 (e2 : Int)) := by simp
      clear hbm hbn hc2 HRB1
      go_upto_region 5 with fail
      generalize wm2.alloc (.cells #[(.int .u64 (g2 : Int)), (.int .i64 (e2 : Int))] 89) = w3 at *
      generalize wm2.heap.size = Bg at *
      have hc3 := fun W => refReadText_any s (e2 : Int) 32 W hs (by omega)
      cases r3 : rdt s.data.toList (e2 : Int) 32 with
      | none =>
        have hno : readR s.data.toList = none := by rw [hrd, rdWR_eq]; rw [R1.out]; simp only; rw [R2.out]; simp only; rw [r3]; rfl
        have HNO := Lib.hid hno
        rw [r3, gotTV] at hc3
        clear hno r3 hrd
        go_wp2_with fail
        refine (hc3 _).mono ?_
        rintro e wm ⟨rfl, hbm⟩
        have hbn := bstepB hbm (.cells #[(.string ⟨#[]⟩), (.int .i64 0)] 86)
        have HRn := Lib.hid (HRB2.out.keep hbn)
        have z0 : (wm.alloc (.cells #[(.string ⟨#[]⟩), (.int .i64 0)] 86)).cell? ⟨wm.heap.size, 0, none⟩ = some (.string ⟨#[]⟩) := by simp
        have z1 : (wm.alloc (.cells #[(.string ⟨#[]⟩), (.int .i64 0)] 86)).cell? ⟨wm.heap.size, 1, none⟩ = some (.int .i64 0) := by simp
        clear hbm hbn hc3
        go_upto_region 8 with fail
        generalize wm.alloc (.cells #[(.string ⟨#[]⟩), (.int .i64 0)] 86) = wn at *
        generalize wm.heap.size = Bn at *
        obtain ⟨b0, b1, b2, b3, b4, b5, hf⟩ := HRn.out.v
        have q0 := hf 0 (by decide)
        have q1 := hf 1 (by decide)
        have q2 := hf 2 (by decide)
        have q3 := hf 3 (by decide)
        have q4 := hf 4 (by decide)
        have q5 := hf 5 (by decide)
        dsimp only [wz] at b0 b1 b2 b3 b4
        clear hf
        go_wp2
        have hp := HRn.out.v.putw wz (.slice none 0 0)
        obtain ⟨r0, r1, r2, r3, r4, r5, _⟩ := hp
        dsimp only [wz, World.putw] at r0 r1 r2 r3 r4 r5
        obtain ⟨x1, x2⟩ := wread_no HRn.out.m
        refine bodyPost_ret (v := .tuple #[.agg (wvs wz (.slice none 0 0)), .bool false]) (by simp [results, Try.results20, go_sem, wvs, wz, r0, r1, r2, r3, r4, r5]) rfl (by rw [HNO.out]; exact ⟨_, rfl, x1, x2⟩)
      | some y3 =>
        obtain ⟨k3, e3⟩ := y3
        have p3 := rdt_pos r3
        have z3 : decide ((e3 : Int) = 0) = false := decide_eq_false (by omega)
        have zz3 : ((e3 : Int) == 0) = false := by rw [beq_eq_false_iff_ne]; omega
        have R3 := Lib.hid r3
        rw [r3, gotTV] at hc3
        generalize hK3 : (⟨k3.toArray⟩ : ByteArray) = K3 at hc3
        have HK3 := Lib.hid hK3
        clear hK3
        clear r3
        go_wp2_with fail
        refine (hc3 _).mono ?_
        rintro e wm3 ⟨rfl, hbm⟩
        have hbn := bstepB hbm (.cells #[(.string K3), (.int .i64 (e3 : Int))] 86)
        have HRB3 := Lib.hid (HRB2.out.keep hbn)
        replace ck0 := kc hbn ck0
        replace ck1 := kc hbn ck1
        replace cg0 := kc hbn cg0
        replace cg1 := kc hbn cg1
        have cv0 : (wm3.alloc (.cells #[(.string K3), (.int .i64 (e3 : Int))] 86)).cell? ⟨wm3.heap.size, 0, none⟩ = some (.string K3) := by simp
        have cv1 : (wm3.alloc (.cells #[(.string K3), (.int .i64 (e3 : Int))] 86)).cell? ⟨wm3.heap.size, 1, none⟩ = some (.int .i64 (e3 : Int)) := by simp
        clear hbm hbn hc3 HRB2
        go_upto_region 8 with fail
        generalize wm3.alloc (.cells #[(.string K3), (.int .i64 (e3 : Int))] 86) = w4 at *
        generalize wm3.heap.size = Bv at *
        have hc4 := fun W => refSRead_any s (e3 : Int) W hs
        cases r4 : Sm.rdS (rd s.data.toList) (e3 : Int) with
        | none =>
          have hno : readR s.data.toList = none := by rw [hrd, rdWR_eq]; rw [R1.out]; simp only; rw [R2.out]; simp only; rw [R3.out]; simp only; rw [r4]; rfl
          have HNO := Lib.hid hno
          rw [r4, sgV] at hc4
          clear hno r4 hrd
          go_wp2_with fail
          refine (hc4 _).mono ?_
          rintro e wm ⟨rfl, hbm⟩
          have hbn := bstepB hbm (.cells #[(.int .i64 0), (.int .i64 0), (.int .i64 0)] 92)
          have HRn := Lib.hid (HRB3.out.keep hbn)
          have z0 : (wm.alloc (.cells #[(.int .i64 0), (.int .i64 0), (.int .i64 0)] 92)).cell? ⟨wm.heap.size, 0, none⟩ = some (.int .i64 0) := by simp
          have z1 : (wm.alloc (.cells #[(.int .i64 0), (.int .i64 0), (.int .i64 0)] 92)).cell? ⟨wm.heap.size, 1, none⟩ = some (.int .i64 0) := by simp
          have z2 : (wm.alloc (.cells #[(.int .i64 0), (.int .i64 0), (.int .i64 0)] 92)).cell? ⟨wm.heap.size, 2, none⟩ = some (.int .i64 0) := by simp
          clear hbm hbn hc4
          go_upto_region 11 with fail
          generalize wm.alloc (.cells #[(.int .i64 0), (.int .i64 0), (.int .i64 0)] 92) = wn at *
          generalize wm.heap.size = Bn at *
          obtain ⟨b0, b1, b2, b3, b4, b5, hf⟩ := HRn.out.v
          have q0 := hf 0 (by decide)
          have q1 := hf 1 (by decide)
          have q2 := hf 2 (by decide)
          have q3 := hf 3 (by decide)
          have q4 := hf 4 (by decide)
          have q5 := hf 5 (by decide)
          dsimp only [wz] at b0 b1 b2 b3 b4
          clear hf
          go_wp2
          have hp := HRn.out.v.putw wz (.slice none 0 0)
          obtain ⟨r0, r1, r2, r3, r4, r5, _⟩ := hp
          dsimp only [wz, World.putw] at r0 r1 r2 r3 r4 r5
          obtain ⟨x1, x2⟩ := wread_no HRn.out.m
          refine bodyPost_ret (v := .tuple #[.agg (wvs wz (.slice none 0 0)), .bool false]) (by simp [results, Try.results20, go_sem, wvs, wz, r0, r1, r2, r3, r4, r5]) rfl (by rw [HNO.out]; exact ⟨_, rfl, x1, x2⟩)
        | some y4 =>
          obtain ⟨t4, e4⟩ := y4
          have p4 := rdS_pos r4
          have z4 : decide ((e4 : Int) = 0) = false := decide_eq_false (by omega)
          have zz4 : ((e4 : Int) == 0) = false := by rw [beq_eq_false_iff_ne]; omega
          have R4 := Lib.hid r4
          rw [r4, sgV] at hc4
          obtain ⟨t40, t41⟩ := t4
          clear r4
          go_wp2_with fail
          refine (hc4 _).mono ?_
          rintro e wm4 ⟨rfl, hbm⟩
          have hbn := bstepB hbm (.cells #[(.int .i64 t40), (.int .i64 t41), (.int .i64 (e4 : Int))] 92)
          have HRB4 := Lib.hid (HRB3.out.keep hbn)
          replace ck0 := kc hbn ck0
          replace ck1 := kc hbn ck1
          replace cg0 := kc hbn cg0
          replace cg1 := kc hbn cg1
          replace cv0 := kc hbn cv0
          replace cv1 := kc hbn cv1
          have ct0 : (wm4.alloc (.cells #[(.int .i64 t40), (.int .i64 t41), (.int .i64 (e4 : Int))] 92)).cell? ⟨wm4.heap.size, 0, none⟩ = some (.int .i64 t40) := by simp
          have ct1 : (wm4.alloc (.cells #[(.int .i64 t40), (.int .i64 t41), (.int .i64 (e4 : Int))] 92)).cell? ⟨wm4.heap.size, 1, none⟩ = some (.int .i64 t41) := by simp
          have ct2 : (wm4.alloc (.cells #[(.int .i64 t40), (.int .i64 t41), (.int .i64 (e4 : Int))] 92)).cell? ⟨wm4.heap.size, 2, none⟩ = some (.int .i64 (e4 : Int)) := by simp
          clear hbm hbn hc4 HRB3
          go_upto_region 11 with fail
          generalize wm4.alloc (.cells #[(.int .i64 t40), (.int .i64 t41), (.int .i64 (e4 : Int))] 92) = w5 at *
          generalize wm4.heap.size = Bt at *
          have hc5 := fun W => refPRead_new s (e4 : Int) W hs
          cases r5 : prD s.data.toList (e4 : Int) with
          | none =>
            have hno : readR s.data.toList = none := by rw [hrd, rdWR_eq]; rw [R1.out]; simp only; rw [R2.out]; simp only; rw [R3.out]; simp only; rw [R4.out]; simp only; rw [r5]; rfl
            have HNO := Lib.hid hno
            rw [r5] at hc5
            dsimp only [prL, prE] at hc5
            clear hno r5 hrd
            go_wp2_with fail
            refine (hc5 _).mono ?_
            rintro e wm ⟨u, rfl, ho5, hbm⟩
            have hd5 := DepAt.of_own ho5
            clear ho5
            obtain ⟨pa, pc, rfl, _⟩ := id hd5
            have hbn := bstepB hbm (.cells #[.slice pa 0 pc, .int .i64 0] 95)
            have HRn := Lib.hid (HRB4.out.keep hbn)
            replace ck0 := kc hbn ck0
            replace ck1 := kc hbn ck1
            replace cg0 := kc hbn cg0
            replace cg1 := kc hbn cg1
            replace cv0 := kc hbn cv0
            replace cv1 := kc hbn cv1
            replace ct0 := kc hbn ct0
            replace ct1 := kc hbn ct1
            replace ct2 := kc hbn ct2
            have z0 : (wm.alloc (.cells #[.slice pa 0 pc, .int .i64 0] 95)).cell? ⟨wm.heap.size, 0, none⟩ = some (.slice pa 0 pc) := by simp
            have z1 : (wm.alloc (.cells #[.slice pa 0 pc, .int .i64 0] 95)).cell? ⟨wm.heap.size, 1, none⟩ = some (.int .i64 0) := by simp
            clear hbm hbn hc5 hd5
            go_upto_region 14 with fail
            generalize wm.alloc (.cells #[.slice pa 0 pc, .int .i64 0] 95) = wn at *
            generalize wm.heap.size = Bn at *
            have hg : ((g2 : Int) == 1) = decide (g2 = 1) := by by_cases c : g2 = 1 <;> simp [c]; omega
            have hb2 := balloc (Below.refl _ wn) (.cells #[.string K1, .string K3, .bool (decide (g2 = 1)), .int .i64 t40, .int .i64 t41, .slice pa 0 pc] 26)
            have HRo := Lib.hid (HRn.out.keep hb2)
            replace z1 := kc hb2 z1
            go_upto_region 15 with fail
            generalize wn.alloc (.cells #[.string K1, .string K3, .bool (decide (g2 = 1)), .int .i64 t40, .int .i64 t41, .slice pa 0 pc] 26) = wo at *
            clear hb2
            obtain ⟨b0, b1, b2, b3, b4, b5, hf⟩ := HRo.out.v
            have q0 := hf 0 (by decide)
            have q1 := hf 1 (by decide)
            have q2 := hf 2 (by decide)
            have q3 := hf 3 (by decide)
            have q4 := hf 4 (by decide)
            have q5 := hf 5 (by decide)
            dsimp only [wz] at b0 b1 b2 b3 b4
            clear hf
            go_wp2
            have hp := HRo.out.v.putw wz (.slice none 0 0)
            obtain ⟨r0, r1, r2, r3, r4, r5, _⟩ := hp
            dsimp only [wz, World.putw] at r0 r1 r2 r3 r4 r5
            obtain ⟨x1, x2⟩ := wread_no HRo.out.m
            refine bodyPost_ret (v := .tuple #[.agg (wvs wz (.slice none 0 0)), .bool false]) (by simp [results, Try.results20, go_sem, wvs, wz, r0, r1, r2, r3, r4, r5]) rfl (by rw [HNO.out]; exact ⟨_, rfl, x1, x2⟩)
          | some y5 =>
            obtain ⟨k5, e5⟩ := y5
            obtain ⟨hck5, _, _⟩ := prD_only r5
            have p5 := prD_pos r5
            have z5 : decide ((e5 : Int) = 0) = false := decide_eq_false (by omega)
            have zz5 : ((e5 : Int) == 0) = false := by rw [beq_eq_false_iff_ne]; omega
            have hR : readR s.data.toList = finR s.data.toList (some (⟨K1, K3, decide (g2 = 1), (t40, t41), k5⟩, e5)) := by rw [hrd, rdWR_eq]; rw [R1.out]; simp only; rw [R2.out]; simp only; rw [R3.out]; simp only; rw [R4.out]; simp only; rw [r5]; simp only; rw [HK1.out, HK3.out]
            rw [r5] at hc5
            dsimp only [prL, prE] at hc5
            have hK1s : K1.size ≤ 32 := by rw [← HK1.out]; show (Array.size _) ≤ 32; rw [List.size_toArray]; omega
            have hK3s : K3.size ≤ 32 := by rw [← HK3.out]; show (Array.size _) ≤ 32; rw [List.size_toArray]; omega
            have HOKK : Hid (∀ W u, DepAt W u k5 → WvOk W ⟨K1, K3, decide (g2 = 1), (t40, t41), k5⟩ u) := Lib.hid (fun W u h => ⟨by show K1.size ≤ _; omega, by show K3.size ≤ _; omega, by have := (chkD_parts hck5).1; show k5.length ≤ _; omega, fun d hd => by have := srt_sizes (chkD_parts hck5).2 d hd; omega, h⟩)
            have HR := Lib.hid hR
            clear r5 hrd hR hK1s hK3s hck5 p1 p2 p3 p4 p5
            go_wp2_with fail
            refine (hc5 _).mono ?_
            rintro e wm ⟨u, rfl, ho5, hbm⟩
            have hd5 := DepAt.of_own ho5
            have hfresh := fun g e => (ho5.lt g e).1
            clear ho5
            obtain ⟨pa, pc, rfl, _⟩ := id hd5
            have hbn := bstepB hbm (.cells #[.slice pa k5.length pc, .int .i64 (e5 : Int)] 95)
            have hbn2 := balloc (Below.refl _ wm) (.cells #[.slice pa k5.length pc, .int .i64 (e5 : Int)] 95)
            have HRn := Lib.hid (HRB4.out.keep hbn)
            have hd6 := hd5.below hbn2
            replace ck0 := kc hbn ck0
            replace ck1 := kc hbn ck1
            replace cg0 := kc hbn cg0
            replace cg1 := kc hbn cg1
            replace cv0 := kc hbn cv0
            replace cv1 := kc hbn cv1
            replace ct0 := kc hbn ct0
            replace ct1 := kc hbn ct1
            replace ct2 := kc hbn ct2
            have x0 : (wm.alloc (.cells #[.slice pa k5.length pc, .int .i64 (e5 : Int)] 95)).cell? ⟨wm.heap.size, 0, none⟩ = some (.slice pa k5.length pc) := by simp
            have x1 : (wm.alloc (.cells #[.slice pa k5.length pc, .int .i64 (e5 : Int)] 95)).cell? ⟨wm.heap.size, 1, none⟩ = some (.int .i64 (e5 : Int)) := by simp
            clear hbm hbn hbn2 hc5 hd5
            go_upto_region 14 with fail
            generalize wm.alloc (.cells #[.slice pa k5.length pc, .int .i64 (e5 : Int)] 95) = wn at *
            generalize wm.heap.size = Bn at *
            have hg : ((g2 : Int) == 1) = decide (g2 = 1) := by by_cases c : g2 = 1 <;> simp [c]; omega
            have hN := VwP.new wn ⟨K1, K3, decide (g2 = 1), (t40, t41), k5⟩ (.slice pa k5.length pc) 26
            have hb2 := balloc (Below.refl _ wn) (.cells #[.string K1, .string K3, .bool (decide (g2 = 1)), .int .i64 t40, .int .i64 t41, .slice pa k5.length pc] 26)
            have HRo := Lib.hid (HRn.out.keep hb2)
            have hd7 := hd6.below hb2
            replace x1 := kc hb2 x1
            dsimp only [wvs] at hN
            have hBn : w.heap.size ≠ wn.heap.size := by have := HRn.out.v.lt; omega
            have hdn : ∀ g, (Value.slice pa k5.length pc).ownBlock = some g → g ≠ w.heap.size := fun g e => by have h1 := hfresh g e; have := HRB4.out.v.lt; omega
            go_upto_region 15 with fail
            generalize wn.alloc (.cells #[.string K1, .string K3, .bool (decide (g2 = 1)), .int .i64 t40, .int .i64 t41, .slice pa k5.length pc] 26) = wo at *
            generalize wn.heap.size = Bo at *
            have HFR := Lib.hid hdn
            have HD7 := Lib.hid hd7
            have HN := Lib.hid hN
            obtain ⟨y0, y1, y2, y3, y4, y5, _⟩ := hN
            dsimp only at y0 y1 y2 y3 y4
            clear hb2 hd6 hd7 hdn hfresh HRB4 HRn
            obtain ⟨A, hA⟩ : ∃ A : ByteArray, A = ⟨(wbV ⟨K1, K3, decide (g2 = 1), (t40, t41), k5⟩).toArray⟩ := ⟨_, rfl⟩
            have hby := fun W h => refWBytes_any ⟨K1, K3, decide (g2 = 1), (t40, t41), k5⟩ (.slice pa k5.length pc) W (HOKK.out W _ h)
            rw [← hA] at hby
            dsimp only [wvs] at hby
            by_cases he : wbV ⟨K1, K3, decide (g2 = 1), (t40, t41), k5⟩ = s.data.toList
            · have hAs : A = s := by rw [hA, he]
              rw [hAs] at hby
              have hno : readR s.data.toList = some ⟨K1, K3, decide (g2 = 1), (t40, t41), k5⟩ := by rw [HR.out, finR, if_pos he]
              have HNO := Lib.hid hno
              clear hno hA hAs he
              go_wp2_with fail
              refine (hby _ HD7.out).mono ?_
              rintro e wp ⟨rfl, hbp⟩
              have HRp := Lib.hid (HRo.out.keep hbp)
              have HDp := Lib.hid (HD7.out.below hbp)
              have hNp := HN.out.keep hbp
              clear y0 y1 y2 y3 y4 y5 hby hbp
              obtain ⟨y0, y1, y2, y3, y4, y5, _⟩ := hNp
              dsimp only at y0 y1 y2 y3 y4
              obtain ⟨b0, b1, b2, b3, b4, b5, hf⟩ := HRp.out.v
              have q0 := hf 0 (by decide)
              have q1 := hf 1 (by decide)
              have q2 := hf 2 (by decide)
              have q3 := hf 3 (by decide)
              have q4 := hf 4 (by decide)
              have q5 := hf 5 (by decide)
              dsimp only [wz] at b0 b1 b2 b3 b4
              clear hf
              go_wp2
              have hp := HRp.out.v.putw ⟨K1, K3, decide (g2 = 1), (t40, t41), k5⟩ (.slice pa k5.length pc)
              obtain ⟨r0, r1, r2, r3, r4, r5, _⟩ := hp
              dsimp only [World.putw] at r0 r1 r2 r3 r4 r5
              have w1 : DepAt (World.putw wp w.heap.size ⟨K1, K3, decide (g2 = 1), (t40, t41), k5⟩ (.slice pa k5.length pc)) (.slice pa k5.length pc) k5 := HDp.out.blocks (by simp [World.putw]) (fun g e => putw_block _ _ _ _ _ (HFR.out g e))
              have w2 := below_putw HRp.out.m (Nat.le_refl w.heap.size) ⟨K1, K3, decide (g2 = 1), (t40, t41), k5⟩ (.slice pa k5.length pc)
              refine bodyPost_ret (v := .tuple #[.agg (wvs ⟨K1, K3, decide (g2 = 1), (t40, t41), k5⟩ (.slice pa k5.length pc)), .bool true]) (by simp [results, Try.results20, go_sem, wvs, r0, r1, r2, r3, r4, r5]) rfl (by rw [HNO.out]; exact ⟨_, rfl, w1, w2⟩)
            · have hAs : ¬ A.toList = s.toList := fun h => he (by rw [Lib.toList_data, Lib.toList_data, hA] at h; exact h)
              have hAb : (A.toList == s.toList) = false := beq_eq_false_iff_ne.2 hAs
              have hAn : (A.toList != s.toList) = true := by rw [bne, hAb]; rfl
              have hAd : decide (A.toList = s.toList) = false := decide_eq_false hAs
              have hno : readR s.data.toList = none := by rw [HR.out, finR, if_neg he]
              have HNO := Lib.hid hno
              clear hno hA he
              go_wp2_with fail
              refine (hby _ HD7.out).mono ?_
              rintro e wp ⟨rfl, hbp⟩
              have HRp := Lib.hid (HRo.out.keep hbp)
              clear y0 y1 y2 y3 y4 y5 hby hbp
              obtain ⟨b0, b1, b2, b3, b4, b5, hf⟩ := HRp.out.v
              have q0 := hf 0 (by decide)
              have q1 := hf 1 (by decide)
              have q2 := hf 2 (by decide)
              have q3 := hf 3 (by decide)
              have q4 := hf 4 (by decide)
              have q5 := hf 5 (by decide)
              dsimp only [wz] at b0 b1 b2 b3 b4
              clear hf
              go_wp2
              have hp := HRp.out.v.putw wz (.slice none 0 0)
              obtain ⟨r0, r1, r2, r3, r4, r5, _⟩ := hp
              dsimp only [wz, World.putw] at r0 r1 r2 r3 r4 r5
              obtain ⟨x1, x2⟩ := wread_no HRp.out.m
              refine bodyPost_ret (v := .tuple #[.agg (wvs wz (.slice none 0 0)), .bool false]) (by simp [results, Try.results20, go_sem, wvs, wz, r0, r1, r2, r3, r4, r5]) rfl (by rw [HNO.out]; exact ⟨_, rfl, x1, x2⟩)
end Go.Proofs.Ytkaehjehpclgcaa
