/- ChainClean, walked: what a cleaned chain keeps. -/
import Derived.Test.YtfkeeehfpbnibaaGC24
import Derived.Deep.RegionHeld3
import Derived.Deep.DeepCutAuto
namespace Go.Proofs.Ytfkeeehfpbnibaa
open Go.RowKit Go.Shelf
set_option linter.unusedVariables false
set_option linter.unusedSimpArgs false

/-- What is asked, in memory. -/
structure AskQ (w : World) (b : Nat) (s : Int × Int) (v : Value) : Prop where
  c6 : w.cell? ⟨b, 6, none⟩ = some (.int .i64 s.1)
  c7 : w.cell? ⟨b, 7, none⟩ = some (.int .i64 s.2)
  c8 : w.cell? ⟨b, 8, none⟩ = some v
  f8 : w.frozen? ⟨b, 8, none⟩ = false
theorem AskQ.keep {w w' : World} {b : Nat} {s : Int × Int} {v : Value} (h : AskQ w b s v) (hb : Below w.heap.size w w') : AskQ w' b s v :=
  ⟨kc hb h.c6, kc hb h.c7, kc hb h.c8, (hb.frozen (p := ⟨b, 8, none⟩) (lt_of_cellN h.c6)).trans h.f8⟩
theorem AskQ.put {w : World} {b : Nat} {s : Int × Int} {v : Value} (h : AskQ w b s v) (u : Value) : AskQ (w.setCell ⟨b, 8, none⟩ u) b s u := by
  obtain ⟨c6, c7, c8, f8⟩ := h
  exact ⟨by rw [World.cell?_setCell_other _ _ _ _ (by simp)]; exact c6, by rw [World.cell?_setCell_other _ _ _ _ (by simp)]; exact c7, World.cell?_setCell_same _ _ _ c8, by simpa using f8⟩
/-- A stamp in memory. -/
structure AtQ (w : World) (b : Nat) (t : Int × Int) : Prop where
  c0 : w.cell? ⟨b, 0, none⟩ = some (.int .i64 t.1)
  c1 : w.cell? ⟨b, 1, none⟩ = some (.int .i64 t.2)
theorem AtQ.keep {w w' : World} {b : Nat} {t : Int × Int} (h : AtQ w b t) (hb : Below w.heap.size w w') : AtQ w' b t := ⟨kc hb h.c0, kc hb h.c1⟩
theorem AtQ.block {w w' : World} {b : Nat} {t : Int × Int} (h : AtQ w b t) (hb : w'.heap[b]? = w.heap[b]?) : AtQ w' b t :=
  ⟨by rw [World.cell?_of_block hb]; exact h.c0, by rw [World.cell?_of_block hb]; exact h.c1⟩

set_option maxRecDepth 100000 in
set_option maxHeartbeats 3200000 in
theorem walkChainClean (w : World) (a : Option Addr) (l : List (Int × Int)) (cap : Nat) (h1 : l.length ≤ cap) (h2 : cap ≤ maxLen) (h3 : a = none → cap = 0) (h64 : ∀ r ∈ l, In64 r) (hst : StIn w a l)
    (d0 d1 d2 d3 d4 d5 : Value) (s0 s1 : Int) (pa : Option Addr) (p : List (Int × Int)) (pcap : Nat) (hs64 : In64 (s0, s1)) (hp1 : p.length ≤ pcap) (hp2 : pcap ≤ maxLen) (hp3 : pa = none → pcap = 0) (hp64 : ∀ r ∈ p, In64 r) (hpst : StIn w pa p)
    (t0 t1 : Int) (ht64 : In64 (t0, t1)) :
    Calls Try.prog 5 #[.slice a l.length cap, .agg #[d0, d1, d2, d3, d4, d5, .int .i64 s0, .int .i64 s1, .slice pa p.length pcap], .agg #[.int .i64 t0, .int .i64 t1]] w fun e w' => e = .returned (.bool true) ∧ Below w.heap.size w w' := by
  have hrow : RowAt KT w (.slice a l.length cap) l := ⟨a, cap, rfl, h1, h2, h3, hst.rowT⟩
  have hmade := fun W (h : Below w.heap.size w W) => madeN_any (.slice a l.length cap) l W (by unfold maxLen at h2; omega) (hrow.below h) h64
  have hchn := madeK_chn l (madeN l)
  have hcl0 := madeK_len l (madeN l)
  have hcbd := fun W => madeK_bd h64 W (madeN l)
  have hn16 : madeN l ≤ 16 := by unfold madeN; omega
  generalize madeK l (madeN l) = c at hmade hchn hcl0 hcbd
  have hc16 : c.length ≤ 16 := by omega
  have HCHN := Lib.hid hchn
  have HCBD := Lib.hid hcbd
  have hprow : RowIn KT w pa p := hpst.rowT
  have HPROW := Lib.hid hprow
  have HP3 := Lib.hid hp3
  have HP64 := Lib.hid hp64
  have HP1 := Lib.hid hp1
  have HP2 := Lib.hid hp2
  obtain ⟨wA, hwA⟩ : ∃ wA, w.alloc (.cells #[d0, d1, d2, d3, d4, d5, .int .i64 s0, .int .i64 s1, .slice pa p.length pcap] 40) = wA := ⟨_, rfl⟩
  have hbA : Below w.heap.size w wA := by rw [← hwA]; exact balloc (Below.refl _ w) _
  have hzA : wA.heap.size = w.heap.size + 1 := by rw [← hwA]; simp
  have hQA : AskQ wA w.heap.size (s0, s1) (.slice pa p.length pcap) := by rw [← hwA]; exact ⟨by simp, by simp, by simp, by simp⟩
  obtain ⟨wB, hwB⟩ : ∃ wB, wA.alloc (.cells #[.int .i64 t0, .int .i64 t1] 25) = wB := ⟨_, rfl⟩
  have hbB : Below wA.heap.size wA wB := by rw [← hwB]; exact balloc (Below.refl _ wA) _
  have hzB : wB.heap.size = w.heap.size + 2 := by rw [← hwB]; simp [hzA]
  have hTB : AtQ wB (w.heap.size + 1) (t0, t1) := by rw [← hwB, ← hzA]; exact ⟨by simp, by simp⟩
  have hQB := hQA.keep hbB
  have hb0 := bstep hbA hbB
  clear hrow hchn hcl0 hcbd hn16 h1 h2 h3 h64 hst hprow hp1 hp2 hp3 hp64 hpst hbB hbA hQA
  go_enter Try.func5, Try.ntmps5
  go_upto_region 1 with fail
  try rw [hwA, hwB]
  try rw [hzA]
  clear hwA hwB hzA
  go_wp2_with fail
  refine (awake12_any _).mono ?_
  rintro e w1 ⟨rfl, hb1⟩
  have hb1' := bstep hb0 hb1
  go_wp2_with fail
  refine (hmade _ hb1').mono ?_
  rintro e w2 ⟨v2, rfl, hown2, _, hb2⟩
  obtain ⟨ca, cc, rfl⟩ := hown2.shape
  have hQ2 := (hQB.keep hb1).keep hb2
  have hT2 := (hTB.keep hb1).keep hb2
  have hB2 := bstep hb1' hb2
  have hlow1 : w.heap.size + 2 ≤ w1.heap.size := by have := hb1.size; omega
  have HB2 := Lib.hid hB2
  have HQ2 := Lib.hid hQ2
  have HT2 := Lib.hid hT2
  have HOC := Lib.hid hown2
  clear hmade hb0 hb1 hb1' hb2 hown2 hzB hTB hQB hB2 hT2
  obtain ⟨q6, q7, q8, qf⟩ := hQ2
  dsimp only at q6 q7
  go_upto_if 33 with (fail)
  go_cut [8] (fun s8 wx => s8 = .slice ca c.length cc ∧ ∃ P : List (Int × Int), P.length ≤ 8 ∧ (∀ r ∈ P, In64 r) ∧ RowAt KT w (.slice pa P.length pcap) P ∧ AskQ wx w.heap.size (s0, s1) (.slice pa P.length pcap) ∧ AtQ wx (w.heap.size + 1) (t0, t1) ∧ OwnR KW wx w1.heap.size (.slice ca c.length cc) c ∧ Below w.heap.size w wx)
  case first =>
    by_cases hp8 : 8 < p.length
    · have hp8i : (8 : Int) < (p.length : Int) := by omega
      have hc8 : 8 ≤ pcap := by have := HP1.out; omega
      obtain ⟨b, off, rfl, hbl, _⟩ := HPROW.out 0 (by omega)
      go_wp2
      go_meet
      have h8 : (p.take 8).length = 8 := by rw [List.length_take]; omega
      refine ⟨rfl, p.take 8, by omega, fun r hr => HP64.out r (List.mem_of_mem_take hr), ⟨some ⟨b, off, none⟩, pcap, rfl, by omega, HP2.out, HP3.out, HPROW.out.takeR 8⟩, ?_, HT2.out.block (Below.heap_setCell _ _ _ _ (by simp)), HOC.out.block (fun g hg => Below.heap_setCell _ _ _ _ (fun e => HOC.out.lo (k := w.heap.size) (by omega) (by rw [hg, e]))), HB2.out.setCell (Nat.le_refl _) _⟩
      rw [h8]
      simpa using HQ2.out.put _
    · have hp8i : ¬ (8 : Int) < (p.length : Int) := by omega
      go_wp2
      go_meet
      exact ⟨rfl, p, by omega, HP64.out, ⟨pa, pcap, rfl, HP1.out, HP2.out, HP3.out, HPROW.out⟩, HQ2.out, HT2.out, HOC.out, HB2.out⟩
  case rest =>
    obtain ⟨rfl, P, hP8, hP64, hPR, hQ3, hT3, hOC3, hB3⟩ := hcut
    obtain ⟨w3, hw3⟩ : ∃ w3, w3 = wc := ⟨_, rfl⟩
    subst hw3
    have hrC : WRow w3 (.slice ca c.length cc) c := WRow.of_own hOC3 (HCBD.out w3)
    have hcln := clean_any (.slice ca c.length cc) (.slice pa P.length pcap) c (s0, s1) P w3 (by omega) (by omega) hrC (hPR.below hB3) hP64
    have HRC := Lib.hid hrC
    have HPR := Lib.hid hPR
    have HP6 := Lib.hid hP64
    have HB3 := Lib.hid hB3
    have HQ3 := Lib.hid hQ3
    have HT3 := Lib.hid hT3
    have HH : Hid ((cleanL c (s0, s1) P).getLast? = c.getLast?) := Lib.hid clean_head
    have HA : Hid (∀ q ∈ P, lastP (isS q) (cleanL c (s0, s1) P) = lastP (isS q) c) := Lib.hid (fun q hq => clean_at hq)
    have HBW : Hid (Sm.less (t0, t1) (s0, s1) = false → lastP (notA (t0, t1)) (cleanL c (s0, s1) P) = lastP (notA (t0, t1)) c) := Lib.hid clean_below
    have HAG : Hid (cleanL (cleanL c (s0, s1) P) (s0, s1) P = cleanL c (s0, s1) P) := Lib.hid clean_again
    have hdl : (cleanL c (s0, s1) P).length ≤ c.length := clean_len
    have HCH : Hid (chk1 none (cleanL c (s0, s1) P) = true) := Lib.hid (HCHN.out.filter _).chk
    have HDBD : Hid (∀ W, ∀ x ∈ cleanL c (s0, s1) P, VwB W x) := Lib.hid (fun W x hx => HCBD.out W x (List.mem_filter.1 hx).1)
    generalize cleanL c (s0, s1) P = d at hcln HH HA HBW HAG hdl HCH HDBD
    have hdli : (d.length : Int) ≤ (c.length : Int) := by omega
    clear q6 q7 q8 qf HQ2 HT2 HOC HB2 HP1 HP2 HP3 HP64 HPROW hrC hPR hP64 hOC3 hB3 hT3
    obtain ⟨q6, q7, q8, qf⟩ := hQ3
    dsimp only at q6 q7
    go_wp2_with fail
    refine hcln.mono ?_
    rintro e w4 ⟨v4, rfl, ho4, hb4⟩
    obtain ⟨da, dc, rfl⟩ := ho4.shape
    have HRD : Hid (WRow w4 (.slice da d.length dc) d) := Lib.hid (WRow.of_own ho4 (HDBD.out w4))
    have HRC4 := Lib.hid (HRC.out.below hb4)
    have HQ4 := Lib.hid (HQ3.out.keep hb4)
    have HT4 := Lib.hid (HT3.out.keep hb4)
    have HB4 := Lib.hid (bstep HB3.out hb4)
    clear q6 q7 q8 qf HQ3 HT3 HB3 HRC hb4 hcln ho4
    have hhc := fun W (h : Below w4.heap.size w4 W) => chead_any (.slice ca c.length cc) c W (by omega) (HRC4.out.below h)
    have hhd := fun W (h : Below w4.heap.size w4 W) => chead_any (.slice da d.length dc) d W (by omega) (HRD.out.below h)
    rw [HH.out] at hhd
    have hbd1 : ∀ W, VwB W (c.getLast?.getD vw0) := fun W => getD_bd (HCBD.out W) (fun x hx => List.mem_of_getLast? hx)
    have hsm1 := fun W => refWSameB_any (c.getLast?.getD vw0).1 (c.getLast?.getD vw0).1 (pw (c.getLast?.getD vw0)) (pw (c.getLast?.getD vw0)) W (hbd1 W).1 (hbd1 W).1
    rw [sameW_self] at hsm1
    clear hbd1
    generalize c.getLast?.getD vw0 = h1 at hhc hhd hsm1
    generalize c.getLast?.isSome = is1 at hhc hhd
    have hne1 : ∀ w', (binOp .neq 4 (.bool is1) (.bool is1)).run Try.prog w' = .ok (.bool false) w' := fun w' => by cases is1 <;> rfl
    obtain ⟨⟨key1, val1, gone1, ⟨m1, n1⟩, past1⟩, va1, vc1⟩ := h1
    dsimp only [wV, wcs, wvs, pw] at hhc hhd hsm1
    have heq1 : ∀ w', (binOp .eql 4 (.bool is1) (.bool is1)).run Try.prog w' = .ok (.bool true) w' := fun w' => by cases is1 <;> rfl
    clear hne1
    go_wp2_with fail
    refine (hhc _ (Below.refl _ _)).mono ?_
    rintro e w5 ⟨rfl, hb5⟩
    go_upto_region 7 with fail
    obtain ⟨w6, hw6⟩ : ∃ w6, w5.alloc (.cells #[.string key1, .string val1, .bool gone1, .int .i64 m1, .int .i64 n1, .slice va1 past1.length vc1] 28) = w6 := ⟨_, rfl⟩
    have hbw6 : Below w5.heap.size w5 w6 := by rw [← hw6]; exact balloc (Below.refl _ w5) _
    have hvw6 : VwP w6 w5.heap.size ⟨key1, val1, gone1, (m1, n1), past1⟩ (.slice va1 past1.length vc1) := by rw [← hw6]; exact VwP.new w5 ⟨key1, val1, gone1, (m1, n1), past1⟩ (.slice va1 past1.length vc1) 28
    try rw [hw6]
    clear hw6
    have hB1 := bstep ((Below.refl _ _)) (bstep hb5 hbw6)
    skip
    go_wp2_with fail
    refine (hhd _ hB1).mono ?_
    rintro e w7 ⟨rfl, hb7⟩
    go_upto_region 8 with fail
    obtain ⟨w8, hw8⟩ : ∃ w8, w7.alloc (.cells #[.string key1, .string val1, .bool gone1, .int .i64 m1, .int .i64 n1, .slice va1 past1.length vc1] 28) = w8 := ⟨_, rfl⟩
    have hbw8 : Below w7.heap.size w7 w8 := by rw [← hw8]; exact balloc (Below.refl _ w7) _
    have hvw8 : VwP w8 w7.heap.size ⟨key1, val1, gone1, (m1, n1), past1⟩ (.slice va1 past1.length vc1) := by rw [← hw8]; exact VwP.new w7 ⟨key1, val1, gone1, (m1, n1), past1⟩ (.slice va1 past1.length vc1) 28
    try rw [hw8]
    clear hw8
    have HB2 := Lib.hid (bstep hB1 (bstep hb7 hbw8))
    have hv1 := hvw6.keep (bstep hb7 hbw8)
    obtain ⟨x0, x1, x2, x3, x4, x5, _⟩ := hv1
    obtain ⟨y0, y1, y2, y3, y4, y5, _⟩ := hvw8
    dsimp only at x0 x1 x2 x3 x4 x5 y0 y1 y2 y3 y4 y5
    clear hb5 hbw6 hB1 hb7 hbw8 hvw6
    go_wp2_with fail
    refine (hsm1 w8).mono ?_
    rintro e w9 ⟨rfl, hb9⟩
    have HB9 := Lib.hid (bstep HB2.out hb9)
    clear hb9 x0 x1 x2 x3 x4 x5 y0 y1 y2 y3 y4 y5 HB2
    clear hhc hhd hsm1
    go_wp2
    go_loopw [15] (fun i wr => ∃ k : Nat, k ≤ P.length ∧ i = .int .i64 k ∧ Below w4.heap.size w4 wr) (fun i _ => P.length - (intOf i).toNat)
    case atStart => exact ⟨0, by omega, rfl, HB9.out⟩
    case round =>
      obtain ⟨k, hk, rfl, hbel⟩ := hrel
      have HB := Lib.hid hbel
      obtain ⟨q6, q7, q8, qf⟩ := HQ4.out.keep hbel
      obtain ⟨r0, r1⟩ := HT4.out.keep hbel
      dsimp only at q6 q7 r0 r1
      clear hbel
      by_cases hlt : k < P.length
      · obtain ⟨b, off, rfl, hbl, e0, e1⟩ := RowIn.st (w := wr) (a := pa) (l := P) (by obtain ⟨a', c', e, _, _, _, h⟩ := (HPR.out.below HB4.out).below HB.out; cases e; exact h) k hlt
        have hAk := HA.out P[k] (List.getElem_mem hlt)
        have hki : (k : Int) < (P.length : Int) := by omega
        generalize P[k] = q at e0 e1 hAk
        have hac := fun W (h : Below w4.heap.size w4 W) => cat_any (.slice ca c.length cc) c q W (by omega) (HRC4.out.below h)
        have had := fun W (h : Below w4.heap.size w4 W) => cat_any (.slice da d.length dc) d q W (by omega) (HRD.out.below h)
        rw [hAk] at had
        have hbd2 : ∀ W, VwB W ((lastP (isS q) c).getD vw0) := fun W => getD_bd (HCBD.out W) (fun x hx => (lastP_some hx).1)
        have hsm2 := fun W => refWSameB_any ((lastP (isS q) c).getD vw0).1 ((lastP (isS q) c).getD vw0).1 (pw ((lastP (isS q) c).getD vw0)) (pw ((lastP (isS q) c).getD vw0)) W (hbd2 W).1 (hbd2 W).1
        rw [sameW_self] at hsm2
        clear hbd2
        generalize (lastP (isS q) c).getD vw0 = h2 at hac had hsm2
        generalize (lastP (isS q) c).isSome = is2 at hac had
        have hne2 : ∀ w', (binOp .neq 4 (.bool is2) (.bool is2)).run Try.prog w' = .ok (.bool false) w' := fun w' => by cases is2 <;> rfl
        obtain ⟨⟨key2, val2, gone2, ⟨m2, n2⟩, past2⟩, va2, vc2⟩ := h2
        dsimp only [wV, wcs, wvs, pw] at hac had hsm2
        obtain ⟨y, z⟩ := q
        dsimp only at e0 e1
        clear hAk
        have e0b := fun W (h : Below w4.heap.size w4 W) => e0
        clear e0b
        go_wp2_with fail
        refine (hac _ HB.out).mono ?_
        rintro e w10 ⟨rfl, hb10⟩
        go_upto_region 13 with fail
        obtain ⟨w11, hw11⟩ : ∃ w11, w10.alloc (.cells #[.string key2, .string val2, .bool gone2, .int .i64 m2, .int .i64 n2, .slice va2 past2.length vc2] 28) = w11 := ⟨_, rfl⟩
        have hbw11 : Below w10.heap.size w10 w11 := by rw [← hw11]; exact balloc (Below.refl _ w10) _
        have hvw11 : VwP w11 w10.heap.size ⟨key2, val2, gone2, (m2, n2), past2⟩ (.slice va2 past2.length vc2) := by rw [← hw11]; exact VwP.new w10 ⟨key2, val2, gone2, (m2, n2), past2⟩ (.slice va2 past2.length vc2) 28
        try rw [hw11]
        clear hw11
        have hB1 := bstep (HB.out) (bstep hb10 hbw11)
        have q8 := kc (bstep hb10 hbw11) q8
        have e0 := kc (bstep hb10 hbw11) e0
        have e1 := kc (bstep hb10 hbw11) e1
        go_wp2_with fail
        refine (had _ hB1).mono ?_
        rintro e w12 ⟨rfl, hb12⟩
        go_upto_region 14 with fail
        obtain ⟨w13, hw13⟩ : ∃ w13, w12.alloc (.cells #[.string key2, .string val2, .bool gone2, .int .i64 m2, .int .i64 n2, .slice va2 past2.length vc2] 28) = w13 := ⟨_, rfl⟩
        have hbw13 : Below w12.heap.size w12 w13 := by rw [← hw13]; exact balloc (Below.refl _ w12) _
        have hvw13 : VwP w13 w12.heap.size ⟨key2, val2, gone2, (m2, n2), past2⟩ (.slice va2 past2.length vc2) := by rw [← hw13]; exact VwP.new w12 ⟨key2, val2, gone2, (m2, n2), past2⟩ (.slice va2 past2.length vc2) 28
        try rw [hw13]
        clear hw13
        have HB2 := Lib.hid (bstep hB1 (bstep hb12 hbw13))
        have hv1 := hvw11.keep (bstep hb12 hbw13)
        obtain ⟨x0, x1, x2, x3, x4, x5, _⟩ := hv1
        obtain ⟨y0, y1, y2, y3, y4, y5, _⟩ := hvw13
        dsimp only at x0 x1 x2 x3 x4 x5 y0 y1 y2 y3 y4 y5
        clear hb10 hbw11 hB1 hb12 hbw13 hvw11
        go_wp2_with fail
        refine (hsm2 w13).mono ?_
        rintro e w14 ⟨rfl, hb14⟩
        have HB14 := Lib.hid (bstep HB2.out hb14)
        clear hb14 x0 x1 x2 x3 x4 x5 y0 y1 y2 y3 y4 y5 HB2
        go_wp2
        go_roundw
        case rel => exact ⟨k + 1, by omega, by go_num, HB14.out⟩
        case measure => simp [intOf]; omega
      · obtain rfl : k = P.length := by omega
        have hki : ¬ (P.length : Int) < (P.length : Int) := by omega
        have hls := fun W => refLess_any t0 t1 s0 s1 W
        generalize Sm.less (t0, t1) (s0, s1) = f at hls HBW
        go_wp2_with fail
        refine (hls _).mono ?_
        rintro e w10 ⟨rfl, hb10⟩
        have r0 := kc hb10 r0
        have r1 := kc hb10 r1
        have HB10 := Lib.hid (bstep HB.out hb10)
        clear hb10 hls HB q6 q7 q8 qf
        go_upto_if 98 with (fail)
        go_cut [8] (fun s8 wx => s8 = .slice ca c.length cc ∧ Below w4.heap.size w4 wx)
        case first =>
          cases f with
          | true =>
            go_wp2
            go_meet
            exact ⟨rfl, HB10.out⟩
          | false =>
            have hbc := fun W (h : Below w4.heap.size w4 W) => cbelow_any (.slice ca c.length cc) c (t0, t1) W (by omega) (HRC4.out.below h)
            have hbd := fun W (h : Below w4.heap.size w4 W) => cbelow_any (.slice da d.length dc) d (t0, t1) W (by omega) (HRD.out.below h)
            rw [HBW.out rfl] at hbd
            have hbd3 : ∀ W, VwB W ((lastP (notA (t0, t1)) c).getD vw0) := fun W => getD_bd (HCBD.out W) (fun x hx => (lastP_some hx).1)
            have hsm3 := fun W => refWSameB_any ((lastP (notA (t0, t1)) c).getD vw0).1 ((lastP (notA (t0, t1)) c).getD vw0).1 (pw ((lastP (notA (t0, t1)) c).getD vw0)) (pw ((lastP (notA (t0, t1)) c).getD vw0)) W (hbd3 W).1 (hbd3 W).1
            rw [sameW_self] at hsm3
            clear hbd3
            generalize (lastP (notA (t0, t1)) c).getD vw0 = h3 at hbc hbd hsm3
            generalize (lastP (notA (t0, t1)) c).isSome = is3 at hbc hbd
            have hne3 : ∀ w', (binOp .neq 4 (.bool is3) (.bool is3)).run Try.prog w' = .ok (.bool false) w' := fun w' => by cases is3 <;> rfl
            obtain ⟨⟨key3, val3, gone3, ⟨m3, n3⟩, past3⟩, va3, vc3⟩ := h3
            dsimp only [wV, wcs, wvs, pw] at hbc hbd hsm3

            go_wp2_with fail
            refine (hbc _ HB10.out).mono ?_
            rintro e w11 ⟨rfl, hb11⟩
            go_upto_region 19 with fail
            obtain ⟨w12, hw12⟩ : ∃ w12, w11.alloc (.cells #[.string key3, .string val3, .bool gone3, .int .i64 m3, .int .i64 n3, .slice va3 past3.length vc3] 28) = w12 := ⟨_, rfl⟩
            have hbw12 : Below w11.heap.size w11 w12 := by rw [← hw12]; exact balloc (Below.refl _ w11) _
            have hvw12 : VwP w12 w11.heap.size ⟨key3, val3, gone3, (m3, n3), past3⟩ (.slice va3 past3.length vc3) := by rw [← hw12]; exact VwP.new w11 ⟨key3, val3, gone3, (m3, n3), past3⟩ (.slice va3 past3.length vc3) 28
            try rw [hw12]
            clear hw12
            have hB1 := bstep (HB10.out) (bstep hb11 hbw12)
            have r0 := kc (bstep hb11 hbw12) r0
            have r1 := kc (bstep hb11 hbw12) r1
            go_wp2_with fail
            refine (hbd _ hB1).mono ?_
            rintro e w13 ⟨rfl, hb13⟩
            go_upto_region 20 with fail
            obtain ⟨w14, hw14⟩ : ∃ w14, w13.alloc (.cells #[.string key3, .string val3, .bool gone3, .int .i64 m3, .int .i64 n3, .slice va3 past3.length vc3] 28) = w14 := ⟨_, rfl⟩
            have hbw14 : Below w13.heap.size w13 w14 := by rw [← hw14]; exact balloc (Below.refl _ w13) _
            have hvw14 : VwP w14 w13.heap.size ⟨key3, val3, gone3, (m3, n3), past3⟩ (.slice va3 past3.length vc3) := by rw [← hw14]; exact VwP.new w13 ⟨key3, val3, gone3, (m3, n3), past3⟩ (.slice va3 past3.length vc3) 28
            try rw [hw14]
            clear hw14
            have HB2 := Lib.hid (bstep hB1 (bstep hb13 hbw14))
            have hv1 := hvw12.keep (bstep hb13 hbw14)
            obtain ⟨x0, x1, x2, x3, x4, x5, _⟩ := hv1
            obtain ⟨y0, y1, y2, y3, y4, y5, _⟩ := hvw14
            dsimp only at x0 x1 x2 x3 x4 x5 y0 y1 y2 y3 y4 y5
            clear hb11 hbw12 hB1 hb13 hbw14 hvw12
            go_wp2_with fail
            refine (hsm3 w14).mono ?_
            rintro e w15 ⟨rfl, hb15⟩
            have HB15 := Lib.hid (bstep HB2.out hb15)
            clear hb15 x0 x1 x2 x3 x4 x5 y0 y1 y2 y3 y4 y5 HB2
            go_wp2
            go_meet
            exact ⟨rfl, HB15.out⟩
        case rest =>
          obtain ⟨rfl, hbx⟩ := hcut
          clear HB10 r0 r1
          obtain ⟨w10, hw10⟩ : ∃ w10, w10 = wc := ⟨_, rfl⟩
          subst hw10
          have HBX := Lib.hid hbx
          obtain ⟨q6, q7, q8, qf⟩ := HQ4.out.keep hbx
          dsimp only at q6 q7
          have hcln := clean_any (.slice da d.length dc) (.slice pa P.length pcap) d (s0, s1) P w10 (by omega) (by omega) (HRD.out.below hbx) (HPR.out.below (bstep HB4.out hbx)) HP6.out
          rw [HAG.out] at hcln
          have hsl := fun W v (h1 : WRow W v d) (h : Below w4.heap.size w4 W) => rsame_any v (.slice da d.length dc) d d W (by omega) (by omega) h1 (HRD.out.below h)
          rw [sameL_self] at hsl
          have hck := fun W (h : Below w4.heap.size w4 W) => ccheck_any (.slice da d.length dc) d W (by omega) (HRD.out.below h)
          rw [HCH.out] at hck
          clear hbx
          go_wp2_with fail
          refine hcln.mono ?_
          rintro e w11 ⟨v11, rfl, ho11, hb11⟩
          obtain ⟨ea, ec, rfl⟩ := ho11.shape
          have hB11 := bstep HBX.out hb11
          have hs11 := hsl w11 (.slice ea d.length ec) (WRow.of_own ho11 (HDBD.out w11)) hB11
          clear hsl ho11 hcln
          go_wp2_with fail
          refine hs11.mono ?_
          rintro e w12 ⟨rfl, hb12⟩
          have hB12 := bstep hB11 hb12
          clear hs11
          go_wp2_with fail
          refine (hck _ hB12).mono ?_
          rintro e w13 ⟨rfl, hb13⟩
          have hB13 := bstep HB4.out (bstep hB12 hb13)
          go_wp2
          go_ret
          exact ⟨ret_bool (by simp), hB13⟩
end Go.Proofs.Ytfkeeehfpbnibaa
