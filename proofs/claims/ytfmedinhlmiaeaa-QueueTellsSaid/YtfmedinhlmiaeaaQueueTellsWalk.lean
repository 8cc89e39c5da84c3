/- QueueTells: the walk. -/
import Derived.Test.YtfmedinhlmiaeaaGQ27
import Derived.Test.YtfmedinhlmiaeaaQuDrop
import Derived.Test.YtfmedinhlmiaeaaQuRNext
import Derived.Test.YtfmedinhlmiaeaaChRef
import Derived.Deep.RegionHeld3
import Derived.Deep.DeepCutAuto
import Derived.Deep.CutBlock
namespace Go.Proofs.Ytfmedinhlmiaeaa
open Go.RowKit
set_option linter.unusedVariables false
set_option linter.unusedSimpArgs false

theorem keepF {W w1 : World} {b o0 o1 o2 o3 o4 o5 : Nat} {x0 x1 x2 x3 x4 x5 : Value} (hb : Below W.heap.size W w1) (h : W.cell? ⟨b, o0, none⟩ = some x0 ∧ W.cell? ⟨b, o1, none⟩ = some x1 ∧ W.cell? ⟨b, o2, none⟩ = some x2 ∧ W.cell? ⟨b, o3, none⟩ = some x3 ∧ W.cell? ⟨b, o4, none⟩ = some x4 ∧ W.cell? ⟨b, o5, none⟩ = some x5) :
    w1.cell? ⟨b, o0, none⟩ = some x0 ∧ w1.cell? ⟨b, o1, none⟩ = some x1 ∧ w1.cell? ⟨b, o2, none⟩ = some x2 ∧ w1.cell? ⟨b, o3, none⟩ = some x3 ∧ w1.cell? ⟨b, o4, none⟩ = some x4 ∧ w1.cell? ⟨b, o5, none⟩ = some x5 :=
  ⟨kc hb h.1, kc hb h.2.1, kc hb h.2.2.1, kc hb h.2.2.2.1, kc hb h.2.2.2.2.1, kc hb h.2.2.2.2.2⟩
theorem and15T (n : Int) : bits .and .i64 n 15 = n % 16 := and_pow n 4 15 (by decide) (by omega)
/-- What else is asked, in a variable of its own. -/
structure AskQ (w : World) (b : Nat) (n m : Int) (x : Wv) (u : Value) : Prop where
  c0 : w.cell? ⟨b, 0, none⟩ = some (.int .i64 n)
  c1 : w.cell? ⟨b, 1, none⟩ = some (.int .i64 m)
  c2 : w.cell? ⟨b, 2, none⟩ = some (.string x.key)
  c3 : w.cell? ⟨b, 3, none⟩ = some (.string x.val)
  c4 : w.cell? ⟨b, 4, none⟩ = some (.bool x.gone)
  c5 : w.cell? ⟨b, 5, none⟩ = some (.int .i64 x.st.1)
  c6 : w.cell? ⟨b, 6, none⟩ = some (.int .i64 x.st.2)
  c7 : w.cell? ⟨b, 7, none⟩ = some u
theorem AskQ.keep {w w' : World} {b : Nat} {n m : Int} {x : Wv} {u : Value} (h : AskQ w b n m x u) (hb : Below w.heap.size w w') : AskQ w' b n m x u :=
  ⟨kc hb h.c0, kc hb h.c1, kc hb h.c2, kc hb h.c3, kc hb h.c4, kc hb h.c5, kc hb h.c6, kc hb h.c7⟩
/-- An answer of the document's, in a variable. -/
structure GotQ (w : World) (b : Nat) (x : Wv) (p u : Value) (c : Bool) : Prop where
  c0 : w.cell? ⟨b, 0, none⟩ = some (.string x.key)
  c1 : w.cell? ⟨b, 1, none⟩ = some (.string x.val)
  c2 : w.cell? ⟨b, 2, none⟩ = some (.bool x.gone)
  c3 : w.cell? ⟨b, 3, none⟩ = some (.int .i64 x.st.1)
  c4 : w.cell? ⟨b, 4, none⟩ = some (.int .i64 x.st.2)
  c5 : w.cell? ⟨b, 5, none⟩ = some p
  c6 : w.cell? ⟨b, 6, none⟩ = some u
  c7 : w.cell? ⟨b, 7, none⟩ = some (.bool c)
theorem GotQ.keep {w w' : World} {b : Nat} {x : Wv} {p u : Value} {c : Bool} (h : GotQ w b x p u c) (hb : Below w.heap.size w w') : GotQ w' b x p u c :=
  ⟨kc hb h.c0, kc hb h.c1, kc hb h.c2, kc hb h.c3, kc hb h.c4, kc hb h.c5, kc hb h.c6, kc hb h.c7⟩
theorem GotQ.new (w : World) (x : Wv) (p u : Value) (c : Bool) : GotQ (w.alloc (.cells #[.string x.key, .string x.val, .bool x.gone, .int .i64 x.st.1, .int .i64 x.st.2, p, u, .bool c] 44)) w.heap.size x p u c :=
  ⟨by simp, by simp, by simp, by simp, by simp, by simp, by simp, by simp⟩
theorem okW_in {v : Wv} (h : okW v = true) : In64 v.st := by
  unfold okW Sm.ok at h
  simp only [Bool.and_eq_true, decide_eq_true_eq] at h
  obtain ⟨⟨_, h1⟩, _⟩ := h
  exact ⟨⟨by omega, by omega⟩, ⟨by omega, by omega⟩⟩
theorem push_row {w : World} {base : Nat} {v : Value} {l : List Vw} {x : Vw} (ho : OwnR KW w base v (pushL l x)) (hl : ∀ y ∈ l, VwB w y) (hx : WvB w x.1 (pw x)) : WRow w v (pushL l x) := by
  refine WRow.of_own ho (fun y hy => ?_)
  unfold pushL at hy
  cases hk : okW x.1 with
  | false => rw [hk] at hy; simp at hy
  | true =>
    rw [hk] at hy
    by_cases h : 24 ≤ l.length
    · rw [if_pos rfl, if_pos h] at hy; simp at hy
    · rw [if_pos rfl, if_neg h, List.mem_append, List.mem_singleton] at hy
      rcases hy with hy | rfl
      · exact hl y hy
      · exact ⟨hx, okW_in hk⟩
theorem vw0_bd (w : World) : VwB w vw0 := ⟨⟨by decide, by decide, by simp [vw0, wz], by intro d hd; simp [vw0, wz] at hd, DepAt.nil _⟩, by unfold In64; simp [vw0, wz]⟩
theorem nxV_bd (rs : List (ByteArray × ByteArray)) (hs : List De) (xs : List Vw) (w : World) (h : ∀ x ∈ xs, VwB w x) : VwB w (nxV rs hs xs) := by
  cases e : nxI rs hs xs with
  | none => rw [(nx_not e).1]; exact vw0_bd w
  | some k =>
    obtain ⟨hk, _⟩ := nx_some e
    rw [(nx_at hk e).1]
    exact h _ (List.getElem_mem hk)
theorem nxL_mem (rs : List (ByteArray × ByteArray)) (hs : List De) (xs : List Vw) : ∀ y ∈ nxL rs hs xs, y ∈ xs := by
  intro y hy
  cases e : nxI rs hs xs with
  | none => rw [(nx_not e).2.1] at hy; exact hy
  | some k =>
    obtain ⟨hk, _⟩ := nx_some e
    rw [(nx_at hk e).2.1, List.mem_append] at hy
    rcases hy with hy | hy
    · exact List.mem_of_mem_take hy
    · exact List.mem_of_mem_drop hy
theorem nxL_len (rs : List (ByteArray × ByteArray)) (hs : List De) (xs : List Vw) : (nxL rs hs xs).length ≤ xs.length := by
  cases e : nxI rs hs xs with
  | none => rw [(nx_not e).2.1]; exact Nat.le_refl _
  | some k =>
    obtain ⟨hk, _⟩ := nx_some e
    rw [(nx_at hk e).2.1, List.length_append, List.length_take, List.length_drop]
    omega
theorem push_len (l : List Vw) (x : Vw) : (pushL l x).length ≤ l.length + 1 := by
  unfold pushL
  cases okW x.1 <;> by_cases h : 24 ≤ l.length <;> simp [h]

set_option maxRecDepth 100000 in
set_option maxHeartbeats 12800000 in
theorem walkQueueTells (w : World) (a : Option Addr) (ws : List Wr) (cap : Nat) (hl : ws.length ≤ 9223372036854775807) (hr : WrIn w a ws) (v1 : Value) (l1 : List De) (hr1 : DepAt w v1 l1) (hz1 : Szd l1) (h641 : ∀ d ∈ l1, In64 d.2) (n2 m2 : Int) (x2 : Wv) (u2 : Value) (hk2 : x2.key.size ≤ 9223372036854775807) (hv2 : x2.val.size ≤ 9223372036854775807) (hz2 : Szd x2.past) (hd2 : DepAt w u2 x2.past) :
    Calls Try.prog 3 #[.slice a ws.length cap, v1, .agg #[.int .i64 n2, .int .i64 m2, .string x2.key, .string x2.val, .bool x2.gone, .int .i64 x2.st.1, .int .i64 x2.st.2, u2]] w fun e w' => e = .returned (.bool true) ∧ Below w.heap.size w w' := by
  obtain ⟨qk, qv, qg, ⟨qn, qs⟩, qp⟩ := x2
  dsimp only at hk2 hv2 hz2 hd2
  obtain ⟨qa, qc, rfl, _, _, _, _⟩ := hd2
  have hl1 : l1.length ≤ 9223372036854775807 := by obtain ⟨_, _, _, h1, h2, _⟩ := id hr1; unfold maxLen at h2; omega
  obtain ⟨va, vc, rfl, _, _, _, _⟩ := id hr1
  have hbQ : Below w.heap.size w (w.alloc (.cells #[.int .i64 n2, .int .i64 m2, .string qk, .string qv, .bool qg, .int .i64 qn, .int .i64 qs, .slice qa qp.length qc] 29)) := balloc (Below.refl _ w) _
  have hq0 : AskQ (w.alloc (.cells #[.int .i64 n2, .int .i64 m2, .string qk, .string qv, .bool qg, .int .i64 qn, .int .i64 qs, .slice qa qp.length qc] 29)) w.heap.size n2 m2 ⟨qk, qv, qg, (qn, qs), qp⟩ (.slice qa qp.length qc) := ⟨by simp, by simp, by simp, by simp, by simp, by simp, by simp, by simp⟩
  have HQ0 := Lib.hid hq0
  have HR := Lib.hid (hr.below hbQ)
  have HR1 := Lib.hid (hr1.below hbQ)
  have HZ1 := Lib.hid hz1
  have HBQ := Lib.hid hbQ
  clear hr hr1 hz1 h641 hz2 hq0 hbQ
  go_enter Try.func3, Try.ntmps3
  go_wp2_with fail
  generalize w.alloc (.cells #[.int .i64 n2, .int .i64 m2, .string qk, .string qv, .bool qg, .int .i64 qn, .int .i64 qs, .slice qa qp.length qc] 29) = w0 at *
  have hw0 := HBQ.out.size
  obtain ⟨bq, hbqe⟩ : ∃ bq, w.heap.size = bq := ⟨_, rfl⟩
  rw [hbqe] at HBQ hw0 HQ0
  rw [hbqe]
  have HBQE := Lib.hid hbqe
  clear hbqe
  refine (awake14_any _).mono ?_
  rintro e w1 ⟨rfl, hb1⟩
  have HB01 := Lib.hid hb1
  clear hb1
  go_wp2_with fail
  refine (made14_any a cap ws w1 hl (HR.out.below HB01.out)).mono ?_
  rintro e w2 ⟨u, xs, rfl, hmap, hqm, hb2⟩
  have HM2 := Lib.hid (mq_row hmap hqm)
  have HMAP := Lib.hid hmap
  obtain ⟨ua, uc, rfl, _, _, _⟩ := HM2.out.row.shape
  have hxl := mq_len hmap
  have HB02 := Lib.hid (bstep HB01.out hb2)
  clear hb2 hqm hmap
  have HR12 : Hid (DepIn w2 va l1) := Lib.hid (by
    obtain ⟨_, _, e, _, _, _, h⟩ := HR1.out.below HB02.out
    cases e
    exact h)
  go_upto_block 0 with fail
  go_cut [9] (fun s9 wx => ∃ (pa : Option Addr) (pc : Nat), s9 = .slice pa (fewN 8 l1).length pc ∧ DepAt wx (.slice pa (fewN 8 l1).length pc) (fewN 8 l1) ∧ Below w2.heap.size w2 wx)
  case first =>
    go_wp2_with fail
    go_loopw [9, 10] (fun o iv wr => ∃ k : Nat, k ≤ l1.length ∧ k ≤ 8 ∧ iv = .int .i64 k ∧ DepAt wr o (addAll [] ((l1.take k).map cutN)) ∧ Below w2.heap.size w2 wr) (fun _ iv _ => 8 - (intOf iv).toNat)
    case atStart => exact ⟨0, by omega, by omega, rfl, DepAt.nil w2, Below.refl _ _⟩
    case round =>
      obtain ⟨k, hk, hkh, rfl, hd, hbel⟩ := hrel
      obtain ⟨da, dc, rfl, _, _, _, _⟩ := id hd
      have HD := Lib.hid hd
      have HBEL := Lib.hid hbel
      clear hd
      by_cases hlt : k < l1.length ∧ k < 8
      · obtain ⟨h1, h2⟩ := hlt
        obtain ⟨b, off, rfl, hbl, c0, c1, c2⟩ := HR12.out.below hbel k h1
        have HS := Lib.hid (fwN_step l1 k h1)
        have hsz := HZ1.out l1[k] (List.getElem_mem h1)
        have hal := addAll_len ((l1.take k).map cutN) []
        have htl : ((l1.take k).map cutN).length ≤ 8 := by simp; omega
        generalize l1[k] = d at c0 c1 c2 HS hsz
        obtain ⟨x, y, z⟩ := d
        dsimp only at c0 c1 c2 hsz
        generalize hqq : addAll [] ((l1.take k).map cutN) = q at HD HS hal
        clear hqq
        have hql : q.length ≤ 8 := by simp at hal; omega
        have h1i : (k : Int) < (l1.length : Int) := by omega
        have h2i : (k : Int) < 8 := by omega
        have hd1 : decide (k < l1.length) = true := by simpa using h1
        have hb1 : Below wr.heap.size wr (wr.alloc (.cells #[.string x, .int .i64 y, .int .i64 z] 34)) := balloc (Below.refl _ _) _
        by_cases H2 : 12 < x.size
        · have H2i : (12 : Int) < (x.size : Int) := by omega
          have hkh : k12 x = x.extract 0 12 := by simp [k12, H2]
          have hks := k12_size x
          rw [hkh] at hks
          have HC : Hid (cutN (x, y, z) = (x.extract 0 12, y, z)) := Lib.hid (by simp [cutN, hkh])
          clear hkh
          have hb3 : Below wr.heap.size wr (wr.alloc (.cells #[.string (x.extract 0 12), .int .i64 y, .int .i64 z] 34)) := balloc (Below.refl _ _) _
          go_wp2_with fail
          refine (refAddP_any _ q (x.extract 0 12) y z _ (by omega) (by omega) (HD.out.below hb3)).mono ?_
          rintro e w3 ⟨v2, rfl, hd2, hb2⟩
          obtain ⟨va, vc, rfl, _, _, _, _⟩ := id hd2
          have HD2 := Lib.hid hd2
          clear hd2
          go_wp2
          go_roundw
          case rel => exact ⟨k + 1, by omega, by omega, by go_num, by rw [HS.out, HC.out]; exact HD2.out, bstep hbel (bstep hb3 hb2)⟩
          case measure => simp [intOf]; omega
        · have H2i : ¬ (12 : Int) < (x.size : Int) := by omega
          have HC : Hid (cutN (x, y, z) = (x, y, z)) := Lib.hid (by simp [cutN, k12, H2])
          go_wp2_with fail
          refine (refAddP_any _ q x y z _ (by omega) hsz (HD.out.below hb1)).mono ?_
          rintro e w3 ⟨v2, rfl, hd2, hb2⟩
          obtain ⟨va, vc, rfl, _, _, _, _⟩ := id hd2
          have HD2 := Lib.hid hd2
          clear hd2
          go_wp2
          go_roundw
          case rel => exact ⟨k + 1, by omega, by omega, by go_num, by rw [HS.out, HC.out]; exact HD2.out, bstep hbel (bstep hb1 hb2)⟩
          case measure => simp [intOf]; omega
      · have HX := Lib.hid (fwN_all 8 l1 k hk hkh hlt)
        rw [HX.out] at HD
        rw [HX.out]
        rcases (show (decide (k < l1.length) = false) ∨ (decide (k < l1.length) = true ∧ decide ((k : Int) < 8) = false) by simp; omega) with hd | ⟨hd, hd2⟩
        all_goals
          go_wp2
          go_meet
          exact ⟨_, _, rfl, HD.out, HBEL.out⟩
  obtain ⟨pa, pc, rfl, hd3, hb3⟩ := hcut
  obtain ⟨w3, hw3⟩ : ∃ w3, w3 = wc := ⟨wc, rfl⟩
  subst hw3
  have HPS := Lib.hid (fewN_srt 8 l1)
  have hpl := fewN_len 8 l1
  generalize fewN 8 l1 = ps at hd3 HPS hpl ⊢
  have HD3 := Lib.hid hd3
  have HB03 := Lib.hid (bstep HB02.out hb3)
  have HM3 := Lib.hid (HM2.out.below hb3)
  have HQ3 := Lib.hid (HQ0.out.keep HB03.out)
  have HBW3 := Lib.hid (HBQ.out.trans (HB03.out.mono hw0))
  have hlq3 : bq < w3.heap.size := lt_of_cellN HQ3.out.c0
  obtain ⟨q0, _, _, _, _, _, _, _⟩ := HQ3.out
  clear HQ0 HM2 HR12 HR1 HR HB01 HB02 HB03 HBQ hw0 HZ1 hd3 hb3
  go_wp2_with fail
  refine (ranges14_any n2 _).mono ?_
  rintro e w4 ⟨v4, rfl, ho4, hb4⟩
  have hrl := rngsOf_len n2
  generalize rngsOf n2 = rs at ho4 hrl
  obtain ⟨ra, rc, rfl⟩ := ho4.shape
  have HR4 := Lib.hid (RowIn.of_own kr_ok ho4).rng
  have HM4 := Lib.hid (HM3.out.below hb4)
  have HB34 := Lib.hid hb4
  have HQ4 := Lib.hid (HQ3.out.keep hb4)
  have HCX4 : Hid (Ctx w4 (.slice pa ps.length pc) ps ra rs) := Lib.hid ⟨by omega, HPS.out.szd, HD3.out.below hb4, by omega, HR4.out⟩
  clear ho4 hb4 q0 HQ3 HM3 HD3
  go_wp2
  go_loopw [13] (fun iv wr => ∃ j : Nat, j ≤ xs.length ∧ iv = .int .i64 j ∧ Below w4.heap.size w4 wr) (fun iv _ => xs.length - (intOf iv).toNat)
  case atStart => exact ⟨0, by omega, rfl, Below.refl _ _⟩
  case round =>
    obtain ⟨j, hj, rfl, hbel⟩ := hrel
    have HBEL := Lib.hid hbel
    by_cases hlt : j < xs.length
    · obtain ⟨b, off, rfl, hbl, hq, hvb⟩ := (HM4.out.row.below hbel).at j hlt
      have hxp := wr_past HM4.out _ (List.getElem_mem hlt)
      generalize xs[j] = x at hq hvb hxp
      obtain ⟨⟨xk, xv, xg, ⟨xn, xs'⟩, xp⟩, xa, xc⟩ := x
      obtain ⟨c0, c1, c2, c3, c4, c5⟩ := hq
      dsimp only [pw, wvs] at c0 c1 c2 c3 c4 c5 hxp
      have HCX := Lib.hid (HCX4.out.below hbel)
      have hmi := fun (W : World) (hb : Below wr.heap.size wr W) => misses_any ⟨xk, xv, xg, (xn, xs'), xp⟩ (.slice xa xp.length xc) (.slice pa ps.length pc) ps ra rc rs W (hvb.1.below hb) hxp (HCX.out.below hb)
      have hrm := fun (W : World) (hb : Below wr.heap.size wr W) => rmisses_any ⟨xk, xv, xg, (xn, xs'), xp⟩ (.slice xa xp.length xc) (.slice pa ps.length pc) ps ra rc rs W (hvb.1.below hb) hxp (HCX.out.below hb)
      have hqc := fun (W : World) (hb : Below wr.heap.size wr W) => qcheck_any ⟨xk, xv, xg, (xn, xs'), xp⟩ (.slice xa xp.length xc) (.slice pa ps.length pc) ps ra rc rs W (hvb.1.below hb) hxp (HCX.out.below hb)
      have hrc := fun (W : World) (hb : Below wr.heap.size wr W) => rcheck14_any ⟨xk, xv, xg, (xn, xs'), xp⟩ (.slice xa xp.length xc) (.slice pa ps.length pc) ps ra rc rs W (hvb.1.below hb) hxp (HCX.out.below hb)
      have hml := missD_len rs ps xp
      dsimp only [wvs] at hmi hrm hqc hrc
      generalize missD rs ps xp = ms at hmi hrm hqc hrc hml
      have hsm := fun (W : World) (v v' : Value) (h : DepAt W v ms) (h' : DepAt W v' ms) => refPSame_any v v' ms ms W (by omega) h h'
      rw [show decide (ms = ms) = true from decide_eq_true rfl] at hsm
      generalize ms.isEmpty = cb at hqc hrc
      have hcb : (cb != cb) = false := by cases cb <;> rfl
      have hji : (j : Int) < (xs.length : Int) := by omega
      have hj0 : (0 : Int) ≤ (j : Int) := by omega
      have g0 : wr.drew.cell? ⟨b, off + j * 6, none⟩ = some (.string xk) ∧ wr.drew.cell? ⟨b, off + j * 6 + 1, none⟩ = some (.string xv) ∧ wr.drew.cell? ⟨b, off + j * 6 + 2, none⟩ = some (.bool xg) ∧ wr.drew.cell? ⟨b, off + j * 6 + 3, none⟩ = some (.int .i64 xn) ∧ wr.drew.cell? ⟨b, off + j * 6 + 4, none⟩ = some (.int .i64 xs') ∧ wr.drew.cell? ⟨b, off + j * 6 + 5, none⟩ = some (.slice xa xp.length xc) := ⟨c0, c1, c2, c3, c4, c5⟩
      have HBD := Lib.hid ((Below.refl wr.heap.size wr).drew)
      clear hvb c0 c1 c2 c3 c4 c5
      go_wp2_with fail
      refine wp_region_held_drew (S := fun w' => w'.cell? ⟨b, off + j * 6, none⟩ = some (.string xk) ∧ w'.cell? ⟨b, off + j * 6 + 1, none⟩ = some (.string xv) ∧ w'.cell? ⟨b, off + j * 6 + 2, none⟩ = some (.bool xg) ∧ w'.cell? ⟨b, off + j * 6 + 3, none⟩ = some (.int .i64 xn) ∧ w'.cell? ⟨b, off + j * 6 + 4, none⟩ = some (.int .i64 xs') ∧ w'.cell? ⟨b, off + j * 6 + 5, none⟩ = some (.slice xa xp.length xc)) (by kernel_rfl) (g0) (fun hHeld => ?_)
      refine wpAnyH_take (i := 0) (v := ?vm0) rfl (by kernel_rfl) (by kernel_rfl) (by kernel_rfl) (fun _ _ _ h => h) (Or.inl ⟨by rfl, ?ym0⟩) (by assumption) ?rm0
      case ym0 => (intro w hSw; (try dsimp only at hSw); go_simp; try with_reducible rfl)
      try simp only [Act.put, List.setIfInBounds_toArray, List.set_cons_zero, List.set_cons_succ, List.getElem_toArray, List.getElem_cons_zero, List.getElem_cons_succ]
      refine wpAnyH_take (i := 1) (v := ?vm1) rfl (by kernel_rfl) (by kernel_rfl) (by kernel_rfl) (fun _ _ _ h => h) (Or.inl ⟨by rfl, ?ym1⟩) (by assumption) ?rm1
      case ym1 => (intro w hSw; (try dsimp only at hSw); go_simp; try with_reducible rfl)
      try simp only [Act.put, List.setIfInBounds_toArray, List.set_cons_zero, List.set_cons_succ, List.getElem_toArray, List.getElem_cons_zero, List.getElem_cons_succ]
      refine wpAnyH_take (i := 2) (v := ?vm2) rfl (by kernel_rfl) (by kernel_rfl) (by kernel_rfl) (fun _ _ _ h => h) (Or.inl ⟨by rfl, ?ym2⟩) (by assumption) ?rm2
      case ym2 => (intro w hSw; (try dsimp only at hSw); go_simp; try with_reducible rfl)
      try simp only [Act.put, List.setIfInBounds_toArray, List.set_cons_zero, List.set_cons_succ, List.getElem_toArray, List.getElem_cons_zero, List.getElem_cons_succ]
      refine wpAnyH_take (i := 3) (v := ?vm3) rfl (by kernel_rfl) (by kernel_rfl) (by kernel_rfl) (fun _ _ _ h => h) (Or.inl ⟨by rfl, ?ym3⟩) (by assumption) ?rm3
      case ym3 => (intro w hSw; (try dsimp only at hSw); go_simp; try with_reducible rfl)
      try simp only [Act.put, List.setIfInBounds_toArray, List.set_cons_zero, List.set_cons_succ, List.getElem_toArray, List.getElem_cons_zero, List.getElem_cons_succ]
      refine wpAnyH_take (i := 4) (v := ?vm4) rfl (by kernel_rfl) (by kernel_rfl) (by kernel_rfl) (fun _ _ _ h => h) (Or.inl ⟨by rfl, ?ym4⟩) (by assumption) ?rm4
      case ym4 => (intro w hSw; (try dsimp only at hSw); go_simp; try with_reducible rfl)
      try simp only [Act.put, List.setIfInBounds_toArray, List.set_cons_zero, List.set_cons_succ, List.getElem_toArray, List.getElem_cons_zero, List.getElem_cons_succ]
      refine wpAnyH_take (i := 5) (v := ?vm5) rfl (by kernel_rfl) (by kernel_rfl) (by kernel_rfl) (fun _ _ _ h => h) (Or.inl ⟨by rfl, ?ym5⟩) (by assumption) ?rm5
      case ym5 => (intro w hSw; (try dsimp only at hSw); go_simp; try with_reducible rfl)
      try simp only [Act.put, List.setIfInBounds_toArray, List.set_cons_zero, List.set_cons_succ, List.getElem_toArray, List.getElem_cons_zero, List.getElem_cons_succ]
      refine wpAnyH_take (i := 7) (v := ?vm7) rfl (by kernel_rfl) (by kernel_rfl) (by kernel_rfl) (fun _ _ _ h => h) (Or.inl ⟨by rfl, ?ym7⟩) (by assumption) ?rm7
      case ym7 => (intro w hSw; (try dsimp only at hSw); go_simp; try with_reducible rfl)
      try simp only [Act.put, List.setIfInBounds_toArray, List.set_cons_zero, List.set_cons_succ, List.getElem_toArray, List.getElem_cons_zero, List.getElem_cons_succ]
      refine wpAnyH_take (i := 8) (v := ?vm8) rfl (by kernel_rfl) (by kernel_rfl) (by kernel_rfl) (fun _ _ _ h => h) (Or.inl ⟨by rfl, ?ym8⟩) (by assumption) ?rm8
      case ym8 => (intro w hSw; (try dsimp only at hSw); go_simp; try with_reducible rfl)
      try simp only [Act.put, List.setIfInBounds_toArray, List.set_cons_zero, List.set_cons_succ, List.getElem_toArray, List.getElem_cons_zero, List.getElem_cons_succ]
      refine wpAnyH_take (i := 9) (v := ?vm9) rfl (by kernel_rfl) (by kernel_rfl) (by kernel_rfl) (fun _ _ _ h => h) (Or.inl ⟨by rfl, ?ym9⟩) (by assumption) ?rm9
      case ym9 => (intro w hSw; (try dsimp only at hSw); go_simp; try with_reducible rfl)
      try simp only [Act.put, List.setIfInBounds_toArray, List.set_cons_zero, List.set_cons_succ, List.getElem_toArray, List.getElem_cons_zero, List.getElem_cons_succ]
      refine wpAnyH_take (i := 10) (v := ?vm10) rfl (by kernel_rfl) (by kernel_rfl) (by kernel_rfl) (fun _ _ _ h => h) (Or.inl ⟨by rfl, ?ym10⟩) (by assumption) ?rm10
      case ym10 => (intro w hSw; (try dsimp only at hSw); go_simp; try with_reducible rfl)
      try simp only [Act.put, List.setIfInBounds_toArray, List.set_cons_zero, List.set_cons_succ, List.getElem_toArray, List.getElem_cons_zero, List.getElem_cons_succ]
      refine wpAnyH_take (i := 11) (v := ?vm11) rfl (by kernel_rfl) (by kernel_rfl) (by kernel_rfl) (fun _ _ _ h => h) (Or.inl ⟨by rfl, ?ym11⟩) (by assumption) ?rm11
      case ym11 => (intro w hSw; (try dsimp only at hSw); go_simp; try with_reducible rfl)
      try simp only [Act.put, List.setIfInBounds_toArray, List.set_cons_zero, List.set_cons_succ, List.getElem_toArray, List.getElem_cons_zero, List.getElem_cons_succ]
      refine wpAnyH_take (i := 12) (v := ?vm12) rfl (by kernel_rfl) (by kernel_rfl) (by kernel_rfl) (fun _ _ _ h => h) (Or.inl ⟨by rfl, ?ym12⟩) (by assumption) ?rm12
      case ym12 => (intro w hSw; (try dsimp only at hSw); go_simp; try with_reducible rfl)
      try simp only [Act.put, List.setIfInBounds_toArray, List.set_cons_zero, List.set_cons_succ, List.getElem_toArray, List.getElem_cons_zero, List.getElem_cons_succ]
      refine wpAnyH_ready (rs := [6]) (by kernel_rfl) (by simp) ?_
      refine AllReadyH.cons rfl (fun K hK => ?_) AllReadyH.nil
      go_simp
      go_at_call 14
      refine (hmi _ HBD.out).mono ?_
      rintro e w7 ⟨v7, rfl, ho7, hb7⟩
      have g7 := keepF hb7 g0; obtain ⟨ma, mc, rfl⟩ := ho7.shape; have HD7 := Lib.hid (DepAt.of_own ho7); clear ho7
      go_wp2_with fail
      refine hK.out _ _ (g7) (fun hHeld => ?_)
      clear hK K
      try simp only [Act.put, List.setIfInBounds_toArray, List.set_cons_zero, List.set_cons_succ, List.getElem_toArray, List.getElem_cons_zero, List.getElem_cons_succ]
      refine wpAnyH_ready (rs := [13]) (by kernel_rfl) (by simp) ?_
      refine AllReadyH.cons rfl (fun K hK => ?_) AllReadyH.nil
      go_simp
      go_at_call 15
      refine (hrm _ (bstep HBD.out hb7)).mono ?_
      rintro e w8 ⟨v8, rfl, hd8, hb8⟩
      have g8 := keepF hb8 g7; obtain ⟨ra8, rc8, rfl, _⟩ := id hd8; have HD8 := Lib.hid hd8; clear hd8
      go_wp2_with fail
      refine hK.out _ _ (g8) (fun hHeld => ?_)
      clear hK K
      try simp only [Act.put, List.setIfInBounds_toArray, List.set_cons_zero, List.set_cons_succ, List.getElem_toArray, List.getElem_cons_zero, List.getElem_cons_succ]
      refine wpAnyH_ready (rs := [14]) (by kernel_rfl) (by simp) ?_
      refine AllReadyH.cons rfl (fun K hK => ?_) AllReadyH.nil
      go_simp
      go_at_call 13
      refine (hsm _ _ _ (HD7.out.below hb8) HD8.out).mono ?_
      rintro e w9 ⟨rfl, hb9⟩
      have g9 := keepF hb9 g8
      go_wp2_with fail
      refine hK.out _ _ (g9) (fun hHeld => ?_)
      clear hK K
      try simp only [Act.put, List.setIfInBounds_toArray, List.set_cons_zero, List.set_cons_succ, List.getElem_toArray, List.getElem_cons_zero, List.getElem_cons_succ]
      refine wpAnyH_take (i := 15) (v := ?vm15) rfl (by kernel_rfl) (by kernel_rfl) (by kernel_rfl) (fun _ _ _ h => h) (Or.inl ⟨by rfl, ?ym15⟩) (by assumption) ?rm15
      case ym15 => (intro w hSw; (try dsimp only at hSw); go_simp; try with_reducible rfl)
      try simp only [Act.put, List.setIfInBounds_toArray, List.set_cons_zero, List.set_cons_succ, List.getElem_toArray, List.getElem_cons_zero, List.getElem_cons_succ]
      refine wpAnyH_done (by kernel_rfl) ?_ _
      have HB9 := Lib.hid (bstep (bstep (bstep HBD.out hb7) hb8) hb9)
      have HBE := Lib.hid HB9.out.drew
      have h0 : w9.drew.cell? ⟨b, off + j * 6, none⟩ = some (.string xk) ∧ w9.drew.cell? ⟨b, off + j * 6 + 1, none⟩ = some (.string xv) ∧ w9.drew.cell? ⟨b, off + j * 6 + 2, none⟩ = some (.bool xg) ∧ w9.drew.cell? ⟨b, off + j * 6 + 3, none⟩ = some (.int .i64 xn) ∧ w9.drew.cell? ⟨b, off + j * 6 + 4, none⟩ = some (.int .i64 xs') ∧ w9.drew.cell? ⟨b, off + j * 6 + 5, none⟩ = some (.slice xa xp.length xc) := keepF ((Below.refl w9.heap.size w9).drew) g9
      clear g0 g7 g8 g9 hHeld hb7 hb8 hb9 hmi hrm hsm HD7 HD8
      go_upto_region 16 with fail
      refine wp_region_held_drew (S := fun w' => w'.cell? ⟨b, off + j * 6, none⟩ = some (.string xk) ∧ w'.cell? ⟨b, off + j * 6 + 1, none⟩ = some (.string xv) ∧ w'.cell? ⟨b, off + j * 6 + 2, none⟩ = some (.bool xg) ∧ w'.cell? ⟨b, off + j * 6 + 3, none⟩ = some (.int .i64 xn) ∧ w'.cell? ⟨b, off + j * 6 + 4, none⟩ = some (.int .i64 xs') ∧ w'.cell? ⟨b, off + j * 6 + 5, none⟩ = some (.slice xa xp.length xc)) (by kernel_rfl) (h0) (fun hHeld => ?_)
      refine wpAnyH_take (i := 0) (v := ?vc0) rfl (by kernel_rfl) (by kernel_rfl) (by kernel_rfl) (fun _ _ _ h => h) (Or.inl ⟨by rfl, ?yc0⟩) (by assumption) ?rc0
      case yc0 => (intro w hSw; (try dsimp only at hSw); go_simp; try with_reducible rfl)
      try simp only [Act.put, List.setIfInBounds_toArray, List.set_cons_zero, List.set_cons_succ, List.getElem_toArray, List.getElem_cons_zero, List.getElem_cons_succ]
      refine wpAnyH_take (i := 1) (v := ?vc1) rfl (by kernel_rfl) (by kernel_rfl) (by kernel_rfl) (fun _ _ _ h => h) (Or.inl ⟨by rfl, ?yc1⟩) (by assumption) ?rc1
      case yc1 => (intro w hSw; (try dsimp only at hSw); go_simp; try with_reducible rfl)
      try simp only [Act.put, List.setIfInBounds_toArray, List.set_cons_zero, List.set_cons_succ, List.getElem_toArray, List.getElem_cons_zero, List.getElem_cons_succ]
      refine wpAnyH_take (i := 2) (v := ?vc2) rfl (by kernel_rfl) (by kernel_rfl) (by kernel_rfl) (fun _ _ _ h => h) (Or.inl ⟨by rfl, ?yc2⟩) (by assumption) ?rc2
      case yc2 => (intro w hSw; (try dsimp only at hSw); go_simp; try with_reducible rfl)
      try simp only [Act.put, List.setIfInBounds_toArray, List.set_cons_zero, List.set_cons_succ, List.getElem_toArray, List.getElem_cons_zero, List.getElem_cons_succ]
      refine wpAnyH_take (i := 3) (v := ?vc3) rfl (by kernel_rfl) (by kernel_rfl) (by kernel_rfl) (fun _ _ _ h => h) (Or.inl ⟨by rfl, ?yc3⟩) (by assumption) ?rc3
      case yc3 => (intro w hSw; (try dsimp only at hSw); go_simp; try with_reducible rfl)
      try simp only [Act.put, List.setIfInBounds_toArray, List.set_cons_zero, List.set_cons_succ, List.getElem_toArray, List.getElem_cons_zero, List.getElem_cons_succ]
      refine wpAnyH_take (i := 4) (v := ?vc4) rfl (by kernel_rfl) (by kernel_rfl) (by kernel_rfl) (fun _ _ _ h => h) (Or.inl ⟨by rfl, ?yc4⟩) (by assumption) ?rc4
      case yc4 => (intro w hSw; (try dsimp only at hSw); go_simp; try with_reducible rfl)
      try simp only [Act.put, List.setIfInBounds_toArray, List.set_cons_zero, List.set_cons_succ, List.getElem_toArray, List.getElem_cons_zero, List.getElem_cons_succ]
      refine wpAnyH_take (i := 5) (v := ?vc5) rfl (by kernel_rfl) (by kernel_rfl) (by kernel_rfl) (fun _ _ _ h => h) (Or.inl ⟨by rfl, ?yc5⟩) (by assumption) ?rc5
      case yc5 => (intro w hSw; (try dsimp only at hSw); go_simp; try with_reducible rfl)
      try simp only [Act.put, List.setIfInBounds_toArray, List.set_cons_zero, List.set_cons_succ, List.getElem_toArray, List.getElem_cons_zero, List.getElem_cons_succ]
      refine wpAnyH_take (i := 6) (v := ?vc6) rfl (by kernel_rfl) (by kernel_rfl) (by kernel_rfl) (fun _ _ _ h => h) (Or.inl ⟨by rfl, ?yc6⟩) (by assumption) ?rc6
      case yc6 => (intro w hSw; (try dsimp only at hSw); go_simp; try with_reducible rfl)
      try simp only [Act.put, List.setIfInBounds_toArray, List.set_cons_zero, List.set_cons_succ, List.getElem_toArray, List.getElem_cons_zero, List.getElem_cons_succ]
      refine wpAnyH_take (i := 7) (v := ?vc7) rfl (by kernel_rfl) (by kernel_rfl) (by kernel_rfl) (fun _ _ _ h => h) (Or.inl ⟨by rfl, ?yc7⟩) (by assumption) ?rc7
      case yc7 => (intro w hSw; (try dsimp only at hSw); go_simp; try with_reducible rfl)
      try simp only [Act.put, List.setIfInBounds_toArray, List.set_cons_zero, List.set_cons_succ, List.getElem_toArray, List.getElem_cons_zero, List.getElem_cons_succ]
      refine wpAnyH_take (i := 8) (v := ?vc8) rfl (by kernel_rfl) (by kernel_rfl) (by kernel_rfl) (fun _ _ _ h => h) (Or.inl ⟨by rfl, ?yc8⟩) (by assumption) ?rc8
      case yc8 => (intro w hSw; (try dsimp only at hSw); go_simp; try with_reducible rfl)
      try simp only [Act.put, List.setIfInBounds_toArray, List.set_cons_zero, List.set_cons_succ, List.getElem_toArray, List.getElem_cons_zero, List.getElem_cons_succ]
      refine wpAnyH_take (i := 10) (v := ?vc10) rfl (by kernel_rfl) (by kernel_rfl) (by kernel_rfl) (fun _ _ _ h => h) (Or.inl ⟨by rfl, ?yc10⟩) (by assumption) ?rc10
      case yc10 => (intro w hSw; (try dsimp only at hSw); go_simp; try with_reducible rfl)
      try simp only [Act.put, List.setIfInBounds_toArray, List.set_cons_zero, List.set_cons_succ, List.getElem_toArray, List.getElem_cons_zero, List.getElem_cons_succ]
      refine wpAnyH_take (i := 11) (v := ?vc11) rfl (by kernel_rfl) (by kernel_rfl) (by kernel_rfl) (fun _ _ _ h => h) (Or.inl ⟨by rfl, ?yc11⟩) (by assumption) ?rc11
      case yc11 => (intro w hSw; (try dsimp only at hSw); go_simp; try with_reducible rfl)
      try simp only [Act.put, List.setIfInBounds_toArray, List.set_cons_zero, List.set_cons_succ, List.getElem_toArray, List.getElem_cons_zero, List.getElem_cons_succ]
      refine wpAnyH_take (i := 12) (v := ?vc12) rfl (by kernel_rfl) (by kernel_rfl) (by kernel_rfl) (fun _ _ _ h => h) (Or.inl ⟨by rfl, ?yc12⟩) (by assumption) ?rc12
      case yc12 => (intro w hSw; (try dsimp only at hSw); go_simp; try with_reducible rfl)
      try simp only [Act.put, List.setIfInBounds_toArray, List.set_cons_zero, List.set_cons_succ, List.getElem_toArray, List.getElem_cons_zero, List.getElem_cons_succ]
      refine wpAnyH_take (i := 13) (v := ?vc13) rfl (by kernel_rfl) (by kernel_rfl) (by kernel_rfl) (fun _ _ _ h => h) (Or.inl ⟨by rfl, ?yc13⟩) (by assumption) ?rc13
      case yc13 => (intro w hSw; (try dsimp only at hSw); go_simp; try with_reducible rfl)
      try simp only [Act.put, List.setIfInBounds_toArray, List.set_cons_zero, List.set_cons_succ, List.getElem_toArray, List.getElem_cons_zero, List.getElem_cons_succ]
      refine wpAnyH_take (i := 14) (v := ?vc14) rfl (by kernel_rfl) (by kernel_rfl) (by kernel_rfl) (fun _ _ _ h => h) (Or.inl ⟨by rfl, ?yc14⟩) (by assumption) ?rc14
      case yc14 => (intro w hSw; (try dsimp only at hSw); go_simp; try with_reducible rfl)
      try simp only [Act.put, List.setIfInBounds_toArray, List.set_cons_zero, List.set_cons_succ, List.getElem_toArray, List.getElem_cons_zero, List.getElem_cons_succ]
      refine wpAnyH_take (i := 15) (v := ?vc15) rfl (by kernel_rfl) (by kernel_rfl) (by kernel_rfl) (fun _ _ _ h => h) (Or.inl ⟨by rfl, ?yc15⟩) (by assumption) ?rc15
      case yc15 => (intro w hSw; (try dsimp only at hSw); go_simp; try with_reducible rfl)
      try simp only [Act.put, List.setIfInBounds_toArray, List.set_cons_zero, List.set_cons_succ, List.getElem_toArray, List.getElem_cons_zero, List.getElem_cons_succ]
      refine wpAnyH_ready (rs := [9]) (by kernel_rfl) (by simp) ?_
      refine AllReadyH.cons rfl (fun K hK => ?_) AllReadyH.nil
      go_simp
      go_at_call 16
      refine (hqc _ HBE.out).mono ?_
      rintro e w10 ⟨rfl, hb10⟩
      have h10 := keepF hb10 h0
      go_wp2_with fail
      refine hK.out _ _ (h10) (fun hHeld => ?_)
      clear hK K
      try simp only [Act.put, List.setIfInBounds_toArray, List.set_cons_zero, List.set_cons_succ, List.getElem_toArray, List.getElem_cons_zero, List.getElem_cons_succ]
      refine wpAnyH_ready (rs := [16]) (by kernel_rfl) (by simp) ?_
      refine AllReadyH.cons rfl (fun K hK => ?_) AllReadyH.nil
      go_simp
      go_at_call 17
      refine (hrc _ (bstep HBE.out hb10)).mono ?_
      rintro e w11 ⟨rfl, hb11⟩
      have h11 := keepF hb11 h10
      go_wp2_with fail
      refine hK.out _ _ (h11) (fun hHeld => ?_)
      clear hK K
      try simp only [Act.put, List.setIfInBounds_toArray, List.set_cons_zero, List.set_cons_succ, List.getElem_toArray, List.getElem_cons_zero, List.getElem_cons_succ]
      refine wpAnyH_take (i := 17) (v := ?vc17) rfl (by kernel_rfl) (by kernel_rfl) (by kernel_rfl) (fun _ _ _ h => h) (Or.inl ⟨by rfl, ?yc17⟩) (by assumption) ?rc17
      case yc17 => (intro w hSw; (try dsimp only at hSw); go_simp; try with_reducible rfl)
      try simp only [Act.put, List.setIfInBounds_toArray, List.set_cons_zero, List.set_cons_succ, List.getElem_toArray, List.getElem_cons_zero, List.getElem_cons_succ]
      refine wpAnyH_take (i := 18) (v := ?vc18) rfl (by kernel_rfl) (by kernel_rfl) (by kernel_rfl) (fun _ _ _ h => h) (Or.inl ⟨by rfl, ?yc18⟩) (by assumption) ?rc18
      case yc18 => (intro w hSw; (try dsimp only at hSw); go_simp; try with_reducible rfl)
      try simp only [Act.put, List.setIfInBounds_toArray, List.set_cons_zero, List.set_cons_succ, List.getElem_toArray, List.getElem_cons_zero, List.getElem_cons_succ]
      refine wpAnyH_done (by kernel_rfl) ?_ _
      have HB11 := Lib.hid (bstep (bstep HBE.out hb10) hb11)
      clear h0 h10 h11 hHeld hb10 hb11 hqc hrc
      go_wp2
      go_roundw
      case rel => exact ⟨j + 1, by omega, by go_num, bstep HBEL.out HB11.out⟩
      case measure => simp [intOf]; omega
    · obtain rfl : j = xs.length := by omega
      obtain ⟨w5, hw5⟩ : ∃ w5, w5 = wr := ⟨wr, rfl⟩
      subst hw5
      have HM5 := Lib.hid (HM4.out.below hbel)
      have HCX5 := Lib.hid (HCX4.out.below hbel)
      have HQ5 := Lib.hid (HQ4.out.keep hbel)
      have HB45 := Lib.hid hbel
      have HPA := Lib.hid (wr_past HM4.out)
      have hnx := next_any (.slice ua xs.length uc) (.slice pa ps.length pc) xs ps ra rc rs w5 (by omega) HM5.out.row HPA.out HCX5.out
      have hrn := fun (W : World) (hb : Below w5.heap.size w5 W) => rnext_any (.slice ua xs.length uc) (.slice pa ps.length pc) xs ps ra rc rs W (by omega) (HM5.out.row.below hb) HPA.out (HCX5.out.below hb)
      have HNV := Lib.hid (nxV_bd rs ps xs w5 HM5.out.row.2)
      have HNL := Lib.hid (nxL_mem rs ps xs)
      have hnl := nxL_len rs ps xs
      generalize nxV rs ps xs = nv at hnx hrn HNV
      generalize nxL rs ps xs = nl at hnx hrn HNL hnl
      generalize (nxI rs ps xs).isSome = nb at hnx hrn
      obtain ⟨⟨nk, nw, ng, ⟨nn, ns⟩, np⟩, na, nc⟩ := nv
      dsimp only [gotV, wV, wcs, wvs, pw] at hnx hrn
      clear HM4 HCX4 HQ4 HR4 hbel HBEL
      go_wp2_with fail
      refine hnx.mono ?_
      rintro e w6 ⟨v6, rfl, ho6, hb6⟩
      obtain ⟨sa6, sc6, rfl⟩ := ho6.shape
      have HO6 := Lib.hid ho6
      have HB6 := Lib.hid hb6
      clear ho6 hb6 hnx
      go_wp2_with fail
      obtain ⟨PV, hPV⟩ : ∃ PV, PV = w6.heap.size := ⟨_, rfl⟩
      have HV7 := Lib.hid (VwP.new w6 ⟨nk, nw, ng, (nn, ns), np⟩ (.slice na np.length nc) 27)
      have HB67 := Lib.hid (balloc (Below.refl _ w6) (.cells #[.string nk, .string nw, .bool ng, .int .i64 nn, .int .i64 ns, .slice na np.length nc] 27))
      obtain ⟨w7, hw7⟩ : ∃ w7, w6.alloc (.cells #[.string nk, .string nw, .bool ng, .int .i64 nn, .int .i64 ns, .slice na np.length nc] 27) = w7 := ⟨_, rfl⟩
      dsimp only [wvs] at HV7
      rw [hw7] at HV7 HB67
      rw [← hPV] at HV7
      try rw [hw7]
      try rw [← hPV]
      have HB7 := Lib.hid (bstep HB6.out HB67.out)
      have HO7 := Lib.hid (OwnR.below HO6.out HB67.out)
      clear hw7 hPV HB67 HB6 HO6
      refine (hrn w7 HB7.out).mono ?_
      rintro e w8 ⟨v8, rfl, hr8, hb8⟩
      obtain ⟨sa8, sc8, rfl, _⟩ := id hr8
      have HB8 := Lib.hid (bstep HB7.out hb8)
      have HV8 := Lib.hid (HV7.out.keep hb8)
      have HO8 := Lib.hid (OwnR.below HO7.out hb8)
      have HR8 := Lib.hid hr8
      clear hr8 hb8 hrn HV7 HO7 HB7
      have HGQ := Lib.hid (GotQ.new w8 ⟨nk, nw, ng, (nn, ns), np⟩ (.slice na np.length nc) (.slice sa8 nl.length sc8) nb)
      have HB89 := Lib.hid (balloc (Below.refl _ w8) (.cells #[.string nk, .string nw, .bool ng, .int .i64 nn, .int .i64 ns, .slice na np.length nc, .slice sa8 nl.length sc8, .bool nb] 44))
      dsimp only at HGQ
      obtain ⟨PG, hPG⟩ : ∃ PG, PG = w8.heap.size := ⟨_, rfl⟩
      obtain ⟨w9, hw9⟩ : ∃ w9, w8.alloc (.cells #[.string nk, .string nw, .bool ng, .int .i64 nn, .int .i64 ns, .slice na np.length nc, .slice sa8 nl.length sc8, .bool nb] 44) = w9 := ⟨_, rfl⟩
      rw [hw9] at HGQ HB89
      rw [← hPG] at HGQ
      go_upto_region 20 with (fail)
      try rw [hw9]
      try rw [← hPG]
      have HB9 := Lib.hid (bstep HB8.out HB89.out)
      have HO9 := Lib.hid (OwnR.below HO8.out HB89.out)
      have HR9 := Lib.hid (HR8.out.below HB89.out)
      obtain ⟨c0, c1, c2, c3, c4, c5, _⟩ := HV8.out.keep HB89.out
      obtain ⟨e0, e1, e2, e3, e4, e5, e6, e7⟩ := HGQ.out
      dsimp only at c0 c1 c2 c3 c4 e0 e1 e2 e3 e4
      have hsa := fun (W : World) (hb : Below w9.heap.size w9 W) => refWSameB_any ⟨nk, nw, ng, (nn, ns), np⟩ ⟨nk, nw, ng, (nn, ns), np⟩ (.slice na np.length nc) (.slice na np.length nc) W ((HNV.out.below HB9.out).below hb).1 ((HNV.out.below HB9.out).below hb).1
      simp only [sameW_self] at hsa
      dsimp only [wvs] at hsa
      have HXB : Hid (∀ y ∈ nl, VwB w9 y) := Lib.hid (fun y hy => (HM5.out.row.2 y (HNL.out y hy)).below HB9.out)
      have hsb := fun (W : World) (hb : Below w9.heap.size w9 W) => rsame_any (.slice sa6 nl.length sc6) (.slice sa8 nl.length sc8) nl nl W (by omega) (by omega) ((WRow.of_own HO9.out HXB.out).below hb) (WRow.below ⟨HR9.out, HXB.out⟩ hb)
      simp only [sameL_self] at hsb
      clear HV8 hw9 hPG
      go_wp2_with fail
      refine (hsa _ (Below.refl _ _)).mono ?_
      rintro e w10 ⟨rfl, hb10⟩
      have HB10 := Lib.hid hb10
      have HG10 := Lib.hid (HGQ.out.keep hb10)
      clear c0 c1 c2 c3 c4 c5 e0 e1 e2 e3 e4 e5 e6 e7 hb10 hsa
      obtain ⟨_, _, _, _, _, _, e6, e7⟩ := HG10.out
      go_wp2_with fail
      refine (hsb _ HB10.out).mono ?_
      rintro e w11 ⟨rfl, hb11⟩
      have HB11 := Lib.hid (bstep HB10.out hb11)
      have HG11 := Lib.hid (HG10.out.keep hb11)
      have HB511 := Lib.hid (bstep HB9.out HB11.out)
      have HQ11 := Lib.hid (HQ5.out.keep HB511.out)
      have HM11 := Lib.hid (HM5.out.below HB511.out)
      have HCX11 := Lib.hid (HCX5.out.below HB511.out)
      clear e6 e7 hb11 hsb HG10 HGQ HO8 HO9 HR8 HR9 HXB HB8 HB89 HB9 HB10 HB11 HNV
      have HBX := Lib.hid hlq3
      obtain ⟨_, y1, y2, y3, y4, y5, y6, y7⟩ := HQ11.out
      dsimp only at y2 y3 y4 y5 y6
      go_upto_if 128 with (fail)
      go_cut [21] (fun s21 wx => ∃ val : ByteArray, s21 = .pointer (some ⟨w11.heap.size, 0, none⟩) ∧ Hid (val.size ≤ 9223372036854775807 ∧ VwP wx w11.heap.size ⟨qk, val, qg, (qn, qs), ps⟩ (.slice pa ps.length pc)) ∧ Below w11.heap.size w11 wx)
      case first =>
        by_cases H4 : 40 < qv.size
        · have H4i : (40 : Int) < (qv.size : Int) := by omega
          have H4d : decide ((40 : Int) < (qv.size : Int)) = true := decide_eq_true H4i
          have hes : (qv.extract 0 40).size ≤ 9223372036854775807 := by rw [ByteArray.size_extract]; omega
          go_wp2
          go_meet
          exact ⟨qv.extract 0 40, rfl, Lib.hid ⟨hes, VwP.new w11 ⟨qk, qv.extract 0 40, qg, (qn, qs), ps⟩ (.slice pa ps.length pc) 27⟩, balloc (Below.refl _ w11) _⟩
        · have H4i : ¬ (40 : Int) < (qv.size : Int) := by omega
          have H4d : decide ((40 : Int) < (qv.size : Int)) = false := decide_eq_false H4i
          go_wp2
          go_meet
          exact ⟨qv, rfl, Lib.hid ⟨hv2, VwP.new w11 ⟨qk, qv, qg, (qn, qs), ps⟩ (.slice pa ps.length pc) 27⟩, balloc (Below.refl _ w11) _⟩
      obtain ⟨val, rfl, HX, hbX⟩ := hcut
      obtain ⟨w12, hw12⟩ : ∃ w12, w12 = wc := ⟨wc, rfl⟩
      subst hw12
      have HVS := Lib.hid HX.out.1
      have HVX := Lib.hid HX.out.2
      have HB512 := Lib.hid (bstep HB511.out hbX)
      have HQ12 := Lib.hid (HQ11.out.keep hbX)
      have HM12 := Lib.hid (HM11.out.below hbX)
      have HCX12 := Lib.hid (HCX11.out.below hbX)
      have HG12 := Lib.hid (HG11.out.keep hbX)
      obtain ⟨PX, hPX⟩ : ∃ PX, w11.heap.size = PX := ⟨_, rfl⟩
      rw [hPX] at HVX ⊢
      clear HX hbX hPX y1 y2 y3 y4 y5 y6 y7 HQ11 HM11 HCX11 HG11 HB511
      have ho : OwnR KW (w12.alloc (.cells #[] 27)) w12.heap.size (.slice (some ⟨w12.heap.size, 0, none⟩) 0 0) [] := World.ownsRow_made w12 #[] 0 (Nat.le_refl _) (Nat.zero_le _) (by simp)
      have HO := Lib.hid ho
      have HA := Lib.hid (HM12.out.row.1.below (balloc (Below.refl _ _) (.cells #[] 27)))
      clear ho
      go_upto_block 4 with (at_builtin; refine wp_appR kw_ok rfl _ _ rfl w12.heap.size (.slice (some ⟨w12.heap.size, 0, none⟩) 0 0) (.slice ua xs.length uc) [] xs rfl HO.out rfl HA.out (by simp; omega) (by simp) ?_; intro v13 w13 ho13 hb13 hk13; rw [List.nil_append] at ho13; obtain ⟨sa13, sc13, rfl⟩ := ho13.shape)
      have HO13 := Lib.hid ho13
      have HB13 : Hid (Below w12.heap.size w12 w13) := Lib.hid ((balloc (Below.refl _ w12) _).trans hb13)
      have hs13 := HB13.out.size
      obtain ⟨mm, hand⟩ : ∃ mm : Nat, bits .and .i64 m2 15 = (mm : Int) := ⟨(m2 % 16).toNat, by rw [and15T]; omega⟩
      have hmm : mm ≤ 15 := by have h := and15T m2; omega
      clear ho13 hb13 hk13 HO HA
      go_cut [22] (fun s22 wx => ∃ (ll : List Vw) (la : Option Addr) (lc : Nat), s22 = .slice la ll.length lc ∧ Hid (OwnR KW wx w12.heap.size (.slice la ll.length lc) ll ∧ (∀ y ∈ ll, y ∈ xs) ∧ ll.length ≤ 29) ∧ Below w12.heap.size w13 wx)
      case first =>
        go_wp2_with fail
        go_loopw [22, 23] (fun lv iv wr => ∃ (i : Nat) (ll : List Vw), i ≤ 15 ∧ iv = .int .i64 i ∧ OwnR KW wr w12.heap.size lv ll ∧ Hid (∀ y ∈ ll, y ∈ xs) ∧ ll.length ≤ 14 + i ∧ Below w12.heap.size w13 wr) (fun _ iv _ => 15 - (intOf iv).toNat)
        case atStart => exact ⟨0, xs, by omega, rfl, HO13.out, Lib.hid (fun _ h => h), by omega, Below.refl _ _⟩
        case round =>
          obtain ⟨i, ll, hi, rfl, how, HAM, hlen, hbel2⟩ := hrel
          have HO := Lib.hid how
          obtain ⟨la, lc, rfl⟩ := how.shape
          have HBEL2 := Lib.hid hbel2
          have HBW := Lib.hid (HB13.out.trans hbel2)
          have hbs : w12.heap.size ≤ wr.heap.size := HBW.out.size
          obtain ⟨_, y1, _, _, _, _, _, _⟩ := HQ12.out.keep HBW.out
          clear how hbel2
          by_cases hlt : i < mm
          · have hlti : (i : Int) < (mm : Int) := by omega
            by_cases hx0 : 0 < xs.length
            · have hx0i : (0 : Int) < (xs.length : Int) := by omega
              obtain ⟨b, off, rfl, hbl, hq, hvb⟩ := (HM12.out.row.below HBW.out).at 0 hx0
              have HMEM := Lib.hid (List.getElem_mem hx0)
              have HENC : Hid ((wcs xs[0]).toList = KW.enc xs[0]) := Lib.hid rfl
              generalize xs[0] = x at hq HMEM HENC
              obtain ⟨⟨xk, xv, xg, ⟨xn, xs'⟩, xp⟩, xa, xc⟩ := x
              obtain ⟨c0, c1, c2, c3, c4, c5⟩ := hq
              dsimp only [pw, wcs, wvs] at c0 c1 c2 c3 c4 c5 HENC
              simp only [Nat.zero_mul, Nat.add_zero] at c0 c1 c2 c3 c4 c5
              clear hvb
              go_wp2_with (at_builtin; refine wp_pushR kw_ok (wr := wr) rfl _ _ rfl w12.heap.size (.slice la ll.length lc) ll (⟨xk, xv, xg, (xn, xs'), xp⟩, xa, xc) #[.string xk, .string xv, .bool xg, .int .i64 xn, .int .i64 xs', .slice xa xp.length xc] HENC.out rfl HO.out rfl (by omega) hbs ?_; intro g gcap w14 ho14 hb14 hk14 hat14 hg14)
              go_wp2
              go_roundw
              case rel => exact ⟨i + 1, ll ++ [(⟨xk, xv, xg, (xn, xs'), xp⟩, xa, xc)], by omega, by go_num, by simpa using ho14, Lib.hid (fun y hy => by
                rw [List.mem_append, List.mem_singleton] at hy
                rcases hy with hy | rfl
                · exact HAM.out y hy
                · exact HMEM.out), by simp; omega, HBEL2.out.trans hb14⟩
              case measure => simp [intOf]; omega
            · have hx0i : ¬ (0 : Int) < (xs.length : Int) := by omega
              go_wp2
              go_meet
              exact ⟨ll, la, lc, rfl, Lib.hid ⟨HO.out, HAM.out, by omega⟩, HBEL2.out⟩
          · have hlti : ¬ (i : Int) < (mm : Int) := by omega
            go_wp2
            go_meet
            exact ⟨ll, la, lc, rfl, Lib.hid ⟨HO.out, HAM.out, by omega⟩, HBEL2.out⟩
      obtain ⟨ll, la, lc, rfl, HLL, hb14⟩ := hcut
      obtain ⟨w14, hw14⟩ : ∃ w14, w14 = wc := ⟨wc, rfl⟩
      subst hw14
      have hll := HLL.out.2.2
      have HB1214 := Lib.hid (HB13.out.trans hb14)
      have HM14 := Lib.hid (HM12.out.below HB1214.out)
      have HCX14 := Lib.hid (HCX12.out.below HB1214.out)
      have HG14 := Lib.hid (HG12.out.keep HB1214.out)
      have HV14 := Lib.hid (HVX.out.keep HB1214.out)
      have HR14 := Lib.hid (RowAt.of_own kw_ok HLL.out.1)
      have HB514 := Lib.hid (bstep HB512.out HB1214.out)
      have HWX : Hid (WvB w14 ⟨qk, val, qg, (qn, qs), ps⟩ (.slice pa ps.length pc)) := Lib.hid ⟨hk2, HVS.out, by show ps.length ≤ 1000000; omega, HPS.out.szd, HCX14.out.at_⟩
      have HLB : Hid (∀ y ∈ ll, VwB w14 y) := Lib.hid (fun y hy => HM14.out.row.2 y (HLL.out.2.1 y hy))
      have hqp := push_any (.slice la ll.length lc) ll (⟨qk, val, qg, (qn, qs), ps⟩, pa, pc) w14 (by omega) HR14.out HWX.out
      have hrp := fun (W : World) (hb : Below w14.heap.size w14 W) => rpush_any (.slice la ll.length lc) ll (⟨qk, val, qg, (qn, qs), ps⟩, pa, pc) W (by omega) (HR14.out.below hb) (HWX.out.below hb)
      have hrow := fun (W : World) (hb : Below w14.heap.size w14 W) (base : Nat) (v : Value) (ho : OwnR KW W base v (pushL ll (⟨qk, val, qg, (qn, qs), ps⟩, pa, pc))) => push_row ho (fun y hy => (HLB.out y hy).below hb) (HWX.out.below hb)
      have hpll := push_len ll (⟨qk, val, qg, (qn, qs), ps⟩, pa, pc)
      generalize pushL ll (⟨qk, val, qg, (qn, qs), ps⟩, pa, pc) = pl at hqp hrp hrow hpll
      generalize pushE ll (⟨qk, val, qg, (qn, qs), ps⟩, pa, pc) = pe at hqp hrp
      have HROW := Lib.hid hrow
      dsimp only [wV, wcs, wvs, pw] at hqp hrp
      obtain ⟨c0, c1, c2, c3, c4, c5, _⟩ := HV14.out
      dsimp only at c0 c1 c2 c3 c4
      clear hrow hand HB13 HO13 hb14 HM12 HCX12 HG12 HVX HQ12 HB512 HVS hs13
      go_wp2_with fail
      refine hqp.mono ?_
      rintro e w15 ⟨v15, rfl, ho15, hb15⟩
      have HW15 := Lib.hid (HROW.out w15 hb15 _ _ ho15)
      have HB15 := Lib.hid hb15
      obtain ⟨sa15, sc15, rfl⟩ := ho15.shape
      clear c0 c1 c2 c3 c4 c5 hqp ho15 hb15
      obtain ⟨c0, c1, c2, c3, c4, c5, _⟩ := HV14.out.keep HB15.out
      dsimp only at c0 c1 c2 c3 c4
      go_wp2_with fail
      refine (hrp w15 HB15.out).mono ?_
      rintro e w16 ⟨v16, rfl, ho16, hb16⟩
      have HB16 := Lib.hid (bstep HB15.out hb16)
      have hsm := rsame_any (.slice sa15 pl.length sc15) v16 pl pl w16 (by omega) (by omega) (HW15.out.below hb16) (HROW.out w16 HB16.out _ _ ho16)
      rw [sameL_self] at hsm
      obtain ⟨sa16, sc16, rfl⟩ := ho16.shape
      clear c0 c1 c2 c3 c4 c5 hrp ho16 hb16
      go_wp2_with fail
      refine hsm.mono ?_
      rintro e w17 ⟨rfl, hb17⟩
      have HB17 := Lib.hid (bstep HB16.out hb17)
      clear hsm hb17
      go_wp2_with fail
      refine (qdrop_any (.slice ua xs.length uc) xs ra rc rs w17 (by omega) (HM14.out.below HB17.out).row.1 (by omega) (HCX14.out.below HB17.out).rng).mono ?_
      rintro e w18 ⟨v18, rfl, ho18, hb18⟩
      have HB18 := Lib.hid (bstep HB17.out hb18)
      have hdl : (dropL rs xs).length ≤ xs.length := List.length_filter_le _ _
      have HDM : Hid (∀ y ∈ dropL rs xs, VwB w14 y) := Lib.hid (fun y hy => HM14.out.row.2 y (List.mem_filter.1 hy).1)
      have hrd := rdrop_any (.slice ua xs.length uc) xs ra rc rs w18 (by omega) (HM14.out.below HB18.out).row.1 (by omega) (HCX14.out.below HB18.out).rng
      generalize dropL rs xs = dl at ho18 hdl HDM hrd
      have HW18 := Lib.hid (WRow.of_own ho18 (fun y hy => (HDM.out y hy).below HB18.out))
      obtain ⟨sa18, sc18, rfl⟩ := ho18.shape
      clear ho18 hb18
      go_wp2_with fail
      refine hrd.mono ?_
      rintro e w19 ⟨v19, rfl, ho19, hb19⟩
      have HB19 := Lib.hid (bstep HB18.out hb19)
      have hsm := rsame_any (.slice sa18 dl.length sc18) v19 dl dl w19 (by omega) (by omega) (HW18.out.below hb19) (WRow.of_own ho19 (fun y hy => (HDM.out y hy).below HB19.out))
      rw [sameL_self] at hsm
      obtain ⟨sa19, sc19, rfl⟩ := ho19.shape
      clear hrd ho19 hb19
      go_wp2_with fail
      refine hsm.mono ?_
      rintro e w20 ⟨rfl, hb20⟩
      have HB20 := Lib.hid (bstep HB19.out hb20)
      obtain ⟨_, _, _, _, _, _, _, e7⟩ := HG14.out.keep HB20.out
      have hnb : (nb == nb) = true := by cases nb <;> rfl
      have HFIN := Lib.hid (bstep HB514.out HB20.out)
      clear hsm hb20
      go_wp2
      go_ret
      exact ⟨rfl, by rw [HBQE.out]; exact HBW3.out.trans ((bstep (bstep HB34.out HB45.out) HFIN.out).mono (Nat.le_of_lt hlq3))⟩
end Go.Proofs.Ytfmedinhlmiaeaa
