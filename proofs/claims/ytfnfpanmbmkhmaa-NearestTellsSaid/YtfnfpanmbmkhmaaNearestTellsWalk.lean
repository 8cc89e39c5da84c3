/- The walk of the law NearestTells. -/
import Derived.Test.YtfnfpanmbmkhmaaNearSet
import Derived.Deep.DeepCutAuto
import Derived.Test.YtfnfpanmbmkhmaaNearFew2
import Derived.Test.YtfnfpanmbmkhmaaNearRefReduce
import Derived.Test.YtfnfpanmbmkhmaaNearRefSound2
import Derived.Test.YtfnfpanmbmkhmaaGN517
namespace Go.Proofs.Ytfnfpanmbmkhmaa
open Go.RowKit Go.Maps
set_option linter.unusedVariables false
set_option linter.unusedSimpArgs false

/-- What is another thing, in a variable of its own. -/
structure QAt (w : World) (b : Nat) (wh at_ : Int) (al : Bool) (k : ByteArray) (n s : Int) : Prop where
  c0 : w.cell? ⟨b, 0, none⟩ = some (.int .i64 wh)
  c1 : w.cell? ⟨b, 1, none⟩ = some (.int .i64 at_)
  c2 : w.cell? ⟨b, 2, none⟩ = some (.bool al)
  c3 : w.cell? ⟨b, 3, none⟩ = some (.string k)
  c4 : w.cell? ⟨b, 4, none⟩ = some (.int .i64 n)
  c5 : w.cell? ⟨b, 5, none⟩ = some (.int .i64 s)
theorem QAt.keep {w w' : World} {b : Nat} {wh at_ : Int} {al : Bool} {k : ByteArray} {n s : Int} (h : QAt w b wh at_ al k n s) (hb : Below w.heap.size w w') : QAt w' b wh at_ al k n s :=
  ⟨kc hb h.c0, kc hb h.c1, kc hb h.c2, kc hb h.c3, kc hb h.c4, kc hb h.c5⟩

/-- What the whole hangs on: a row of versions, sound or not. -/
structure Row5 (w : World) (v : Value) (ys : List Vp) : Prop where
  row : VRow w v ys
  len : ys.length ≤ 14
  ok : ∀ y ∈ ys, VOk y.1
  all : (allV (ys.map Prod.fst)).length ≤ 9
theorem Row5.below {w w' : World} {v : Value} {ys : List Vp} (h : Row5 w v ys) (hb : Below w.heap.size w w') : Row5 w' v ys := ⟨h.row.below hb, h.len, h.ok, h.all⟩

set_option maxRecDepth 100000 in
set_option maxHeartbeats 12800000 in
theorem walkNearestTells (w : World) (a : Option Addr) (ws : List Wr) (cap : Nat) (hl : ws.length ≤ 9223372036854775807) (hr : WrIn w a ws) (wh at_ : Int) (al : Bool) (kq : ByteArray) (nq sq : Int) (hkq : kq.size ≤ maxLen) (h64 : In64 (nq, sq)) (v2 : Value) (l2 : List De) (hr2 : DepAt w v2 l2) (hz2 : Szd l2) :
    Calls Try.prog 3 #[.slice a ws.length cap, .agg #[.int .i64 wh, .int .i64 at_, .bool al, .string kq, .int .i64 nq, .int .i64 sq], v2] w fun e w' => e = .returned (.bool true) ∧ Below w.heap.size w w' := by
  have heq : ∀ (w' : World) (n s m t : Int), (binOp .eql 24 (.agg #[.int .i64 n, .int .i64 s]) (.agg #[.int .i64 m, .int .i64 t])).run Try.prog w' = .ok (.bool (decide ((n, s) = (m, t)))) w' := eq_stamp
  have HEQ := Lib.hid heq
  have hks : kq.size ≤ 9223372036854775807 := by unfold maxLen at hkq; omega
  have hbQ : Below w.heap.size w (w.alloc (.cells #[.int .i64 wh, .int .i64 at_, .bool al, .string kq, .int .i64 nq, .int .i64 sq] 28)) := balloc (Below.refl _ w) _
  have hq0 : QAt (w.alloc (.cells #[.int .i64 wh, .int .i64 at_, .bool al, .string kq, .int .i64 nq, .int .i64 sq] 28)) w.heap.size wh at_ al kq nq sq := ⟨by simp, by simp, by simp, by simp, by simp, by simp⟩
  have HQ0 := Lib.hid hq0
  have HR := Lib.hid (hr.below hbQ)
  have HR2 := Lib.hid (hr2.below hbQ)
  have HZ2 := Lib.hid hz2
  have H64 := Lib.hid h64
  have HBQ := Lib.hid hbQ
  have hl2 : l2.length ≤ 9223372036854775807 := by obtain ⟨_, _, _, h1, h2, _⟩ := id hr2; unfold maxLen at h2; omega
  obtain ⟨va, vc, rfl, _, _, _, _⟩ := hr2
  clear hr hz2 hkq h64 heq hq0 hbQ
  go_enter Try.func3, Try.ntmps3
  go_wp2_with fail
  generalize w.alloc (.cells #[.int .i64 wh, .int .i64 at_, .bool al, .string kq, .int .i64 nq, .int .i64 sq] 28) = w0 at *
  have hw0 := HBQ.out.size
  obtain ⟨bq, hbqe⟩ : ∃ bq, w.heap.size = bq := ⟨_, rfl⟩
  have HBQE := Lib.hid hbqe
  rw [hbqe] at HBQ hw0 HQ0
  rw [hbqe]
  clear hbqe
  refine (awake5_any _).mono ?_
  rintro e w1 ⟨rfl, hb1⟩
  have hbel1 := HBQ.out.trans (hb1.mono hw0)
  have HQ1 := Lib.hid (HQ0.out.keep hb1)
  have HR1 := Lib.hid (HR2.out.below hb1)
  have hw1 := hb1.size
  have hlq : bq < w1.heap.size := lt_of_cellN HQ1.out.c0
  go_wp2_with fail
  refine (made5_any a cap ws w1 hl (HR.out.below hb1)).mono ?_
  rintro e w2 ⟨u2, xs, rfl, hmap, hvm, hb2⟩
  have HM2 : Hid (Made w2 u2 xs ws) := Lib.hid ⟨hvm.row, hmap⟩
  have HVM := Lib.hid hvm
  obtain ⟨sa, sc, rfl⟩ := hvm.own.shape
  have hxl := HM2.out.len
  have HB2 := Lib.hid hb2
  obtain ⟨q0, q1, q2, q3, q4, q5⟩ := HQ1.out.keep hb2
  have hlq2 : bq < w2.heap.size := by have := hb2.size; omega
  have hand : bits .and .i64 wh 3 = wh % 4 := i64_and3 wh
  clear hvm hmap hb1 hb2 HQ0 HR
  go_upto_region 3 with (fail)
  go_cut [30] (fun s30 wx => s30 = .bool (decide ((0 : Int) < (xs.length : Int)) && !decide (wh % 4 = 0)) ∧ wx = w2)
  case first =>
    by_cases hx0 : (0 : Int) < (xs.length : Int)
    · have hd0 : decide ((0 : Int) < (xs.length : Int)) = true := decide_eq_true hx0
      by_cases h4 : wh % 4 = 0
      · have H4 := Lib.hid (decide_eq_true h4)
        rw [h4] at hand
        clear h4
        go_wp2
        go_meet
        exact ⟨by rw [hd0, H4.out]; rfl, rfl⟩
      · have H4 := Lib.hid (decide_eq_false h4)
        obtain ⟨m, hm⟩ : ∃ m, wh % 4 = m := ⟨_, rfl⟩
        rw [hm] at hand h4
        clear hm
        have hne : (m != 0) = true := by simpa using h4
        have hne2 : decide (m = 0) = false := by simpa using h4
        go_wp2
        go_meet
        exact ⟨by rw [hd0, H4.out]; rfl, rfl⟩
    · have hd0 : decide ((0 : Int) < (xs.length : Int)) = false := decide_eq_false hx0
      go_wp2
      go_meet
      exact ⟨by rw [hd0]; rfl, rfl⟩
  obtain ⟨rfl, rfl⟩ := hcut
  generalize hcd : (decide ((0 : Int) < (xs.length : Int)) && !decide (wh % 4 = 0)) = cd
  have HCD := Lib.hid hcd
  clear hcd
  go_upto_if 30 with (fail)
  go_cut [8] (fun s8 wx => ∃ ys : List Vp, s8 = .slice sa xs.length sc ∧ Row5 wx (.slice sa xs.length sc) ys ∧ Below w1.heap.size w1 wx)
  case first =>
    have HR0 : Hid (Row5 wc (.slice sa xs.length sc) xs) := Lib.hid ⟨HM2.out.row, hxl, HM2.out.ok, by have := allV_len HM2.out.inv; omega⟩
    cases cd with
    | false =>
      go_wp2
      go_meet
      exact ⟨xs, rfl, HR0.out, HB2.out⟩
    | true =>
      have hcd := HCD.out
      rw [Bool.and_eq_true, decide_eq_true_eq] at hcd
      obtain ⟨m, hm, hm4⟩ : ∃ m : Nat, wh % 4 = (m : Int) ∧ m < 4 := ⟨(wh % 4).toNat, by omega, by omega⟩
      have hm0 : m ≠ 0 := by
        intro e
        subst e
        rw [hm] at hcd
        simp at hcd
      have hxpi := hcd.1
      rw [hm] at hand
      clear hm hcd HCD
      have hxp : 0 < xs.length := by omega
      have hx0i : ¬ (xs.length : Int) = 0 := by omega
      obtain ⟨g, e1, hg1⟩ : ∃ g, sa = some ⟨g, 0, none⟩ ∧ w1.heap.size ≤ g := by
        obtain ⟨g, c', e, _, _, h1, _⟩ := HVM.out.own.cell kv_ok 0 hxp
        cases e
        exact ⟨g, rfl, h1⟩
      subst e1
      have hg2 : g < wc.heap.size := (HVM.out.own.lt g rfl).2
      obtain ⟨m1, m2, m3, m4⟩ := sawI_eq at_ hxp (by omega)
      have hsi := sawI_lt at_ hxp
      generalize sawI at_ xs.length = si at m3 m4 hsi
      obtain ⟨v0, v1, v2, v3, v4, v5⟩ := HVM.out.at si hsi
      have r0 := HVM.out.fr (si * 6)
      have r1 := HVM.out.fr (si * 6 + 1)
      have r2 := HVM.out.fr (si * 6 + 2)
      have r3 := HVM.out.fr (si * 6 + 3)
      have r4 := HVM.out.fr (si * 6 + 4)
      have r5 := HVM.out.fr (si * 6 + 5)
      have hxm : xs[si] ∈ xs := List.getElem_mem hsi
      have hvk := HM2.out.ok _ hxm
      have hdp := HM2.out.row.2 _ hxm
      have hof := HVM.out.off _ hxm
      have hch := HM2.out.inv.chg kq
      have hck : ∀ K, KeyOr K xs[si].1.key := fun K => (HM2.out.inv.chg K).key _ (List.mem_map.2 ⟨_, hxm, rfl⟩)
      have hcp := hch.pst _ (List.mem_map.2 ⟨_, hxm, rfl⟩)
      have HSET : Hid (∀ (W : World) (x : Vp), Below wc.heap.size wc W → DepAt W (pu x) x.1.past → Off (.slice (some ⟨g, 0, none⟩) xs.length sc) x → VOk x.1 → KeyOr kq x.1.key → ((∀ d ∈ x.1.past, KeyOr kq d.1) ∨ ∃ K2, (∀ d ∈ x.1.past, d.1 = K2) ∧ KeyOr K2 x.1.key) → Row5 (put6 W g (si * 6) x) (.slice (some ⟨g, 0, none⟩) xs.length sc) (xs.set si x) ∧ Below w1.heap.size w1 (put6 W g (si * 6) x)) := Lib.hid (by
        intro W x hW hp ho hv hk hc
        refine ⟨⟨((HVM.out.below hW).set si hsi x hp ho).row, by rw [List.length_set]; exact hxl, fun y hy => ?_, ?_⟩, put6_below (HB2.out.trans (hW.mono HB2.out.size)) hg1 x⟩
        · rcases List.mem_or_eq_of_mem_set hy with h1 | rfl
          · exact HM2.out.ok y h1
          · exact hv
        · rw [List.map_set]
          rcases hc with hc | ⟨K2, hc, hk2⟩
          · exact (hch.set si x.1 hk hc).all
          · exact ((HM2.out.inv.chg K2).set si x.1 hk2 (fun d hd => .inr (hc d hd))).all)
      generalize xs[si] = x at v0 v1 v2 v3 v4 v5 hvk hdp hof hck hcp
      clear hch hxm
      obtain ⟨⟨key, val, gone, ⟨n1, s1⟩, past⟩, ya, yc⟩ := x
      obtain ⟨hvks, hvst, hvsr, hvln⟩ := hvk
      dsimp only [pu] at v0 v1 v2 v3 v4 v5 hdp hof hck hcp hvks hvst hvsr hvln
      have HDP := Lib.hid hdp
      have HOF := Lib.hid hof
      have HCK := Lib.hid hck
      have HCP := Lib.hid hcp
      have HVST := Lib.hid hvst
      have HVSR := Lib.hid hvsr
      have hsii : (si : Int) < (xs.length : Int) := by omega
      have hsi0 : (0 : Int) ≤ (si : Int) := by omega
      have hbA : ∀ o, Below wc.heap.size wc (wc.alloc o) := fun o => balloc (Below.refl _ wc) o
      have HBA := Lib.hid hbA
      clear hdp hof hck hcp hvst hvsr hbA
      rcases (show m = 1 ∨ m = 2 ∨ m = 3 by omega) with rfl | rfl | rfl
      · go_wp2
        go_meet
        obtain ⟨h1, h2⟩ := HSET.out wc (⟨key, val, gone, (nq, sq), past⟩, ya, yc) (Below.refl _ _) HDP.out HOF.out ⟨hvks, H64.out, HVSR.out, hvln⟩ (HCK.out _) (.inl HCP.out)
        exact ⟨_, rfl, h1.below (balloc (Below.refl _ _) _), balloc h2 _⟩
      · have hdd := DepAt.new (wc.alloc (.cells #[.string key, .string val, .bool gone, .int .i64 n1, .int .i64 s1, .slice ya past.length yc] 34)) [(kq, nq, sq)] 26 (by simp)
        have z1 : (wc.alloc (.cells #[.string key, .string val, .bool gone, .int .i64 n1, .int .i64 s1, .slice ya past.length yc] 34)).heap.size = wc.heap.size + 1 := by simp
        rw [z1] at hdd
        have hbF : Below wc.heap.size wc ((wc.alloc (.cells #[.string key, .string val, .bool gone, .int .i64 n1, .int .i64 s1, .slice ya past.length yc] 34)).alloc (.cells #[.string kq, .int .i64 nq, .int .i64 sq] 26)) := balloc (HBA.out _) _
        have hVX : VarV ((wc.alloc (.cells #[.string key, .string val, .bool gone, .int .i64 n1, .int .i64 s1, .slice ya past.length yc] 34)).alloc (.cells #[.string kq, .int .i64 nq, .int .i64 sq] 26)) wc.heap.size (⟨key, val, gone, (n1, s1), past⟩, ya, yc) := (VarV.new wc (⟨key, val, gone, (n1, s1), past⟩, ya, yc) _).keep (balloc (Below.refl _ _) _)
        have hF := few_new5 _ [(kq, nq, sq)] _ (by simp) (fun d hd => by simp at hd; subst hd; exact hks) hdd
        have HBF := Lib.hid hbF
        have HVX := Lib.hid hVX
        have hz2 : wc.heap.size ≤ ((wc.alloc (.cells #[.string key, .string val, .bool gone, .int .i64 n1, .int .i64 s1, .slice ya past.length yc] 34)).alloc (.cells #[.string kq, .int .i64 nq, .int .i64 sq] 26)).heap.size := by simp; omega
        clear hdd z1 hbF hVX
        go_wp2_with fail
        refine hF.mono ?_
        rintro e w3 ⟨u3, rfl, hd3, hn3, hb3⟩
        obtain ⟨⟨x0, x1, x2, x3, x4, x5⟩, f0⟩ := HVX.out.keep hb3
        have y0 := f0 0 (by omega)
        have y1 := f0 1 (by omega)
        have y2 := f0 2 (by omega)
        have y3 := f0 3 (by omega)
        have y4 := f0 4 (by omega)
        have y5 := f0 5 (by omega)
        have hB3 := bstep HBF.out hb3
        have HB3 := Lib.hid hB3
        have hV3 := HVM.out.below hB3
        obtain ⟨v0, v1, v2, v3, v4, v5⟩ := hV3.at si hsi
        have r0 := hV3.fr (si * 6)
        have r1 := hV3.fr (si * 6 + 1)
        have r2 := hV3.fr (si * 6 + 2)
        have r3 := hV3.fr (si * 6 + 3)
        have r4 := hV3.fr (si * 6 + 4)
        have r5 := hV3.fr (si * 6 + 5)
        have hne : g ≠ wc.heap.size := by omega
        have hne' : wc.heap.size ≠ g := by omega
        have hfl := fewD_len [(kq, nq, sq)]
        have HFS := Lib.hid (fewD_srt [(kq, nq, sq)])
        have HFK := Lib.hid (few_one (kq, nq, sq))
        have HN3 : Hid (∀ b, u3.ownBlock = some b → wc.heap.size < b) := Lib.hid (fun b h => by have h1 := hn3 b h; simp at h1; omega)
        have HD3 := Lib.hid hd3
        obtain ⟨ua, uc, rfl, _, _, _, _⟩ := hd3
        generalize fewD [(kq, nq, sq)] = fd at HD3 HFS HFK hfl HN3 hF
        clear hn3 hb3 hF hB3 hV3 f0
        go_wp2
        go_meet
        obtain ⟨h1, h2⟩ := HSET.out (w3.setCell ⟨wc.heap.size, 5, none⟩ (.slice ua fd.length uc)) (⟨key, val, gone, (n1, s1), fd⟩, ua, uc) (HB3.out.setCell (Nat.le_refl _) _) (HD3.out.block (by simp) (fun b hb => Below.heap_setCell _ _ _ _ (by have := HN3.out b hb; simp; omega))) (.inr (fun g' e1 e2 => by
          have e3 : g' = g := by simpa [Value.ownBlock] using e1.symm
          have := HN3.out g' e2
          omega)) ⟨hvks, HVST.out, HFS.out, by show fd.length ≤ 50; omega⟩ (HCK.out _) (.inr ⟨k12 kq, fun d hd => HFK.out d hd, HCK.out _⟩)
        exact ⟨_, rfl, h1, h2⟩
      · go_wp2
        go_meet
        obtain ⟨h1, h2⟩ := HSET.out wc (⟨kq, val, gone, (n1, s1), past⟩, ya, yc) (Below.refl _ _) HDP.out HOF.out ⟨hks, HVST.out, HVSR.out, hvln⟩ (.inr rfl) (.inl HCP.out)
        exact ⟨_, rfl, h1.below (balloc (Below.refl _ _) _), balloc h2 _⟩
  case rest =>
    obtain ⟨ys, rfl, hrow, hbc⟩ := hcut
    clear HVM HM2 q0 q1 q2 q3 q4 q5 hand hlq2 HB2 hxl
    have HY := Lib.hid hrow
    have hyl := hrow.len
    have hxy : xs.length = ys.length := by
      obtain ⟨_, _, e7, _⟩ := hrow.row.shape
      simp only [Value.slice.injEq] at e7
      exact e7.2.1
    clear hrow HCD
    generalize xs.length = nx at *
    subst hxy
    have hbelc := hbel1.trans (hbc.mono (by omega))
    have HQC := Lib.hid (HQ1.out.keep hbc)
    have HPC := Lib.hid (HR1.out.below hbc)
    clear hbel1 hbc HQ1 HR1
    go_wp2_with fail
    refine (few_any5 _ l2 wc hl2 HZ2.out HPC.out).mono ?_
    rintro e w3 ⟨u3, rfl, hd3, hb3⟩
    have HP3 := Lib.hid hd3
    obtain ⟨pa, pc, rfl, _, _, _, _⟩ := hd3
    have hpl := fewD_len l2
    have HPS := Lib.hid (fewD_srt l2)
    have HY3 := Lib.hid (HY.out.below hb3)
    have HQ3 := Lib.hid (HQC.out.keep hb3)
    have hb3' : Below bq w w3 := hbelc.trans (hb3.mono (by have := lt_of_cellN HQC.out.c0; omega))
    have q2 := HQ3.out.c2
    generalize fewD l2 = p at HP3 hpl HPS
    clear HY HQC HPC hbelc hb3
    go_upto_if 73 with (fail)
    go_cut [11] (fun s11 wx => ∃ p : List De, DepAt wx s11 p ∧ Srt p ∧ p.length ≤ 9 ∧ Below w3.heap.size w3 wx)
    case first =>
      cases al with
      | false =>
        go_wp2
        go_meet
        exact ⟨p, HP3.out, HPS.out, by omega, Below.refl _ _⟩
      | true =>
        go_wp2_with fail
        refine (all5_any _ ys w3 (by omega) HY3.out.ok HY3.out.row).mono ?_
        rintro e w4 ⟨u4, rfl, hd4, hb4⟩
        have HA4 := Lib.hid hd4
        obtain ⟨aa, ac, rfl, _, _, _, _⟩ := hd4
        go_wp2
        go_meet
        exact ⟨_, HA4.out, allV_srt _, HY3.out.all, hb4⟩
    case rest =>
      obtain ⟨p1, hp1, hps1, hpl1, hb4⟩ := hcut
      have HP := Lib.hid hp1
      have HPS1 := Lib.hid hps1
      obtain ⟨p1a, p1c, rfl, _, _, _, _⟩ := hp1
      have HY4 := Lib.hid (HY3.out.below hb4)
      have HQ4 := Lib.hid (HQ3.out.keep hb4)
      have hlq3 : bq < w3.heap.size := lt_of_cellN HQ3.out.c0
      have hbel4 := hb3'.trans (hb4.mono (by omega))
      clear hps1 hb4 hb3' HP3 HPS HY3 HQ3 q2 hpl
      have hrl := red_len p1 (ys.map Prod.fst)
      have hel := expL_len p1 ys (by omega) HY4.out.ok
      go_wp2_with fail
      refine (reduce_any _ _ p1 ys wc (by omega) HPS1.out (by omega) HY4.out.ok HP.out HY4.out.row).mono ?_
      rintro e w5 ⟨u5, rfl, ho5, hb5⟩
      have HN5 := Lib.hid (DepAt.of_own ho5)
      obtain ⟨na, nc, rfl⟩ := ho5.shape
      have HY5 := Lib.hid (HY4.out.below hb5)
      have HP5 := Lib.hid (HP.out.below hb5)
      have HQ5 := Lib.hid (HQ4.out.keep hb5)
      have hbel5 := hbel4.trans (hb5.mono (by have := lt_of_cellN HQ4.out.c0; omega))
      clear ho5 hb5 HY4 HP HQ4 hbel4
      go_wp2_with fail
      refine (refReduce5_any _ _ p1 ys w5 (by omega) HPS1.out (by omega) HY5.out.ok HP5.out HY5.out.row).mono ?_
      rintro e w6 ⟨u6, rfl, ho6, hb6⟩
      have HM6 := Lib.hid (DepAt.of_own ho6)
      obtain ⟨ma, mc, rfl⟩ := ho6.shape
      have HN6 := Lib.hid (HN5.out.below hb6)
      have HY6 := Lib.hid (HY5.out.below hb6)
      have HP6 := Lib.hid (HP5.out.below hb6)
      have HQ6 := Lib.hid (HQ5.out.keep hb6)
      have hbel6 := hbel5.trans (hb6.mono (by have := lt_of_cellN HQ5.out.c0; omega))
      clear ho6 hb6 HY5 HP5 HQ5 hbel5 HN5
      generalize redL p1 (ys.map Prod.fst) = rd at HM6 HN6 hrl
      go_wp2_with fail
      refine (refPSame_t5 _ _ rd w6 (by omega) HN6.out HM6.out).mono ?_
      rintro e w7 ⟨rfl, hb7⟩
      have HY7 := Lib.hid (HY6.out.below hb7)
      have HP7 := Lib.hid (HP6.out.below hb7)
      have HQ7 := Lib.hid (HQ6.out.keep hb7)
      have hbel7 := hbel6.trans (hb7.mono (by have := lt_of_cellN HQ6.out.c0; omega))
      clear hb7 HY6 HP6 HQ6 hbel6 HN6 HM6
      go_wp2_with fail
      refine (expand_any _ _ p1 ys w7 (by omega) HPS1.out (by omega) HY7.out.ok HP7.out HY7.out.row).mono ?_
      rintro e w8 ⟨u8, rfl, ho8, hb8⟩
      have HN8 := Lib.hid (DepAt.of_own ho8)
      obtain ⟨ea, ec, rfl⟩ := ho8.shape
      have HY8 := Lib.hid (HY7.out.below hb8)
      have HP8 := Lib.hid (HP7.out.below hb8)
      have HQ8 := Lib.hid (HQ7.out.keep hb8)
      have hbel8 := hbel7.trans (hb8.mono (by have := lt_of_cellN HQ7.out.c0; omega))
      clear ho8 hb8 HY7 HP7 HQ7 hbel7
      go_wp2_with fail
      refine (refExpand5_any _ _ p1 ys w8 (by omega) HPS1.out (by omega) HY8.out.ok HP8.out HY8.out.row).mono ?_
      rintro e w9 ⟨u9, rfl, hd9, hb9⟩
      have HM9 := Lib.hid hd9
      obtain ⟨fa, fc, rfl, _, _, _, _⟩ := hd9
      have HN9 := Lib.hid (HN8.out.below hb9)
      have HY9 := Lib.hid (HY8.out.below hb9)
      have HP9 := Lib.hid (HP8.out.below hb9)
      have HQ9 := Lib.hid (HQ8.out.keep hb9)
      have hbel9 := hbel8.trans (hb9.mono (by have := lt_of_cellN HQ8.out.c0; omega))
      clear hb9 HY8 HP8 HQ8 hbel8 HN8
      generalize expL p1 (ys.map Prod.fst) = ex at HM9 HN9 hel
      go_wp2_with fail
      refine (refPSame_t5 _ _ ex w9 (by omega) HN9.out HM9.out).mono ?_
      rintro e w10 ⟨rfl, hb10⟩
      have HY10 := Lib.hid (HY9.out.below hb10)
      have HP10 := Lib.hid (HP9.out.below hb10)
      have HQ10 := Lib.hid (HQ9.out.keep hb10)
      have hbel10 := hbel9.trans (hb10.mono (by have := lt_of_cellN HQ9.out.c0; omega))
      clear hb10 HY9 HP9 HQ9 hbel9 HN9 HM9
      have hC := fun W hW => find5_any (.slice sa ys.length sc) ys kq nq sq W (by omega) hW
      have hR := fun W hW => refFind5_any (.slice sa ys.length sc) ys kq nq sq W (by omega) hW
      have hD := fun (W : World) (hW : Below w10.heap.size w10 W) => (HY10.out.row.below hW).fpast (kq, nq, sq)
      have HPL := Lib.hid (fpast_len HY10.out.ok (kq, nq, sq))
      generalize (fndP ys (kq, nq, sq)).isSome = b1 at hC hR
      generalize (fndP ys (kq, nq, sq)).getD vz = r at hC hR hD HPL
      have HD := Lib.hid hD
      have HRF := Lib.hid hR
      clear hD hR
      obtain ⟨⟨key, val, gone, ⟨n1, s1⟩, past⟩, ra, rc⟩ := r
      dsimp only [vv, vcs, pu] at hC HRF HD HPL
      obtain ⟨_, _, _, q3, q4, q5⟩ := HQ10.out
      go_wp2_with fail
      refine (hC _ HY10.out.row).mono ?_
      rintro e w11 ⟨rfl, hb11⟩
      have hbA := balloc hb11 (.cells #[.string key, .string val, .bool gone, .int .i64 n1, .int .i64 s1, .slice ra past.length rc] 34)
      have hVA : VarV (w11.alloc (.cells #[.string key, .string val, .bool gone, .int .i64 n1, .int .i64 s1, .slice ra past.length rc] 34)) w11.heap.size (⟨key, val, gone, (n1, s1), past⟩, ra, rc) := VarV.new w11 (⟨key, val, gone, (n1, s1), past⟩, ra, rc) _
      have HQ11 := Lib.hid (HQ10.out.keep hbA)
      have HY11 := Lib.hid (HY10.out.below hbA)
      obtain ⟨_, _, _, q3, q4, q5⟩ := HQ11.out
      have hR := HRF.out _ HY11.out.row
      have HBA := Lib.hid hbA
      have HVA := Lib.hid hVA
      clear hC hb11 hbA hVA HRF
      go_wp2_with fail
      generalize w11.alloc (.cells #[.string key, .string val, .bool gone, .int .i64 n1, .int .i64 s1, .slice ra past.length rc] 34) = w12 at *
      generalize w11.heap.size = bx at *
      refine hR.mono ?_
      rintro e w13 ⟨rfl, hb13⟩
      have hbB := balloc hb13 (.cells #[.string key, .string val, .bool gone, .int .i64 n1, .int .i64 s1, .slice ra past.length rc] 34)
      have hVB : VarV (w13.alloc (.cells #[.string key, .string val, .bool gone, .int .i64 n1, .int .i64 s1, .slice ra past.length rc] 34)) w13.heap.size (⟨key, val, gone, (n1, s1), past⟩, ra, rc) := VarV.new w13 (⟨key, val, gone, (n1, s1), past⟩, ra, rc) _
      have HBB := Lib.hid (bstep HBA.out hbB)
      have HVA2 := Lib.hid (HVA.out.keep hbB)
      have HVB := Lib.hid hVB
      obtain ⟨⟨_, _, _, x3, x4, x5⟩, _⟩ := HVA2.out
      obtain ⟨⟨_, _, _, y3, y4, y5⟩, _⟩ := HVB.out
      have hDP := HD.out _ HBB.out
      have HDP := Lib.hid hDP
      clear hb13 hbB hVB hDP hR q3 q4 q5
      go_wp2_with fail
      generalize w13.alloc (.cells #[.string key, .string val, .bool gone, .int .i64 n1, .int .i64 s1, .slice ra past.length rc] 34) = w14 at *
      generalize w13.heap.size = by_ at *
      refine (refPSame_t5 _ _ past w14 (by have := HPL.out; omega) HDP.out HDP.out).mono ?_
      rintro e w15 ⟨rfl, hb15⟩
      have HB15 := Lib.hid (bstep HBB.out hb15)
      obtain ⟨⟨_, _, _, x3, x4, x5⟩, _⟩ := HVA2.out.keep hb15
      obtain ⟨⟨_, _, _, y3, y4, y5⟩, _⟩ := HVB.out.keep hb15
      have HY15 := Lib.hid (HY10.out.below HB15.out)
      have HP15 := Lib.hid (HP10.out.below HB15.out)
      have heq1 := fun w' => HEQ.out w' n1 s1 n1 s1
      rw [decide_eq_true rfl] at heq1
      have hbel15 := hbel10.trans (HB15.out.mono (by have := lt_of_cellN HQ10.out.c0; omega))
      have hS1 := sound_any (.slice sa ys.length sc) ys w15 (by omega) HY15.out.ok HY15.out.row
      have hS2 := fun W hW => refSound5_any (.slice sa ys.length sc) ys W (by omega) HY15.out.ok hW
      have hC1 := fun W h1 h2 => closed5_any (.slice p1a p1.length p1c) (.slice sa ys.length sc) p1 ys W (by omega) HPS1.out (by omega) HY15.out.ok h1 h2
      have hC2 := fun W h1 h2 => refClosed5_any (.slice p1a p1.length p1c) (.slice sa ys.length sc) p1 ys W (by omega) (by omega) HY15.out.ok h1 h2
      generalize sndB ys = sb at hS1 hS2
      generalize clB p1 (ys.map Prod.fst) = cb at hC1 hC2
      have HS2 := Lib.hid hS2
      have HC1 := Lib.hid hC1
      have HC2 := Lib.hid hC2
      clear hb15 hS2 hC1 hC2 HY10 HP10 HBA HBB HVA HVA2 HVB HD HDP hbel10
      go_wp2_with fail
      refine hS1.mono ?_
      rintro e w16 ⟨rfl, hb16⟩
      have HY16 := Lib.hid (HY15.out.below hb16)
      have HP16 := Lib.hid (HP15.out.below hb16)
      have hbel16 := hbel15.trans (hb16.mono (by have := lt_of_cellN x3; have := HQ11.out.c0; have := HB15.out.size; have := lt_of_cellN HQ10.out.c0; omega))
      have hs16 := hb16.size
      have hS2 := HS2.out w16 HY16.out.row
      clear hS1 hb16 HS2
      go_wp2_with fail
      refine hS2.mono ?_
      rintro e w17 ⟨rfl, hb17⟩
      have HY17 := Lib.hid (HY16.out.below hb17)
      have HP17 := Lib.hid (HP16.out.below hb17)
      have hbq : bq ≤ w15.heap.size := by have := HB15.out.size; have := lt_of_cellN HQ10.out.c0; omega
      have hbel17 := hbel16.trans (hb17.mono (by omega))
      have hs17 := hb17.size
      have hC1 := HC1.out w17 HP17.out HY17.out.row
      clear hS2 hb17 HC1
      go_wp2_with fail
      refine hC1.mono ?_
      rintro e w18 ⟨rfl, hb18⟩
      have HY18 := Lib.hid (HY17.out.below hb18)
      have HP18 := Lib.hid (HP17.out.below hb18)
      have hbel18 := hbel17.trans (hb18.mono (by omega))
      have hs18 := hb18.size
      have hC2 := HC2.out w18 HP18.out HY18.out.row
      clear hC1 hb18 HC2
      go_wp2_with fail
      refine hC2.mono ?_
      rintro e w19 ⟨rfl, hb19⟩
      have hbel19 := hbel18.trans (hb19.mono (by omega))
      go_wp2
      go_ret
      exact ⟨ret_bool (by cases sb <;> cases cb <;> rfl), by rw [HBQE.out]; exact hbel19⟩
end Go.Proofs.Ytfnfpanmbmkhmaa
