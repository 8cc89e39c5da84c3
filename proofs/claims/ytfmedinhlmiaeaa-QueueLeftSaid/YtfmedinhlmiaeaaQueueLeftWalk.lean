/- QueueLeft: the walk. -/
import Derived.Test.YtfmedinhlmiaeaaGQ27
import Derived.Deep.RegionHeld3
import Derived.Deep.DeepCutAuto
namespace Go.Proofs.Ytfmedinhlmiaeaa
open Go.RowKit
set_option linter.unusedVariables false
set_option linter.unusedSimpArgs false

theorem and15Q (n : Int) : bits .and .i64 n 15 = n % 16 := and_pow n 4 15 (by decide) (by omega)
theorem keepL3 {W w1 : World} {b o0 o1 o2 : Nat} {x0 x1 x2 : Value} (hb : Below W.heap.size W w1) (h : W.cell? ⟨b, o0, none⟩ = some x0 ∧ W.cell? ⟨b, o1, none⟩ = some x1 ∧ W.cell? ⟨b, o2, none⟩ = some x2) :
    w1.cell? ⟨b, o0, none⟩ = some x0 ∧ w1.cell? ⟨b, o1, none⟩ = some x1 ∧ w1.cell? ⟨b, o2, none⟩ = some x2 := ⟨kc hb h.1, kc hb h.2.1, kc hb h.2.2⟩

set_option maxRecDepth 100000 in
set_option maxHeartbeats 12800000 in
theorem walkQueueLeft (w : World) (a : Option Addr) (ws : List Wr) (cap : Nat) (hl : ws.length ≤ 9223372036854775807) (hr : WrIn w a ws) (oo : Int) (how : (Lit.int .i64 oo).wf = true) (n : Int) (hnw : (Lit.int .i64 n).wf = true) :
    Calls Try.prog 5 #[.slice a ws.length cap, .int .i64 oo, .int .i64 n] w fun e w' => e = .returned (.bool true) ∧ Below w.heap.size w w' := by
  have HR := Lib.hid hr
  obtain ⟨o, ho16⟩ : ∃ o : Nat, bits .and .i64 oo 15 = (o : Int) := ⟨(oo % 16).toNat, by rw [and15Q]; omega⟩
  clear hr
  go_enter Try.func5, Try.ntmps5
  go_wp2_with fail
  refine (awake14_any _).mono ?_
  rintro e w1 ⟨rfl, hb1⟩
  have HB1 := Lib.hid hb1
  clear hb1
  go_wp2_with fail
  refine (made14_any a cap ws w1 hl (HR.out.below HB1.out)).mono ?_
  rintro e w2 ⟨u, xs, rfl, hmap, hqm, hb2⟩
  have HM2 := Lib.hid (mq_row hmap hqm)
  have HMAP := Lib.hid hmap
  obtain ⟨ua, uc, rfl, _, _, _⟩ := HM2.out.row.shape
  have hxl := mq_len hmap
  have HB2 := Lib.hid (bstep HB1.out hb2)
  clear hb2 hqm hmap
  go_wp2_with fail
  refine (ranges14_any n _).mono ?_
  rintro e w3 ⟨v3, rfl, ho3, hb3⟩
  have hrl := rngsOf_len n
  generalize rngsOf n = rs at ho3 hrl
  obtain ⟨ra, rc, rfl⟩ := ho3.shape
  have HR3 := Lib.hid (RowIn.of_own kr_ok ho3).rng
  have HM3 := Lib.hid (HM2.out.below hb3)
  have HB3 := Lib.hid (bstep HB2.out hb3)
  clear ho3 hb3
  go_wp2
  go_loopw [10, 11] (fun wv iv wr => ∃ (i : Nat) (acc : List Vw), i ≤ xs.length ∧ iv = .int .i64 i ∧ OwnR KW wr w3.heap.size wv acc ∧ Hid (acc.length ≤ i) ∧ Hid (∀ x ∈ acc, x ∈ xs) ∧ Below w3.heap.size w3 wr) (fun _ iv _ => xs.length - (intOf iv).toNat)
  case atStart => exact ⟨0, [], by omega, rfl, OwnR.nil _ _ _, Lib.hid (by simp), Lib.hid (by simp), Below.refl _ _⟩
  case round =>
    obtain ⟨i, acc, hi, rfl, how, HAL, HAM, hbel⟩ := hrel
    have HO := Lib.hid how
    obtain ⟨sa, sc, rfl⟩ := how.shape
    have HBEL := Lib.hid hbel
    have hbs := hbel.size
    clear how
    by_cases hlt : i < xs.length
    · by_cases hio : (i : Int) = (o : Int)
      · have hne : ((i : Int) != (o : Int)) = false := by rw [hio]; simp
        go_wp2
        go_roundw
        case rel => exact ⟨i + 1, acc, by omega, by go_num, HO.out, Lib.hid (by have := HAL.out; omega), HAM, hbel⟩
        case measure => simp [intOf]; omega
      · have hne : ((i : Int) != (o : Int)) = true := by simpa using hio
        obtain ⟨j, hj⟩ : ∃ j, j = xs.length - 1 - i := ⟨_, rfl⟩
        have hjl : j < xs.length := by omega
        obtain ⟨b, off, rfl, hbl, hq, hvb⟩ := (HM3.out.row.below hbel).at j hjl
        have HMEM := Lib.hid (List.getElem_mem hjl)
        have HENC : Hid ((wcs xs[j]).toList = KW.enc xs[j]) := Lib.hid rfl
        generalize xs[j] = x at hq HMEM HENC
        obtain ⟨⟨xk, xv, xg, ⟨xn, xs'⟩, xp⟩, xa, xc⟩ := x
        obtain ⟨c0, c1, c2, c3, c4, c5⟩ := hq
        dsimp only [pw, wcs, wvs] at c0 c1 c2 c3 c4 c5 HENC
        have hw1 : IntKind.i64.wrap ((xs.length : Int) - 1) = (xs.length : Int) - 1 := IntWalk.i64_in _ (by omega)
        have hw2 : IntKind.i64.wrap ((xs.length : Int) - 1 - (i : Int)) = (j : Int) := by rw [IntWalk.i64_in _ (by omega)]; omega
        have hji : (j : Int) < (xs.length : Int) := by omega
        have hj0 : (0 : Int) ≤ (j : Int) := by omega
        have hacl : acc.length ≤ 14 := by have := HAL.out; omega
        clear hvb hio hj
        go_wp2_with (at_builtin; refine wp_pushR kw_ok (wr := wr) rfl _ _ rfl w3.heap.size (.slice sa acc.length sc) acc (⟨xk, xv, xg, (xn, xs'), xp⟩, xa, xc) #[.string xk, .string xv, .bool xg, .int .i64 xn, .int .i64 xs', .slice xa xp.length xc] HENC.out rfl HO.out rfl (by omega) hbs ?_; intro g gcap w4 ho4 hb4 hk4 hat4 hg4)
        go_wp2
        go_roundw
        case rel => exact ⟨i + 1, acc ++ [(⟨xk, xv, xg, (xn, xs'), xp⟩, xa, xc)], by omega, by go_num, by simpa using ho4, Lib.hid (by have := HAL.out; simp; omega), Lib.hid (fun y hy => by
          rw [List.mem_append, List.mem_singleton] at hy
          rcases hy with hy | rfl
          · exact HAM.out y hy
          · exact HMEM.out), hbel.trans hb4⟩
        case measure => simp [intOf]; omega
    · obtain rfl : i = xs.length := by omega
      obtain ⟨w5, hw5⟩ : ∃ w5, w5 = wr := ⟨wr, rfl⟩
      subst hw5
      have HAL2 : Hid (acc.length ≤ 14) := Lib.hid (by have := HAL.out; omega)
      have HAM2 := HAM
      have HO2 := HO
      have HM5 := Lib.hid (HM3.out.below hbel)
      have HR5 := Lib.hid (HR3.out.below hbel)
      clear HAL HAM HO ho16 hbs
      go_wp2
      go_loopw [10, 12, 13] (fun wv hv sv wr => ∃ (s : Nat) (acc : List Vw) (hs : List De), s ≤ 15 ∧ sv = .int .i64 s ∧ Hid (acc.length + s ≤ 14) ∧ OwnR KW wr w3.heap.size wv acc ∧ Hid (∀ x ∈ acc, x ∈ xs) ∧ DepAt wr hv hs ∧ Hid (Srt hs ∧ hs.length ≤ s) ∧ Below w5.heap.size w5 wr) (fun _ _ sv _ => 15 - (intOf sv).toNat)
      case atStart => exact ⟨0, acc, [], by omega, rfl, Lib.hid (by have := HAL2.out; omega), HO2.out, HAM2, DepAt.nil _, Lib.hid ⟨Srt.nil, by simp⟩, Below.refl _ _⟩
      case round =>
        obtain ⟨s, acc, hs, hs15, rfl, HAL, how, HAM, hdep, HSR, hbel2⟩ := hrel
        obtain ⟨w6, hw6⟩ : ∃ w6, w6 = wr := ⟨wr, rfl⟩
        subst hw6
        have HO := Lib.hid how
        obtain ⟨sa, sc, rfl⟩ := how.shape
        obtain ⟨ha, hc, rfl, _⟩ := id hdep
        have HDEP := Lib.hid hdep
        have HBEL2 := Lib.hid hbel2
        have hs14 : (s : Int) < 15 := by have := HAL.out; omega
        have hsl : s < 15 := by omega
        have HPA : Hid (∀ x ∈ acc, x.1.past.length ≤ 100000) := Lib.hid (fun x hx => wr_past HM5.out x (HAM.out x hx))
        have HCX : Hid (Ctx w6 (.slice ha hs.length hc) hs ra rs) := Lib.hid ⟨by have := HSR.out.2; omega, HSR.out.1.szd, hdep, by omega, HR5.out.below hbel2⟩
        have HWR : Hid (WRow w6 (.slice sa acc.length sc) acc) := Lib.hid (WRow.of_own HO.out (fun x hx => ((HM5.out.row.below hbel2).2 x (HAM.out x hx))))
        have hnx := next_any (.slice sa acc.length sc) (.slice ha hs.length hc) acc hs ra rc rs w6 (by have := HAL.out; omega) HWR.out HPA.out HCX.out
        clear how hdep
        cases hni : nxI rs hs acc with
        | none =>
          obtain ⟨e1, e2, e3⟩ := nx_not hni
          have HNR : Hid (∀ x ∈ acc, readyB rs hs x = false) := Lib.hid (by
            unfold nxI at hni
            rw [List.findIdx?_eq_none_iff] at hni
            exact hni)
          rw [e1, e2, hni] at hnx
          dsimp only [vw0, wz, wV, wcs, wvs, pw, List.length_nil, Option.isSome_none] at hnx
          clear hni e1 e2 e3
          go_wp2_with fail
          refine hnx.mono ?_
          rintro e w7 ⟨v7, rfl, ho7, hb7⟩
          obtain ⟨sa7, sc7, rfl⟩ := ho7.shape
          have HB8 : Hid (Below w6.heap.size w6 (w7.alloc (.cells #[.string ⟨#[]⟩, .string ⟨#[]⟩, .bool false, .int .i64 0, .int .i64 0, .slice none 0 0] 27))) := Lib.hid (bstep hb7 (balloc (Below.refl _ w7) _))
          clear ho7 hb7 hnx
          go_wp2
          generalize w7.alloc (.cells #[.string ⟨#[]⟩, .string ⟨#[]⟩, .bool false, .int .i64 0, .int .i64 0, .slice none 0 0] 27) = w8 at *
          have HCX8 := Lib.hid (HCX.out.below HB8.out)
          have HWR8 := Lib.hid (HWR.out.below HB8.out)
          have HB58 := Lib.hid (bstep HBEL2.out HB8.out)
          go_loopw [19] (fun qv wr => ∃ q : Nat, q ≤ acc.length ∧ qv = .int .i64 q ∧ Below w8.heap.size w8 wr) (fun qv _ => acc.length - (intOf qv).toNat)
          case atStart => exact ⟨0, by omega, rfl, Below.refl _ _⟩
          case round =>
            obtain ⟨q, hq, rfl, hbq⟩ := hrel
            have HBQ := Lib.hid hbq
            by_cases hql : q < acc.length
            · obtain ⟨b, off, rfl, hbl, hqq, hvb⟩ := (HWR8.out.below hbq).at q hql
              have hmi := misses_any acc[q].1 (pw acc[q]) (.slice ha hs.length hc) hs ra rc rs wr hvb.1 (HPA.out _ (List.getElem_mem hql)) (HCX8.out.below hbq)
              have hnr := HNR.out _ (List.getElem_mem hql)
              have HML : Hid (∀ d ∈ missD rs hs acc[q].1.past, Sm.less (gtD hs d.1) d.2 = true) := Lib.hid (fun d hd => by
                have := (List.mem_filter.1 hd).2
                simpa using this)
              unfold readyB at hnr
              have hmlen := missD_len rs hs acc[q].1.past
              have hpl := HPA.out _ (List.getElem_mem hql)
              generalize missD rs hs acc[q].1.past = ml at hmi hnr HML hmlen
              generalize acc[q] = x at hqq hmi hmlen hpl
              obtain ⟨⟨xk, xv, xg, ⟨xn, xs'⟩, xp⟩, xa, xc⟩ := x
              obtain ⟨c0, c1, c2, c3, c4, c5⟩ := hqq
              dsimp only [pw, wvs] at c0 c1 c2 c3 c4 c5 hmi hmlen hpl
              have hacl : acc.length ≤ 14 := by have := HAL.out; omega
              have hqi : (q : Int) < (acc.length : Int) := by omega
              have hq0 : (0 : Int) ≤ (q : Int) := by omega
              cases ml with
              | nil => cases hnr
              | cons d rest =>
                clear hnr
                obtain ⟨mk, mn, ms⟩ := d
                have HLE := Lib.hid (HML.out (mk, mn, ms) (by simp))
                have hlen : ((mk, mn, ms) :: rest).length = rest.length + 1 := rfl
                rw [hlen] at hmlen
                go_wp2_with fail
                refine hmi.mono ?_
                rintro e w9 ⟨v9, rfl, ho9, hb9⟩
                obtain ⟨ma, mc, hv9⟩ := ho9.shape
                rw [hlen] at hv9
                subst hv9
                obtain ⟨mb, rfl⟩ : ∃ mb, ma = some ⟨mb, 0, none⟩ := by
                  rcases ho9.2 with ⟨e0, h9⟩ | ⟨gg, cap', cur, e0, _⟩
                  · simp at h9
                  · cases e0; exact ⟨gg, rfl⟩
                obtain ⟨m0, m1, m2⟩ := OwnD.at ho9 0 (by simp)
                simp only [List.getElem_cons_zero, Nat.zero_mul, Nat.zero_add] at m0 m1 m2
                have hget := fun (W : World) (hb : Below w9.heap.size w9 W) => refPGet_any (.slice ha hs.length hc) hs mk W (by have := HSR.out.2; omega) ((HCX8.out.below (bstep HBQ.out hb9)).below hb).at_
                have hless := fun (W : World) => refLess_any (gtD hs mk).1 (gtD hs mk).2 mn ms W
                rw [show Sm.less ((gtD hs mk).1, (gtD hs mk).2) (mn, ms) = true from HLE.out] at hless
                generalize gtD hs mk = gv at hget hless
                obtain ⟨gv0, gv1⟩ := gv
                dsimp only [sv] at hget hless
                have HB9 := Lib.hid (bstep HBQ.out hb9)
                have HBD := Lib.hid ((Below.refl w9.heap.size w9).drew)
                have hr0 : (0 : Int) < ((rest.length + 1 : Nat) : Int) := by omega
                have hrn : ¬ ((rest.length + 1 : Nat) : Int) = 0 := by omega
                have hrb : (((rest.length + 1 : Nat) : Int) == 0) = false := by simpa using hrn
                have hr0n : 0 < rest.length + 1 := by omega
                generalize rest.length + 1 = mlen at hr0 hrn hrb hmlen hr0n ⊢
                have g0 : w9.drew.cell? ⟨mb, 0, none⟩ = some (.string mk) ∧ w9.drew.cell? ⟨mb, 1, none⟩ = some (.int .i64 mn) ∧ w9.drew.cell? ⟨mb, 2, none⟩ = some (.int .i64 ms) := ⟨m0, m1, m2⟩
                clear ho9 hb9 hmi c0 c1 c2 c3 c4 c5 hvb hlen
                go_wp2_with fail
                refine wp_region_held_drew (S := fun w' => w'.cell? ⟨mb, 0, none⟩ = some (.string mk) ∧ w'.cell? ⟨mb, 1, none⟩ = some (.int .i64 mn) ∧ w'.cell? ⟨mb, 2, none⟩ = some (.int .i64 ms)) (by kernel_rfl) (g0) (fun hHeld => ?_)
                refine wpAnyH_take (i := 0) (v := ?vl0) rfl (by kernel_rfl) (by kernel_rfl) (by kernel_rfl) (fun _ _ _ h => h) (Or.inl ⟨by rfl, ?yl0⟩) (by assumption) ?rl0
                case yl0 => (intro w hSw; (try dsimp only at hSw); go_simp; try with_reducible rfl)
                try simp only [Act.put, List.setIfInBounds_toArray, List.set_cons_zero, List.set_cons_succ, List.getElem_toArray, List.getElem_cons_zero, List.getElem_cons_succ]
                refine wpAnyH_take (i := 1) (v := ?vl1) rfl (by kernel_rfl) (by kernel_rfl) (by kernel_rfl) (fun _ _ _ h => h) (Or.inl ⟨by rfl, ?yl1⟩) (by assumption) ?rl1
                case yl1 => (intro w hSw; (try dsimp only at hSw); go_simp; try with_reducible rfl)
                try simp only [Act.put, List.setIfInBounds_toArray, List.set_cons_zero, List.set_cons_succ, List.getElem_toArray, List.getElem_cons_zero, List.getElem_cons_succ]
                refine wpAnyH_take (i := 2) (v := ?vl2) rfl (by kernel_rfl) (by kernel_rfl) (by kernel_rfl) (fun _ _ _ h => h) (Or.inl ⟨by rfl, ?yl2⟩) (by assumption) ?rl2
                case yl2 => (intro w hSw; (try dsimp only at hSw); go_simp; try with_reducible rfl)
                try simp only [Act.put, List.setIfInBounds_toArray, List.set_cons_zero, List.set_cons_succ, List.getElem_toArray, List.getElem_cons_zero, List.getElem_cons_succ]
                refine wpAnyH_take (i := 3) (v := ?vl3) rfl (by kernel_rfl) (by kernel_rfl) (by kernel_rfl) (fun _ _ _ h => h) (Or.inl ⟨by rfl, ?yl3⟩) (by assumption) ?rl3
                case yl3 => (intro w hSw; (try dsimp only at hSw); go_simp; try with_reducible rfl)
                try simp only [Act.put, List.setIfInBounds_toArray, List.set_cons_zero, List.set_cons_succ, List.getElem_toArray, List.getElem_cons_zero, List.getElem_cons_succ]
                refine wpAnyH_take (i := 4) (v := ?vl4) rfl (by kernel_rfl) (by kernel_rfl) (by kernel_rfl) (fun _ _ _ h => h) (Or.inl ⟨by rfl, ?yl4⟩) (by assumption) ?rl4
                case yl4 => (intro w hSw; (try dsimp only at hSw); go_simp; try with_reducible rfl)
                try simp only [Act.put, List.setIfInBounds_toArray, List.set_cons_zero, List.set_cons_succ, List.getElem_toArray, List.getElem_cons_zero, List.getElem_cons_succ]
                refine wpAnyH_take (i := 5) (v := ?vl5) rfl (by kernel_rfl) (by kernel_rfl) (by kernel_rfl) (fun _ _ _ h => h) (Or.inl ⟨by rfl, ?yl5⟩) (by assumption) ?rl5
                case yl5 => (intro w hSw; (try dsimp only at hSw); go_simp; try with_reducible rfl)
                try simp only [Act.put, List.setIfInBounds_toArray, List.set_cons_zero, List.set_cons_succ, List.getElem_toArray, List.getElem_cons_zero, List.getElem_cons_succ]
                refine wpAnyH_take (i := 6) (v := ?vl6) rfl (by kernel_rfl) (by kernel_rfl) (by kernel_rfl) (fun _ _ _ h => h) (Or.inl ⟨by rfl, ?yl6⟩) (by assumption) ?rl6
                case yl6 => (intro w hSw; (try dsimp only at hSw); go_simp; try with_reducible rfl)
                try simp only [Act.put, List.setIfInBounds_toArray, List.set_cons_zero, List.set_cons_succ, List.getElem_toArray, List.getElem_cons_zero, List.getElem_cons_succ]
                refine wpAnyH_take (i := 7) (v := ?vl7) rfl (by kernel_rfl) (by kernel_rfl) (by kernel_rfl) (fun _ _ _ h => h) (Or.inl ⟨by rfl, ?yl7⟩) (by assumption) ?rl7
                case yl7 => (intro w hSw; (try dsimp only at hSw); go_simp; try with_reducible rfl)
                try simp only [Act.put, List.setIfInBounds_toArray, List.set_cons_zero, List.set_cons_succ, List.getElem_toArray, List.getElem_cons_zero, List.getElem_cons_succ]
                refine wpAnyH_take (i := 8) (v := ?vl8) rfl (by kernel_rfl) (by kernel_rfl) (by kernel_rfl) (fun _ _ _ h => h) (Or.inl ⟨by rfl, ?yl8⟩) (by assumption) ?rl8
                case yl8 => (intro w hSw; (try dsimp only at hSw); go_simp; try with_reducible rfl)
                try simp only [Act.put, List.setIfInBounds_toArray, List.set_cons_zero, List.set_cons_succ, List.getElem_toArray, List.getElem_cons_zero, List.getElem_cons_succ]
                refine wpAnyH_take (i := 10) (v := ?vl10) rfl (by kernel_rfl) (by kernel_rfl) (by kernel_rfl) (fun _ _ _ h => h) (Or.inl ⟨by rfl, ?yl10⟩) (by assumption) ?rl10
                case yl10 => (intro w hSw; (try dsimp only at hSw); go_simp; try with_reducible rfl)
                try simp only [Act.put, List.setIfInBounds_toArray, List.set_cons_zero, List.set_cons_succ, List.getElem_toArray, List.getElem_cons_zero, List.getElem_cons_succ]
                refine wpAnyH_take (i := 11) (v := ?vl11) rfl (by kernel_rfl) (by kernel_rfl) (by kernel_rfl) (fun _ _ _ h => h) (Or.inl ⟨by rfl, ?yl11⟩) (by assumption) ?rl11
                case yl11 => (intro w hSw; (try dsimp only at hSw); go_simp; try with_reducible rfl)
                try simp only [Act.put, List.setIfInBounds_toArray, List.set_cons_zero, List.set_cons_succ, List.getElem_toArray, List.getElem_cons_zero, List.getElem_cons_succ]
                refine wpAnyH_take (i := 12) (v := ?vl12) rfl (by kernel_rfl) (by kernel_rfl) (by kernel_rfl) (fun _ _ _ h => h) (Or.inl ⟨by rfl, ?yl12⟩) (by assumption) ?rl12
                case yl12 => (intro w hSw; (try dsimp only at hSw); go_simp; try with_reducible rfl)
                try simp only [Act.put, List.setIfInBounds_toArray, List.set_cons_zero, List.set_cons_succ, List.getElem_toArray, List.getElem_cons_zero, List.getElem_cons_succ]
                refine wpAnyH_take (i := 13) (v := ?vl13) rfl (by kernel_rfl) (by kernel_rfl) (by kernel_rfl) (fun _ _ _ h => h) (Or.inl ⟨by rfl, ?yl13⟩) (by assumption) ?rl13
                case yl13 => (intro w hSw; (try dsimp only at hSw); go_simp; try with_reducible rfl)
                try simp only [Act.put, List.setIfInBounds_toArray, List.set_cons_zero, List.set_cons_succ, List.getElem_toArray, List.getElem_cons_zero, List.getElem_cons_succ]
                refine wpAnyH_ready (rs := [9]) (by kernel_rfl) (by simp) ?_
                refine AllReadyH.cons rfl (fun K hK => ?_) AllReadyH.nil
                go_simp
                go_at_call 29
                refine (hget _ HBD.out).mono ?_
                rintro e w7 ⟨rfl, hb7⟩
                have g7 := keepL3 hb7 g0
                go_wp2_with fail
                refine hK.out _ _ (g7) (fun hHeld => ?_)
                clear hK K
                try simp only [Act.put, List.setIfInBounds_toArray, List.set_cons_zero, List.set_cons_succ, List.getElem_toArray, List.getElem_cons_zero, List.getElem_cons_succ]
                refine wpAnyH_ready (rs := [14]) (by kernel_rfl) (by simp) ?_
                refine AllReadyH.cons rfl (fun K hK => ?_) AllReadyH.nil
                go_simp
                go_at_call 28
                refine (hless w7).mono ?_
                rintro e w8 ⟨rfl, hb8⟩
                have g8 := keepL3 hb8 g7
                go_wp2_with fail
                refine hK.out _ _ (g8) (fun hHeld => ?_)
                clear hK K
                try simp only [Act.put, List.setIfInBounds_toArray, List.set_cons_zero, List.set_cons_succ, List.getElem_toArray, List.getElem_cons_zero, List.getElem_cons_succ]
                refine wpAnyH_take (i := 15) (v := ?vl15) rfl (by kernel_rfl) (by kernel_rfl) (by kernel_rfl) (fun _ _ _ h => h) (Or.inl ⟨by rfl, ?yl15⟩) (by assumption) ?rl15
                case yl15 => (intro w hSw; (try dsimp only at hSw); go_simp; try with_reducible rfl)
                try simp only [Act.put, List.setIfInBounds_toArray, List.set_cons_zero, List.set_cons_succ, List.getElem_toArray, List.getElem_cons_zero, List.getElem_cons_succ]
                refine wpAnyH_take (i := 16) (v := ?vl16) rfl (by kernel_rfl) (by kernel_rfl) (by kernel_rfl) (fun _ _ _ h => h) (Or.inl ⟨by rfl, ?yl16⟩) (by assumption) ?rl16
                case yl16 => (intro w hSw; (try dsimp only at hSw); go_simp; try with_reducible rfl)
                try simp only [Act.put, List.setIfInBounds_toArray, List.set_cons_zero, List.set_cons_succ, List.getElem_toArray, List.getElem_cons_zero, List.getElem_cons_succ]
                refine wpAnyH_done (by kernel_rfl) ?_ _
                have HB10 := Lib.hid (bstep (bstep (bstep HB9.out HBD.out) hb7) hb8)
                clear g0 g7 g8 hHeld hb7 hb8
                go_wp2
                go_roundw
                case rel => exact ⟨q + 1, by omega, by go_num, HB10.out⟩
                case measure => simp [intOf]; omega
            · obtain rfl : q = acc.length := by omega
              go_wp2
              go_ret
              exact ⟨rfl, bstep (bstep (bstep HB3.out HBEL.out) HB58.out) hbq⟩
        | some k =>
          obtain ⟨hk, hrd⟩ := nx_some hni
          obtain ⟨e1, e2, e3⟩ := nx_at hk hni
          rw [e1, e2, hni] at hnx
          have HCV := Lib.hid (cv_ready hrd)
          have HMX := Lib.hid (HAM.out _ (List.getElem_mem hk))
          have HVB := Lib.hid (HWR.out.2 _ (List.getElem_mem hk))
          have hpl := HPA.out _ (List.getElem_mem hk)
          have HNL : Hid ((acc.take k ++ acc.drop (k + 1)).length + 1 = acc.length) := Lib.hid (by rw [List.length_append, List.length_take, List.length_drop]; omega)
          have HNM : Hid (∀ y ∈ acc.take k ++ acc.drop (k + 1), y ∈ xs) := Lib.hid (fun y hy => by
            rw [List.mem_append] at hy
            rcases hy with hy | hy
            · exact HAM.out y (List.mem_of_mem_take hy)
            · exact HAM.out y (List.mem_of_mem_drop hy))
          have HOKD : Hid (okD (acc[k].1.key, acc[k].1.st) = true) := Lib.hid ((mq_inv HMAP.out).dep (List.mem_map.2 ⟨acc[k], HMX.out, rfl⟩))
          generalize acc.take k ++ acc.drop (k + 1) = nl at hnx HNL HNM
          generalize acc[k] = x at hnx HCV HVB hpl HOKD HMX
          clear e1 e2 e3 hrd
          obtain ⟨⟨xk, xv, xg, ⟨xn, xs'⟩, xp⟩, xa, xc⟩ := x
          dsimp only [wV, wcs, wvs, pw, Option.isSome_some] at hnx HCV HVB hpl HOKD
          have hxk : xk.size ≤ 9223372036854775807 := HVB.out.1.key
          clear hni
          go_wp2_with fail
          refine hnx.mono ?_
          rintro e w7 ⟨v7, rfl, ho7, hb7⟩
          obtain ⟨sa7, sc7, rfl⟩ := ho7.shape
          have HO7 := Lib.hid ho7
          have HB7 := Lib.hid hb7
          clear ho7 hb7 hnx
          go_upto_if 60 with (fail)
          obtain ⟨w8, hw8⟩ : ∃ w8, w7.alloc (.cells #[.string xk, .string xv, .bool xg, .int .i64 xn, .int .i64 xs', .slice xa xp.length xc] 27) = w8 := ⟨_, rfl⟩
          have HV8 := Lib.hid (VwP.new w7 ⟨xk, xv, xg, (xn, xs'), xp⟩ (.slice xa xp.length xc) 27)
          have HB78 := Lib.hid (balloc (Below.refl _ w7) (.cells #[.string xk, .string xv, .bool xg, .int .i64 xn, .int .i64 xs', .slice xa xp.length xc] 27))
          obtain ⟨PV, hPV⟩ : ∃ PV, PV = w7.heap.size := ⟨_, rfl⟩
          dsimp only [wvs] at HV8
          rw [hw8] at HV8 HB78
          rw [← hPV] at HV8
          try rw [hw8]
          try rw [← hPV]
          clear hw8 hPV
          have HB68 := Lib.hid (bstep HB7.out HB78.out)
          have HO8 := Lib.hid (OwnR.below HO7.out HB78.out)
          obtain ⟨c0, c1, c2, c3, c4, c5, _⟩ := id HV8.out
          dsimp only at c0 c3 c4
          have hon := refOnly_any (.slice xa xp.length xc) xp ra rc rs w8 hpl (by omega) ((HCX.out.below HB68.out).rng) (HVB.out.below HB68.out).1.at_
          have hol := onlyD_len rs xp
          generalize onlyD rs xp = os at hon hol HCV
          clear c1 c2
          go_wp2_with fail
          refine hon.mono ?_
          rintro e w9 ⟨v9, rfl, hd9, hb9⟩
          have HB89 := Lib.hid hb9
          have hcov := refCovers_any (.slice ha hs.length hc) v9 hs os w9 (by have := HSR.out.2; omega) (by omega) ((HCX.out.below (bstep HB68.out hb9)).at_) hd9
          rw [HCV.out] at hcov
          obtain ⟨oa, oc, rfl, _⟩ := hd9
          clear hon hb9 c0 c3 c4 c5
          go_wp2_with fail
          refine hcov.mono ?_
          rintro e w10 ⟨rfl, hb10⟩
          have HB810 := Lib.hid (bstep HB89.out hb10)
          have HB610 := Lib.hid (bstep HB68.out HB810.out)
          obtain ⟨c0, c1, c2, c3, c4, c5, _⟩ := HV8.out.keep HB810.out
          dsimp only at c0 c3 c4
          have hadd := refAddP_new (.slice ha hs.length hc) hs xk xn xs' w10 (by have := HSR.out.2; omega) hxk (HCX.out.below HB610.out).at_
          clear hb10 hcov c1 c2 c5
          go_wp2_with fail
          refine hadd.mono ?_
          rintro e w11 ⟨v11, rfl, hd11, _, hb11⟩
          obtain ⟨na, nc, rfl, _⟩ := id hd11
          have HD11 := Lib.hid hd11
          have HB611 := Lib.hid (bstep HB610.out hb11)
          have HO11 := Lib.hid (OwnR.below HO8.out (bstep HB810.out hb11))
          have HSL : Hid (w3.heap.size ≤ w6.heap.size) := Lib.hid (by have h1 := HBEL.out.size; have h2 := HBEL2.out.size; omega)
          have HA11 := Lib.hid (addR_len hs (xk, xn, xs'))
          have HS11 := Lib.hid (addR_srt HSR.out.1 (xk, xn, xs'))
          clear hd11 hb11 hadd
          go_wp2
          go_roundw
          case rel => exact ⟨s + 1, nl, addR hs (xk, xn, xs'), by omega, by go_num, Lib.hid (by have h1 := HAL.out; have h2 := HNL.out; omega), HO11.out.mono HSL.out, HNM, HD11.out, Lib.hid ⟨HS11.out, by have h1 := HA11.out; have h2 := HSR.out.2; omega⟩, bstep HBEL2.out HB611.out⟩
          case measure => simp [intOf]; omega
end Go.Proofs.Ytfmedinhlmiaeaa
