/- What the document's Sound answers: walked. -/
import Derived.Test.YtfnfpanmbmkhmaaGN517
namespace Go.Proofs.Ytfnfpanmbmkhmaa
open Go.RowKit Go.Maps
set_option linter.unusedVariables false
set_option linter.unusedSimpArgs false

/-- Five cells behind a call that only makes memory. -/
theorem keep5 {W w1 : World} {b1 o1 b2 o2 b3 o3 b4 o4 b5 o5 : Nat} {x1 x2 x3 x4 x5 : Value} (hb : Below W.heap.size W w1)
    (h : W.cell? ⟨b1, o1, none⟩ = some x1 ∧ W.cell? ⟨b2, o2, none⟩ = some x2 ∧ W.cell? ⟨b3, o3, none⟩ = some x3 ∧ W.cell? ⟨b4, o4, none⟩ = some x4 ∧ W.cell? ⟨b5, o5, none⟩ = some x5) :
    w1.cell? ⟨b1, o1, none⟩ = some x1 ∧ w1.cell? ⟨b2, o2, none⟩ = some x2 ∧ w1.cell? ⟨b3, o3, none⟩ = some x3 ∧ w1.cell? ⟨b4, o4, none⟩ = some x4 ∧ w1.cell? ⟨b5, o5, none⟩ = some x5 :=
  ⟨kc hb h.1, kc hb h.2.1, kc hb h.2.2.1, kc hb h.2.2.2.1, kc hb h.2.2.2.2⟩

set_option maxRecDepth 100000 in
set_option maxHeartbeats 12800000 in
theorem refSound5_any (v : Value) (xs : List Vp) (w : World) (hx : xs.length ≤ 1000) (hok : ∀ x ∈ xs, VOk x.1) (h : VRow w v xs) :
    Calls Try.prog 21 #[v] w fun e w' => e = .returned (.bool (sndB xs)) ∧ Below w.heap.size w w' := by
  have heq : ∀ (w' : World) (n s m t : Int), (binOp .eql 24 (.agg #[.int .i64 n, .int .i64 s]) (.agg #[.int .i64 m, .int .i64 t])).run Try.prog w' = .ok (.bool (decide ((n, s) = (m, t)))) w' := eq_stamp
  have HR := Lib.hid h
  have HOK := Lib.hid hok
  obtain ⟨a, c, rfl, _, _⟩ := h.shape
  clear h hok
  go_enter Try.func21, Try.ntmps21
  go_wp2
  go_loopw [3] (fun i wr => ∃ k : Nat, k ≤ xs.length ∧ i = .int .i64 k ∧ (∀ j (hj : j < xs.length), j < k → goodB xs xs[j].1 j = true) ∧ Below w.heap.size w wr) (fun i _ => xs.length - (intOf i).toNat)
  case atStart => exact ⟨0, by omega, rfl, (fun j hj h => by omega), Below.refl _ _⟩
  case round =>
    obtain ⟨i, hk, rfl, hall, hbel⟩ := hrel
    have HA := Lib.hid hall
    clear hall
    by_cases hlt : i < xs.length
    · obtain ⟨b, off, rfl, hbl, ⟨c0, c1, c2, c3, c4, c5⟩, hdp⟩ := (HR.out.below hbel).at i hlt
      have hvk := HOK.out _ (List.getElem_mem hlt)
      have HF := Lib.hid (@snd_false xs i hlt)
      have HN : Hid (goodB xs xs[i].1 i = true → ∀ j (hj : j < xs.length), j < i + 1 → goodB xs xs[j].1 j = true) := Lib.hid (fun h q hq h2 => by
        by_cases e : q = i
        · subst e; exact h
        · exact HA.out q hq (by omega))
      obtain ⟨xi, hxi⟩ : ∃ xi, xs[i] = xi := ⟨_, rfl⟩
      have HXI := Lib.hid hxi
      rw [hxi] at c0 c1 c2 c3 c4 c5 hdp hvk HF HN
      have HG : Hid (goodB xs xi.1 i = (chkD xi.1.past && Sm.ok xi.1.st.1 xi.1.st.2 && clB xi.1.past (xs.map Prod.fst) && !lateB xi.1 && !twiceB xs xi.1 i)) := Lib.hid rfl
      rw [HG.out] at HF HN
      have hC1 := fun W hW => refPCheck_any (pu xi) xi.1.past W (by have := hvk.len; omega) hvk.srt.szd hW
      have hC2 := fun W => refSCheck_any xi.1.st.1 xi.1.st.2 W
      have hC3 := fun W hW hV => refClosed5_any (pu xi) (.slice (some ⟨b, off, none⟩) xs.length c) xi.1.past xs W (by have := hvk.len; omega) hx HOK.out hW hV
      have hplen := hvk.len
      have HDP := Lib.hid hdp
      clear hxi hdp hvk HG
      obtain ⟨⟨key, val, gone, ⟨n1, s1⟩, past⟩, pa, pc⟩ := xi
      dsimp only [pu] at c0 c1 c2 c3 c4 c5 hC1 hC2 hC3 HDP HF HN hplen
      obtain ⟨vi, hvi⟩ : ∃ vi : Ve, (⟨key, val, gone, (n1, s1), past⟩ : Ve) = vi := ⟨_, rfl⟩
      have HVI := Lib.hid hvi
      rw [hvi] at HF HN
      clear hvi
      generalize chkD past = b1 at hC1 HF HN
      generalize Sm.ok n1 s1 = b2 at hC2 HF HN
      generalize clB past (xs.map Prod.fst) = b3 at hC3 HF HN
      have HC2 := Lib.hid hC2
      have HC3 := Lib.hid hC3
      clear hC2 hC3
      have hii : (i : Int) < (xs.length : Int) := by omega
      have hii0 : (0 : Int) ≤ (i : Int) := by omega
      go_wp2_with fail
      refine (hC1 _ HDP.out).mono ?_
      rintro e w1 ⟨rfl, hb1⟩
      have c3 := kc hb1 c3
      have c4 := kc hb1 c4
      have c5 := kc hb1 c5
      have hbel1 := bstep hbel hb1
      have hC2 := HC2.out
      clear c0 c1 c2 hC1 hb1 hbel HDP
      go_wp2_with fail
      refine (hC2 _).mono ?_
      rintro e w2 ⟨rfl, hb2⟩
      have c5 := kc hb2 c5
      have hbel2 := bstep hbel1 hb2
      have HR2 := Lib.hid (HR.out.below hbel2)
      have HDP2 : Hid (DepAt w2 (.slice pa past.length pc) past) := Lib.hid (by
        obtain ⟨b', off', e', _, _, hd⟩ := HR2.out.at i hlt
        rw [HXI.out] at hd
        exact hd)
      have hC3 := HC3.out w2 HDP2.out HR2.out
      clear c3 c4 hC2 hb2 hbel1 HC2 HC3
      go_wp2_with fail
      refine hC3.mono ?_
      rintro e w3 ⟨rfl, hb3⟩
      have hbel3 := bstep hbel2 hb3
      clear c5 hC3 hb3 hbel2 HR2 HDP2
      cases b1 with
      | false =>
        go_wp2
        go_ret
        exact ⟨ret_bool (HF.out (by simp)).symm, hbel3⟩
      | true =>
        cases b2 with
        | false =>
          go_wp2
          go_ret
          exact ⟨ret_bool (HF.out (by simp)).symm, hbel3⟩
        | true =>
          cases b3 with
          | false =>
            go_wp2
            go_ret
            exact ⟨ret_bool (HF.out (by simp)).symm, hbel3⟩
          | true =>
            simp only [Bool.true_and] at HF HN
            have HAT : Hid (∀ W, Below w.heap.size w W → VerP W b (off + i * 6) ⟨key, val, gone, (n1, s1), past⟩ (.slice pa past.length pc) ∧ DepAt W (.slice pa past.length pc) past) := Lib.hid (fun W hW => by
              obtain ⟨b', off', e', _, hp, hd⟩ := (HR.out.below hW).at i hlt
              rw [HXI.out] at hd hp
              cases e'
              exact ⟨hp, hd⟩)
            have HLT : Hid (∀ k (h : k < past.length), (!Sm.less past[k].2 (n1, s1)) = true → lateB vi = true) := Lib.hid (fun k h h2 => by
              rw [← HVI.out]
              exact List.any_eq_true.2 ⟨past[k], List.getElem_mem h, h2⟩)
            have HLF : Hid ((∀ k (h : k < past.length), (!Sm.less past[k].2 (n1, s1)) = false) → lateB vi = false) := Lib.hid (fun h => by
              rw [← HVI.out]
              unfold lateB
              rw [List.any_eq_false]
              intro d hd
              obtain ⟨q, hq, rfl⟩ := List.getElem_of_mem hd
              simp [h q hq])
            obtain ⟨ca, cb, _, cd, ce, cf⟩ := (HAT.out w3 hbel3).1
            dsimp only at ca cb cd ce cf
            go_wp2
            go_loopw [7] (fun j wr => ∃ k : Nat, k ≤ past.length ∧ j = .int .i64 k ∧ (∀ q (hq : q < past.length), q < k → (!Sm.less past[q].2 (n1, s1)) = false) ∧ Below w.heap.size w wr) (fun j _ => past.length - (intOf j).toNat)
            case atStart => exact ⟨0, by omega, rfl, (fun q hq h => by omega), hbel3⟩
            case round =>
              obtain ⟨k, hk2, rfl, hall, hbel⟩ := hrel
              have HA2 := Lib.hid hall
              clear hall ca cb cd ce cf hbel3
              obtain ⟨⟨ca, cb, _, cd, ce, cf⟩, hdp⟩ := HAT.out wr hbel
              dsimp only at ca cb cd ce cf
              by_cases hkl : k < past.length
              · obtain ⟨a', c', e', _, _, _, hdi⟩ := hdp
                cases e'
                obtain ⟨b', off', rfl, hbl', d0, d1, d2⟩ := hdi k hkl
                have HL1 := Lib.hid (HLT.out k hkl)
                have HN2 : Hid ((!Sm.less past[k].2 (n1, s1)) = false → ∀ q (hq : q < past.length), q < k + 1 → (!Sm.less past[q].2 (n1, s1)) = false) := Lib.hid (fun h q hq h2 => by
                  by_cases e : q = k
                  · subst e; exact h
                  · exact HA2.out q hq (by omega))
                generalize past[k] = d at d0 d1 d2 HL1 HN2
                obtain ⟨dx, dy, dz⟩ := d
                dsimp only at d0 d1 d2 HL1 HN2
                have hLs := fun W' => refLess_any dy dz n1 s1 W'
                generalize Sm.less (dy, dz) (n1, s1) = ls at hLs HL1 HN2
                have g0 : wr.cell? ⟨b, off + i * 6 + 5, none⟩ = some (.slice (some ⟨b', off', none⟩) past.length pc) ∧ wr.cell? ⟨b', off' + k * 3 + 1, none⟩ = some (.int .i64 dy) ∧ wr.cell? ⟨b', off' + k * 3 + 2, none⟩ = some (.int .i64 dz) ∧ wr.cell? ⟨b, off + i * 6 + 3, none⟩ = some (.int .i64 n1) ∧ wr.cell? ⟨b, off + i * 6 + 4, none⟩ = some (.int .i64 s1) := ⟨cf, d1, d2, cd, ce⟩
                clear d0 d1 d2 ca cb cd ce hdi
                have hki : (k : Int) < (past.length : Int) := by omega
                have hki0 : (0 : Int) ≤ (k : Int) := by omega
                go_wp2_with fail
                go_region_held3 (fun w' => w'.cell? ⟨b, off + i * 6 + 5, none⟩ = some (.slice (some ⟨b', off', none⟩) past.length pc) ∧ w'.cell? ⟨b', off' + k * 3 + 1, none⟩ = some (.int .i64 dy) ∧ w'.cell? ⟨b', off' + k * 3 + 2, none⟩ = some (.int .i64 dz) ∧ w'.cell? ⟨b, off + i * 6 + 3, none⟩ = some (.int .i64 n1) ∧ w'.cell? ⟨b, off + i * 6 + 4, none⟩ = some (.int .i64 s1))
                  (first | exact g0 | exact g1)
                  (first
                    | (go_at_call 25; ((refine (hLs _).mono ?_); rintro e w9 ⟨rfl, h9⟩; have g1 := keep5 h9 g0)))
                have hb9 := bstep hbel (bstep ((Below.refl _ _).drew) h9)
                cases ls with
                | true =>
                  go_wp2
                  go_roundw
                  case rel => exact ⟨k + 1, by omega, by go_num, HN2.out rfl, hb9⟩
                  case measure => simp [intOf]; omega
                | false =>
                  go_wp2
                  go_ret
                  exact ⟨ret_bool (HF.out (by rw [HL1.out rfl]; rfl)).symm, hb9⟩
              · obtain rfl : k = past.length := by omega
                have HLA := Lib.hid (HLF.out (fun q hq => HA2.out q hq hq))
                rw [HLA.out] at HF HN
                simp only [Bool.not_false, Bool.true_and] at HF HN
                have HTW : Hid (∀ k (h : k < xs.length), k < i → decide (xs[k].1.key = vi.key ∧ xs[k].1.st = vi.st) = true → twiceB xs vi i = true) := Lib.hid (fun k h h1 h2 => by
                  exact List.any_eq_true.2 ⟨xs[k], by rw [List.mem_take_iff_getElem]; exact ⟨k, by omega, rfl⟩, h2⟩)
                have HTF : Hid ((∀ k (h : k < xs.length), k < i → decide (xs[k].1.key = vi.key ∧ xs[k].1.st = vi.st) = false) → twiceB xs vi i = false) := Lib.hid (fun h => by
                  unfold twiceB
                  rw [List.any_eq_false]
                  intro x hx
                  obtain ⟨j, hj, rfl⟩ := List.getElem_of_mem hx
                  rw [List.getElem_take]
                  have hj' : j < i := by simp at hj; omega
                  rw [h j (by omega) hj']
                  simp)
                rw [← HVI.out] at HTW HTF
                dsimp only at HTW HTF
                clear hdp
                go_wp2
                go_loopw [8] (fun j wr => ∃ k : Nat, k ≤ i ∧ j = .int .i64 k ∧ (∀ q (hq : q < xs.length), q < k → decide (xs[q].1.key = key ∧ xs[q].1.st = (n1, s1)) = false) ∧ Below w.heap.size w wr) (fun j _ => i - (intOf j).toNat)
                case atStart => exact ⟨0, by omega, rfl, (fun q hq h => by omega), hbel⟩
                case round =>
                  clear ca cb cd ce cf hbel
                  obtain ⟨k, hk3, rfl, hall, hbel⟩ := hrel
                  have HA3 := Lib.hid hall
                  clear hall
                  obtain ⟨⟨ca, cb, _, cd, ce, cf⟩, _⟩ := HAT.out wr hbel
                  dsimp only at ca cb cd ce cf
                  by_cases hkl : k < i
                  · obtain ⟨b', off', e', _, ⟨f0, f1, f2, f3, f4, f5⟩, _⟩ := (HR.out.below hbel).at k (by omega)
                    cases e'
                    have HT1 := Lib.hid (HTW.out k (by omega) hkl)
                    have HN3 : Hid (decide ((xs[k]'(by omega)).1.key = key ∧ (xs[k]'(by omega)).1.st = (n1, s1)) = false → ∀ q (hq : q < xs.length), q < k + 1 → decide (xs[q].1.key = key ∧ xs[q].1.st = (n1, s1)) = false) := Lib.hid (fun h q hq h2 => by
                      by_cases e : q = k
                      · subst e; exact h
                      · exact HA3.out q hq (by omega))
                    generalize (xs[k]'(by omega)) = x at f0 f1 f2 f3 f4 f5 HT1 HN3
                    obtain ⟨⟨key2, val2, gone2, ⟨n2, s2⟩, past2⟩, pa2, pc2⟩ := x
                    dsimp only at f0 f1 f2 f3 f4 f5 HT1 HN3
                    have hki : (k : Int) < (xs.length : Int) := by omega
                    have hki0 : (0 : Int) ≤ (k : Int) := by omega
                    have hki1 : (k : Int) < (i : Int) := by omega
                    have HKE := Lib.hid (keyeq key2 key)
                    clear f1 f2 f5 cb cf
                    cases hq : (key2.toList == key.toList) with
                    | false =>
                      have hq' : ¬ key2.toList = key.toList := by simpa using hq
                      go_wp2_with fail
                      go_quiet (fail)
                      go_wp2
                      go_roundw
                      case rel => exact ⟨k + 1, by omega, by go_num, HN3.out (by rw [decide_eq_false_iff_not]; exact fun h => hq' (by simpa using HKE.out.1 h.1)), bstep hbel (bdrewN _ _)⟩
                      case measure => simp [intOf]; omega
                    | true =>
                      have hq' : key2.toList = key.toList := by simpa using hq
                      have heq1 := fun w' => heq w' n2 s2 n1 s1
                      generalize hst : decide (((n2, s2) : Int × Int) = (n1, s1)) = st at heq1
                      have HST := Lib.hid hst
                      clear hst heq
                      cases st with
                      | false =>
                        go_wp2_with fail
                        go_quiet (fail)
                        go_wp2
                        go_roundw
                        case rel => exact ⟨k + 1, by omega, by go_num, HN3.out (by rw [decide_eq_false_iff_not]; exact fun h => of_decide_eq_false HST.out h.2), bstep hbel (bdrewN _ _)⟩
                        case measure => simp [intOf]; omega
                      | true =>
                        have HT2 := Lib.hid (HT1.out (decide_eq_true ⟨HKE.out.2 hq, of_decide_eq_true HST.out⟩))
                        go_wp2_with fail
                        go_quiet (fail)
                        go_wp2
                        go_ret
                        exact ⟨ret_bool (HF.out (by rw [HVI.out] at HT2; rw [HT2.out]; rfl)).symm, bstep hbel (bdrewN _ _)⟩
                  · obtain rfl : k = i := by omega
                    have HT3 := Lib.hid (HTF.out (fun q hq h => HA3.out q hq h))
                    go_wp2
                    go_roundw
                    case rel => exact ⟨k + 1, by omega, by go_num, HN.out (by rw [HVI.out] at HT3; rw [HT3.out]; rfl), hbel⟩
                    case measure => simp [intOf]; omega
    · obtain rfl : i = xs.length := by omega
      go_wp2
      go_ret
      exact ⟨ret_bool ((snd_iff xs).2 (fun j hj => HA.out j hj hj)).symm, hbel⟩
end Go.Proofs.Ytfnfpanmbmkhmaa
