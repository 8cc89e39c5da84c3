/- ShardOrder, walked. -/
import Derived.Test.YtjfmgplhcinkfaaGS28
import Derived.Test.YtjfmgplhcinkfaaShTwo
import Derived.Deep.RegionHeld3
import Derived.Deep.DeepCutAuto
namespace Go.Proofs.Ytjfmgplhcinkfaa
open Go.RowKit Go.Shelf
set_option linter.unusedVariables false
set_option linter.unusedSimpArgs false

set_option maxRecDepth 100000 in
set_option maxHeartbeats 6400000 in
theorem walkShardOrder (w : World) (a : Option Addr) (len cap : Nat) (zs : List Int) (h0 : IsRow .i64 w a len cap zs) :
    Calls Try.prog 7 #[.slice a len cap] w fun e w' => e = .returned (.bool true) ∧ Below w.heap.size w w' := by
  obtain ⟨l, rfl, hrow, _⟩ := isRow_rowT h0
  have HR := Lib.hid hrow
  obtain ⟨_, _, _, hl1, hl2, _⟩ := id hrow
  have hlm : l.length ≤ 9223372036854775807 := by unfold maxLen at hl2; omega
  clear hrow h0 hl1 hl2
  go_enter Try.func7, Try.ntmps7
  go_wp2_with fail
  refine (awake13_any _).mono ?_
  rintro e w1 ⟨rfl, hb1⟩
  have HB1 := Lib.hid hb1
  clear hb1
  go_wp2_with fail
  refine (ranges13_any 0 _).mono ?_
  rintro e w2 ⟨v2, rfl, ho2, hb2⟩
  have HB2 := Lib.hid (bstep HB1.out hb2)
  have hnew := snew_any v2 (rngsOf 0) w2 (by have := rngsOf_len 0; omega) (RowAt.of_own kr_ok ho2)
  obtain ⟨ra, rc, rfl⟩ := ho2.shape
  clear ho2 hb2
  go_wp2_with fail
  refine hnew.mono ?_
  rintro e w3 ⟨b1, S1, rfl, hsd1, hS1, hb3⟩
  have HB3 := Lib.hid (bstep HB2.out hb3)
  have HSD1 := Lib.hid hsd1
  have HSS1 : Hid (∀ j, S1 j → w.heap.size ≤ j) := Lib.hid (fun j hj => by have := hS1 j hj; have := HB2.out.size; omega)
  clear hsd1 hS1 hb3 hnew
  go_wp2_with fail
  refine (ranges13_any 0 _).mono ?_
  rintro e w4 ⟨v4, rfl, ho4, hb4⟩
  have hnew := snew_any v4 (rngsOf 0) w4 (by have := rngsOf_len 0; omega) (RowAt.of_own kr_ok ho4)
  obtain ⟨ra4, rc4, rfl⟩ := ho4.shape
  have HB4 := Lib.hid hb4
  clear ho4 hb4
  go_wp2_with fail
  refine hnew.mono ?_
  rintro e w5 ⟨b2, S2, rfl, hsd2, hS2, hb5⟩
  have HTW : Hid (TwoS w5 w.heap.size b1 b2 (rngsOf 0) (fun _ => []) (fun _ => []) 0) := Lib.hid (TwoS.made HSD1.out HSS1.out (bstep HB4.out hb5) hsd2 hS2 HB4.out.size (by have := HB3.out.size; have := HB4.out.size; omega))
  have HB5 := Lib.hid (bstep HB3.out (bstep HB4.out hb5))
  have HOWN := Lib.hid owns_all
  have HRL : Hid ((rngsOf 0).length ≤ 100) := Lib.hid (by have := rngsOf_len 0; omega)
  clear hsd2 hS2 hb5 hnew HSD1 HSS1 HB4
  generalize rngsOf 0 = R at HTW HOWN HRL
  obtain ⟨N, hN⟩ : ∃ N, N = min l.length 20 := ⟨_, rfl⟩
  have HN : Hid (N ≤ l.length ∧ N ≤ 20) := Lib.hid (by rw [hN]; exact ⟨Nat.min_le_left _ _, Nat.min_le_right _ _⟩)
  go_upto_if 25 with (fail)
  go_cut [6] (fun s6 wx => s6 = .int .i64 (N : Int) ∧ wx = w5)
  case first =>
    by_cases h20 : 20 < l.length
    · have h20i : (20 : Int) < (l.length : Int) := by omega
      obtain rfl : N = 20 := by omega
      clear hN
      go_wp2
      go_meet
      exact ⟨rfl, rfl⟩
    · have h20i : ¬ (20 : Int) < (l.length : Int) := by omega
      obtain rfl : N = l.length := by omega
      clear hN h20
      go_wp2
      go_meet
      exact ⟨rfl, rfl⟩
  case rest =>
    obtain ⟨rfl, rfl⟩ := hcut
    obtain ⟨w5, hw5⟩ : ∃ w5, w5 = wc := ⟨_, rfl⟩
    subst hw5
    clear hN
    have hn20 : N ≤ 20 := HN.out.2
    go_wp2
    go_loopw [7] (fun i wr => ∃ k : Nat, k ≤ N ∧ i = .int .i64 k ∧ (∃ F1 F2, TwoS wr w.heap.size b1 b2 R F1 F2 (2 * k) ∧ OrdF l (fun i => i < k) F1 ∧ OrdF l (fun i => N - k ≤ i ∧ i < N) F2 ∧ (∀ d, (F1 d).length ≤ k) ∧ (∀ d, (F2 d).length ≤ k)) ∧ Below w.heap.size w wr) (fun i _ => N - (intOf i).toNat)
    case atStart => exact ⟨0, by omega, rfl, ⟨_, _, HTW.out, by
      have h := OrdF.none l
      have e : (fun i => i < 0) = fun _ => False := by funext i; exact propext ⟨fun h => by omega, fun h => h.elim⟩
      rw [e]
      exact h, by
      have h := OrdF.none l
      have e : (fun i => N - 0 ≤ i ∧ i < N) = fun _ => False := by funext i; exact propext ⟨fun h => by omega, fun h => h.elim⟩
      rw [e]
      exact h, by simp, by simp⟩, HB5.out⟩
    case round =>
      obtain ⟨k, hkN, rfl, ⟨F1, F2, htw, ho1, ho2, hf1, hf2⟩, hbel⟩ := hrel
      have HT := Lib.hid htw
      have HO1 := Lib.hid ho1
      have HO2 := Lib.hid ho2
      have HF1 := Lib.hid hf1
      have HF2 := Lib.hid hf2
      have HBW := Lib.hid hbel
      clear htw ho1 ho2 hf1 hf2 hbel HTW
      by_cases hlt : k < N
      · have hki : (k : Int) < (N : Int) := by omega
        have hkl : k < l.length := by have := HN.out.1; omega
        obtain ⟨M, hM⟩ : ∃ M, M = N - 1 - k := ⟨_, rfl⟩
        have hml : M < l.length := by have := HN.out.1; omega
        obtain ⟨q1, q2⟩ := HO1.out.put (j := k) (by omega) (by omega) HOWN.out
        obtain ⟨q3, q4⟩ := HO2.out.put (j := M) (by omega) (by omega) HOWN.out
        have e1 : (fun i => i < k ∨ i = k) = fun i => i < k + 1 := by funext i; exact propext ⟨fun h => by omega, fun h => by omega⟩
        have e2 : (fun i => (N - k ≤ i ∧ i < N) ∨ i = M) = fun i => N - (k + 1) ≤ i ∧ i < N := by funext i; exact propext ⟨fun h => by omega, fun h => by omega⟩
        rw [e1] at q2
        rw [e2] at q4
        have HQ2 := Lib.hid q2
        have HQ4 := Lib.hid q4
        have HL1 := Lib.hid (putF_len R F1 (ordE l k) HF1.out)
        have HL2 := Lib.hid (putF_len R F2 (ordE l M) HF2.out)
        have HTB := HBW.out
        obtain ⟨a', c', e', _, _, _, hri⟩ := HR.out.below HTB
        cases e'
        obtain ⟨ab, aoff, rfl, hbl, hc1⟩ := RowIn.int hri k hkl
        obtain ⟨ab', aoff', e', _, hc2⟩ := RowIn.int hri M hml
        cases e'
        have hg1 : l.getD k 0 = l[k] := by rw [List.getD_eq_getElem?_getD, List.getElem?_eq_getElem hkl]; rfl
        have hg2 : l.getD M 0 = l[M] := by rw [List.getD_eq_getElem?_getD, List.getElem?_eq_getElem hml]; rfl
        have hx1 : ordE l k = verK (wordK l[k]) (1 + (k : Int), 0) ⟨#[]⟩ := by unfold ordE; rw [hg1]
        have hx2 : ordE l M = verK (wordK l[M]) (1 + (M : Int), 0) ⟨#[]⟩ := by unfold ordE; rw [hg2]
        have hp1 := fun W (h : Below wr.heap.size wr W) => tput_any (HT.out.below h) (by have := HBW.out.size; have := h.size; omega) HRL.out (by omega) (ordE l k) (by have := HF1.out (ordE l k).1.key; omega) (ordE_bd l k (by omega)) rfl HO2.out.past
        rw [q1] at hp1
        have hp2 := fun W F (h : TwoS W w.heap.size b1 b2 R F F2 (2 * k + 1)) (hpa : ∀ d, ∀ y ∈ F d, y.1.past = []) (hs : w.heap.size ≤ W.heap.size) => tput_any h.swap hs HRL.out (by omega) (ordE l M) (by have := HF2.out (ordE l M).1.key; omega) (ordE_bd l M (by omega)) rfl hpa
        rw [q3] at hp2
        generalize putF R F1 (ordE l k) = G1 at HQ2 HL1 hp1
        generalize putF R F2 (ordE l M) = G2 at HQ4 HL2 hp2
        rw [hx1] at hp1
        rw [hx2] at hp2
        have hw1 := fun W => word13_any l[k] W
        have hw2 := fun W => word13_any l[M] W
        generalize wordK l[k] = K1 at hw1 hp1
        generalize wordK l[M] = K2 at hw2 hp2
        generalize l[k] = z1 at hc1 hw1
        generalize l[M] = z2 at hc2 hw2
        have hv1 := fun W => ver13_any K1 (1 + (k : Int)) 0 W
        have hv2 := fun W => ver13_any K2 (1 + (M : Int)) 0 W
        unfold verK at hv1 hv2 hp1 hp2
        dsimp only [wV, wcs, wvs, pw, List.length_nil] at hv1 hv2 hp1 hp2
        have hs1 : IntKind.i64.wrap (1 + (k : Int)) = 1 + (k : Int) := IntWalk.i64_in _ (by omega)
        obtain ⟨N1, hN1⟩ : ∃ N1, N1 = N - 1 := ⟨_, rfl⟩
        have hs2 : IntKind.i64.wrap ((N : Int) - 1) = (N1 : Int) := by rw [IntWalk.i64_in _ (by omega)]; omega
        have hs3 : IntKind.i64.wrap ((N1 : Int) - (k : Int)) = (M : Int) := by rw [IntWalk.i64_in _ (by omega)]; omega
        have hs4 : IntKind.i64.wrap ((N : Int) - (k : Int)) = 1 + (M : Int) := by rw [IntWalk.i64_in _ (by omega)]; omega
        have hkli : (k : Int) < (l.length : Int) := by omega
        have hmli : (M : Int) < (l.length : Int) := by omega
        have HMM := Lib.hid (And.intro hM hN1)
        have HP1 := Lib.hid hp1
        have HP2 := Lib.hid hp2
        have HC2 := Lib.hid (And.intro hbl hc2)
        clear q1 q2 q3 q4 e1 e2 hri hg1 hg2 hx1 hx2 hp1 hp2 hM hN1 HTB HO1 HO2 HF1 HF2 hc2
        go_wp2_with fail
        refine (hw1 _).mono ?_
        rintro e w6 ⟨rfl, hb6⟩
        go_wp2_with fail
        refine (hv1 _).mono ?_
        rintro e w7 ⟨rfl, hb7⟩
        have hp := HP1.out _ (bstep hb6 hb7)
        have hb67 := bstep HBW.out (bstep hb6 hb7)
        have HC67 := Lib.hid (kc (bstep hb6 hb7) HC2.out.2)
        have HS7 : Hid (w.heap.size ≤ w7.heap.size) := Lib.hid hb67.size
        have HB67 := Lib.hid hb67
        have HAB : Hid (ab < w.heap.size) := Lib.hid (by
          obtain ⟨a', c', e', _, _, _, hri⟩ := HR.out
          cases e'
          obtain ⟨ab'', aoff'', e', h, _⟩ := RowIn.int hri k hkl
          cases e'
          exact h)
        clear hb6 hb7 hb67 hc1
        go_wp2_with fail
        refine hp.mono ?_
        rintro e w8 ⟨rfl, ht8, hb8⟩
        have HT8 := Lib.hid ht8
        have hc2 := (hb8.cell (p := ⟨ab, aoff + M, none⟩) HAB.out).trans HC67.out
        have HB8 := Lib.hid (HB67.out.trans hb8)
        clear ht8 hb8 hp
        go_wp2_with fail
        refine (hw2 _).mono ?_
        rintro e w9 ⟨rfl, hb9⟩
        go_wp2_with fail
        refine (hv2 _).mono ?_
        rintro e w10 ⟨rfl, hb10⟩
        have hp := HP2.out _ _ (HT8.out.below (bstep hb9 hb10)) HQ2.out.past (by have := HB8.out.size; have := hb9.size; have := hb10.size; omega)
        have HB10 := Lib.hid (bstep HB8.out (bstep hb9 hb10))
        clear hb9 hb10 hc2
        go_wp2_with fail
        refine hp.mono ?_
        rintro e w11 ⟨rfl, ht11, hb11⟩
        have HT11 := Lib.hid (TwoS.swap ht11)
        have HB11 := Lib.hid (HB10.out.trans hb11)
        clear ht11 hb11 hp hw1 hw2 hv1 hv2 hs1 hs2 hs3 hs4
        go_wp2
        go_roundw
        case rel => exact ⟨k + 1, by omega, by go_num, ⟨_, _, HT11.out.mono (by omega), HQ2.out, HQ4.out, HL1.out, HL2.out⟩, HB11.out⟩
        case measure => simp [intOf]; omega
      · obtain rfl : k = N := by omega
        have hki : ¬ (k : Int) < (k : Int) := by omega
        have e2 : (fun i => k - k ≤ i ∧ i < k) = fun i => i < k := by funext i; exact propext ⟨fun h => by omega, fun h => by omega⟩
        have ho2 := HO2.out
        rw [e2] at ho2
        have hF := HO1.out.same ho2 (fun i => Iff.rfl)
        have HBD := Lib.hid (HO1.out.bd (fun i h => by have := hn20; omega))
        have hT := HT.out
        rw [← hF] at hT
        have HT2 := Lib.hid hT
        clear ho2 e2 hT HT HO1 HO2 HF2 hF
        go_wp2
        obtain ⟨wl, hwl⟩ : ∃ wl, wl = wr := ⟨_, rfl⟩
        subst hwl
        go_loopw [8] (fun i wr => ∃ x : Nat, x ≤ 8 ∧ i = .int .i64 x ∧ Below wl.heap.size wl wr) (fun i _ => 8 - (intOf i).toNat)
        case atStart => exact ⟨0, by omega, rfl, Below.refl _ _⟩
        case round =>
          obtain ⟨x, hx, rfl, hbel⟩ := hrel
          have HBL := Lib.hid hbel
          clear hbel
          by_cases hx8 : x < 8
          · have hxi : (x : Int) < 8 := by omega
            have hwd := fun W => word13_any (x : Int) W
            have HKZ : Hid ((wordK (x : Int)).size ≤ maxLen) := Lib.hid (by rw [wordK_size]; unfold maxLen; omega)
            generalize wordK (x : Int) = K at hwd HKZ
            have hc1 := fun W (h : Below wl.heap.size wl W) => tchain_any (HT2.out.below h) K HKZ.out (by have := HF1.out K; omega)
            have hc2 := fun W (h : Below wl.heap.size wl W) => tchain_any (HT2.out.swap.below h) K HKZ.out (by have := HF1.out K; omega)
            go_wp2_with fail
            refine (hwd _).mono ?_
            rintro e w6 ⟨rfl, hb6⟩
            have h6 := bstep HBL.out hb6
            have hc := hc1 _ h6
            clear hb6
            go_wp2_with fail
            refine hc.mono ?_
            rintro e w7 ⟨v7, rfl, ho7, hb7⟩
            obtain ⟨a7, c7, rfl⟩ := ho7.shape
            have h7 := bstep h6 hb7
            clear hc h6 hc1
            go_wp2_with fail
            refine (hwd _).mono ?_
            rintro e w8 ⟨rfl, hb8⟩
            have h8 := bstep h7 hb8
            have hc := hc2 _ h8
            go_wp2_with fail
            refine hc.mono ?_
            rintro e w9 ⟨v9, rfl, ho9, hb9⟩
            obtain ⟨a9, c9, rfl⟩ := ho9.shape
            have hsm := rsame_any _ _ (F1 K) (F1 K) w9 (by have := HF1.out K; omega) (by have := HF1.out K; omega) (WRow.of_own (ho7.below (bstep hb8 hb9)) (HBD.out w9 K)) (WRow.of_own ho9 (HBD.out w9 K))
            rw [sameL_self] at hsm
            have H9 := Lib.hid (bstep h8 hb9)
            clear hc hc2 hwd h7 h8 hb7 hb8 hb9 ho7 ho9
            go_wp2_with fail
            refine hsm.mono ?_
            rintro e w10 ⟨rfl, hb10⟩
            have H10 := Lib.hid (bstep H9.out hb10)
            clear hb10 hsm
            go_wp2
            go_roundw
            case rel => exact ⟨x + 1, by omega, by go_num, H10.out⟩
            case measure => simp [intOf]; omega
          · obtain rfl : x = 8 := by omega
            have hh1 := thave_any (HT2.out.below HBL.out) (by omega) (fun d => by have := HF1.out d; omega)
            go_wp2_with fail
            refine hh1.mono ?_
            rintro e w6 ⟨v6, L1, hk1, hl1, rfl, ho6, hb6⟩
            have hh2 := thave_any (HT2.out.swap.below (bstep HBL.out hb6)) (by omega) (fun d => by have := HF1.out d; omega)
            have hd6 := DepAt.of_own ho6
            obtain ⟨a6, c6, rfl, _⟩ := id hd6
            clear hh1 ho6
            go_wp2_with fail
            refine hh2.mono ?_
            rintro e w7 ⟨v7, L2, hk2, hl2, rfl, ho7, hb7⟩
            obtain rfl := hk1.uniq hk2
            have hd7 := DepAt.of_own ho7
            have hsm := refPSame_any _ _ (haveL F1 L1) (haveL F1 L1) w7 (by rw [haveL_len]; omega) (hd6.below hb7) hd7
            obtain ⟨a7, c7, rfl, _⟩ := id hd7
            have hdd : decide (haveL F1 L1 = haveL F1 L1) = true := by simp
            rw [hdd] at hsm
            have H7 := Lib.hid (bstep HBW.out (bstep HBL.out (bstep hb6 hb7)))
            clear hh2 ho7 hk1 hk2 hb6 hb7 hd6 hd7 hdd
            go_wp2_with fail
            refine hsm.mono ?_
            rintro e w8 ⟨rfl, hb8⟩
            have H8 := Lib.hid (bstep H7.out hb8)
            clear hb8 hsm
            go_wp2
            go_ret
            exact ⟨rfl, H8.out⟩
end Go.Proofs.Ytjfmgplhcinkfaa
