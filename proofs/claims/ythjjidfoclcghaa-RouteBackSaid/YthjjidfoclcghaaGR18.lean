/- Texts of this proof, one behind the other: TreeRefPath, TreeHelp. -/
import Derived.Test.YthjjidfoclcghaaGR17
/- What archipelagoref08's Path and Far answer. -/
namespace Go.Proofs.Ythjjidfoclcghaa
open Go.RowKit
set_option linter.unusedVariables false
set_option linter.unusedSimpArgs false

theorem RowIn.take8 {w : World} {a : Option Addr} {l : List Int} (h : RowIn KI w a l) (k : Nat) : RowIn KI w a (l.take k) := by
  intro i hi
  have hi' : i < l.length := by simp at hi; omega
  obtain ⟨b, off, e, hlt, hc⟩ := h i hi'
  refine ⟨b, off, e, hlt, fun j u hu => hc j u ?_⟩
  rw [List.getElem_take] at hu
  exact hu
theorem ln_take (l : List Nat) (k : Nat) : Tm.ln (l.take k) = (Tm.ln l).take k := by simp [Tm.ln, List.map_take]
namespace Tm
theorem found_way {p : List Int} {x y i k : Nat} (hi : i < (U p x).length) (hk : k < (U p y).length) (h1 : ∀ j (hj : j < (U p x).length), j < i → (U p x)[j] ∉ U p y) (h2 : ∀ j (hj : j < (U p y).length), j < k → (U p y)[j] ≠ (U p x)[i]) (e : (U p x)[i] = (U p y)[k]) :
    way p x y = (U p x).take (i + 1) ++ ((U p y).take k).reverse := by
  have e1 : U p x = (U p x).take i ++ (U p x)[i] :: (U p x).drop (i + 1) := by rw [← List.drop_eq_getElem_cons hi, List.take_append_drop]
  have e2 : U p y = (U p y).take k ++ (U p x)[i] :: (U p y).drop (k + 1) := by rw [e, ← List.drop_eq_getElem_cons hk, List.take_append_drop]
  have h := way_of e1 e2 (fun z hz => by
    obtain ⟨j, hj, rfl⟩ := List.mem_take_iff_getElem.1 hz
    exact h1 j (by omega) (by omega)) (fun hz => by
    obtain ⟨j, hj, e3⟩ := List.mem_take_iff_getElem.1 hz
    exact h2 j (by omega) (by omega) e3)
  rw [h, List.take_succ_eq_append_getElem hi, List.append_assoc]
  rfl
theorem found_none {p : List Int} (h : Tr p) {x y : Nat} (hx : x < p.length) (hy : y < p.length) (h1 : ∀ j (hj : j < (U p x).length), (U p x)[j] ∉ U p y) : False := by
  obtain ⟨A, s, S, B, e1, e2, _⟩ := h.meet hx hy
  have hs : s ∈ U p x := by rw [e1]; simp
  obtain ⟨j, hj, e⟩ := List.getElem_of_mem hs
  refine h1 j hj ?_
  rw [e, e2]
  simp
theorem back_step (l : List Nat) (m k : Nat) (hk : k ≤ l.length) (hm : m < k) (hm2 : m < l.length) : ((l.take k).drop m).reverse = ((l.take k).drop (m + 1)).reverse ++ [l[m]] := by
  rw [List.drop_eq_getElem_cons (by simp; omega), List.reverse_cons, List.getElem_take]
end Tm

set_option maxRecDepth 100000 in
set_option maxHeartbeats 6400000 in
theorem refPath_any (p : List Int) (a : Option Addr) (cap : Nat) (s t : Int) (w : World) (hl : p.length ≤ 9223372036854775807) (hr : RowIn KI w a p) :
    Calls Try.prog 30 #[.slice a p.length cap, .int .i64 s, .int .i64 t] w fun e w' => ∃ v, e = .returned v ∧ OwnR KI w' w.heap.size v (Tm.ln (Tm.pathI p s t)) ∧ Below w.heap.size w w' := by
  have hc1 := there_any p a cap s w hl hr
  have hc2 := there_any p a cap t w hl hr
  cases h1 : Tm.okS p s with
  | false =>
    have e : Tm.pathI p s t = [] := by unfold Tm.pathI; rw [h1]; rfl
    rw [e]
    rw [h1] at hc1
    generalize Tm.okS p t = b2 at hc2
    clear h1 e
    go_enter Try.func30, Try.ntmps30
    go_wp2_with fail
    refine hc1.mono ?_
    rintro e w' ⟨rfl, rfl⟩
    go_wp2_with fail
    refine hc2.mono ?_
    rintro e w' ⟨rfl, rfl⟩
    go_wp2
    go_ret
    exact ⟨_, rfl, OwnR.nil _ _ _, Below.refl _ _⟩
  | true =>
    rw [h1] at hc1
    cases h2 : Tm.okS p t with
    | false =>
      have e : Tm.pathI p s t = [] := by unfold Tm.pathI; rw [h2, Bool.and_false]; rfl
      rw [e]
      rw [h2] at hc2
      clear h1 h2 e
      go_enter Try.func30, Try.ntmps30
      go_wp2_with fail
      refine hc1.mono ?_
      rintro e w' ⟨rfl, rfl⟩
      go_wp2_with fail
      refine hc2.mono ?_
      rintro e w' ⟨rfl, rfl⟩
      go_wp2
      go_ret
      exact ⟨_, rfl, OwnR.nil _ _ _, Below.refl _ _⟩
    | true =>
      rw [h2] at hc2
      obtain ⟨ht, x, rfl, hx⟩ := Tm.okS_some h1
      obtain ⟨_, y, rfl, hy⟩ := Tm.okS_some h2
      rw [Tm.pathI_nat ((Tm.chkT_iff p).2 ht) hx hy]
      have hu1 := refUp_any p ht a cap x w hx hr
      have hu2 := fun (W : World) (hR : RowIn KI W a p) => refUp_any p ht a cap y W hy hR
      have hl1 := ht.U_len hx
      have hl2 := ht.U_len hy
      have h6 := ht.n6
      have HF : Hid (∀ i k (hi : i < (Tm.U p x).length) (hk : k < (Tm.U p y).length), (∀ j (hj : j < (Tm.U p x).length), j < i → (Tm.U p x)[j] ∉ Tm.U p y) → (∀ j (hj : j < (Tm.U p y).length), j < k → (Tm.U p y)[j] ≠ (Tm.U p x)[i]) → (Tm.U p x)[i] = (Tm.U p y)[k] → Tm.way p x y = (Tm.U p x).take (i + 1) ++ ((Tm.U p y).take k).reverse) := Lib.hid (fun i k hi hk => Tm.found_way hi hk)
      have HN : Hid ((∀ j (hj : j < (Tm.U p x).length), (Tm.U p x)[j] ∉ Tm.U p y) → False) := Lib.hid (Tm.found_none ht hx hy)
      generalize Tm.way p x y = R at HF ⊢
      generalize Tm.U p x = F at *
      generalize Tm.U p y = T at *
      have hF6 : F.length ≤ 6 := by omega
      have hT6 : T.length ≤ 6 := by omega
      have HR := Lib.hid hr
      clear h1 h2 ht hr hl1 hl2
      go_enter Try.func30, Try.ntmps30
      go_wp2_with fail
      refine hc1.mono ?_
      rintro e w' ⟨rfl, rfl⟩
      go_wp2_with fail
      refine hc2.mono ?_
      rintro e w' ⟨rfl, rfl⟩
      go_wp2_with fail
      refine hu1.mono ?_
      rintro e w1 ⟨v1, rfl, ho1, hb1⟩
      obtain ⟨fa, fc, rfl⟩ := ho1.shape
      obtain ⟨hfc1, hfc2, _⟩ := ho1.caps
      go_wp2_with fail
      refine (hu2 w1 (HR.out.below hb1)).mono ?_
      rintro e w2 ⟨v2, rfl, ho2, hb2⟩
      obtain ⟨ta, tc, rfl⟩ := ho2.shape
      have HRF := Lib.hid ((RowIn.of_own ki_ok ho1).below hb2)
      have HRT := Lib.hid (RowIn.of_own ki_ok ho2)
      have HB2 := Lib.hid (bstep hb1 hb2)
      have hlf : (Tm.ln F).length = F.length := Tm.ln_len F
      have hlt' : (Tm.ln T).length = T.length := Tm.ln_len T
      rw [hlf] at hfc1 ⊢
      rw [hlt']
      unfold maxLen at hfc2
      have HLF := Lib.hid hlf
      have HLT := Lib.hid hlt'
      clear ho1 ho2 hb1 hb2 hlf hlt' hc1 hc2 hu1 hu2
      go_wp2
      go_loopw [11] (fun i wr => ∃ k : Nat, k ≤ F.length ∧ i = .int .i64 k ∧ Hid (∀ j (hj : j < F.length), j < k → F[j] ∉ T) ∧ Below w2.heap.size w2 wr) (fun i _ => F.length - (intOf i).toNat)
      case atStart => exact ⟨0, by omega, rfl, Lib.hid (fun j _ h => by omega), Below.refl _ _⟩
      case round =>
        obtain ⟨i, hi, rfl, HA, hbel⟩ := hrel
        by_cases hif : i < F.length
        · have HFI := Lib.hid (fun k hk h2 he => HF.out i k hif hk HA.out h2 he)
          have HNI : Hid ((∀ j (hj : j < T.length), T[j] ≠ F[i]) → ∀ j (hj : j < F.length), j < i + 1 → F[j] ∉ T) := Lib.hid (fun h j hj hji => by
            by_cases e : j = i
            · subst e
              intro hm
              obtain ⟨q, hq, e2⟩ := List.getElem_of_mem hm
              exact h q hq e2
            · exact HA.out j hj (by omega))
          have HCI : Hid (∀ W, Below w2.heap.size w2 W → ∃ b off, fa = some ⟨b, off, none⟩ ∧ b < W.heap.size ∧ W.cell? ⟨b, off + i, none⟩ = some (.int .i64 (F[i] : Int))) := Lib.hid (fun W hW => by
            have h := (HRF.out.below hW).int i (by rw [HLF.out]; exact hif)
            rw [Tm.ln_get] at h
            exact h)
          generalize F[i] = f at HFI HNI HCI
          obtain ⟨wO, hwO⟩ : ∃ wO : World, wO = wr := ⟨wr, rfl⟩
          subst hwO
          have HBO := Lib.hid hbel
          go_wp2
          go_loopw [12] (fun i wr => ∃ k : Nat, k ≤ T.length ∧ i = .int .i64 k ∧ Hid (∀ j (hj : j < T.length), j < k → T[j] ≠ f) ∧ Below w2.heap.size w2 wr) (fun i _ => T.length - (intOf i).toNat)
          case atStart => exact ⟨0, by omega, rfl, Lib.hid (fun j _ h => by omega), HBO.out⟩
          case round =>
            obtain ⟨k, hk, rfl, HK, hbk⟩ := hrel
            by_cases hkt : k < T.length
            · obtain ⟨b0, off0, rfl, hbl0, c0⟩ := HCI.out wr hbk
              have c1' := (HRT.out.below hbk).int k (by rw [HLT.out]; exact hkt)
              rw [Tm.ln_get] at c1'
              obtain ⟨b3, off3, rfl, hbl3, c3⟩ := c1'
              have HFK := Lib.hid (fun he => HFI.out k hkt HK.out he)
              have HKN : Hid (T[k] ≠ f → ∀ j (hj : j < T.length), j < k + 1 → T[j] ≠ f) := Lib.hid (fun h j hj hjk => by
                by_cases e : j = k
                · subst e; exact h
                · exact HK.out j hj (by omega))
              generalize T[k] = g at c3 HFK HKN
              by_cases he : f = g
              · have hb3 : ((f : Int) != (g : Int)) = false := by simp [he]
                have hb4 : (f != g) = false := by simp [he]
                have HE := Lib.hid (HFK.out he)
                clear he
                go_wp2
                go_region
                all_goals
                  obtain ⟨FT, hFT⟩ : ∃ FT, FT = F.take (i + 1) := ⟨_, rfl⟩
                  rw [← hFT] at HE
                  have hfl : (Tm.ln FT).length = i + 1 := by rw [Tm.ln_len, hFT, List.length_take]; omega
                  have hrf : RowAt KI wr.drew (.slice (some ⟨b0, off0, none⟩) (i + 1) fc) (Tm.ln FT) := ⟨some ⟨b0, off0, none⟩, fc, by rw [hfl], by rw [hfl]; omega, by unfold maxLen; omega, (fun h => by cases h), by rw [hFT, ln_take]; exact ((HRF.out.below hbk).take8 (i + 1))⟩
                  have HRF2 := Lib.hid hrf
                  have HFL := Lib.hid hfl
                  have hfc3 : i + 1 ≤ fc := by omega
                  have hbs : w2.heap.size ≤ wr.drew.heap.size := hbk.drew.size
                  have HBK := Lib.hid hbk.drew
                  have hTk : Hid (∀ m, m < k → ∀ (hm : m < T.length), ((T.take k).drop m).reverse = ((T.take k).drop (m + 1)).reverse ++ [T[m]]) := Lib.hid (fun m hm hm2 => Tm.back_step T m k hk hm hm2)
                  have hTl : Hid (∀ m, (((T.take k).drop m).reverse).length ≤ 6) := Lib.hid (fun m => by simp; omega)
                  have hT0 : Hid (((T.take k).drop k).reverse = []) := Lib.hid (by simp)
                  have hTz : Hid (((T.take k).drop 0).reverse = (T.take k).reverse) := Lib.hid rfl
                  clear hFT hrf hfl c0 c3
                  generalize wr.drew = wd at *
                  go_wp2_with (at_builtin; refine wp_appI rfl _ _ rfl w2.heap.size (.slice none 0 0) (.slice (some ⟨b0, off0, none⟩) (i + 1) fc) [] (Tm.ln FT) rfl (OwnR.nil KI _ _) rfl HRF2.out (by rw [HFL.out]; simp; omega) hbs ?_; intro v' w4 ho4 hb4 hk4; rw [List.nil_append] at ho4; obtain ⟨sa, sc, rfl⟩ := ho4.shape)
                  go_loopw [13, 14] (fun o j wr => ∃ (m : Nat) (j' : Int), m ≤ k ∧ j = .int .i64 j' ∧ Hid (j' + 1 = (m : Int)) ∧ OwnR KI wr w2.heap.size o (Tm.ln (FT ++ ((T.take k).drop m).reverse)) ∧ Below w2.heap.size w2 wr) (fun _ j _ => (intOf j + 1).toNat)
                  case atStart => exact ⟨k, (k : Int) - 1, by omega, rfl, Lib.hid (by omega), by rw [hT0.out, List.append_nil]; exact ho4, HBK.out.trans hb4⟩
                  case round =>
                    obtain ⟨m, j', hm, rfl, HJ, ho, hbel3⟩ := hrel
                    obtain ⟨sa3, sc3, rfl⟩ := ho.shape
                    have hlo : (Tm.ln (FT ++ ((T.take k).drop m).reverse)).length ≤ 20 := by
                      have h1 := hTl.out m
                      have h2 := HFL.out
                      rw [Tm.ln_app, List.length_append, h2, Tm.ln_len]
                      omega
                    have HO := Lib.hid ho
                    clear ho
                    cases m with
                    | zero =>
                      obtain rfl : j' = -1 := by have := HJ.out; omega
                      go_wp2
                      go_ret
                      exact ⟨_, rfl, by rw [HE]; exact (HO.out).mono HB2.out.size, HB2.out.trans (hbel3.mono HB2.out.size)⟩
                    | succ m =>
                      obtain rfl : j' = (m : Int) := by have := HJ.out; omega
                      have hmT : m < T.length := by omega
                      have c3' := (HRT.out.below hbel3).int m (by rw [HLT.out]; exact hmT)
                      rw [Tm.ln_get] at c3'
                      obtain ⟨b5, off5, e5, hbl5, c5⟩ := c3'
                      cases e5
                      have HST := Lib.hid (hTk.out m (by omega) hmT)
                      have hbs3 : w2.heap.size ≤ wr.heap.size := hbel3.size
                      generalize T[m] = g5 at c5 HST
                      go_wp2_with (at_builtin; refine wp_pushR ki_ok (wr := wr) rfl _ _ rfl w2.heap.size (.slice sa3 (Tm.ln (FT ++ ((T.take k).drop (m + 1)).reverse)).length sc3) (Tm.ln (FT ++ ((T.take k).drop (m + 1)).reverse)) (g5 : Int) #[.int .i64 (g5 : Int)] rfl rfl HO.out rfl (by omega) hbs3 ?_; intro g6 cap6 w6 ho6 hb6 hk6 hat6 hlt6)
                      go_roundw
                      case rel => exact ⟨m, (m : Int) - 1, by omega, by first | rfl | go_num, Lib.hid (by omega), by rw [HST.out, ← List.append_assoc, Tm.ln_app _ [g5]]; exact ho6, hbel3.trans hb6⟩
                      case measure => simp [intOf]
              · have hb3 : ((f : Int) != (g : Int)) = true := by simpa using (show ¬ (f : Int) = g by omega)
                have hb4 : (f != g) = true := by simpa using he
                have HE := Lib.hid (HKN.out (fun e => he e.symm))
                clear he
                go_wp2
                go_region
                all_goals
                  go_wp2
                  go_roundw
                  case rel => exact ⟨k + 1, by omega, by go_num, HE, hbk.drew⟩
                  case measure => simp [intOf]; omega
            · obtain rfl : k = T.length := by omega
              have HE := Lib.hid (HNI.out (fun j hj => HK.out j hj hj))
              go_wp2
              go_roundw
              case rel => exact ⟨i + 1, by omega, by go_num, HE, hbk⟩
              case measure => simp [intOf]; omega
        · exact (HN.out (fun j hj => HA.out j hj (by omega))).elim

end Go.Proofs.Ythjjidfoclcghaa
/- The document's Side; what the laws' own helpers awake, few and made answer. -/
namespace Go.Proofs.Ythjjidfoclcghaa
open Go.RowKit
set_option linter.unusedVariables false
set_option linter.unusedSimpArgs false

set_option maxRecDepth 100000 in
set_option maxHeartbeats 3200000 in
theorem refSide_any (p : List Int) (a : Option Addr) (cap : Nat) (s t : Int) (w : World) (hl : p.length ≤ 9223372036854775807) (hr : RowIn KI w a p) :
    Calls Try.prog 26 #[.slice a p.length cap, .int .i64 s, .int .i64 t] w fun e w' => e = .returned (.int .i64 (Tm.sideI p s t : Int)) ∧ Below w.heap.size w w' := by
  have hc1 := refTCheck_any p a cap w hl hr
  cases h1 : Tm.chkT p with
  | false =>
    have e : Tm.sideI p s t = 0 := by unfold Tm.sideI; rw [h1]; rfl
    rw [e]
    rw [h1] at hc1
    clear h1 e hr
    go_enter Try.func26, Try.ntmps26
    go_wp2_with fail
    refine hc1.mono ?_
    rintro e w' ⟨rfl, rfl⟩
    go_wp2
    go_ret
    exact ⟨rfl, Below.refl _ _⟩
  | true =>
    rw [h1] at hc1
    have h6 := ((Tm.chkT_iff p).1 h1).n6
    have HS : Hid (Tm.sumB (fun k => Tm.viaI p s t (k : Int)) p.length = Tm.sideI p s t) := Lib.hid (by unfold Tm.sideI; rw [h1]; rfl)
    have hpath := fun (k : Nat) (W : World) (hR : RowIn KI W a p) => refPath_any p a cap s (k : Int) W hl hR
    have HV1 : Hid (∀ k : Nat, (Tm.pathI p s (k : Int)).length < 2 → Tm.viaI p s t (k : Int) = false) := Lib.hid (fun k h => Tm.viaI_short h)
    have HV2 : Hid (∀ (k : Nat) (h : 1 < (Tm.pathI p s (k : Int)).length), Tm.viaI p s t (k : Int) = decide (((Tm.pathI p s (k : Int))[1] : Int) = t)) := Lib.hid (fun k h => Tm.viaI_at h)
    have HPL : Hid (∀ k : Nat, (Tm.pathI p s (k : Int)).length ≤ 6) := Lib.hid (fun k => Tm.pathI_len p s (k : Int))
    generalize Tm.sideI p s t = R at HS ⊢
    have HB : Hid (∀ k : Nat, k < p.length → Tm.sumB (fun k => Tm.viaI p s t (k : Int)) k < 2 ^ k) := Lib.hid (fun k _ => Tm.sumB_lt _ k)
    have HUP : Hid (∀ k : Nat, Tm.sumB (fun k => Tm.viaI p s t (k : Int)) (k + 1) = Tm.sumB (fun k => Tm.viaI p s t (k : Int)) k + if Tm.viaI p s t (k : Int) = true then 2 ^ k else 0) := Lib.hid (fun k => rfl)
    have HZ : Hid (Tm.sumB (fun k => Tm.viaI p s t (k : Int)) 0 = 0) := Lib.hid rfl
    generalize Tm.sumB (fun k => Tm.viaI p s t (k : Int)) = S at *
    have HR := Lib.hid hr
    clear hr h1
    go_enter Try.func26, Try.ntmps26
    go_wp2_with fail
    refine hc1.mono ?_
    rintro e w' ⟨rfl, rfl⟩
    go_wp2
    go_loopw [8, 9, 10] (fun o bt i wr => ∃ (k q z : Nat), k ≤ p.length ∧ i = .int .i64 k ∧ o = .int .i64 (q : Int) ∧ bt = .int .i64 (z : Int) ∧ Hid (z = 2 ^ k) ∧ z ≤ 64 ∧ q < z ∧ Hid (q = S k) ∧ Below w.heap.size w wr) (fun _ _ i _ => p.length - (intOf i).toNat)
    case atStart => exact ⟨0, 0, 1, by omega, rfl, rfl, rfl, Lib.hid rfl, by omega, by omega, Lib.hid HZ.out.symm, Below.refl _ _⟩
    case round =>
      obtain ⟨k, q, z, hk, rfl, rfl, rfl, HZK, hz, hqz, HQ, hbel⟩ := hrel
      by_cases hlt : k < p.length
      · have hcon := hpath k wr (HR.out.below hbel)
        have hv1 := HV1.out k
        have hv2 := HV2.out k
        have hpl := HPL.out k
        have hup := HUP.out k
        have hz2 : z ≤ 32 := by
          rw [HZK.out]
          exact Nat.pow_le_pow_right (n := 2) (by omega) (show k ≤ 5 by omega)
        generalize Tm.viaI p s t (k : Int) = vb at hv1 hv2 hup
        generalize Tm.pathI p s (k : Int) = P at hv1 hv2 hpl hcon
        rw [← HZK.out] at hup
        have HZ2 : Hid (z * 2 = 2 ^ (k + 1)) := Lib.hid (by rw [HZK.out, Nat.pow_succ])
        have HV1' := Lib.hid hv1
        have HV2' := Lib.hid hv2
        have HUP' := Lib.hid hup
        clear hv1 hv2 hup
        go_wp2_with fail
        refine hcon.mono ?_
        rintro e w1 ⟨v1, rfl, ho1, hbl1⟩
        obtain ⟨va, vc, rfl⟩ := ho1.shape
        have hpl1 : (Tm.ln P).length = P.length := Tm.ln_len P
        have HC := Lib.hid (RowIn.of_own ki_ok ho1)
        have HLN := Lib.hid hpl1
        rw [hpl1]
        have HBB := Lib.hid (bstep hbel hbl1)
        clear ho1 hpl1 hcon hbl1
        by_cases hs : P.length < 2
        · have hsi : ¬ (1 : Int) < (P.length : Int) := by omega
          have HF := Lib.hid (HV1'.out hs)
          clear hs
          go_wp2
          go_roundw
          case rel => exact ⟨k + 1, q, z * 2, by omega, by go_num, rfl, by go_num, HZ2, by omega, by omega, Lib.hid (by rw [HUP'.out, HF.out, HQ.out]; rfl), HBB.out⟩
          case measure => simp [intOf]; omega
        · have hsi : (1 : Int) < (P.length : Int) := by omega
          have hP1 : 1 < P.length := by omega
          have HF := Lib.hid (HV2'.out hP1)
          have hc := HC.out.int 1 (by rw [HLN.out]; exact hP1)
          rw [Tm.ln_get] at hc
          obtain ⟨b0, off0, rfl, hbl0, c0⟩ := hc
          generalize P[1] = x at HF c0
          by_cases hx : (x : Int) = t
          · have hb : ((x : Int) == t) = true := by simp [hx]
            have HT : Hid (vb = true) := Lib.hid (by rw [HF.out]; simpa using hx)
            clear hx
            go_wp2
            go_roundw
            case rel => exact ⟨k + 1, q + z, z * 2, by omega, by go_num, by go_num, by go_num, HZ2, by omega, by omega, Lib.hid (by rw [HUP'.out, HT.out, HQ.out]; rfl), HBB.out⟩
            case measure => simp [intOf]; omega
          · have hb : ((x : Int) == t) = false := by simpa using hx
            have HT : Hid (vb = false) := Lib.hid (by rw [HF.out]; simpa using hx)
            clear hx
            go_wp2
            go_roundw
            case rel => exact ⟨k + 1, q, z * 2, by omega, by go_num, rfl, by go_num, HZ2, by omega, by omega, Lib.hid (by rw [HUP'.out, HT.out, HQ.out]; rfl), HBB.out⟩
            case measure => simp [intOf]; omega
      · obtain rfl : k = p.length := by omega
        go_wp2
        go_ret
        exact ⟨ret_int (by rw [HQ.out, HS.out]), hbel⟩

/-- A row of four that is built. -/
theorem ki_four (w : World) (x0 x1 x2 x3 : Int) : OwnR KI (w.alloc (.cells #[.int .i64 x0, .int .i64 x1, .int .i64 x2, .int .i64 x3] 3)) w.heap.size (.slice (some ⟨w.heap.size, 0, none⟩) 4 4) [x0, x1, x2, x3] :=
  ⟨by simp [rV, KI], .inr ⟨_, _, _, rfl, Nat.le_refl _, heap_alloc_new _ _, by simp, by simp [maxLen], by simp [KI], by simp [rV, KI]⟩⟩
theorem Tm.ex_path : Tm.pathI [-1, 0, 0, 1] 3 2 = [3, 1, 0, 2] := by decide +kernel
theorem Tm.ex_side : Tm.sideI [-1, 0, 0, 1] 0 1 = 10 := by decide +kernel
theorem Tm.ex_chk : Tm.chkT [-1, 0, 0, 1] = true := by decide +kernel
theorem Tm.ex_far : Tm.farI [-1, 0, 0, 1] 3 2 = 3 := by decide +kernel

end Go.Proofs.Ythjjidfoclcghaa
