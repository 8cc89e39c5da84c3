/- Texts of this proof, one behind the other: TreePath, TreeSide, RouteCode. -/
import Derived.Test.YthjjidfoclcghaaGR14
/- What tree.Path answers, its closure that calls itself, and Far. -/
namespace Go.Proofs.Ythjjidfoclcghaa
open Go.RowKit
set_option linter.unusedVariables false
set_option linter.unusedSimpArgs false

/-- What the closure holds. -/
structure Clo (w : World) (Bb Bp Bw : Nat) (a : Option Addr) (cap : Nat) (p : List Int) (b : Nat) : Prop where
  cb : w.cell? ⟨Bb, 0, none⟩ = some (.int .i64 (b : Int))
  cp : w.cell? ⟨Bp, 0, none⟩ = some (.slice a p.length cap)
  cw : w.cell? ⟨Bw, 0, none⟩ = some (.func (.func 59) #[] #[.pointer (some ⟨Bb, 0, none⟩), .pointer (some ⟨Bp, 0, none⟩), .pointer (some ⟨Bw, 0, none⟩)])
  hr : RowIn KI w a p
theorem Clo.keep {w w' : World} {Bb Bp Bw : Nat} {a : Option Addr} {cap : Nat} {p : List Int} {b : Nat} (h : Clo w Bb Bp Bw a cap p b) (hb : Below w.heap.size w w') : Clo w' Bb Bp Bw a cap p b :=
  ⟨kc hb h.cb, kc hb h.cp, kc hb h.cw, h.hr.below hb⟩
theorem ki_single (w : World) (x : Int) : OwnR KI (w.alloc (.cells #[.int .i64 x] 3)) w.heap.size (.slice (some ⟨w.heap.size, 0, none⟩) 1 1) [x] :=
  ⟨by simp [rV, KI], .inr ⟨_, _, _, rfl, Nat.le_refl _, heap_alloc_new _ _, by simp, by simp [maxLen], by simp [KI], by simp [rV, KI]⟩⟩
theorem concat2_any (B : Nat) (v1 v2 : Value) (x y : List Int) (w : World) (hx : x.length ≤ 1000) (hy : y.length ≤ 1000) (h1 : RowAt KI w v1 x) (h2 : RowAt KI w v2 y) (c1 : w.cell? ⟨B, 0, none⟩ = some v1) (c2 : w.cell? ⟨B, 1, none⟩ = some v2) :
    Calls Try.prog 60 #[.slice (some ⟨B, 0, none⟩) 2 2] w fun e w' => ∃ v', e = .returned v' ∧ OwnR KI w' w.heap.size v' (x ++ y) ∧ Below w.heap.size w w' := by
  have hr : RowsAtI w (some ⟨B, 0, none⟩) [x, y] := by
    refine ⟨[v1, v2], rfl, fun i hi => ?_, fun i hi hi' => ?_⟩
    · rcases (show i = 0 ∨ i = 1 by simp at hi; omega) with rfl | rfl
      · exact ⟨B, 0, rfl, lt_of_cellN c1, c1⟩
      · exact ⟨B, 0, rfl, lt_of_cellN c1, c2⟩
    · rcases (show i = 0 ∨ i = 1 by simp at hi; omega) with rfl | rfl
      · exact h1
      · exact h2
  have h := concatI_any (some ⟨B, 0, none⟩) 2 [x, y] w (by simp) (by simp [totI]; omega) hr
  have e : [x, y].flatten = x ++ y := by simp
  rw [e] at h
  exact h

set_option maxRecDepth 100000 in
set_option maxHeartbeats 3200000 in
theorem walk_any (p : List Int) (ht : Tm.Tr p) (a : Option Addr) (cap b : Nat) (hb : b < p.length) (Bb Bp Bw : Nat) : ∀ (f at' fr : Nat) (w : World), Tm.cntB p at' fr < f → at' < p.length → (fr = at' ∨ fr < p.length ∧ Tm.adj p fr at') → Clo w Bb Bp Bw a cap p b →
    Calls Try.prog 59 #[.int .i64 (at' : Int), .int .i64 (fr : Int), .pointer (some ⟨Bb, 0, none⟩), .pointer (some ⟨Bp, 0, none⟩), .pointer (some ⟨Bw, 0, none⟩)] w fun e w' => ∃ v, e = .returned v ∧ OwnR KI w' w.heap.size v (Tm.ln (Tm.goR p b at' fr)) ∧ Below w.heap.size w w' := by
  intro f
  induction f with
  | zero => intro at' fr w hf; omega
  | succ f ih =>
    intro at' fr w hf hat hfr hC
    by_cases he : at' = b
    · subst he
      rw [ht.go_here hat hfr]
      have hcb := hC.cb
      have hOW := ki_single w (at' : Int)
      have HOW := Lib.hid hOW
      clear hOW hC ih hfr hf
      go_enter Try.func59, Try.ntmps59
      go_wp2_with fail
      go_step3
      go_wp2_with fail
      try rw [Exit.noGoto_ret]
      go_ret
      exact ⟨_, rfl, HOW.out, balloc (Below.refl _ _) _⟩
    · have HHIT : Hid (∀ s, s < p.length → Tm.adj p at' s → s ≠ fr → Tm.goR p b s at' ≠ [] → Tm.goR p b at' fr = at' :: Tm.goR p b s at') := Lib.hid (fun s hs hsa hne hg => ht.go_hit hat hb hs hsa he hfr hne hg)
      have HNONE : Hid ((∀ s ∈ Tm.nearL p at', s ≠ fr → Tm.goR p b s at' = []) → Tm.goR p b at' fr = []) := Lib.hid (ht.go_none hat hb he hfr)
      have HIH : Hid (∀ s (W : World), s < p.length → Tm.adj p at' s → s ≠ fr → Clo W Bb Bp Bw a cap p b → Calls Try.prog 59 #[.int .i64 (s : Int), .int .i64 (at' : Int), .pointer (some ⟨Bb, 0, none⟩), .pointer (some ⟨Bp, 0, none⟩), .pointer (some ⟨Bw, 0, none⟩)] W fun e w' => ∃ v, e = .returned v ∧ OwnR KI w' W.heap.size v (Tm.ln (Tm.goR p b s at')) ∧ Below W.heap.size W w') := Lib.hid (fun s W hs hsa hne hCW => ih s at' W (by have := ht.cnt_lt hat hs hsa hfr hne; omega) hs (.inr ⟨hat, hsa⟩) hCW)
      have HLEN : Hid (∀ s, s < p.length → (Tm.goR p b s at').length ≤ 6) := Lib.hid (fun s hs => ht.go_len hs hb)
      have hN := tnear_any p a cap (at' : Int) w (by have := ht.n6; omega) hC.hr
      have eN : Tm.nearI p (at' : Int) = Tm.nearL p at' := by
        unfold Tm.nearI
        rw [Tm.okS_nat ((Tm.chkT_iff p).2 ht) hat, Int.toNat_natCast]
        rfl
      rw [eN] at hN
      have HMEM : Hid (∀ s ∈ Tm.nearL p at', s < p.length ∧ Tm.adj p at' s) := Lib.hid (fun s hs => Tm.nearL_mem.1 hs)
      have hnl : (Tm.nearL p at').length ≤ 6 := by
        have := Tm.nearK_len p at' p.length
        rw [Tm.nearK_all] at this
        have := ht.n6
        omega
      generalize Tm.nearL p at' = L at *
      generalize hG : Tm.goR p b at' fr = G at HHIT HNONE ⊢
      clear hG eN ih hfr hf ht
      have hcb := hC.cb
      have hcp := hC.cp
      have HC := Lib.hid hC
      have hb1 : ((at' : Int) == (b : Int)) = false := by simpa using (show ¬ (at' : Int) = b by omega)
      have hb2 : (at' == b) = false := by simpa using he
      clear hC he
      go_enter Try.func59, Try.ntmps59
      go_wp2_with fail
      go_step3
      go_wp2_with fail
      go_step3
      go_wp2_with fail
      refine hN.mono ?_
      rintro e w1 ⟨v1, rfl, ho1, hbl1⟩
      obtain ⟨va, vc, rfl⟩ := ho1.shape
      have HO1 := Lib.hid (RowIn.of_own ki_ok ho1)
      have HB1 := Lib.hid hbl1
      have hll : (Tm.ln L).length = L.length := Tm.ln_len L
      rw [hll]
      have HLL := Lib.hid hll
      clear ho1 hbl1 hN hll
      go_wp2_with fail
      go_loopw [20] (fun i wr => ∃ k : Nat, k ≤ L.length ∧ i = .int .i64 k ∧ Hid (∀ j (hj : j < L.length), j < k → L[j] ≠ fr → Tm.goR p b L[j] at' = []) ∧ Below w1.heap.size w1 wr) (fun i _ => L.length - (intOf i).toNat)
      case atStart => exact ⟨0, by omega, rfl, Lib.hid (fun j _ h => by omega), Below.refl _ _⟩
      case round =>
        obtain ⟨k, hk, rfl, HA, hbel⟩ := hrel
        by_cases hlt : k < L.length
        · obtain ⟨b0, off0, rfl, hbl0, c0⟩ := (HO1.out.below hbel).int k (by rw [HLL.out]; exact hlt)
          rw [Tm.ln_get] at c0
          obtain ⟨hsl, hsa⟩ := HMEM.out L[k] (List.getElem_mem hlt)
          have HNX : Hid ((L[k] ≠ fr → Tm.goR p b L[k] at' = []) → ∀ j (hj : j < L.length), j < k + 1 → L[j] ≠ fr → Tm.goR p b L[j] at' = []) := Lib.hid (fun h j hj hjk => by
            by_cases e : j = k
            · subst e; exact h
            · exact HA.out j hj (by omega))
          generalize L[k] = s at c0 hsl hsa HNX
          have HSA := Lib.hid hsa
          clear hsa
          by_cases hs : s = fr
          · have hb3 : ((s : Int) == (fr : Int)) = true := by simp [hs]
            have hb4 : (s == fr) = true := by simp [hs]
            have HS := Lib.hid hs
            clear hs
            go_wp2_with fail
            go_roundw
            case rel => exact ⟨k + 1, by omega, by go_num, Lib.hid (HNX.out (fun h => absurd HS.out h)), hbel⟩
            case measure => simp [intOf]; omega
          · have hb3 : ((s : Int) == (fr : Int)) = false := by simpa using (show ¬ (s : Int) = fr by omega)
            have hb4 : (s == fr) = false := by simpa using hs
            have HB := bstep HB1.out hbel
            have HCW := HC.out.keep HB
            have hcall := HIH.out s wr hsl HSA.out hs HCW
            have hl6 := HLEN.out s hsl
            have HHS := Lib.hid (HHIT.out s hsl HSA.out hs)
            have HS := Lib.hid hs
            have hcw := HCW.cw
            have HBB := Lib.hid HB
            generalize Tm.goR p b s at' = R at hcall hl6 HHS HNX
            clear hs HCW HB
            go_wp2_with fail
            refine hcall.mono ?_
            rintro e w2 ⟨v2, rfl, ho2, hbl2⟩
            obtain ⟨ra, rc, rfl⟩ := ho2.shape
            have HR2 := Lib.hid (RowAt.of_own ki_ok ho2)
            have HB2 := Lib.hid hbl2
            clear ho2 hbl2
            cases R with
            | nil =>
              go_wp2_with fail
              go_roundw
              case rel => exact ⟨k + 1, by omega, by go_num, Lib.hid (HNX.out (fun _ => by first | rfl | trivial)), bstep hbel HB2.out⟩
              case measure => simp [intOf]; omega
            | cons y t =>
              have hlr : (Tm.ln (y :: t)).length = t.length + 1 := by rw [Tm.ln_len]; rfl
              rw [hlr] at HR2 ⊢
              have HHX := Lib.hid (HHS.out (by simp))
              have hl7 : t.length + 1 ≤ 6 := hl6
              have hlr6 : (Tm.ln (y :: t)).length ≤ 1000 := by omega
              have HLR6 := Lib.hid hlr6
              have hOW := RowAt.of_own ki_ok (ki_single w2 (at' : Int))
              generalize hRR : Tm.ln (y :: t) = RR at HR2 HLR6
              have HRR := Lib.hid hRR
              clear hRR
              clear hlr hlr6 HHS HNX hl6 hl7 hcall
              generalize t.length = n at *
              have hba := balloc (balloc (Below.refl _ w2) (.cells #[.int .i64 (at' : Int)] 3)) (.cells #[.slice (some ⟨w2.heap.size, 0, none⟩) 1 1, .slice ra (n + 1) rc] 22)
              have hcat := concat2_any (w2.heap.size + 1) (.slice (some ⟨w2.heap.size, 0, none⟩) 1 1) (.slice ra (n + 1) rc) [(at' : Int)] RR ((w2.alloc (.cells #[.int .i64 (at' : Int)] 3)).alloc (.cells #[.slice (some ⟨w2.heap.size, 0, none⟩) 1 1, .slice ra (n + 1) rc] 22)) (by simp) HLR6.out (hOW.below (balloc (Below.refl _ _) _)) (HR2.out.below hba) (by simp) (by simp)
              have HBA := Lib.hid hba
              clear hba hOW
              go_wp2_with fail
              refine hcat.mono ?_
              rintro e w3 ⟨v3, rfl, ho3, hbl3⟩
              go_wp2_with fail
              try rw [Exit.noGoto_ret]
              go_ret
              have hb3 := bstep HBB.out HB2.out
              exact ⟨_, rfl, by rw [HHX.out, Tm.ln_cons, HRR.out]; exact ho3.mono (by have := hb3.size; simp; omega), bstep hb3 (bstep HBA.out hbl3)⟩
        · obtain rfl : k = L.length := by omega
          have HG : Hid (G = []) := Lib.hid (HNONE.out (fun s hs hne => by
            obtain ⟨j, hj, rfl⟩ := List.getElem_of_mem hs
            exact HA.out j hj hj hne))
          go_wp2_with fail
          try rw [Exit.noGoto_ret]
          go_ret
          exact ⟨_, rfl, by rw [HG.out]; exact OwnR.nil _ _ _, bstep HB1.out hbel⟩

set_option maxRecDepth 100000 in
set_option maxHeartbeats 3200000 in
theorem tpath_any (p : List Int) (a : Option Addr) (cap : Nat) (s t : Int) (w : World) (hl : p.length ≤ 9223372036854775807) (hr : RowIn KI w a p) :
    Calls Try.prog 55 #[.slice a p.length cap, .int .i64 s, .int .i64 t] w fun e w' => ∃ v, e = .returned v ∧ OwnR KI w' w.heap.size v (Tm.ln (Tm.pathI p s t)) ∧ Below w.heap.size w w' := by
  have hba := balloc (balloc (Below.refl _ w) (.cells #[.slice a p.length cap] 22)) (.cells #[.int .i64 t] 3)
  have hrr := hr.below hba
  have hcp : ((w.alloc (.cells #[.slice a p.length cap] 22)).alloc (.cells #[.int .i64 t] 3)).cell? ⟨w.heap.size, 0, none⟩ = some (.slice a p.length cap) := by simp
  have hcb : ((w.alloc (.cells #[.slice a p.length cap] 22)).alloc (.cells #[.int .i64 t] 3)).cell? ⟨w.heap.size + 1, 0, none⟩ = some (.int .i64 t) := by simp
  have hsz : ((w.alloc (.cells #[.slice a p.length cap] 22)).alloc (.cells #[.int .i64 t] 3)).heap.size = w.heap.size + 2 := by simp
  have HBA := Lib.hid hba
  have HCP := Lib.hid hcp
  have HCB := Lib.hid hcb
  have HSZ := Lib.hid hsz
  have hc1 := fun (W : World) (hR : RowIn KI W a p) => tcheck_any p a cap W hl hR
  have hc2 := fun (W : World) => isS_any p a cap s W
  have hc3 := fun (W : World) => isS_any p a cap t W
  have HRR := Lib.hid hrr
  clear hr hba hrr hcp hcb hsz
  cases h1 : Tm.chkT p with
  | false =>
    have e : Tm.pathI p s t = [] := by unfold Tm.pathI; rw [Tm.okS_eq, h1]; rfl
    rw [e]
    rw [h1] at hc1
    clear h1 e
    go_enter Try.func55, Try.ntmps55
    go_wp2_with (go_at_call 37; refine (hc1 _ HRR.out).mono ?_; rintro e w' ⟨rfl, rfl⟩)
    go_ret
    exact ⟨_, rfl, OwnR.nil _ _ _, HBA.out⟩
  | true =>
    rw [h1] at hc1
    cases h2 : Tm.isS p s with
    | false =>
      have e : Tm.pathI p s t = [] := by unfold Tm.pathI; rw [Tm.okS_eq, h2, Bool.and_false]; rfl
      rw [e]
      rw [h2] at hc2
      clear h1 h2 e
      go_enter Try.func55, Try.ntmps55
      go_wp2_with (first | (go_at_call 37; refine (hc1 _ HRR.out).mono ?_; rintro e w' ⟨rfl, rfl⟩) | (go_at_call 44; refine (hc2 _).mono ?_; rintro e w' ⟨rfl, rfl⟩))
      go_ret
      exact ⟨_, rfl, OwnR.nil _ _ _, HBA.out⟩
    | true =>
      rw [h2] at hc2
      cases h3 : Tm.isS p t with
      | false =>
        have e : Tm.pathI p s t = [] := by unfold Tm.pathI; rw [Tm.okS_eq, Tm.okS_eq, h3, Bool.and_false, Bool.and_false]; rfl
        rw [e]
        rw [h3] at hc3
        clear h1 h2 h3 e
        go_enter Try.func55, Try.ntmps55
        go_wp2_with fail
        refine (hc1 _ HRR.out).mono ?_
        rintro e w' ⟨rfl, rfl⟩
        have hcp := HCP.out
        have hcb := HCB.out
        generalize (w.alloc (.cells #[.slice a p.length cap] 22)).alloc (.cells #[.int .i64 t] 3) = w2 at *
        go_wp2_with fail
        refine (hc2 _).mono ?_
        rintro e w' ⟨rfl, rfl⟩
        go_wp2_with fail
        refine (hc3 _).mono ?_
        rintro e w' ⟨rfl, rfl⟩
        go_wp2_with fail
        go_ret
        exact ⟨_, rfl, OwnR.nil _ _ _, HBA.out⟩
      | true =>
        rw [h3] at hc3
        have ht := (Tm.chkT_iff p).1 h1
        obtain ⟨x, rfl, hx⟩ := Tm.isS_nat h2
        obtain ⟨y, rfl, hy⟩ := Tm.isS_nat h3
        rw [Tm.pathI_nat h1 hx hy]
        have hfirst := @Tm.go_first p x y
        have hmf : ∀ (fn : Fn) (first cap : Array Value) (w : World), (Instr.makeFunc fn first cap).run Try.prog w = .ok (.func fn first cap) w := fun _ _ _ _ => rfl
        have hsf := fun (a : Addr) (c : Array Value) (w : World) => run_store Try.prog w a (.func (.func 59) #[] c) .plain rfl
        have hwalk := fun (W : World) (Bw : Nat) (hC : Clo W (w.heap.size + 1) w.heap.size Bw a cap p y) => walk_any p ht a cap y hy (w.heap.size + 1) w.heap.size Bw (Tm.cntB p x x + 1) x x W (by omega) hx (.inl rfl) hC
        rw [hfirst] at hwalk
        clear h1 h2 h3 hfirst ht
        go_enter Try.func55, Try.ntmps55
        go_wp2_with fail
        refine (hc1 _ HRR.out).mono ?_
        rintro e w' ⟨rfl, rfl⟩
        have hcp := HCP.out
        have hcb := HCB.out
        generalize (w.alloc (.cells #[.slice a p.length cap] 22)).alloc (.cells #[.int .i64 (y : Int)] 3) = w2 at *
        go_wp2_with fail
        refine (hc2 _).mono ?_
        rintro e w' ⟨rfl, rfl⟩
        go_wp2_with fail
        refine (hc3 _).mono ?_
        rintro e w' ⟨rfl, rfl⟩
        have hlw : w.heap.size + 1 < w2.heap.size := lt_of_cellN hcb
        go_wp2_with fail
        have hb2 := balloc (Below.refl _ w2) (.cells #[.func (.func 59) #[] #[.pointer (some ⟨w.heap.size + 1, 0, none⟩), .pointer (some ⟨w.heap.size, 0, none⟩), .pointer (some ⟨w2.heap.size, 0, none⟩)]] 66)
        refine (hwalk _ _ ⟨kc hb2 hcb, kc hb2 hcp, by simp, HRR.out.below hb2⟩).mono ?_
        rintro e w3 ⟨v3, rfl, ho3, hbl3⟩
        go_wp2_with fail
        go_ret
        exact ⟨_, rfl, ho3.mono (by simp; omega), bstep HBA.out (bstep hb2 hbl3)⟩

end Go.Proofs.Ythjjidfoclcghaa
/- What tree.Side answers. -/
namespace Go.Proofs.Ythjjidfoclcghaa
open Go.RowKit
set_option linter.unusedVariables false
set_option linter.unusedSimpArgs false

theorem or64T : ∀ m : Nat, m < 64 → ∀ q : Nat, q < 64 → bits .or .i64 (m : Int) (q : Int) = ((m ||| q : Nat) : Int) := by decide +kernel
theorem or_bit {q k : Nat} (hk : k < 6) (hq : q < 2 ^ k) : bits .or .i64 (q : Int) ((2 ^ k : Nat) : Int) = ((q + 2 ^ k : Nat) : Int) := by
  have h1 : 2 ^ k ≤ 32 := Nat.pow_le_pow_right (n := 2) (by omega) (show k ≤ 5 by omega)
  rw [or64T q (by omega) (2 ^ k) (by omega), Nat.or_comm, Nat.add_comm]
  have h := (Nat.two_pow_add_eq_or_of_lt hq 1).symm
  rw [Nat.mul_one] at h
  rw [h]
theorem shl_bit {k : Nat} (hk : k < 6) : Op.shift .shl .i64 1 .i64 (k : Int) = pure (.int .i64 ((2 ^ k : Nat) : Int)) := by
  rcases (show k = 0 ∨ k = 1 ∨ k = 2 ∨ k = 3 ∨ k = 4 ∨ k = 5 by omega) with rfl | rfl | rfl | rfl | rfl | rfl <;> rfl
theorem Tm.viaI_short {p : List Int} {a b k : Int} (h : (Tm.pathI p a k).length < 2) : Tm.viaI p a b k = false := by
  unfold Tm.viaI
  rw [List.getElem?_eq_none (by omega)]
theorem Tm.viaI_at {p : List Int} {a b k : Int} (h : 1 < (Tm.pathI p a k).length) : Tm.viaI p a b k = decide (((Tm.pathI p a k)[1] : Int) = b) := by
  unfold Tm.viaI
  rw [List.getElem?_eq_getElem h]

set_option maxRecDepth 100000 in
set_option maxHeartbeats 3200000 in
theorem tside_any (p : List Int) (a : Option Addr) (cap : Nat) (s t : Int) (w : World) (hl : p.length ≤ 9223372036854775807) (hr : RowIn KI w a p) :
    Calls Try.prog 45 #[.slice a p.length cap, .int .i64 s, .int .i64 t] w fun e w' => e = .returned (.int .i64 (Tm.sideI p s t : Int)) ∧ Below w.heap.size w w' := by
  have hc1 := tcheck_any p a cap w hl hr
  cases h1 : Tm.chkT p with
  | false =>
    have e : Tm.sideI p s t = 0 := by unfold Tm.sideI; rw [h1]; rfl
    rw [e]
    rw [h1] at hc1
    clear h1 e hr
    go_enter Try.func45, Try.ntmps45
    go_wp2_with fail
    try go_step3
    try go_wp2_with fail
    refine hc1.mono ?_
    rintro e w' ⟨rfl, rfl⟩
    go_wp2
    try rw [Exit.noGoto_ret]
    go_ret
    exact ⟨rfl, Below.refl _ _⟩
  | true =>
    rw [h1] at hc1
    have h6 := ((Tm.chkT_iff p).1 h1).n6
    have HS : Hid (Tm.sumB (fun k => Tm.viaI p s t (k : Int)) p.length = Tm.sideI p s t) := Lib.hid (by unfold Tm.sideI; rw [h1]; rfl)
    have hpath := fun (k : Nat) (W : World) (hR : RowIn KI W a p) => tpath_any p a cap s (k : Int) W hl hR
    have HV1 : Hid (∀ k : Nat, (Tm.pathI p s (k : Int)).length < 2 → Tm.viaI p s t (k : Int) = false) := Lib.hid (fun k h => Tm.viaI_short h)
    have HV2 : Hid (∀ (k : Nat) (h : 1 < (Tm.pathI p s (k : Int)).length), Tm.viaI p s t (k : Int) = decide (((Tm.pathI p s (k : Int))[1] : Int) = t)) := Lib.hid (fun k h => Tm.viaI_at h)
    have HPL : Hid (∀ k : Nat, (Tm.pathI p s (k : Int)).length ≤ 6) := Lib.hid (fun k => Tm.pathI_len p s (k : Int))
    generalize Tm.sideI p s t = R at HS ⊢
    have HG : Hid (∀ k : Nat, (fun (k : Nat) => Tm.viaI p s t (k : Int)) k = Tm.viaI p s t (k : Int)) := Lib.hid (fun _ => rfl)
    have HB : Hid (∀ k : Nat, k < p.length → Tm.sumB (fun k => Tm.viaI p s t (k : Int)) k < 2 ^ k) := Lib.hid (fun k _ => Tm.sumB_lt _ k)
    have HUP : Hid (∀ k : Nat, Tm.sumB (fun k => Tm.viaI p s t (k : Int)) (k + 1) = Tm.sumB (fun k => Tm.viaI p s t (k : Int)) k + if Tm.viaI p s t (k : Int) = true then 2 ^ k else 0) := Lib.hid (fun k => rfl)
    have HZ : Hid (Tm.sumB (fun k => Tm.viaI p s t (k : Int)) 0 = 0) := Lib.hid rfl
    generalize Tm.sumB (fun k => Tm.viaI p s t (k : Int)) = S at *
    have HR := Lib.hid hr
    clear hr h1 HG
    go_enter Try.func45, Try.ntmps45
    go_wp2_with fail
    go_step3
    go_wp2_with fail
    refine hc1.mono ?_
    rintro e w' ⟨rfl, rfl⟩
    go_wp2
    go_step3
    go_wp2
    go_loopw [7, 15] (fun o i wr => ∃ (k q : Nat), k ≤ p.length ∧ i = .int .i64 k ∧ o = .int .i64 (q : Int) ∧ Hid (q = S k) ∧ Below w.heap.size w wr) (fun _ i _ => p.length - (intOf i).toNat)
    case atStart => exact ⟨0, 0, by omega, rfl, rfl, Lib.hid HZ.out.symm, Below.refl _ _⟩
    case round =>
      obtain ⟨k, q, hk, rfl, rfl, HQ, hbel⟩ := hrel
      by_cases hlt : k < p.length
      · have hcon := hpath k wr (HR.out.below hbel)
        have hv1 := HV1.out k
        have hv2 := HV2.out k
        have hpl := HPL.out k
        have hq := HB.out k hlt
        rw [← HQ.out] at hq
        have hup := HUP.out k
        have hor := or_bit (show k < 6 by omega) hq
        have hsh := shl_bit (show k < 6 by omega)
        have hpw : 2 ^ k ≤ 32 := Nat.pow_le_pow_right (n := 2) (by omega) (show k ≤ 5 by omega)
        have hpw0 : 0 < 2 ^ k := Nat.two_pow_pos k
        have hwz : wrap64 ((2 : Int) ^ k) = ((2 ^ k : Nat) : Int) := by
          have e : ((2 : Int) ^ k) = ((2 ^ k : Nat) : Int) := by simp
          rw [e]
          unfold wrap64
          omega
        have HWZ := Lib.hid hwz
        clear hwz
        generalize Tm.viaI p s t (k : Int) = vb at hv1 hv2 hup
        generalize Tm.pathI p s (k : Int) = P at hv1 hv2 hpl hcon
        generalize 2 ^ k = z at *
        have HV1' := Lib.hid hv1
        have HV2' := Lib.hid hv2
        have HUP' := Lib.hid hup
        have HOR := Lib.hid hor
        clear hv1 hv2 hup hor
        go_wp2_with fail
        refine hcon.mono ?_
        rintro e w1 ⟨v1, rfl, ho1, hbl1⟩
        obtain ⟨va, vc, rfl⟩ := ho1.shape
        have hpl1 : (Tm.ln P).length = P.length := Tm.ln_len P
        have HC := Lib.hid (RowIn.of_own ki_ok ho1)
        have HLN := Lib.hid hpl1
        rw [hpl1]
        have HBB := Lib.hid (bstep hbel hbl1)
        clear ho1 hpl1 hcon hbl1
        by_cases hs : P.length < 2
        · have hsi : (P.length : Int) < 2 := by omega
          have HF := Lib.hid (HV1'.out hs)
          clear hs
          go_wp2
          go_roundw
          case rel => exact ⟨k + 1, q, by omega, by go_num, rfl, Lib.hid (by rw [HUP'.out, HF.out, HQ.out]; rfl), HBB.out⟩
          case measure => simp [intOf]; omega
        · have hsi : ¬ (P.length : Int) < 2 := by omega
          have hP1 : 1 < P.length := by omega
          have HF := Lib.hid (HV2'.out hP1)
          have hc := HC.out.int 1 (by rw [HLN.out]; exact hP1)
          rw [Tm.ln_get] at hc
          obtain ⟨b0, off0, rfl, hbl0, c0⟩ := hc
          generalize P[1] = x at HF c0
          by_cases hx : (x : Int) = t
          · have hb : ((x : Int) != t) = false := by simp [hx]
            have HT : Hid (vb = true) := Lib.hid (by rw [HF.out]; simpa using hx)
            clear hx
            go_wp2
            go_roundw
            case rel => exact ⟨k + 1, q + z, by omega, by go_num, by rw [HWZ.out, HOR.out], Lib.hid (by rw [HUP'.out, HT.out, HQ.out]; rfl), HBB.out⟩
            case measure => simp [intOf]; omega
          · have hb : ((x : Int) != t) = true := by simpa using hx
            have HT : Hid (vb = false) := Lib.hid (by rw [HF.out]; simpa using hx)
            clear hx
            go_wp2
            go_roundw
            case rel => exact ⟨k + 1, q, by omega, by go_num, rfl, Lib.hid (by rw [HUP'.out, HT.out, HQ.out]; rfl), HBB.out⟩
            case measure => simp [intOf]; omega
      · obtain rfl : k = p.length := by omega
        go_wp2
        try rw [Exit.noGoto_ret]
        go_ret
        exact ⟨ret_int (by rw [HQ.out, HS.out]), hbel⟩
end Go.Proofs.Ythjjidfoclcghaa
/- What route.Check, beyond and its closure answer. -/
namespace Go.Proofs.Ythjjidfoclcghaa
open Go.RowKit
set_option linter.unusedVariables false
set_option linter.unusedSimpArgs false

theorem and64T : ∀ m : Nat, m < 64 → ∀ q : Nat, q < 64 → bits .and .i64 (m : Int) (q : Int) = ((m &&& q : Nat) : Int) := by decide +kernel

set_option maxRecDepth 100000 in
set_option maxHeartbeats 800000 in
theorem rcheck_any (c : Rw) (u0 u1 u2 : Value) (w : World) (h : RwAt w u0 u1 u2 c) :
    Calls Try.prog 21 #[.agg #[u0, u1, u2]] w fun e w' => e = .returned (.bool (chk9 c)) ∧ Below w.heap.size w w' := by
  have HW := Lib.hid h
  have HV := Lib.hid (VrP.new w u0 u1 u2 29)
  have hb0 : Below w.heap.size w (w.alloc (.cells #[u0, u1, u2] 29)) := balloc (Below.refl _ w) _
  have HB0 := Lib.hid hb0
  have hck := check7_any c u0 u1 u2 _ (HW.out.below hb0)
  have HX : Hid (chk9 c = (tOk c && Tm.chkT c.pa)) := Lib.hid rfl
  generalize chk9 c = X at HX ⊢
  clear h hb0
  cases hok : tOk c with
  | false =>
    rw [hok] at hck
    have HX2 : Hid (X = false) := Lib.hid (by rw [HX.out, hok]; rfl)
    clear hok HX
    go_enter Try.func21, Try.ntmps21
    go_wp2_with fail
    refine hck.mono ?_
    rintro e w1 ⟨rfl, hb1⟩
    go_wp2
    go_ret
    exact ⟨ret_bool HX2.out.symm, bstep HB0.out hb1⟩
  | true =>
    rw [hok] at hck
    have HX2 : Hid (X = Tm.chkT c.pa) := Lib.hid (by rw [HX.out, hok]; rfl)
    clear hok HX
    obtain ⟨a2, cp2, hu2, hq2, hm2, _, hri2⟩ := HW.out.pa
    unfold maxLen at hm2
    subst hu2
    have HR2 := Lib.hid hri2
    clear hri2
    go_enter Try.func21, Try.ntmps21
    go_wp2_with fail
    refine hck.mono ?_
    rintro e w1 ⟨rfl, hb1⟩
    have HBW := Lib.hid (bstep HB0.out hb1)
    obtain ⟨c0, c1, c2, _⟩ := HV.out.keep hb1
    clear hb1 hck
    have hct := tcheck_any c.pa a2 cp2 w1 (by omega) (HR2.out.below HBW.out)
    go_wp2_with fail
    refine hct.mono ?_
    rintro e w2 ⟨rfl, rfl⟩
    go_wp2
    go_ret
    exact ⟨ret_bool HX2.out.symm, HBW.out⟩

set_option maxRecDepth 100000 in
set_option maxHeartbeats 800000 in
theorem beyond_any (c : Rw) (u0 u1 u2 : Value) (s t : Int) (w : World) (h : RwAt w u0 u1 u2 c) :
    Calls Try.prog 33 #[.agg #[u0, u1, u2], .int .i64 s, .int .i64 t] w fun e w' => ∃ B, e = .returned (.func (.func 46) #[] #[.pointer (some ⟨B, 0, none⟩)]) ∧ w.heap.size ≤ B ∧ w'.cell? ⟨B, 0, none⟩ = some (.int .i64 (Tm.sideI c.pa s t : Int)) ∧ Below w.heap.size w w' := by
  have HV := Lib.hid (VrP.new w u0 u1 u2 29)
  have hb0 : Below w.heap.size w (w.alloc (.cells #[u0, u1, u2] 29)) := balloc (Below.refl _ w) _
  obtain ⟨a2, cp2, hu2, hq2, hm2, _, hri2⟩ := h.pa
  unfold maxLen at hm2
  subst hu2
  have hct := tside_any c.pa a2 cp2 s t _ (by omega) (hri2.below hb0)
  have HB0 := Lib.hid hb0
  clear hri2 hb0 h
  generalize Tm.sideI c.pa s t = S at *
  obtain ⟨c0, c1, c2, _⟩ := HV.out
  go_enter Try.func33, Try.ntmps33
  go_wp2_with fail
  refine hct.mono ?_
  rintro e w1 ⟨rfl, hb1⟩
  have HB1 := Lib.hid (bstep HB0.out hb1)
  have hsz : w.heap.size ≤ w1.heap.size := HB1.out.size
  go_wp2
  go_ret
  exact ⟨w1.heap.size, rfl, hsz, by simp, balloc HB1.out _⟩

set_option maxRecDepth 100000 in
theorem beyondC_any (m S B : Nat) (w : World) (hm : m < 64) (hS : S < 64) (hc : w.cell? ⟨B, 0, none⟩ = some (.int .i64 (S : Int))) :
    Calls Try.prog 46 #[.int .i64 (m : Int), .pointer (some ⟨B, 0, none⟩)] w fun e w' => e = .returned (.bool (Tm.meetN S m)) ∧ w = w' := by
  have ha := and64T m hm S hS
  have HX : Hid (Tm.meetN S m = (((m &&& S : Nat) : Int) != 0)) := Lib.hid (by
    unfold Tm.meetN
    rw [Nat.and_comm]
    by_cases e : m &&& S = 0
    · simp [e]
    · have : ¬ ((m &&& S : Nat) : Int) = 0 := by omega
      rw [decide_eq_true e, bne, beq_eq_false_iff_ne.2 this]
      rfl)
  generalize Tm.meetN S m = X at HX ⊢
  generalize m &&& S = z at *
  go_enter Try.func46, Try.ntmps46
  go_wp2
  go_ret
  exact ⟨ret_bool HX.out.symm, rfl⟩
end Go.Proofs.Ythjjidfoclcghaa
