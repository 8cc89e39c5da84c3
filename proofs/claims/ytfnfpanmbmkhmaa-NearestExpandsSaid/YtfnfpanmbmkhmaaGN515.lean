/- Texts of this proof, one behind the other: NearClaims2, NearReduce. -/
import Derived.Test.YtfnfpanmbmkhmaaGN514
/- What nearest.claimsOf answers. -/
namespace Go.Proofs.Ytfnfpanmbmkhmaa
open Go.RowKit Go.Maps
set_option linter.unusedVariables false
set_option linter.unusedSimpArgs false

theorem keepD9 {W w1 : World} {b b' : Nat} {x0 x1 x2 x3 x4 x5 y0 y1 y2 : Value} (hb : Below W.heap.size W w1)
    (h : (W.cell? ⟨b, 0, none⟩ = some x0 ∧ W.cell? ⟨b, 1, none⟩ = some x1 ∧ W.cell? ⟨b, 2, none⟩ = some x2 ∧ W.cell? ⟨b, 3, none⟩ = some x3 ∧ W.cell? ⟨b, 4, none⟩ = some x4 ∧ W.cell? ⟨b, 5, none⟩ = some x5) ∧ W.cell? ⟨b', 0, none⟩ = some y0 ∧ W.cell? ⟨b', 1, none⟩ = some y1 ∧ W.cell? ⟨b', 2, none⟩ = some y2) :
    (w1.cell? ⟨b, 0, none⟩ = some x0 ∧ w1.cell? ⟨b, 1, none⟩ = some x1 ∧ w1.cell? ⟨b, 2, none⟩ = some x2 ∧ w1.cell? ⟨b, 3, none⟩ = some x3 ∧ w1.cell? ⟨b, 4, none⟩ = some x4 ∧ w1.cell? ⟨b, 5, none⟩ = some x5) ∧ w1.cell? ⟨b', 0, none⟩ = some y0 ∧ w1.cell? ⟨b', 1, none⟩ = some y1 ∧ w1.cell? ⟨b', 2, none⟩ = some y2 :=
  ⟨⟨kc hb h.1.1, kc hb h.1.2.1, kc hb h.1.2.2.1, kc hb h.1.2.2.2.1, kc hb h.1.2.2.2.2.1, kc hb h.1.2.2.2.2.2⟩, kc hb h.2.1, kc hb h.2.2.1, kc hb h.2.2.2⟩
theorem keepD9b {W w1 : World} {b b' : Nat} {x0 x1 x2 x3 x4 x5 y0 y1 y2 : Value} (hb : w1.heap[b]? = W.heap[b]?) (hb' : w1.heap[b']? = W.heap[b']?)
    (h : (W.cell? ⟨b, 0, none⟩ = some x0 ∧ W.cell? ⟨b, 1, none⟩ = some x1 ∧ W.cell? ⟨b, 2, none⟩ = some x2 ∧ W.cell? ⟨b, 3, none⟩ = some x3 ∧ W.cell? ⟨b, 4, none⟩ = some x4 ∧ W.cell? ⟨b, 5, none⟩ = some x5) ∧ W.cell? ⟨b', 0, none⟩ = some y0 ∧ W.cell? ⟨b', 1, none⟩ = some y1 ∧ W.cell? ⟨b', 2, none⟩ = some y2) :
    (w1.cell? ⟨b, 0, none⟩ = some x0 ∧ w1.cell? ⟨b, 1, none⟩ = some x1 ∧ w1.cell? ⟨b, 2, none⟩ = some x2 ∧ w1.cell? ⟨b, 3, none⟩ = some x3 ∧ w1.cell? ⟨b, 4, none⟩ = some x4 ∧ w1.cell? ⟨b, 5, none⟩ = some x5) ∧ w1.cell? ⟨b', 0, none⟩ = some y0 ∧ w1.cell? ⟨b', 1, none⟩ = some y1 ∧ w1.cell? ⟨b', 2, none⟩ = some y2 := by
  have e : ∀ o, w1.cell? ⟨b, o, none⟩ = W.cell? ⟨b, o, none⟩ := fun o => World.cell?_of_block hb
  have e' : ∀ o, w1.cell? ⟨b', o, none⟩ = W.cell? ⟨b', o, none⟩ := fun o => World.cell?_of_block hb'
  rw [e, e, e, e, e, e, e', e', e']
  exact h

/-- An append in a region that draws its order, by the run's equation. -/
theorem step_append_run {P : Program} {ops : Array Oper} {o : Oper} {a : Act} {K : Act → World → Prop} {Q : Exit → Act → World → Prop} {E : Prop} {w : World} (hgd : o.guard = none) (s x : Operand) (t : TypeId)
    (ho : o.op = .call { callee := .builtin .append, args := #[s, x], argTypes := #[t, t] }) (v u r : Value) (w' : World) (hs : a.eval s = v) (hx : a.eval x = u) (hr : (Builtin.append_ #[t, t] o.type #[v, u]).run P w = .ok r w') (h : K (a.put o.dst r) w') :
    if Region.wanted o (yielded ops a.tmps) = true then Oper.wp P o a w K Q else E := by
  have hw : Region.wanted o (yielded ops a.tmps) = true := by simp [Region.wanted, hgd]
  rw [if_pos hw]
  unfold Oper.wp execOp
  simp only [ho, resolve, invoke, builtin, Sem.run_bind, Sem.run_pure, Result.andThen_ok, List.map_toArray, List.map_cons, List.map_nil, hs, hx, hr]
  exact h

set_option maxRecDepth 100000 in
set_option maxHeartbeats 6400000 in
theorem claimsOf_any (v : Value) (xs : List Vp) (w : World) (hl : xs.length ≤ 50) (hok : ∀ x ∈ xs, VOk x.1) (hr : VRow w v xs) :
    Calls Try.prog 29 #[v] w fun e w' => ∃ b n g, e = .returned (.map (some b)) ∧ Grp w' (w.heap.size + 1) b (telL xs) n g ∧ Below w.heap.size w w' := by
  have hmm : ∀ (w : World), (Instr.makeMap 56 none).run Try.prog w = .ok (.map (some w.heap.size)) (w.alloc (.map #[] 0)) := fun w => by
    simp [Instr.makeMap, run_underlying Try.underlying56, asInt, asIntOf]
  have HR := Lib.hid hr
  have HOK := Lib.hid hok
  obtain ⟨a, cap, rfl, _, _⟩ := hr.shape
  clear hr hok
  go_enter Try.func29, Try.ntmps29
  go_wp2
  go_loopw [11] (fun i wr => ∃ k : Nat, k ≤ xs.length ∧ i = .int .i64 k ∧ (∃ n g, Grp wr (w.heap.size + 1) w.heap.size (telL (xs.take k)) n g) ∧ w.heap.size + 1 ≤ wr.heap.size ∧ Below w.heap.size w wr) (fun i _ => xs.length - (intOf i).toNat)
  case atStart => exact ⟨0, by omega, rfl, ⟨0, _, Grp.made w _⟩, by simp, balloc (Below.refl _ w) _⟩
  case round =>
    obtain ⟨k, hk, rfl, ⟨n, g, hg⟩, hsz, hbel⟩ := hrel
    have HG := Lib.hid hg
    clear hg
    by_cases hlt : k < xs.length
    · obtain ⟨b, off, rfl, hbl, ⟨c0, c1, c2, c3, c4, c5⟩, hdp⟩ := (HR.out.below hbel).at k hlt
      have hvk := HOK.out _ (List.getElem_mem hlt)
      have HTK : Hid (telL (xs.take (k + 1)) = telL (xs.take k) ++ xs[k].1.past.map fun d => (d.1, (xs[k].1.dep, d.2))) := Lib.hid (by rw [List.take_succ_eq_append_getElem hlt, telL_snoc])
      have htl : (telL (xs.take k)).length ≤ 2500 := by
        have h1 := telL_len (xs := xs.take k) (fun x hx => (HOK.out x (List.mem_of_mem_take hx)).len)
        have h2 := List.length_take_le k xs
        have h3 : (xs.take k).length * 50 ≤ 50 * 50 := Nat.mul_le_mul_right _ (by omega)
        omega
      have hplen := hvk.len
      have HSR := Lib.hid hvk.srt
      have hnm := fun W' => nameOf_any xs[k] W'
      have HV0 := Lib.hid (VarV.new wr xs[k] 34)
      have HDPW := Lib.hid (HR.out.2 _ (List.getElem_mem hlt))
      have HB1 : Hid (Below wr.heap.size wr (wr.alloc (.cells (vcs xs[k]) 34))) := Lib.hid (balloc (Below.refl _ _) _)
      generalize xs[k] = r at c0 c1 c2 c3 c4 c5 HTK hplen HSR hnm HV0 HDPW HB1
      clear hvk hdp
      have HAV0 := Lib.hid (HG.out.avoid (Nat.le_refl _))
      have HG1 := Lib.hid (HG.out.below HB1.out)
      have hzz : (wr.alloc (.cells (vcs r) 34)).heap.size = wr.heap.size + 1 := by simp
      have HZZ := Lib.hid hzz
      clear hzz
      obtain ⟨⟨key, val, gone, ⟨n1, s1⟩, past⟩, pa, pc⟩ := r
      dsimp only [vv, vcs, pu, Ve.dep] at c0 c1 c2 c3 c4 c5 hnm HTK HV0 HDPW hplen HSR HB1 HG1 HZZ
      generalize telL (xs.take k) = tel at HG HG1 HTK htl
      obtain ⟨w0, hw0⟩ : ∃ w0, w0 = wr := ⟨_, rfl⟩
      subst hw0
      have hsz1 := hsz
      have hbw := Lib.hid hbel
      have HB2 := Lib.hid (bstep hbel HB1.out)
      clear hbel hsz
      go_wp2
      go_loopw [18] (fun i wr => ∃ j : Nat, j ≤ past.length ∧ i = .int .i64 j ∧ (∃ n g, Grp wr (w.heap.size + 1) w.heap.size (tel ++ (past.take j).map fun d => (d.1, ((key, n1, s1), d.2))) n g ∧ Avoid g w0.heap.size) ∧ VarV wr w0.heap.size (⟨key, val, gone, (n1, s1), past⟩, pa, pc) ∧ w0.heap.size + 1 ≤ wr.heap.size ∧ Below w.heap.size w wr) (fun i _ => past.length - (intOf i).toNat)
      case atStart => exact ⟨0, by omega, rfl, ⟨n, g, by simpa using HG1.out, HAV0.out⟩, HV0.out, by rw [HZZ.out]; omega, HB2.out⟩
      case round =>
        obtain ⟨j, hj, rfl, ⟨n, g, hg, hav⟩, hvv, hsz, hbel⟩ := hrel
        have HG := Lib.hid hg
        have HAV := Lib.hid hav
        have HVV := Lib.hid hvv
        clear hg hav hvv
        by_cases hjl : j < past.length
        · obtain ⟨a', c', e', _, _, _, hdi⟩ := HDPW.out.below hbel
          cases e'
          obtain ⟨b', off', rfl, hbl', d0, d1, d2⟩ := hdi j hjl
          have HOKD := Lib.hid (HSR.out.1 _ (List.getElem_mem hjl))
          have HTJ : Hid ((past.take (j + 1)).map (fun d => (d.1, ((key, n1, s1), d.2))) = (past.take j).map (fun d => (d.1, ((key, n1, s1), d.2))) ++ [(past[j].1, ((key, n1, s1), past[j].2))]) := Lib.hid (by rw [List.take_succ_eq_append_getElem hjl, List.map_append]; rfl)
          have hlen : (tel ++ (past.take j).map (fun d => (d.1, ((key, n1, s1), d.2)))).length ≤ 100000 := by
            rw [List.length_append, List.length_map]
            have := List.length_take_le j past
            omega
          generalize past[j] = d at d0 d1 d2 HOKD HTJ
          obtain ⟨x, y, z⟩ := d
          dsimp only at d0 d1 d2 HTJ
          generalize hcur : tel ++ (past.take j).map (fun d => (d.1, ((key, n1, s1), d.2))) = cur at HG hlen
          have HCUR := Lib.hid hcur
          clear hcur
          have HX : Hid (x.size ≤ maxLen) := Lib.hid (okD_key HOKD.out).1
          obtain ⟨ra, rc, hrow⟩ := (HG.out.row x HX.out).shape
          have HROW := Lib.hid hrow
          clear hrow hdi
          have HB0 : Hid (Below wr.heap.size wr (wr.alloc (.cells #[.string x, .int .i64 y, .int .i64 z] 26)).drew) := Lib.hid ((balloc (Below.refl _ wr) _).drew)
          have HGD := Lib.hid (HG.out.below HB0.out)
          have hlk := HGD.out.look HX.out
          rw [HROW.out] at hlk
          have HLK := Lib.hid hlk
          have HAVD := Lib.hid (HG.out.avoid (Nat.le_refl _))
          have hVD := VarD.new wr x y z 26
          obtain ⟨v0, v1, v2, v3, v4, v5⟩ := (HVV.out.keep (balloc (Below.refl _ wr) (.cells #[.string x, .int .i64 y, .int .i64 z] 26))).p
          dsimp only [pu, Nat.zero_add] at v0 v1 v2 v3 v4 v5
          have g0 : ((wr.alloc (.cells #[.string x, .int .i64 y, .int .i64 z] 26)).cell? ⟨w0.heap.size, 0, none⟩ = some (.string key) ∧ (wr.alloc (.cells #[.string x, .int .i64 y, .int .i64 z] 26)).cell? ⟨w0.heap.size, 1, none⟩ = some (.string val) ∧ (wr.alloc (.cells #[.string x, .int .i64 y, .int .i64 z] 26)).cell? ⟨w0.heap.size, 2, none⟩ = some (.bool gone) ∧ (wr.alloc (.cells #[.string x, .int .i64 y, .int .i64 z] 26)).cell? ⟨w0.heap.size, 3, none⟩ = some (.int .i64 n1) ∧ (wr.alloc (.cells #[.string x, .int .i64 y, .int .i64 z] 26)).cell? ⟨w0.heap.size, 4, none⟩ = some (.int .i64 s1) ∧ (wr.alloc (.cells #[.string x, .int .i64 y, .int .i64 z] 26)).cell? ⟨w0.heap.size, 5, none⟩ = some (.slice (some ⟨b', off', none⟩) past.length pc)) ∧ (wr.alloc (.cells #[.string x, .int .i64 y, .int .i64 z] 26)).cell? ⟨wr.heap.size, 0, none⟩ = some (.string x) ∧ (wr.alloc (.cells #[.string x, .int .i64 y, .int .i64 z] 26)).cell? ⟨wr.heap.size, 1, none⟩ = some (.int .i64 y) ∧ (wr.alloc (.cells #[.string x, .int .i64 y, .int .i64 z] 26)).cell? ⟨wr.heap.size, 2, none⟩ = some (.int .i64 z) := ⟨⟨v0, v1, v2, v3, v4, v5⟩, hVD.c0, hVD.c1, hVD.c2⟩
          clear hlk hVD v0 v1 v2 v3 v4 v5
          go_wp2_with fail
          refine wp_region_held_drew (S := fun w' => (w'.cell? ⟨w0.heap.size, 0, none⟩ = some (.string key) ∧ w'.cell? ⟨w0.heap.size, 1, none⟩ = some (.string val) ∧ w'.cell? ⟨w0.heap.size, 2, none⟩ = some (.bool gone) ∧ w'.cell? ⟨w0.heap.size, 3, none⟩ = some (.int .i64 n1) ∧ w'.cell? ⟨w0.heap.size, 4, none⟩ = some (.int .i64 s1) ∧ w'.cell? ⟨w0.heap.size, 5, none⟩ = some (.slice (some ⟨b', off', none⟩) past.length pc)) ∧ w'.cell? ⟨wr.heap.size, 0, none⟩ = some (.string x) ∧ w'.cell? ⟨wr.heap.size, 1, none⟩ = some (.int .i64 y) ∧ w'.cell? ⟨wr.heap.size, 2, none⟩ = some (.int .i64 z)) (by kernel_rfl) (g0) (fun hHeld => ?_)
          refine wpAnyH_take (i := 0) (v := ?v0) rfl (by kernel_rfl) (by kernel_rfl) (by kernel_rfl) (fun _ _ _ h => h) (Or.inl ⟨by rfl, ?y0⟩) (by assumption) ?r0
          case y0 => (intro w hSw; (try dsimp only at hSw); go_simp; try with_reducible rfl)
          try simp only [Act.put, List.setIfInBounds_toArray, List.set_cons_zero, List.set_cons_succ, List.getElem_toArray, List.getElem_cons_zero, List.getElem_cons_succ]
          refine wpAnyH_take (i := 1) (v := ?v1) rfl (by kernel_rfl) (by kernel_rfl) (by kernel_rfl) (fun _ _ _ h => h) (Or.inl ⟨by rfl, ?y1⟩) (by assumption) ?r1
          case y1 => (intro w hSw; (try dsimp only at hSw); go_simp; try with_reducible rfl)
          try simp only [Act.put, List.setIfInBounds_toArray, List.set_cons_zero, List.set_cons_succ, List.getElem_toArray, List.getElem_cons_zero, List.getElem_cons_succ]
          refine wpAnyH_take (i := 2) (v := ?v2) rfl (by kernel_rfl) (by kernel_rfl) (by kernel_rfl) (fun _ _ _ h => h) (Or.inl ⟨by rfl, ?y2⟩) (by assumption) ?r2
          case y2 => (intro w hSw; (try dsimp only at hSw); go_simp; try with_reducible rfl)
          try simp only [Act.put, List.setIfInBounds_toArray, List.set_cons_zero, List.set_cons_succ, List.getElem_toArray, List.getElem_cons_zero, List.getElem_cons_succ]
          refine wpAnyH_take (i := 3) (v := ?v3) rfl (by kernel_rfl) (by kernel_rfl) (by kernel_rfl) (fun _ _ _ h => h) (Or.inl ⟨by rfl, ?y3⟩) (by assumption) ?r3
          case y3 => (intro w hSw; (try dsimp only at hSw); go_simp; try with_reducible rfl)
          try simp only [Act.put, List.setIfInBounds_toArray, List.set_cons_zero, List.set_cons_succ, List.getElem_toArray, List.getElem_cons_zero, List.getElem_cons_succ]
          refine wpAnyH_take (i := 4) (v := ?v4) rfl (by kernel_rfl) (by kernel_rfl) (by kernel_rfl) (fun _ _ _ h => h) (Or.inl ⟨by rfl, ?y4⟩) (by assumption) ?r4
          case y4 => (intro w hSw; (try dsimp only at hSw); go_simp; try with_reducible rfl)
          try simp only [Act.put, List.setIfInBounds_toArray, List.set_cons_zero, List.set_cons_succ, List.getElem_toArray, List.getElem_cons_zero, List.getElem_cons_succ]
          refine wpAnyH_take (i := 5) (v := ?v5) rfl (by kernel_rfl) (by kernel_rfl) (by kernel_rfl) (fun _ _ _ h => h) (Or.inl ⟨by rfl, ?y5⟩) (by assumption) ?r5
          case y5 => (intro w hSw; (try dsimp only at hSw); go_simp; try with_reducible rfl)
          try simp only [Act.put, List.setIfInBounds_toArray, List.set_cons_zero, List.set_cons_succ, List.getElem_toArray, List.getElem_cons_zero, List.getElem_cons_succ]
          refine wpAnyH_take (i := 7) (v := ?v7) rfl (by kernel_rfl) (by kernel_rfl) (by kernel_rfl) (fun _ _ _ h => h) (Or.inl ⟨by rfl, ?y7⟩) (by assumption) ?r7
          case y7 => (intro w hSw; (try dsimp only at hSw); go_simp; try with_reducible rfl)
          try simp only [Act.put, List.setIfInBounds_toArray, List.set_cons_zero, List.set_cons_succ, List.getElem_toArray, List.getElem_cons_zero, List.getElem_cons_succ]
          refine wpAnyH_take (i := 9) (v := ?v9) rfl (by kernel_rfl) (by kernel_rfl) (by kernel_rfl) (fun _ _ _ h => h) (Or.inl ⟨by rfl, ?y9⟩) (by assumption) ?r9
          case y9 => (intro w hSw; (try dsimp only at hSw); go_simp; try with_reducible rfl)
          try simp only [Act.put, List.setIfInBounds_toArray, List.set_cons_zero, List.set_cons_succ, List.getElem_toArray, List.getElem_cons_zero, List.getElem_cons_succ]
          refine wpAnyH_take (i := 10) (v := ?v10) rfl (by kernel_rfl) (by kernel_rfl) (by kernel_rfl) (fun _ _ _ h => h) (Or.inl ⟨by rfl, ?y10⟩) (by assumption) ?r10
          case y10 => (intro w hSw; (try dsimp only at hSw); go_simp; try with_reducible rfl)
          try simp only [Act.put, List.setIfInBounds_toArray, List.set_cons_zero, List.set_cons_succ, List.getElem_toArray, List.getElem_cons_zero, List.getElem_cons_succ]
          refine wpAnyH_ready (rs := [6, 8]) (by kernel_rfl) (by simp) ?_
          refine AllReadyH.cons rfl (fun K hK => ?_) (AllReadyH.cons rfl (fun K hK => ?_) AllReadyH.nil)
          · skip
            have hl6 := HLK.out
            go_simp
            refine hK.out _ _ (g0) (fun hHeld => ?_)
            clear hK K hl6
            try simp only [Act.put, List.setIfInBounds_toArray, List.set_cons_zero, List.set_cons_succ, List.getElem_toArray, List.getElem_cons_zero, List.getElem_cons_succ]
            refine wpAnyH_ready (rs := [8]) (by kernel_rfl) (by simp) ?_
            refine AllReadyH.cons rfl (fun K hK => ?_) AllReadyH.nil
            go_simp
            go_at_call 32
            refine (hnm _).mono ?_
            rintro e wa ⟨rfl, ha⟩
            have g1 := keepD9 ha g0
            have hga := HGD.out.below ha
            have hlka := hga.look HX.out
            have hlkb := (hga.below (balloc (Below.refl _ wa) (.cells #[.string key, .int .i64 n1, .int .i64 s1, .int .i64 y, .int .i64 z] 64))).look HX.out
            rw [HROW.out] at hlka hlkb
            have HLKA := Lib.hid hlka
            have HLKB := Lib.hid hlkb
            have hba := bstep HB0.out ha
            obtain ⟨qq, capq, wb, wc, n', g', hrA, hrM, hgc, hkc, hbc⟩ := hga.add (c := ((key, n1, s1), (y, z))) (by omega) (by have := hba.size; omega) hlen HX.out 62
            rw [HROW.out] at hrA
            have HGC := Lib.hid hgc
            have HKC := Lib.hid hkc
            have HBA := Lib.hid hba
            have HBC := Lib.hid hbc
            have HRM := Lib.hid hrM
            have HRA := Lib.hid hrA
            have g2 := keepD9 (balloc (Below.refl _ wa) (.cells #[.string key, .int .i64 n1, .int .i64 s1, .int .i64 y, .int .i64 z] 64)) g1
            have hwa : wr.heap.size < wa.heap.size := lt_of_cellN g1.2.1
            have g3 := keepD9b (HKC.out w0.heap.size (by omega) HAV.out).2.1 (HKC.out wr.heap.size hwa HAVD.out).2.1 g1
            have g4 := keepD9b ((HKC.out w0.heap.size (by omega) HAV.out).2.2 (by omega)) ((HKC.out wr.heap.size hwa HAVD.out).2.2 (by omega)) g1
            clear hga hba hgc hkc hbc hrM hrA ha hlka hlkb
            go_wp2_with fail
            refine hK.out _ _ (g1) (fun hHeld => ?_)
            clear hK K
            try simp only [Act.put, List.setIfInBounds_toArray, List.set_cons_zero, List.set_cons_succ, List.getElem_toArray, List.getElem_cons_zero, List.getElem_cons_succ]
            refine wpAnyH_take (i := 11) (v := ?vb1_11) rfl (by kernel_rfl) (by kernel_rfl) (by kernel_rfl) (fun _ _ _ h => h) (Or.inl ⟨by rfl, ?yb1_11⟩) (by assumption) ?rb1_11
            case yb1_11 => (intro w hSw; (try dsimp only at hSw); go_simp; try with_reducible rfl)
            try simp only [Act.put, List.setIfInBounds_toArray, List.set_cons_zero, List.set_cons_succ, List.getElem_toArray, List.getElem_cons_zero, List.getElem_cons_succ]
            refine wpAnyH_ready (rs := [12]) (by kernel_rfl) (by simp) ?_
            refine AllReadyH.cons rfl (fun K hK => ?_) AllReadyH.nil
            go_simp
            refine hK.out _ _ (g2) (fun hHeld => ?_)
            clear hK K
            try simp only [Act.put, List.setIfInBounds_toArray, List.set_cons_zero, List.set_cons_succ, List.getElem_toArray, List.getElem_cons_zero, List.getElem_cons_succ]
            refine wpAnyH_ready (rs := [13]) (by kernel_rfl) (by simp) ?_
            refine AllReadyH.cons rfl (fun K hK => ?_) AllReadyH.nil
            refine step_append_run (by rfl) _ _ 62 (by rfl) _ _ _ _ (by rfl) (by rfl) HRA.out ?_
            refine hK.out _ _ (g3) (fun hHeld => ?_)
            clear hK K
            try simp only [Act.put, List.setIfInBounds_toArray, List.set_cons_zero, List.set_cons_succ, List.getElem_toArray, List.getElem_cons_zero, List.getElem_cons_succ]
            refine wpAnyH_ready (rs := [14]) (by kernel_rfl) (by simp) ?_
            refine AllReadyH.cons rfl (fun K hK => ?_) AllReadyH.nil
            have hl14 := HRM.out
            go_simp
            refine hK.out _ _ (g4) (fun hHeld => ?_)
            clear hK K hl14
            try simp only [Act.put, List.setIfInBounds_toArray, List.set_cons_zero, List.set_cons_succ, List.getElem_toArray, List.getElem_cons_zero, List.getElem_cons_succ]
            refine wpAnyH_done (by kernel_rfl) ?_ _
            go_wp2
            go_roundw
            case rel => exact ⟨j + 1, by omega, by go_num, ⟨n', g', by rw [HTJ.out, ← List.append_assoc, HCUR.out]; exact HGC.out, (HKC.out w0.heap.size (by omega) HAV.out).1⟩, (HVV.out.keep HBA.out).block ((HKC.out w0.heap.size (by omega) HAV.out).2.2 (by omega)), by have := HBC.out.size; omega, hbel.trans ((HBA.out.mono hbel.size).trans HBC.out)⟩
            case measure => simp [intOf]; omega
          · skip
            go_simp
            go_at_call 32
            refine (hnm _).mono ?_
            rintro e wa ⟨rfl, ha⟩
            have g1 := keepD9 ha g0
            have hga := HGD.out.below ha
            have hlka := hga.look HX.out
            have hlkb := (hga.below (balloc (Below.refl _ wa) (.cells #[.string key, .int .i64 n1, .int .i64 s1, .int .i64 y, .int .i64 z] 64))).look HX.out
            rw [HROW.out] at hlka hlkb
            have HLKA := Lib.hid hlka
            have HLKB := Lib.hid hlkb
            have hba := bstep HB0.out ha
            obtain ⟨qq, capq, wb, wc, n', g', hrA, hrM, hgc, hkc, hbc⟩ := hga.add (c := ((key, n1, s1), (y, z))) (by omega) (by have := hba.size; omega) hlen HX.out 62
            rw [HROW.out] at hrA
            have HGC := Lib.hid hgc
            have HKC := Lib.hid hkc
            have HBA := Lib.hid hba
            have HBC := Lib.hid hbc
            have HRM := Lib.hid hrM
            have HRA := Lib.hid hrA
            have g2 := keepD9 (balloc (Below.refl _ wa) (.cells #[.string key, .int .i64 n1, .int .i64 s1, .int .i64 y, .int .i64 z] 64)) g1
            have hwa : wr.heap.size < wa.heap.size := lt_of_cellN g1.2.1
            have g3 := keepD9b (HKC.out w0.heap.size (by omega) HAV.out).2.1 (HKC.out wr.heap.size hwa HAVD.out).2.1 g1
            have g4 := keepD9b ((HKC.out w0.heap.size (by omega) HAV.out).2.2 (by omega)) ((HKC.out wr.heap.size hwa HAVD.out).2.2 (by omega)) g1
            clear hga hba hgc hkc hbc hrM hrA ha hlka hlkb
            go_wp2_with fail
            refine hK.out _ _ (g1) (fun hHeld => ?_)
            clear hK K
            try simp only [Act.put, List.setIfInBounds_toArray, List.set_cons_zero, List.set_cons_succ, List.getElem_toArray, List.getElem_cons_zero, List.getElem_cons_succ]
            refine wpAnyH_take (i := 11) (v := ?vb2_11) rfl (by kernel_rfl) (by kernel_rfl) (by kernel_rfl) (fun _ _ _ h => h) (Or.inl ⟨by rfl, ?yb2_11⟩) (by assumption) ?rb2_11
            case yb2_11 => (intro w hSw; (try dsimp only at hSw); go_simp; try with_reducible rfl)
            try simp only [Act.put, List.setIfInBounds_toArray, List.set_cons_zero, List.set_cons_succ, List.getElem_toArray, List.getElem_cons_zero, List.getElem_cons_succ]
            refine wpAnyH_ready (rs := [6, 12]) (by kernel_rfl) (by simp) ?_
            refine AllReadyH.cons rfl (fun K hK => ?_) (AllReadyH.cons rfl (fun K hK => ?_) AllReadyH.nil)
            · skip
              have hl6 := HLKA.out
              go_simp
              refine hK.out _ _ (g1) (fun hHeld => ?_)
              clear hK K hl6
              try simp only [Act.put, List.setIfInBounds_toArray, List.set_cons_zero, List.set_cons_succ, List.getElem_toArray, List.getElem_cons_zero, List.getElem_cons_succ]
              refine wpAnyH_ready (rs := [12]) (by kernel_rfl) (by simp) ?_
              refine AllReadyH.cons rfl (fun K hK => ?_) AllReadyH.nil
              go_simp
              refine hK.out _ _ (g2) (fun hHeld => ?_)
              clear hK K
              try simp only [Act.put, List.setIfInBounds_toArray, List.set_cons_zero, List.set_cons_succ, List.getElem_toArray, List.getElem_cons_zero, List.getElem_cons_succ]
              refine wpAnyH_ready (rs := [13]) (by kernel_rfl) (by simp) ?_
              refine AllReadyH.cons rfl (fun K hK => ?_) AllReadyH.nil
              refine step_append_run (by rfl) _ _ 62 (by rfl) _ _ _ _ (by rfl) (by rfl) HRA.out ?_
              refine hK.out _ _ (g3) (fun hHeld => ?_)
              clear hK K
              try simp only [Act.put, List.setIfInBounds_toArray, List.set_cons_zero, List.set_cons_succ, List.getElem_toArray, List.getElem_cons_zero, List.getElem_cons_succ]
              refine wpAnyH_ready (rs := [14]) (by kernel_rfl) (by simp) ?_
              refine AllReadyH.cons rfl (fun K hK => ?_) AllReadyH.nil
              have hl14 := HRM.out
              go_simp
              refine hK.out _ _ (g4) (fun hHeld => ?_)
              clear hK K hl14
              try simp only [Act.put, List.setIfInBounds_toArray, List.set_cons_zero, List.set_cons_succ, List.getElem_toArray, List.getElem_cons_zero, List.getElem_cons_succ]
              refine wpAnyH_done (by kernel_rfl) ?_ _
              go_wp2
              go_roundw
              case rel => exact ⟨j + 1, by omega, by go_num, ⟨n', g', by rw [HTJ.out, ← List.append_assoc, HCUR.out]; exact HGC.out, (HKC.out w0.heap.size (by omega) HAV.out).1⟩, (HVV.out.keep HBA.out).block ((HKC.out w0.heap.size (by omega) HAV.out).2.2 (by omega)), by have := HBC.out.size; omega, hbel.trans ((HBA.out.mono hbel.size).trans HBC.out)⟩
              case measure => simp [intOf]; omega
            · skip
              go_simp
              refine hK.out _ _ (g2) (fun hHeld => ?_)
              clear hK K
              try simp only [Act.put, List.setIfInBounds_toArray, List.set_cons_zero, List.set_cons_succ, List.getElem_toArray, List.getElem_cons_zero, List.getElem_cons_succ]
              refine wpAnyH_ready (rs := [6]) (by kernel_rfl) (by simp) ?_
              refine AllReadyH.cons rfl (fun K hK => ?_) AllReadyH.nil
              have hl6 := HLKB.out
              go_simp
              refine hK.out _ _ (g2) (fun hHeld => ?_)
              clear hK K hl6
              try simp only [Act.put, List.setIfInBounds_toArray, List.set_cons_zero, List.set_cons_succ, List.getElem_toArray, List.getElem_cons_zero, List.getElem_cons_succ]
              refine wpAnyH_ready (rs := [13]) (by kernel_rfl) (by simp) ?_
              refine AllReadyH.cons rfl (fun K hK => ?_) AllReadyH.nil
              refine step_append_run (by rfl) _ _ 62 (by rfl) _ _ _ _ (by rfl) (by rfl) HRA.out ?_
              refine hK.out _ _ (g3) (fun hHeld => ?_)
              clear hK K
              try simp only [Act.put, List.setIfInBounds_toArray, List.set_cons_zero, List.set_cons_succ, List.getElem_toArray, List.getElem_cons_zero, List.getElem_cons_succ]
              refine wpAnyH_ready (rs := [14]) (by kernel_rfl) (by simp) ?_
              refine AllReadyH.cons rfl (fun K hK => ?_) AllReadyH.nil
              have hl14 := HRM.out
              go_simp
              refine hK.out _ _ (g4) (fun hHeld => ?_)
              clear hK K hl14
              try simp only [Act.put, List.setIfInBounds_toArray, List.set_cons_zero, List.set_cons_succ, List.getElem_toArray, List.getElem_cons_zero, List.getElem_cons_succ]
              refine wpAnyH_done (by kernel_rfl) ?_ _
              go_wp2
              go_roundw
              case rel => exact ⟨j + 1, by omega, by go_num, ⟨n', g', by rw [HTJ.out, ← List.append_assoc, HCUR.out]; exact HGC.out, (HKC.out w0.heap.size (by omega) HAV.out).1⟩, (HVV.out.keep HBA.out).block ((HKC.out w0.heap.size (by omega) HAV.out).2.2 (by omega)), by have := HBC.out.size; omega, hbel.trans ((HBA.out.mono hbel.size).trans HBC.out)⟩
              case measure => simp [intOf]; omega
        · obtain rfl : j = past.length := by omega
          go_wp2
          go_roundw
          case rel => exact ⟨k + 1, by omega, by go_num, ⟨n, g, by have h := HG.out; rw [List.take_length] at h; rw [HTK.out]; exact h⟩, by omega, hbel⟩
          case measure => simp [intOf]; omega
    · obtain rfl : k = xs.length := by omega
      go_wp2
      go_ret
      exact ⟨_, n, g, rfl, by have h := HG.out; rw [List.take_length] at h; exact h, hbel⟩
end Go.Proofs.Ytfnfpanmbmkhmaa
/- What nearest.Reduce answers. -/
namespace Go.Proofs.Ytfnfpanmbmkhmaa
open Go.RowKit Go.Maps
set_option linter.unusedVariables false
set_option linter.unusedSimpArgs false

def telB (cs : List Cl) (y : De) : Bool := cs.any fun c => !decide (c.1 = y) && !Sm.less c.2 y.2
theorem mem_tel {ds : List De} {xs : List Vp} {k : ByteArray} {c : Cl} : c ∈ rowsK (telL (fndL ds xs)) k ↔ ∃ x, c.1 ∈ ds ∧ fndP xs c.1 = some x ∧ (k, c.2) ∈ x.1.past := by
  unfold rowsK telL fndL
  rw [List.mem_map]
  constructor
  · rintro ⟨⟨k', c'⟩, h1, rfl⟩
    rw [List.mem_filter, List.mem_flatMap] at h1
    obtain ⟨⟨x, hx, hm⟩, hk⟩ := h1
    simp at hk
    subst hk
    obtain ⟨d, hd, e⟩ := List.mem_map.1 hm
    obtain ⟨dd, hdd, hf⟩ := List.mem_filterMap.1 hx
    simp only [Prod.mk.injEq] at e
    obtain ⟨e1, e2⟩ := e
    subst e2
    have hdep := (fndP_some hf).2
    refine ⟨x, by rw [hdep]; exact hdd, by rw [hdep]; exact hf, ?_⟩
    rw [← e1]
    exact hd
  · rintro ⟨x, h1, h2, h3⟩
    refine ⟨(k, c), ?_, rfl⟩
    rw [List.mem_filter, List.mem_flatMap]
    refine ⟨⟨x, List.mem_filterMap.2 ⟨c.1, h1, h2⟩, List.mem_map.2 ⟨(k, c.2), h3, ?_⟩⟩, by simp⟩
    rw [(fndP_some h2).2]
theorem red_eq {ds : List De} {xs : List Vp} (hs : Srt ds) (hok : ∀ x ∈ xs, VOk x.1) : redL ds (xs.map Prod.fst) = ds.filter fun y => !telB (rowsK (telL (fndL ds xs)) y.1) y := by
  unfold redL
  refine List.filter_congr fun y hy => ?_
  congr 1
  rw [Bool.eq_iff_iff, List.any_eq_true]
  unfold telB
  rw [List.any_eq_true]
  constructor
  · rintro ⟨x, hx, h⟩
    rw [Bool.and_eq_true, decide_eq_true_eq] at h
    obtain ⟨v, hv, hl⟩ := imp_iff.1 h.2
    rw [← fndP_fnd, Option.map_eq_some_iff] at hv
    obtain ⟨xv, hxv, rfl⟩ := hv
    have hsv := (hok xv (fndP_some hxv).1).srt
    obtain ⟨d, hd, hk, hg⟩ := gtD_at hsv (okD_gt (hs.1 y hy)) hl
    refine ⟨(x, d.2), mem_tel.2 ⟨xv, hx, hxv, ?_⟩, ?_⟩
    · rw [← hk]; exact hd
    · rw [hg] at hl
      simp [hl, h.1]
  · rintro ⟨c, hc, h⟩
    obtain ⟨x, h1, h2, h3⟩ := mem_tel.1 hc
    simp only [Bool.and_eq_true, Bool.not_eq_true', decide_eq_false_iff_not] at h
    refine ⟨c.1, h1, ?_⟩
    rw [Bool.and_eq_true, decide_eq_true_eq]
    refine ⟨h.1, imp_iff.2 ⟨x.1, by rw [← fndP_fnd, h2]; rfl, ?_⟩⟩
    rw [gtD_mem (hok x (fndP_some h2).1).srt h3]
    exact h.2

set_option maxRecDepth 100000 in
set_option maxHeartbeats 6400000 in
theorem reduce_any (v1 v2 : Value) (ds : List De) (xs : List Vp) (w : World) (hl : ds.length ≤ 50) (hs : Srt ds) (hx : xs.length ≤ 1000) (hok : ∀ x ∈ xs, VOk x.1) (h1 : DepAt w v1 ds) (h2 : VRow w v2 xs) :
    Calls Try.prog 14 #[v1, v2] w fun e w' => ∃ u, e = .returned u ∧ OwnD w' w.heap.size u (redL ds (xs.map Prod.fst)) ∧ Below w.heap.size w w' := by
  rw [red_eq hs hok]
  have HV1 := Lib.hid h1
  have HV2 := Lib.hid h2
  have HS := Lib.hid hs
  have HOK := Lib.hid hok
  obtain ⟨a1, c1, rfl, _, _, _, _⟩ := h1
  obtain ⟨a2, c2, rfl, _, _⟩ := h2.shape
  clear h2 hs hok
  have hfl := fndL_len ds xs
  go_enter Try.func14, Try.ntmps14
  go_wp2
  go_step3
  go_wp2_with fail
  refine (index_any _ xs _ (by omega) (fun x hx => (HOK.out x hx).key) HV2.out).mono ?_
  rintro e w1 ⟨b, rfl, hb, hi, hb1⟩
  have HV11 := Lib.hid (HV1.out.below hb1)
  have HV21 := Lib.hid (HV2.out.below hb1)
  clear HV2
  go_wp2_with fail
  refine (found_any _ ds b xs _ (by omega) (srt_nodup HS.out) (Srt.keys HS.out) HV11.out hi).mono ?_
  rintro e w2 ⟨u2, rfl, ho2, hb2⟩
  have HVR : Hid (VRow w2 u2 (fndL ds xs)) := Lib.hid (VRow.of_own ho2 (fun x hx => ((HV21.out.below hb2).2 x (fndL_mem hx))))
  have hbel2 := bstep hb1 hb2
  obtain ⟨sa, sc, rfl⟩ := ho2.shape
  clear ho2 hi HV21 HV11 hb1 hb2
  go_wp2_with fail
  refine (claimsOf_any _ (fndL ds xs) _ (by omega) (fun x hx => HOK.out x (fndL_mem hx)) HVR.out).mono ?_
  rintro e w3 ⟨b3, n3, g3, rfl, hg3, hb3⟩
  have HG3 := Lib.hid hg3
  have hbel3 := bstep hbel2 hb3
  have HV13 := Lib.hid (HV1.out.below hbel3)
  clear hg3 hb3 hbel2 HVR HV1
  have HTL : Hid ((telL (fndL ds xs)).length ≤ 2500) := Lib.hid (by
    have h1 := telL_len (xs := fndL ds xs) (fun x hx => (HOK.out x (fndL_mem hx)).len)
    have h3 : (fndL ds xs).length * 50 ≤ 50 * 50 := Nat.mul_le_mul_right _ (by omega)
    omega)
  clear hfl
  generalize htel : telL (fndL ds xs) = tel at HG3 HTL
  have HTEL := Lib.hid htel
  clear htel
  have hne := ne_dep
  have hsz3 : w.heap.size ≤ w3.heap.size := hbel3.size
  go_wp2
  go_step3
  go_wp2
  go_loopw [6, 18] (fun o i wr => ∃ k : Nat, k ≤ ds.length ∧ i = .int .i64 k ∧ OwnD wr w3.heap.size o ((ds.take k).filter fun y => !telB (rowsK tel y.1) y) ∧ Below w3.heap.size w3 wr) (fun _ i _ => ds.length - (intOf i).toNat)
  case atStart => exact ⟨0, by omega, rfl, OwnD.nil _ _, Below.refl _ _⟩
  case round =>
    obtain ⟨k, hk, rfl, ho, hbel⟩ := hrel
    have hol : ((ds.take k).filter fun y => !telB (rowsK tel y.1) y).length ≤ 50 := by
      have h1 := List.length_filter_le (fun y => !telB (rowsK tel y.1) y) (ds.take k)
      have h2 := List.length_take_le k ds
      omega
    have HO := Lib.hid ho
    obtain ⟨sa, sc, rfl⟩ := ho.shape
    clear ho
    have hbs := hbel.size
    by_cases hlt : k < ds.length
    · obtain ⟨a', c', e', _, _, _, hdi⟩ := HV13.out.below hbel
      cases e'
      obtain ⟨b', off', rfl, hbl', d0, d1, d2⟩ := hdi k hlt
      have HOKD := Lib.hid (HS.out.1 _ (List.getElem_mem hlt))
      have HTK : Hid (((ds.take (k + 1)).filter fun y => !telB (rowsK tel y.1) y) = ((ds.take k).filter fun y => !telB (rowsK tel y.1) y) ++ if telB (rowsK tel ds[k].1) ds[k] then [] else [ds[k]]) := Lib.hid (by
        rw [List.take_succ_eq_append_getElem hlt, List.filter_append]
        congr 1
        cases h : telB (rowsK tel ds[k].1) ds[k] <;> simp [h])
      generalize ds[k] = d at d0 d1 d2 HOKD HTK
      obtain ⟨x, y, z⟩ := d
      dsimp only at d0 d1 d2 HTK
      generalize ((ds.take k).filter fun y => !telB (rowsK tel y.1) y) = acc at hol HO HTK
      have HX : Hid (x.size ≤ maxLen) := Lib.hid (okD_key HOKD.out).1
      obtain ⟨w0, hw0⟩ : ∃ w0, w0 = wr := ⟨_, rfl⟩
      subst hw0
      have HB0 : Hid (Below w0.heap.size w0 (w0.alloc (.cells #[.string x, .int .i64 y, .int .i64 z] 26))) := Lib.hid (balloc (Below.refl _ w0) _)
      have HGD := Lib.hid ((HG3.out.below hbel).below HB0.out)
      have hlk := HGD.out.look HX.out
      obtain ⟨ra, rc, hrow⟩ := (HG3.out.row x HX.out).shape
      have HROW := Lib.hid hrow
      rw [HROW.out] at hlk
      have HRI := Lib.hid (HG3.out.row x HX.out)
      rw [HROW.out] at HRI
      clear hrow hdi
      have hcl : (rowsK tel x).length ≤ 2500 := by have h1 := rowsK_len tel x; have h2 := HTL.out; omega
      generalize rowsK tel x = cs at hlk HRI HTK hcl
      have HVD0 := Lib.hid (VarD.new w0 x y z 26)
      have HBEL := Lib.hid hbel
      clear hbel
      go_wp2
      go_loopw [27] (fun i wr => ∃ j : Nat, j ≤ cs.length ∧ i = .int .i64 j ∧ (∀ q (hq : q < cs.length), q < j → (!decide (cs[q].1 = (x, y, z)) && !Sm.less cs[q].2 (y, z)) = false) ∧ VarD wr w0.heap.size x y z ∧ w0.heap.size + 1 ≤ wr.heap.size ∧ Below w0.heap.size w0 wr) (fun i _ => cs.length - (intOf i).toNat)
      case atStart => exact ⟨0, by omega, rfl, (fun q hq h => by omega), HVD0.out, by simp, HB0.out⟩
      case round =>
        obtain ⟨j, hj, rfl, hall, hvd, hsz, hbel⟩ := hrel
        have HA := Lib.hid hall
        have HVD := Lib.hid hvd
        have HB3 := Lib.hid (HBEL.out.trans (hbel.mono hbs))
        clear hall hvd
        by_cases hjl : j < cs.length
        · obtain ⟨b5, off5, rfl, hbl5, hc5⟩ := RowIn.of_own kc_ok (HRI.out.below HB3.out) j hjl
          have e0 := hc5 0 _ rfl
          have e1 := hc5 1 _ rfl
          have e2 := hc5 2 _ rfl
          have e3 := hc5 3 _ rfl
          have e4 := hc5 4 _ rfl
          clear hc5
          have HN : Hid ((!decide (cs[j].1 = (x, y, z)) && !Sm.less cs[j].2 (y, z)) = false → ∀ q (hq : q < cs.length), q < j + 1 → (!decide (cs[q].1 = (x, y, z)) && !Sm.less cs[q].2 (y, z)) = false) := Lib.hid (fun h q hq h2 => by
            by_cases e : q = j
            · subst e; exact h
            · exact HA.out q hq (by omega))
          have HT : Hid ((!decide (cs[j].1 = (x, y, z)) && !Sm.less cs[j].2 (y, z)) = true → telB cs (x, y, z) = true) := Lib.hid (fun h => List.any_eq_true.2 ⟨cs[j], List.getElem_mem hjl, h⟩)
          generalize cs[j] = c at e0 e1 e2 e3 e4 HN HT
          obtain ⟨⟨cx, cy, cz⟩, tn, ts⟩ := c
          dsimp only [KC, Nat.add_zero] at e0 e1 e2 e3 e4 HN HT
          have hB1 : Below wr.heap.size wr (wr.alloc (.cells #[.string cx, .int .i64 cy, .int .i64 cz, .int .i64 tn, .int .i64 ts] 64)) := balloc (Below.refl _ wr) _
          obtain ⟨v0, v1, v2, _, _, _⟩ := HVD.out.keep hB1
          have HB1 := Lib.hid hB1
          clear hB1
          have hne1 := fun w' => hne w' cx cy cz x y z
          have hls := fun W => less_any tn ts y z W
          have hnw : w0.heap.size ≠ wr.heap.size := by omega
          generalize hdc : decide (((cx, cy, cz) : De) = (x, y, z)) = dc at hne1 HN HT
          clear hdc hne
          cases dc with
          | true =>
            simp only [Bool.not_true] at hne1
            go_wp2
            go_roundw
            case rel => exact ⟨j + 1, by omega, by go_num, HN.out rfl, HVD.out.keep HB1.out, by simp; omega, hbel.trans (HB1.out.mono (by omega))⟩
            case measure => simp [intOf]; omega
          | false =>
            simp only [Bool.not_false] at hne1
            generalize hlc : Sm.less (tn, ts) (y, z) = lc at hls HN HT
            clear hlc
            cases lc with
            | true =>
              go_wp2_with fail
              refine (hls _).mono ?_
              rintro e w5 ⟨rfl, hb5⟩
              have hb6 := bstep HB1.out hb5
              go_wp2
              go_roundw
              case rel => exact ⟨j + 1, by omega, by go_num, HN.out rfl, HVD.out.keep hb6, by have := hb6.size; omega, hbel.trans (hb6.mono (by omega))⟩
              case measure => simp [intOf]; omega
            | false =>
              go_wp2_with fail
              refine (hls _).mono ?_
              rintro e w5 ⟨rfl, hb5⟩
              have hb6 := hbel.trans ((bstep HB1.out hb5).mono (by omega))
              go_wp2
              go_roundw
              case rel => exact ⟨k + 1, by omega, by go_num, by rw [HTK.out, HT.out rfl, if_pos rfl, List.append_nil]; exact HO.out.below hb6, HBEL.out.trans (hb6.mono hbs)⟩
              case measure => simp [intOf]; omega
        · obtain rfl : j = cs.length := by omega
          have HTF : Hid (telB cs (x, y, z) = false) := Lib.hid (by
            unfold telB
            rw [List.any_eq_false]
            intro c hc
            obtain ⟨q, hq, rfl⟩ := List.getElem_of_mem hc
            rw [HA.out q hq hq]
            simp)
          obtain ⟨v0, v1, v2, _, _, _⟩ := HVD.out
          go_wp2_with (at_builtin; refine wp_pushD (wr := wr) rfl _ _ rfl w3.heap.size (.slice sa acc.length sc) acc x y z rfl (HO.out.below hbel) rfl (by omega) (by omega) ?_; intro g gcap w4 ho4 hb4 hk4 hg4)
          go_wp2
          go_roundw
          case rel => exact ⟨k + 1, by omega, by go_num, by rw [HTK.out, HTF.out]; simpa using ho4, HB3.out.trans hb4⟩
          case measure => simp [intOf]; omega
    · obtain rfl : k = ds.length := by omega
      go_wp2
      try rw [Exit.noGoto_ret]
      go_ret
      exact ⟨_, rfl, by have h := HO.out.mono hsz3; rw [List.take_length] at h ⊢; rw [HTEL.out]; exact h, hbel3.trans (hbel.mono hsz3)⟩
end Go.Proofs.Ytfnfpanmbmkhmaa
