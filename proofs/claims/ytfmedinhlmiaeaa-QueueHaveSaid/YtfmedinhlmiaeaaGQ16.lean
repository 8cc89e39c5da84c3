/- What slices.DeleteFunc answers of dependencies in a row of the caller's own: nothing but that row's block is written. -/
import Derived.Test.YtfmedinhlmiaeaaGQ15
namespace Go.Proofs.Ytfmedinhlmiaeaa
open Go.RowKit
set_option linter.unusedVariables false
set_option linter.unusedSimpArgs false

def PredM (g : Nat) (lb : Array Value) (p : De → Bool) (l : List De) (P : Nat → Prop) (w : World) : Prop :=
  ∀ (W : World) (d : De), d ∈ l → Mv P w W → Calls Try.prog g (#[dv d] ++ lb) W fun e w' => e = .returned (.bool (p d)) ∧ Below W.heap.size W w'
theorem mv_setCells {g : Nat} {w0 : World} : ∀ (vs : List Value) (w : World) (o : Nat), Mv (fun k => k = g) w0 w → Mv (fun k => k = g) w0 (w.setCells g o vs)
  | [], w, o, h => h
  | v :: vs, w, o, h => mv_setCells vs _ (o + 1) (h.set rfl v)

set_option maxRecDepth 100000 in
set_option maxHeartbeats 3200000 in
theorem delFuncM_any (g : Nat) (lb : Array Value) (eg : ∀ args w, (callFunc g args).run Try.prog w = .ok (.enter g args) w) (p : De → Bool) (v : Value) (base : Nat) (l : List De) (w : World) (hl : l.length ≤ 1000000) (ho : OwnD w base v l) (hp : PredM g lb p l (fun k => v.ownBlock = some k) w) :
    Calls Try.prog 35 #[v, .func (.func g) #[] lb] w fun e w' => ∃ v', e = .returned v' ∧ OwnD w' base v' (kept p l) ∧ Mv (fun k => v.ownBlock = some k) w w' := by
  obtain ⟨a, cap, rfl⟩ := ho.shape
  have hcon := idxFunc_any g lb eg p a cap w.heap.size l w hl (by obtain ⟨a', c', e, _, _, _, hr⟩ := DepAt.of_own ho; cases e; exact hr) (Nat.le_refl _) (fun W d hd hb => hp W d hd (Mv.of_below hb))
  rcases fidxD_cases p l with hf | ⟨i0, hi0, hf, hpi, hk0⟩
  · rw [hf] at hcon
    have HK := Lib.hid (kept_all hf)
    have HO := Lib.hid ho
    clear ho hp hf
    go_enter Try.func35, Try.ntmps35
    go_wp2_with (go_at_call 46; refine hcon.mono ?_; rintro e w1 ⟨rfl, hb⟩)
    go_ret
    exact ⟨_, rfl, by rw [HK.out]; exact HO.out.below hb, Mv.of_below hb⟩
  · rw [hf] at hcon
    obtain ⟨gg, rfl⟩ : ∃ gg, a = some ⟨gg, 0, none⟩ := by
      rcases ho.2 with ⟨e, h0⟩ | ⟨gg, cap', cur, e, _⟩
      · omega
      · cases e; exact ⟨gg, rfl⟩
    obtain ⟨_, hcl, hcm⟩ := ho.cap
    obtain ⟨hgb, hgl⟩ := ho.blk
    unfold maxLen at hcm
    have HO := Lib.hid ho
    have HP := Lib.hid hp
    have HK0 := Lib.hid hk0
    have HPI := Lib.hid hpi
    clear ho hp hf hk0 hpi
    have hi1 : ((i0 : Int) == -1) = false := by simp
    go_enter Try.func35, Try.ntmps35
    go_wp2_with (go_at_call 46; refine hcon.mono ?_; rintro e w1 ⟨rfl, hb⟩)
    have HB1 := Lib.hid hb
    have HO1 := Lib.hid (HO.out.below hb)
    clear hb
    go_loopw [5, 6] (fun s5 s6 wr => ∃ (i j : Nat) (L : List De), i < j ∧ j ≤ l.length ∧ s5 = .int .i64 i ∧ s6 = .int .i64 j ∧ L.length = l.length ∧ OwnD wr base (.slice (some ⟨gg, 0, none⟩) L.length cap) L ∧ i = (kept p (l.take j)).length ∧ L.take i = kept p (l.take j) ∧ L.drop j = l.drop j ∧ Mv (fun k => k = gg) w wr) (fun _ s6 _ => l.length - (intOf s6).toNat)
    case atStart => 
      have e : kept p (l.take (i0 + 1)) = l.take i0 := by rw [kept_step p l i0 hi0, HK0.out, HPI.out]; simp
      refine ⟨i0, i0 + 1, l, by omega, by omega, rfl, by go_num, rfl, HO1.out, by rw [e]; simp; omega, by rw [e], rfl, Mv.of_below HB1.out⟩
    case round =>
      obtain ⟨i, j, L, hij, hj, rfl, rfl, hLl, hoL, hi, hkt, hkd, hbel⟩ := hrel
      have HL := Lib.hid hLl
      have HOL := Lib.hid hoL
      have HI := Lib.hid hi
      have HT := Lib.hid hkt
      have HD := Lib.hid hkd
      have hgr : gg < wr.heap.size := (hoL.blk).2
      clear hoL hi hkt hkd hLl
      by_cases hlt : j < l.length
      · have hjL : j < L.length := by rw [HL.out]; exact hlt
        obtain ⟨c0, c1, c2⟩ := HOL.out.at j hjL
        have hcall := HP.out (wr.alloc (.cells #[.string l[j].1, .int .i64 l[j].2.1, .int .i64 l[j].2.2] 34)) l[j] (List.getElem_mem hlt) ((hbel.alloc _).mono (fun k e => by subst e; rfl))
        rw [get_of_drop hlt HL.out HD.out] at c0 c1 c2
        have HS := Lib.hid (kept_step p l j hlt)
        generalize l[j] = d at c0 c1 c2 hcall HS
        obtain ⟨x, y, z⟩ := d
        dsimp only [dv] at c0 c1 c2 hcall
        have hX := VarD.new wr x y z 34
        have HX := Lib.hid hX
        have hb1 : Below wr.heap.size wr (wr.alloc (.cells #[.string x, .int .i64 y, .int .i64 z] 34)) := balloc (Below.refl _ _) _
        clear hX
        have hjl : (j : Int) < (l.length : Int) := by omega
        cases hq : p (x, y, z) with
        | true =>
          rw [hq] at hcall
          rw [hq] at HS
          go_wp2_with (go_at_fn g; refine hcall.mono ?_; rintro e w2 ⟨rfl, hb2⟩)
          go_roundw
          case rel => exact ⟨i, j + 1, L, by omega, by omega, rfl, by go_num, HL.out, HOL.out.below (bstep hb1 hb2), by rw [HS.out]; simpa using HI.out, by rw [HS.out]; simpa using HT.out, drop_next HD.out, hbel.step (bstep hb1 hb2)⟩
          case measure => simp [intOf]; omega
        | false =>
          rw [hq] at hcall
          rw [hq] at HS
          have hil : (i : Int) < (l.length : Int) := by omega
          go_wp2_with (go_at_fn g; refine hcall.mono ?_; rintro e w2 ⟨rfl, hb2⟩; obtain ⟨x0, x1, x2, _, _, _⟩ := HX.out.keep hb2; have HO2 := Lib.hid (HOL.out.below (bstep hb1 hb2)); have HB2 := Lib.hid (hbel.step (bstep hb1 hb2)); obtain ⟨q0, q1, q2⟩ := HO2.out.at i (by omega); have r0 := HO2.out.fr (i * 3); have r1 := HO2.out.fr (i * 3 + 1); have r2 := HO2.out.fr (i * 3 + 2))
          go_roundw
          case rel =>
            refine ⟨i + 1, j + 1, L.set i (x, y, z), by omega, by omega, by go_num, by go_num, by rw [List.length_set]; exact HL.out, by rw [List.length_set]; exact HO2.out.set i (by omega) x y z, ?_, ?_, ?_, ((HB2.out.set rfl _).set rfl _).set rfl _⟩
            · rw [HS.out, List.length_append, ← HI.out]; simp
            · rw [HS.out, take_set_snoc (by omega), HT.out]; simp
            · rw [drop_set (by omega)]; exact drop_next HD.out
          case measure => simp [intOf]; omega
      · obtain rfl : j = l.length := by omega
        have hil : (i : Int) < (l.length : Int) := by omega
        obtain ⟨vs, hclr⟩ := run_clear_dep wr gg (i * 3) (l.length - i) (cap - i) (by omega)
          (fun q hq => by
            have h3 : (i * 3 + q) / 3 < L.length := by rw [HL.out]; omega
            obtain ⟨a0, a1, a2⟩ := HOL.out.at ((i * 3 + q) / 3) h3
            rcases (show i * 3 + q = (i * 3 + q) / 3 * 3 ∨ i * 3 + q = (i * 3 + q) / 3 * 3 + 1 ∨ i * 3 + q = (i * 3 + q) / 3 * 3 + 2 by omega) with e | e | e
            · rw [e, a0]; rfl
            · rw [e, a1]; rfl
            · rw [e, a2]; rfl)
          (fun q hq => HOL.out.fr _)
        go_wp2
        go_ret
        refine ⟨.slice (some ⟨gg, 0, none⟩) i cap, rfl, ?_, (mv_setCells _ _ _ hbel).mono (fun k e => by subst e; rfl)⟩
        obtain ⟨xs', h1, h2⟩ := own_setCells vs wr (i * 3) _ HOL.out
        have h3 := own_cut h1 (k := i) (by rw [HL.out]; omega)
        have h4 := HT.out
        have h5 := HI.out
        rw [List.take_length] at h4 h5
        rw [h2, ← dV_take, h4] at h3
        unfold OwnD
        rw [← h5]
        exact h3
end Go.Proofs.Ytfmedinhlmiaeaa
