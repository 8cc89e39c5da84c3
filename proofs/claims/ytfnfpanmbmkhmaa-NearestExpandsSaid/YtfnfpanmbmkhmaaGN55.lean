/- Texts of this proof, one behind the other: PastDel, PastCmp, PastCheck, PastRefAdd. -/
import Derived.Test.YtfnfpanmbmkhmaaGN54
import Derived.Deep.RegionHeld3
/- What slices.DeleteFunc answers of dependencies in a row of the caller's own. -/
namespace Go.Proofs.Ytfnfpanmbmkhmaa
open Go.RowKit
set_option linter.unusedVariables false
set_option linter.unusedSimpArgs false

abbrev kept (p : De → Bool) (l : List De) : List De := l.filter fun d => !p d
theorem kept_all {p : De → Bool} {l : List De} (h : fidxD p l = -1) : kept p l = l := by
  unfold fidxD at h
  cases e : l.findIdx? p with
  | some i => rw [e] at h; simp at h
  | none =>
    rw [List.findIdx?_eq_none_iff] at e
    unfold kept
    rw [List.filter_eq_self]
    intro x hx
    simp [e x hx]
theorem fidxD_cases (p : De → Bool) (l : List De) : fidxD p l = -1 ∨ ∃ (i : Nat) (h : i < l.length), fidxD p l = i ∧ p l[i] = true ∧ kept p (l.take i) = l.take i := by
  cases e : l.findIdx? p with
  | none => left; simp [fidxD, e]
  | some i =>
    right
    have e' := e
    rw [List.findIdx?_eq_some_iff_getElem] at e
    obtain ⟨hi, hh, hn⟩ := e
    refine ⟨i, hi, by simp [fidxD, e'], hh, ?_⟩
    unfold kept
    rw [List.filter_eq_self]
    intro x hx
    obtain ⟨j, hj, rfl⟩ := List.getElem_of_mem hx
    simp at hj
    rw [List.getElem_take]
    simpa using hn j (by omega)
theorem kept_step (p : De → Bool) (l : List De) (j : Nat) (h : j < l.length) : kept p (l.take (j + 1)) = kept p (l.take j) ++ (if p l[j] then [] else [l[j]]) := by
  unfold kept
  rw [List.take_succ_eq_append_getElem h, List.filter_append]
  cases hp : p l[j] <;> simp [List.filter_cons, hp]
theorem take_set_snoc {L : List De} {i : Nat} (h : i < L.length) (d : De) : (L.set i d).take (i + 1) = L.take i ++ [d] := by
  rw [List.take_succ_eq_append_getElem (by simpa using h), List.take_set_of_le (Nat.le_refl _)]
  simp
theorem drop_set {L : List De} {i j : Nat} (h : i < j) (d : De) : (L.set i d).drop j = L.drop j := List.drop_set_of_lt h
theorem get_of_drop {L l : List De} {j : Nat} (hj : j < l.length) (hL : L.length = l.length) (h : L.drop j = l.drop j) : L[j]'(by omega) = l[j] := by
  have h1 := congrArg (fun x => x[0]?) h
  simp only [List.getElem?_drop, Nat.add_zero] at h1
  rw [List.getElem?_eq_getElem (by omega), List.getElem?_eq_getElem hj] at h1
  exact Option.some.inj h1
theorem drop_next {L l : List De} {j : Nat} (h : L.drop j = l.drop j) : L.drop (j + 1) = l.drop (j + 1) := by
  have e1 : L.drop (j + 1) = (L.drop j).drop 1 := by rw [List.drop_drop]
  have e2 : l.drop (j + 1) = (l.drop j).drop 1 := by rw [List.drop_drop]
  rw [e1, e2, h]

set_option maxRecDepth 100000 in
set_option maxHeartbeats 3200000 in
theorem delFunc_any (g : Nat) (lb : Array Value) (eg : ∀ args w, (callFunc g args).run Try.prog w = .ok (.enter g args) w) (p : De → Bool) (v : Value) (base : Nat) (l : List De) (w : World) (hl : l.length ≤ 1000000) (ho : OwnD w base v l) (hbs : base ≤ w.heap.size) (hp : PredD g lb p l base w) :
    Calls Try.prog 47 #[v, .func (.func g) #[] lb] w fun e w' => ∃ v', e = .returned v' ∧ OwnD w' base v' (kept p l) ∧ Below base w w' := by
  obtain ⟨a, cap, rfl⟩ := ho.shape
  have hcon := idxFunc_any g lb eg p a cap base l w hl (by obtain ⟨a', c', e, _, _, _, hr⟩ := DepAt.of_own ho; cases e; exact hr) hbs hp
  rcases fidxD_cases p l with hf | ⟨i0, hi0, hf, hpi, hk0⟩
  · rw [hf] at hcon
    have HK := Lib.hid (kept_all hf)
    have HO := Lib.hid ho
    clear ho hp hf
    go_enter Try.func47, Try.ntmps47
    go_wp2_with (go_at_call 64; refine hcon.mono ?_; rintro e w1 ⟨rfl, hb⟩)
    go_ret
    exact ⟨_, rfl, by rw [HK.out]; exact HO.out.below hb, hb.mono hbs⟩
  · rw [hf] at hcon
    obtain ⟨gg, rfl⟩ : ∃ gg, a = some ⟨gg, 0, none⟩ := by
      rcases ho.2 with ⟨e, h0⟩ | ⟨gg, cap', cur, e, _⟩
      · omega
      · cases e; exact ⟨gg, rfl⟩
    obtain ⟨_, hcl, hcm⟩ := ho.cap
    obtain ⟨hgb, hgl⟩ := ho.blk
    unfold maxLen at hcm
    have HO := Lib.hid ho
    have HP := Lib.hid hp
    have HK0 := Lib.hid hk0
    have HPI := Lib.hid hpi
    clear ho hp hf hk0 hpi
    have hi1 : ((i0 : Int) == -1) = false := by simp
    go_enter Try.func47, Try.ntmps47
    go_wp2_with (go_at_call 64; refine hcon.mono ?_; rintro e w1 ⟨rfl, hb⟩)
    have HB1 := Lib.hid hb
    have HO1 := Lib.hid (HO.out.below hb)
    clear hb
    go_loopw [5, 6] (fun s5 s6 wr => ∃ (i j : Nat) (L : List De), i < j ∧ j ≤ l.length ∧ s5 = .int .i64 i ∧ s6 = .int .i64 j ∧ L.length = l.length ∧ OwnD wr base (.slice (some ⟨gg, 0, none⟩) L.length cap) L ∧ i = (kept p (l.take j)).length ∧ L.take i = kept p (l.take j) ∧ L.drop j = l.drop j ∧ Below base w wr) (fun _ s6 _ => l.length - (intOf s6).toNat)
    case atStart => 
      have e : kept p (l.take (i0 + 1)) = l.take i0 := by rw [kept_step p l i0 hi0, HK0.out, HPI.out]; simp
      refine ⟨i0, i0 + 1, l, by omega, by omega, rfl, by go_num, rfl, HO1.out, by rw [e]; simp; omega, by rw [e], rfl, HB1.out.mono hbs⟩
    case round =>
      obtain ⟨i, j, L, hij, hj, rfl, rfl, hLl, hoL, hi, hkt, hkd, hbel⟩ := hrel
      have HL := Lib.hid hLl
      have HOL := Lib.hid hoL
      have HI := Lib.hid hi
      have HT := Lib.hid hkt
      have HD := Lib.hid hkd
      have hgr : gg < wr.heap.size := (hoL.blk).2
      have hwb : base ≤ wr.heap.size := by have := hbel.size; omega
      clear hoL hi hkt hkd hLl
      by_cases hlt : j < l.length
      · have hjL : j < L.length := by rw [HL.out]; exact hlt
        obtain ⟨c0, c1, c2⟩ := HOL.out.at j hjL
        have hcall := HP.out (wr.alloc (.cells #[.string l[j].1, .int .i64 l[j].2.1, .int .i64 l[j].2.2] 26)) l[j] (List.getElem_mem hlt) (hbel.alloc hwb _)
        rw [get_of_drop hlt HL.out HD.out] at c0 c1 c2
        have HS := Lib.hid (kept_step p l j hlt)
        generalize l[j] = d at c0 c1 c2 hcall HS
        obtain ⟨x, y, z⟩ := d
        dsimp only [dv] at c0 c1 c2 hcall
        have hX := VarD.new wr x y z 26
        have HX := Lib.hid hX
        have hb1 : Below wr.heap.size wr (wr.alloc (.cells #[.string x, .int .i64 y, .int .i64 z] 26)) := balloc (Below.refl _ _) _
        clear hX
        have hjl : (j : Int) < (l.length : Int) := by omega
        cases hq : p (x, y, z) with
        | true =>
          rw [hq] at hcall
          rw [hq] at HS
          go_wp2_with (go_at_fn g; refine hcall.mono ?_; rintro e w2 ⟨rfl, hb2⟩)
          go_roundw
          case rel => exact ⟨i, j + 1, L, by omega, by omega, rfl, by go_num, HL.out, HOL.out.below (bstep hb1 hb2), by rw [HS.out]; simpa using HI.out, by rw [HS.out]; simpa using HT.out, drop_next HD.out, hbel.trans ((bstep hb1 hb2).mono hwb)⟩
          case measure => simp [intOf]; omega
        | false =>
          rw [hq] at hcall
          rw [hq] at HS
          have hil : (i : Int) < (l.length : Int) := by omega
          go_wp2_with (go_at_fn g; refine hcall.mono ?_; rintro e w2 ⟨rfl, hb2⟩; obtain ⟨x0, x1, x2, _, _, _⟩ := HX.out.keep hb2; have HO2 := Lib.hid (HOL.out.below (bstep hb1 hb2)); have HB2 := Lib.hid (hbel.trans ((bstep hb1 hb2).mono hwb)); obtain ⟨q0, q1, q2⟩ := HO2.out.at i (by omega); have r0 := HO2.out.fr (i * 3); have r1 := HO2.out.fr (i * 3 + 1); have r2 := HO2.out.fr (i * 3 + 2))
          go_roundw
          case rel =>
            refine ⟨i + 1, j + 1, L.set i (x, y, z), by omega, by omega, by go_num, by go_num, by rw [List.length_set]; exact HL.out, by rw [List.length_set]; exact HO2.out.set i (by omega) x y z, ?_, ?_, ?_, below_set HB2.out hgb _ _ _⟩
            · rw [HS.out, List.length_append, ← HI.out]; simp
            · rw [HS.out, take_set_snoc (by omega), HT.out]; simp
            · rw [drop_set (by omega)]; exact drop_next HD.out
          case measure => simp [intOf]; omega
      · obtain rfl : j = l.length := by omega
        have hil : (i : Int) < (l.length : Int) := by omega
        obtain ⟨vs, hclr⟩ := run_clear_dep wr gg (i * 3) (l.length - i) (cap - i) (by omega)
          (fun q hq => by
            have h3 : (i * 3 + q) / 3 < L.length := by rw [HL.out]; omega
            obtain ⟨a0, a1, a2⟩ := HOL.out.at ((i * 3 + q) / 3) h3
            rcases (show i * 3 + q = (i * 3 + q) / 3 * 3 ∨ i * 3 + q = (i * 3 + q) / 3 * 3 + 1 ∨ i * 3 + q = (i * 3 + q) / 3 * 3 + 2 by omega) with e | e | e
            · rw [e, a0]; rfl
            · rw [e, a1]; rfl
            · rw [e, a2]; rfl)
          (fun q hq => HOL.out.fr _)
        go_wp2
        go_ret
        refine ⟨.slice (some ⟨gg, 0, none⟩) i cap, rfl, ?_, below_setCells hgb _ _ _ hbel⟩
        obtain ⟨xs', h1, h2⟩ := own_setCells vs wr (i * 3) _ HOL.out
        have h3 := own_cut h1 (k := i) (by rw [HL.out]; omega)
        have h4 := HT.out
        have h5 := HI.out
        rw [List.take_length] at h4 h5
        rw [h2, ← dV_take, h4] at h3
        unfold OwnD
        rw [← h5]
        exact h3
end Go.Proofs.Ytfnfpanmbmkhmaa
/- What slices.CompactFunc answers of dependencies in a row of the caller's own, where the keys are compared. -/
namespace Go.Proofs.Ytfnfpanmbmkhmaa
open Go.RowKit
set_option linter.unusedVariables false
set_option linter.unusedSimpArgs false

def cmpGo (prev : De) : List De → List De
  | [] => []
  | x :: r => if x.1 = prev.1 then cmpGo x r else x :: cmpGo x r
/-- Of neighbours of one key the first one. -/
def cmpK : List De → List De
  | [] => []
  | d :: r => d :: cmpGo d r
theorem cmpGo_snoc (x : De) : ∀ (p : List De) (prev : De), cmpGo prev (p ++ [x]) = cmpGo prev p ++ (if x.1 = ((p.getLast?).getD prev).1 then [] else [x])
  | [], prev => by by_cases h : x.1 = prev.1 <;> simp [cmpGo, h]
  | y :: p, prev => by
    rw [List.cons_append, cmpGo, cmpGo, cmpGo_snoc x p y]
    have e : ((y :: p).getLast?).getD prev = (p.getLast?).getD y := by
      rw [List.getLast?_cons]
      cases p.getLast? <;> rfl
    rw [e]
    split <;> simp
theorem cmpK_step (l : List De) (k : Nat) (h : k + 1 < l.length) : cmpK (l.take (k + 1 + 1)) = cmpK (l.take (k + 1)) ++ (if (l[k + 1]'h).1 = (l[k]'(by omega)).1 then [] else [l[k + 1]'h]) := by
  rw [List.take_succ_eq_append_getElem h]
  cases l with
  | nil => simp at h
  | cons d r =>
    rw [List.take_succ_cons, List.cons_append, cmpK, cmpK, cmpGo_snoc, List.cons_append]
    congr 2
    have e : ((r.take k).getLast?).getD d = (d :: r)[k]'(by omega) := by
      cases k with
      | zero => simp
      | succ k =>
        rw [List.getLast?_eq_getElem?]
        have h2 : k < r.length := by simp at h; omega
        simp [List.length_take, Nat.min_eq_left (show k + 1 ≤ r.length by omega), h2]
    rw [e]

set_option maxRecDepth 100000 in
theorem eqK_any (x : ByteArray) (y z : Int) (x' : ByteArray) (y' z' : Int) (c : Bool) (w : World) (h : decide (x = x') = c) :
    Calls Try.prog 54 #[.agg #[.string x, .int .i64 y, .int .i64 z], .agg #[.string x', .int .i64 y', .int .i64 z']] w fun e w' => e = .returned (.bool c) ∧ Below w.heap.size w w' := by
  have hk : c = (x.toList == x'.toList) := by
    rw [← h, Lib.toList_data, Lib.toList_data, Bool.eq_iff_iff]
    simp only [decide_eq_true_eq, beq_iff_eq]
    exact ⟨fun h => by rw [h], ba_inj⟩
  rw [hk]
  clear hk h
  go_enter Try.func54, Try.ntmps54
  go_wp2
  all_goals
    go_ret
    exact ⟨ret_bool (by simp_all), balloc (balloc (Below.refl _ w) _) _⟩

theorem keep6 {W w1 : World} {b1 o1 b2 o2 b3 o3 b4 o4 b5 o5 b6 o6 : Nat} {x1 x2 x3 x4 x5 x6 : Value} (hb : Below W.heap.size W w1) (h : W.cell? ⟨b1, o1, none⟩ = some x1 ∧ W.cell? ⟨b2, o2, none⟩ = some x2 ∧ W.cell? ⟨b3, o3, none⟩ = some x3 ∧ W.cell? ⟨b4, o4, none⟩ = some x4 ∧ W.cell? ⟨b5, o5, none⟩ = some x5 ∧ W.cell? ⟨b6, o6, none⟩ = some x6) :
    w1.cell? ⟨b1, o1, none⟩ = some x1 ∧ w1.cell? ⟨b2, o2, none⟩ = some x2 ∧ w1.cell? ⟨b3, o3, none⟩ = some x3 ∧ w1.cell? ⟨b4, o4, none⟩ = some x4 ∧ w1.cell? ⟨b5, o5, none⟩ = some x5 ∧ w1.cell? ⟨b6, o6, none⟩ = some x6 := ⟨kc hb h.1, kc hb h.2.1, kc hb h.2.2.1, kc hb h.2.2.2.1, kc hb h.2.2.2.2.1, kc hb h.2.2.2.2.2⟩

set_option maxRecDepth 100000 in
set_option maxHeartbeats 6400000 in
theorem compact_any (v : Value) (base : Nat) (l : List De) (w : World) (hl : l.length ≤ 1000000) (ho : OwnD w base v l) (hbs : base ≤ w.heap.size) :
    Calls Try.prog 53 #[v, .func (.func 54) #[] #[]] w fun e w' => ∃ v', e = .returned v' ∧ OwnD w' base v' (cmpK l) ∧ Below base w w' := by
  have eg : ∀ args w, (callFunc 54 args).run Try.prog w = .ok (.enter 54 args) w := enters_of Try.func54 (by kernel_rfl) rfl
  obtain ⟨a, cap, rfl⟩ := ho.shape
  by_cases h2 : l.length < 2
  · have h2i : (l.length : Int) < 2 := by omega
    have HK : Hid (cmpK l = l) := Lib.hid (by
      match l, h2 with
      | [], _ => rfl
      | [d], _ => rfl)
    have HO := Lib.hid ho
    clear ho h2
    go_enter Try.func53, Try.ntmps53
    go_wp2
    go_ret
    exact ⟨_, rfl, by rw [HK.out]; exact HO.out, Below.refl _ _⟩
  · have h2i : ¬ (l.length : Int) < 2 := by omega
    obtain ⟨gg, rfl⟩ : ∃ gg, a = some ⟨gg, 0, none⟩ := by
      rcases ho.2 with ⟨e, h0⟩ | ⟨gg, cap', cur, e, _⟩
      · omega
      · cases e; exact ⟨gg, rfl⟩
    obtain ⟨_, hcl, hcm⟩ := ho.cap
    obtain ⟨hgb, hgl⟩ := ho.blk
    unfold maxLen at hcm
    have HO := Lib.hid ho
    clear ho
    go_enter Try.func53, Try.ntmps53
    go_wp2
    go_loopw [5] (fun s5 wr => ∃ k : Nat, k + 1 ≤ l.length ∧ s5 = .int .i64 ((k : Int) + 1) ∧ cmpK (l.take (k + 1)) = l.take (k + 1) ∧ OwnD wr base (.slice (some ⟨gg, 0, none⟩) l.length cap) l ∧ Below base w wr) (fun s5 _ => l.length - (intOf s5).toNat)
    case atStart =>
      refine ⟨0, by omega, by go_num, ?_, HO.out, Below.refl _ _⟩
      cases l with
      | nil => simp at h2
      | cons d r => simp [cmpK, cmpGo]
    case round =>
      obtain ⟨k, hk, rfl, hck, hok, hbel⟩ := hrel
      have HCK := Lib.hid hck
      have HOK := Lib.hid hok
      have hwb : base ≤ wr.heap.size := by have := hbel.size; omega
      clear hck hok
      by_cases hlt : k + 1 < l.length
      · obtain ⟨c0, c1, c2⟩ := HOK.out.at (k + 1) hlt
        obtain ⟨d0, d1, d2⟩ := HOK.out.at k (by omega)
        have HST := Lib.hid (cmpK_step l k hlt)
        have HTK := Lib.hid (List.take_succ_eq_append_getElem hlt)
        generalize l[k + 1]'hlt = dx at c0 c1 c2 HST HTK
        generalize l[k]'(by omega) = dy at d0 d1 d2 HST
        obtain ⟨x, y, z⟩ := dx
        obtain ⟨x', y', z'⟩ := dy
        dsimp only at c0 c1 c2 d0 d1 d2 HST
        have hlti : (k : Int) + 1 < (l.length : Int) := by omega
        have hlt2 : (k : Int) < (l.length : Int) := by omega
        have hw1 : IntKind.i64.wrap (k : Int) = (k : Int) := IntWalk.i64_in _ (by omega)
        have hnn : (0 : Int) ≤ (k : Int) + 1 := by omega
        have htn : ((k : Int) + 1).toNat = k + 1 := by omega
        generalize hq : decide (x = x') = c
        have HQ := Lib.hid hq
        clear hq
        go_wp2_with fail
        go_region_held3 (fun w' => w'.cell? ⟨gg, (k + 1) * 3, none⟩ = some (.string x) ∧ w'.cell? ⟨gg, (k + 1) * 3 + 1, none⟩ = some (.int .i64 y) ∧ w'.cell? ⟨gg, (k + 1) * 3 + 2, none⟩ = some (.int .i64 z) ∧ w'.cell? ⟨gg, k * 3, none⟩ = some (.string x') ∧ w'.cell? ⟨gg, k * 3 + 1, none⟩ = some (.int .i64 y') ∧ w'.cell? ⟨gg, k * 3 + 2, none⟩ = some (.int .i64 z'))
          (first | exact ⟨c0, c1, c2, d0, d1, d2⟩ | exact g1)
          (first
            | (go_at_fn 54; ((refine (eqK_any x y z x' y' z' c _ HQ.out).mono ?_); rintro e wa ⟨rfl, ha⟩; have g1 := keep6 ha ⟨c0, c1, c2, d0, d1, d2⟩)))
        have HBW := Lib.hid (bstep (Below.refl _ wr).drew ha)
        have HOA := Lib.hid (HOK.out.below HBW.out)
        have HBA := Lib.hid (hbel.trans (HBW.out.mono hwb))
        clear ha g1 c0 c1 c2 d0 d1 d2
        cases c with
        | false =>
          have HX : Hid (x ≠ x') := Lib.hid (by simpa using HQ.out)
          go_wp2
          go_roundw
          case rel => exact ⟨k + 1, by omega, by go_num, by rw [HST.out, if_neg HX.out, HCK.out, HTK.out], HOA.out, HBA.out⟩
          case measure => simp [intOf]; omega
        | true =>
          have HX : Hid (x = x') := Lib.hid (by simpa using HQ.out)
          have HS0 : Hid (cmpK (l.take (k + 1 + 0 + 1)) = l.take (k + 1)) := Lib.hid (by rw [Nat.add_zero, HST.out, if_pos HX.out, HCK.out, List.append_nil])
          clear HST HTK HQ HX hw1 hnn htn hlt2
          go_wp2
          go_loopw [5, 7] (fun s5 s7 wr => ∃ (i m : Nat) (L : List De), i ≤ k + 1 + m ∧ k + 1 + m + 1 ≤ l.length ∧ s5 = .int .i64 i ∧ s7 = .int .i64 ((m : Int) + 1) ∧ L.length = l.length ∧ OwnD wr base (.slice (some ⟨gg, 0, none⟩) L.length cap) L ∧ i = (cmpK (l.take (k + 1 + m + 1))).length ∧ L.take i = cmpK (l.take (k + 1 + m + 1)) ∧ L.drop (k + 1 + m) = l.drop (k + 1 + m) ∧ Below base w wr) (fun _ s7 _ => l.length - (intOf s7).toNat)
          case atStart =>
            refine ⟨k + 1, 0, l, by omega, by omega, by go_num, by go_num, rfl, HOA.out, by rw [HS0.out]; simp; omega, by rw [HS0.out], rfl, HBA.out⟩
          case round =>
            obtain ⟨i, m, L, hi1, hm, rfl, rfl, hLl, hoL, hi, hkt, hkd, hbel⟩ := hrel
            have HL := Lib.hid hLl
            have HOL := Lib.hid hoL
            have HI := Lib.hid hi
            have HT := Lib.hid hkt
            have HD := Lib.hid hkd
            have hwb : base ≤ wr.heap.size := by have := hbel.size; omega
            clear hoL hi hkt hkd hLl
            by_cases hlt3 : k + 1 + m + 1 < l.length
            · have hj : k + 1 + m + 1 < L.length := by rw [HL.out]; exact hlt3
              obtain ⟨c0, c1, c2⟩ := HOL.out.at (k + 1 + m + 1) hj
              obtain ⟨d0, d1, d2⟩ := HOL.out.at (k + 1 + m) (by omega)
              rw [get_of_drop (j := k + 1 + m + 1) hlt3 HL.out (drop_next HD.out)] at c0 c1 c2
              rw [get_of_drop (j := k + 1 + m) (by omega) HL.out HD.out] at d0 d1 d2
              have HST := Lib.hid (cmpK_step l (k + 1 + m) hlt3)
              generalize l[k + 1 + m + 1]'hlt3 = dx at c0 c1 c2 HST
              generalize l[k + 1 + m]'(by omega) = dy at d0 d1 d2 HST
              obtain ⟨x, y, z⟩ := dx
              obtain ⟨x', y', z'⟩ := dy
              dsimp only at c0 c1 c2 d0 d1 d2 HST
              rw [show (k + 1 + m + 1) * 3 = (k + 1) * 3 + (m + 1) * 3 by omega] at c0 c1 c2
              rw [show (k + 1 + m) * 3 = (k + 1) * 3 + m * 3 by omega] at d0 d1 d2
              have hlti : (m : Int) + 1 < ((l.length - (k + 1) : Nat) : Int) := by omega
              have hlt2 : (m : Int) < ((l.length - (k + 1) : Nat) : Int) := by omega
              have hw1 : IntKind.i64.wrap (m : Int) = (m : Int) := IntWalk.i64_in _ (by omega)
              have hnn : (0 : Int) ≤ (m : Int) + 1 := by omega
              have htn : ((m : Int) + 1).toNat = m + 1 := by omega
              generalize hq : decide (x = x') = c
              have HQ := Lib.hid hq
              clear hq
              go_wp2_with fail
              go_region_held3 (fun w' => w'.cell? ⟨gg, (k + 1) * 3 + (m + 1) * 3, none⟩ = some (.string x) ∧ w'.cell? ⟨gg, (k + 1) * 3 + (m + 1) * 3 + 1, none⟩ = some (.int .i64 y) ∧ w'.cell? ⟨gg, (k + 1) * 3 + (m + 1) * 3 + 2, none⟩ = some (.int .i64 z) ∧ w'.cell? ⟨gg, (k + 1) * 3 + m * 3, none⟩ = some (.string x') ∧ w'.cell? ⟨gg, (k + 1) * 3 + m * 3 + 1, none⟩ = some (.int .i64 y') ∧ w'.cell? ⟨gg, (k + 1) * 3 + m * 3 + 2, none⟩ = some (.int .i64 z'))
                (first | exact ⟨c0, c1, c2, d0, d1, d2⟩ | exact g1)
                (first
                  | (go_at_fn 54; ((refine (eqK_any x y z x' y' z' c _ HQ.out).mono ?_); rintro e wa ⟨rfl, ha⟩; have g1 := keep6 ha ⟨c0, c1, c2, d0, d1, d2⟩)))
              have HBW := Lib.hid (bstep (Below.refl _ wr).drew ha)
              have HOA := Lib.hid (HOL.out.below HBW.out)
              have HBA := Lib.hid (hbel.trans (HBW.out.mono hwb))
              obtain ⟨e0, e1, e2, _, _, _⟩ := g1
              clear ha c0 c1 c2 d0 d1 d2
              cases c with
              | true =>
                have HX : Hid (x = x') := Lib.hid (by simpa using HQ.out)
                go_wp2
                go_roundw
                case rel => exact ⟨i, m + 1, L, by omega, by omega, rfl, by go_num, HL.out, HOA.out, by rw [show k + 1 + (m + 1) + 1 = k + 1 + m + 1 + 1 by omega, HST.out, if_pos HX.out, List.append_nil]; exact HI.out, by rw [show k + 1 + (m + 1) + 1 = k + 1 + m + 1 + 1 by omega, HST.out, if_pos HX.out, List.append_nil]; exact HT.out, drop_next HD.out, HBA.out⟩
                case measure => simp [intOf]; omega
              | false =>
                have HX : Hid (x ≠ x') := Lib.hid (by simpa using HQ.out)
                have hil : (i : Int) < (l.length : Int) := by omega
                obtain ⟨q0, q1, q2⟩ := HOA.out.at i (by omega)
                have r0 := HOA.out.fr (i * 3)
                have r1 := HOA.out.fr (i * 3 + 1)
                have r2 := HOA.out.fr (i * 3 + 2)
                go_wp2
                go_roundw
                case rel =>
                  refine ⟨i + 1, m + 1, L.set i (x, y, z), by omega, by omega, by go_num, by go_num, by rw [List.length_set]; exact HL.out, by rw [List.length_set]; exact HOA.out.set i (by omega) x y z, ?_, ?_, ?_, below_set HBA.out hgb _ _ _⟩
                  · rw [show k + 1 + (m + 1) + 1 = k + 1 + m + 1 + 1 by omega, HST.out, if_neg HX.out, List.length_append, ← HI.out]; simp
                  · rw [show k + 1 + (m + 1) + 1 = k + 1 + m + 1 + 1 by omega, HST.out, if_neg HX.out, take_set_snoc (by omega), HT.out]
                  · rw [drop_set (by omega)]; exact drop_next HD.out
                case measure => simp [intOf]; omega
            · have hme : k + 1 + m + 1 = l.length := by omega
              have hge : ¬ (m : Int) + 1 < ((l.length - (k + 1) : Nat) : Int) := by omega
              have hil : (i : Int) < (l.length : Int) := by omega
              obtain ⟨vs, hclr⟩ := run_clear_dep wr gg (i * 3) (l.length - i) (cap - i) (by omega)
                (fun q hq => by
                  have h3 : (i * 3 + q) / 3 < L.length := by rw [HL.out]; omega
                  obtain ⟨a0, a1, a2⟩ := HOL.out.at ((i * 3 + q) / 3) h3
                  rcases (show i * 3 + q = (i * 3 + q) / 3 * 3 ∨ i * 3 + q = (i * 3 + q) / 3 * 3 + 1 ∨ i * 3 + q = (i * 3 + q) / 3 * 3 + 2 by omega) with e | e | e
                  · rw [e, a0]; rfl
                  · rw [e, a1]; rfl
                  · rw [e, a2]; rfl)
                (fun q hq => HOL.out.fr _)
              have HME := Lib.hid hme
              clear hme
              go_wp2
              go_ret
              refine ⟨.slice (some ⟨gg, 0, none⟩) i cap, rfl, ?_, below_setCells hgb _ _ _ hbel⟩
              obtain ⟨xs', h1, h2⟩ := own_setCells vs wr (i * 3) _ HOL.out
              have h3 := own_cut h1 (k := i) (by rw [HL.out]; omega)
              have h4 := HT.out
              have h5 := HI.out
              rw [HME.out, List.take_length] at h4 h5
              rw [h2, ← dV_take, h4] at h3
              unfold OwnD
              rw [← h5]
              exact h3
      · have hke : k + 1 = l.length := by omega
        have hge : ¬ (k : Int) + 1 < (l.length : Int) := by omega
        have HKE : Hid (cmpK l = l) := Lib.hid (by have h := HCK.out; rw [hke, List.take_length] at h; exact h)
        go_wp2
        go_ret
        exact ⟨_, rfl, by rw [HKE.out]; exact HOK.out, hbel⟩
end Go.Proofs.Ytfnfpanmbmkhmaa
/- What past.Check and the document's Check answer. -/
namespace Go.Proofs.Ytfnfpanmbmkhmaa
open Go.RowKit
set_option linter.unusedVariables false
set_option linter.unusedSimpArgs false

/-- No key is longer than a string can be. -/
def Szd (l : List De) : Prop := ∀ d ∈ l, d.1.size ≤ 9223372036854775807
theorem Srt.szd {l : List De} (h : Srt l) : Szd l := fun d hd => by have := okD_size (h.1 d hd); omega

theorem boxed3 {wr w1 : World} {x y z : Value} {T : TypeId} (hb : Below (wr.alloc (.cells #[x, y, z] T)).heap.size (wr.alloc (.cells #[x, y, z] T)) w1) : Below wr.heap.size wr w1 := (box3 hb).2.2.2.2

set_option maxRecDepth 100000 in
set_option maxHeartbeats 1600000 in
theorem pcheck_any (v : Value) (l : List De) (w : World) (hl : l.length ≤ 1000000) (hz : Szd l) (hr : DepAt w v l) :
    Calls Try.prog 60 #[v] w fun e w' => e = .returned (.bool (chkD l)) ∧ Below w.heap.size w w' := by
  obtain ⟨a, cap, rfl, hcap, hmx, _, hr⟩ := hr
  unfold maxLen at hmx
  have HR := Lib.hid hr
  have HZ := Lib.hid hz
  clear hr hz
  by_cases h24 : l.length ≤ 24
  · have hlt24 : ¬ (24 : Int) < (l.length : Int) := by omega
    have hc24 : chkD l = decide (Srt l) := by simp [chkD, h24]
    rw [hc24]
    clear hc24
    go_enter Try.func60, Try.ntmps60
    go_wp2
    go_loopw [10] (fun i wr => ∃ k : Nat, k ≤ l.length ∧ i = .int .i64 k ∧ Srt (l.take k) ∧ Below w.heap.size w wr) (fun i _ => l.length - (intOf i).toNat)
    case atStart => exact ⟨0, by omega, rfl, by simpa using Srt.nil, Below.refl _ _⟩
    case round =>
      obtain ⟨k, hk, rfl, hst, hbel⟩ := hrel
      have HS := Lib.hid hst
      clear hst
      by_cases hlt : k < l.length
      · obtain ⟨b, off, rfl, hbl, c0, c1, c2⟩ := HR.out.below hbel k hlt
        have HD := Lib.hid (HR.out.below hbel)
        have HP := Lib.hid (@srt_step l k hlt)
        have HQ := Lib.hid (@srt_stop l k hlt)
        have hs := HZ.out l[k] (List.getElem_mem hlt)
        generalize l[k] = d at c0 c1 c2 HP HQ hs
        obtain ⟨x, y, z⟩ := d
        dsimp only at c0 c1 c2 hs
        have hki : (k : Int) ≤ (cap : Int) := by omega
        have g0 : (wr.alloc (.cells #[.string x, .int .i64 y, .int .i64 z] 26)).cell? ⟨wr.heap.size, 0, none⟩ = some (.string x) ∧ (wr.alloc (.cells #[.string x, .int .i64 y, .int .i64 z] 26)).cell? ⟨wr.heap.size, 1, none⟩ = some (.int .i64 y) ∧ (wr.alloc (.cells #[.string x, .int .i64 y, .int .i64 z] 26)).cell? ⟨wr.heap.size, 2, none⟩ = some (.int .i64 z) := by
          refine ⟨?_, ?_, ?_⟩ <;> simp
        have HG := Lib.hid (HD.out.below (balloc (Below.refl _ wr) (.cells #[.string x, .int .i64 y, .int .i64 z] 26)))
        have hkl : Hid ((l.take k).length = k) := Lib.hid (by simp; omega)
        generalize hf : folD (l.take k) (x, y, z) = c at HP HQ
        have HF := Lib.hid hf
        clear hf
        go_wp2_with fail
        go_region_held3 (fun w' => w'.cell? ⟨wr.heap.size, 0, none⟩ = some (.string x) ∧ w'.cell? ⟨wr.heap.size, 1, none⟩ = some (.int .i64 y) ∧ w'.cell? ⟨wr.heap.size, 2, none⟩ = some (.int .i64 z))
          (first | exact g0 | exact g1)
          (first
            | (go_at_call 72; ((refine (follows_at _ k cap (l.take k) x y z c _ hkl.out (by have := hkl.out; omega) (HG.out.take k).drew hs HF.out).mono ?_); rintro e wa ⟨rfl, ha⟩; have g1 := keepC3 ha g0)))
        have hb2 := bstep hbel (boxed3 (bstep (Below.refl _ _).drew ha))
        cases c with
        | true =>
          go_wp2
          go_roundw
          case rel => exact ⟨k + 1, by omega, by go_num, HP.out.2 ⟨HS.out, rfl⟩, hb2⟩
          case measure => simp [intOf]; omega
        | false =>
          go_wp2
          go_ret
          exact ⟨ret_bool (decide_eq_false (HQ.out (by first | rfl | trivial))).symm, hb2⟩
      · obtain rfl : k = l.length := by omega
        have HE : Hid (Srt l) := Lib.hid (by have h := HS.out; rw [List.take_of_length_le (Nat.le_refl _)] at h; exact h)
        go_wp2
        go_ret
        exact ⟨ret_bool (decide_eq_true HE.out).symm, hbel⟩
  · have hlt24 : (24 : Int) < (l.length : Int) := by omega
    rw [show chkD l = false by simp [chkD, h24]]
    go_enter Try.func60, Try.ntmps60
    go_wp2
    go_ret
    exact ⟨rfl, Below.refl _ _⟩
end Go.Proofs.Ytfnfpanmbmkhmaa
/- What the document's Add of pasts answers. -/
namespace Go.Proofs.Ytfnfpanmbmkhmaa
open Go.RowKit
set_option linter.unusedVariables false
set_option linter.unusedSimpArgs false

/-- The document's loop: d put into a row. -/
def addGo (d : De) : Bool → List De → List De
  | put, [] => if put then [] else [d]
  | put, x :: r => if x.1 = d.1 then (if Sm.less x.2 d.2 = true then d else x) :: addGo d true r else if !put && klt d.1 x.1 then d :: x :: addGo d true r else x :: addGo d put r
def addR (l : List De) (d : De) : List De := if okD d = true then addGo d false l else l
theorem addGo_len (d : De) (l : List De) : ∀ put, (addGo d put l).length ≤ l.length + 1 ∧ (addGo d true l).length = l.length := by
  induction l with
  | nil => intro put; cases put <;> simp [addGo]
  | cons x r ih =>
    intro put
    have h1 := (ih put).1
    have h2 := (ih put).2
    constructor
    · rw [addGo]
      split
      · simp; omega
      · split
        · simp; omega
        · simp; omega
    · rw [addGo]
      split
      · simp; omega
      · simp; omega
theorem addR_len (l : List De) (d : De) : (addR l d).length ≤ l.length + 1 := by
  unfold addR
  split
  · exact (addGo_len d l false).1
  · omega

theorem keyeq (x k : ByteArray) : (x = k) ↔ (x.toList == k.toList) = true := by
  rw [Lib.toList_data, Lib.toList_data, beq_iff_eq]
  exact ⟨fun h => by rw [h], ba_inj⟩

/-- The rest of the document's loop, step by step. -/
theorem addGo_eq {d x : De} {put : Bool} {r : List De} (h : x.1 = d.1) (hl : Sm.less x.2 d.2 = true) : addGo d put (x :: r) = d :: addGo d true r := by rw [addGo, if_pos h, if_pos hl]
theorem addGo_eq' {d x : De} {put : Bool} {r : List De} (h : x.1 = d.1) (hl : Sm.less x.2 d.2 = false) : addGo d put (x :: r) = x :: addGo d true r := by rw [addGo, if_pos h, if_neg (by rw [hl]; simp)]
theorem addGo_put {d x : De} {r : List De} (h : x.1 ≠ d.1) : addGo d true (x :: r) = x :: addGo d true r := by rw [addGo, if_neg h]; simp
theorem addGo_gt {d x : De} {r : List De} (h : x.1 ≠ d.1) (hg : klt d.1 x.1 = true) : addGo d false (x :: r) = d :: x :: addGo d true r := by rw [addGo, if_neg h]; simp [hg]
theorem addGo_le {d x : De} {r : List De} (h : x.1 ≠ d.1) (hg : klt d.1 x.1 = false) : addGo d false (x :: r) = x :: addGo d false r := by rw [addGo, if_neg h]; simp [hg]

theorem refCheck_b (k : ByteArray) (c : Bool) (w : World) (hk : k.size ≤ 9223372036854775807) (h : Km.chk k.data.toList = c) :
    Calls Try.prog 44 #[.string k] w fun e w' => e = .returned (.bool c) ∧ w = w' := by
  rw [← h]
  exact refCheck_any k w hk
theorem refSCheck_b (n s : Int) (c : Bool) (w : World) (h : Sm.ok n s = c) :
    Calls Try.prog 43 #[.agg #[.int .i64 n, .int .i64 s]] w fun e w' => e = .returned (.bool c) ∧ Below w.heap.size w w' := by
  rw [← h]
  exact refSCheck_any n s w
theorem refLess_b (n s m t : Int) (c : Bool) (w : World) (h : Sm.less (n, s) (m, t) = c) :
    Calls Try.prog 25 #[.agg #[.int .i64 n, .int .i64 s], .agg #[.int .i64 m, .int .i64 t]] w fun e w' => e = .returned (.bool c) ∧ Below w.heap.size w w' := by
  rw [← h]
  exact refLess_any n s m t w

set_option maxRecDepth 100000 in
set_option maxHeartbeats 3200000 in
theorem refAddP_no (v : Value) (l : List De) (k : ByteArray) (n s : Int) (kc sc : Bool) (w : World) (hk : k.size ≤ 9223372036854775807) (hr : DepAt w v l) (hkc : Km.chk k.data.toList = kc) (hsc : Sm.ok n s = sc) (hno : (kc && sc) = false) :
    Calls Try.prog 28 #[v, .agg #[.string k, .int .i64 n, .int .i64 s]] w fun e w' => e = .returned v ∧ DepAt w' v l ∧ Below w.heap.size w w' := by
  have HV := Lib.hid hr
  obtain ⟨a, cap, rfl, hcap, hmx, _, hr⟩ := hr
  have HK := Lib.hid hkc
  have HC := Lib.hid hsc
  clear hr hkc hsc
  cases kc <;> cases sc <;> simp at hno
  all_goals
    go_enter Try.func28, Try.ntmps28
    go_wp2_with fail
    refine (refCheck_b k _ _ hk HK.out).mono ?_
    rintro e w1 ⟨rfl, rfl⟩
    go_wp2_with fail
    refine (refSCheck_b n s _ _ HC.out).mono ?_
    rintro e w2 ⟨rfl, hb⟩
    have HB := Lib.hid (box3 hb).2.2.2.2
    clear hb
    go_wp2
    go_ret
    exact ⟨rfl, HV.out.below HB.out, HB.out⟩

set_option maxRecDepth 100000 in
set_option maxHeartbeats 6400000 in
theorem refAddP_yes (v : Value) (l : List De) (k : ByteArray) (n s : Int) (w : World) (hl : l.length ≤ 100000) (hk : k.size ≤ 9223372036854775807) (hr : DepAt w v l) (hkc : Km.chk k.data.toList = true) (hsc : Sm.ok n s = true) :
    Calls Try.prog 28 #[v, .agg #[.string k, .int .i64 n, .int .i64 s]] w fun e w' => ∃ u, e = .returned u ∧ OwnD w' w.heap.size u (addGo (k, n, s) false l) ∧ Below w.heap.size w w' := by
  obtain ⟨a, cap, rfl, hcap, hmx, _, hr⟩ := hr
  have HR := Lib.hid hr
  have HK := Lib.hid hkc
  have HC := Lib.hid hsc
  have HLN := Lib.hid (addGo_len (k, n, s) l false).1
  generalize hfull : addGo (k, n, s) false l = full at HLN ⊢
  have HFULL := Lib.hid hfull
  clear hr hkc hsc hfull
  go_enter Try.func28, Try.ntmps28
  go_wp2_with fail
  refine (refCheck_b k _ _ hk HK.out).mono ?_
  rintro e w1 ⟨rfl, rfl⟩
  go_wp2_with fail
  refine (refSCheck_b n s _ _ HC.out).mono ?_
  rintro e w2 ⟨rfl, hb⟩
  have hB0 := (VarD.new w k n s 26).keep hb
  have HB := Lib.hid (box3 hb).2.2.2.2
  have HB0 := Lib.hid hB0
  have hz0 : w.heap.size < w2.heap.size := hB0.lt
  have HR2 := Lib.hid (HR.out.below HB.out)
  clear hb hB0 HR
  go_wp2
  go_loopw [7, 8, 9] (fun o pt i wr => ∃ (j : Nat) (acc : List De) (put : Bool), j ≤ l.length ∧ i = .int .i64 j ∧ pt = .bool put ∧ acc ++ addGo (k, n, s) put (l.drop j) = full ∧ OwnD wr w2.heap.size o acc ∧ Below w2.heap.size w2 wr) (fun _ _ i _ => l.length - (intOf i).toNat)
  case atStart => exact ⟨0, [], false, by omega, rfl, rfl, by rw [List.drop_zero, List.nil_append]; exact HFULL.out, OwnD.nil _ _, Below.refl _ _⟩
  case round =>
    obtain ⟨j, acc, put, hj, rfl, rfl, hacc, ho, hbel⟩ := hrel
    have hal : acc.length ≤ 100001 := by
      have h1 := HLN.out
      have h2 := congrArg List.length hacc
      rw [List.length_append] at h2
      omega
    have HAC := Lib.hid hacc
    have hbs : w2.heap.size ≤ wr.heap.size := hbel.size
    obtain ⟨sa, sc, rfl⟩ := ho.shape
    have HO := Lib.hid ho
    clear hacc ho
    obtain ⟨d0, d1, d2, _, _, _⟩ := HB0.out.keep hbel
    have hne : w.heap.size ≠ wr.heap.size := by omega
    have d0' : ∀ o, (wr.alloc o).cell? ⟨w.heap.size, 0, none⟩ = some (.string k) := fun o => kc (balloc (Below.refl _ _) o) d0
    have d1' : ∀ o, (wr.alloc o).cell? ⟨w.heap.size, 1, none⟩ = some (.int .i64 n) := fun o => kc (balloc (Below.refl _ _) o) d1
    have d2' : ∀ o, (wr.alloc o).cell? ⟨w.heap.size, 2, none⟩ = some (.int .i64 s) := fun o => kc (balloc (Below.refl _ _) o) d2
    by_cases hlt : j < l.length
    · obtain ⟨b, off, rfl, hbl, c0, c1, c2⟩ := HR2.out.below hbel j hlt
      have HD := Lib.hid (List.drop_eq_getElem_cons hlt)
      generalize l[j] = x at c0 c1 c2 HD
      obtain ⟨x, y, z⟩ := x
      dsimp only at c0 c1 c2
      have HX := Lib.hid (VarD.new wr x y z 26)
      have hb1 : Below wr.heap.size wr (wr.alloc (.cells #[.string x, .int .i64 y, .int .i64 z] 26)) := balloc (Below.refl _ _) _
      have HKE := Lib.hid (keyeq x k)
      cases hq : (x.toList == k.toList) with
      | true =>
        have hq' : x.toList = k.toList := by simpa using hq
        have HQ := Lib.hid (HKE.out.2 hq)
        clear hq
        cases hle : Sm.less (y, z) (n, s) with
        | true =>
          have HL := Lib.hid hle
          clear hle
          go_wp2_with fail
          refine (refLess_b y z n s _ _ HL.out).mono ?_
          rintro e w3 ⟨rfl, hb⟩
          have hX := HX.out.keep hb
          have hb3 := bstep hb1 hb
          obtain ⟨e0, e1, e2, _, _, _⟩ := HB0.out.keep (hbel.trans (hb3.mono hbs))
          obtain ⟨x0, x1, x2, f0, f1, f2⟩ := hX
          have hX : VarD w3 wr.heap.size x y z := ⟨x0, x1, x2, f0, f1, f2⟩
          have HP := Lib.hid (hX.put k n s)
          have HO3 := Lib.hid ((HO.out.below hb3).put3 (HO.out.lt' (Nat.le_refl _)) (.string k) (.int .i64 n) (.int .i64 s))
          have HB3 := Lib.hid (below_put3 (hbel.trans (hb3.mono hbs)) hbs (.string k) (.int .i64 n) (.int .i64 s))
          have hz3 : (World.put3 w3 wr.heap.size (.string k) (.int .i64 n) (.int .i64 s)).heap.size = w3.heap.size := put3_size _ _ _ _ _
          have hs3 : w2.heap.size ≤ w3.heap.size := by have := hb3.size; omega
          obtain ⟨p0, p1, p2, _, _, _⟩ := HP.out
          clear hb hb3 hb1 hX d0 d1 d2 c0 c1 c2
          go_wp2_with (at_builtin; refine wp_pushD (wr := World.put3 w3 wr.heap.size (.string k) (.int .i64 n) (.int .i64 s)) rfl _ _ rfl w2.heap.size (.slice sa acc.length sc) acc k n s rfl HO3.out (by rw [hz3]; rfl) (by omega) (by rw [hz3]; exact hs3) ?_; intro g gcap w4 ho4 hb4 hk4 hg4)
          go_wp2
          go_roundw
          case rel => exact ⟨j + 1, acc ++ [(k, n, s)], true, by omega, by go_num, rfl, by rw [← HAC.out, HD.out, addGo_eq HQ.out HL.out, List.append_assoc]; rfl, by simpa using ho4, HB3.out.trans hb4⟩
          case measure => simp [intOf]; omega
        | false =>
          have HL := Lib.hid hle
          clear hle
          go_wp2_with fail
          refine (refLess_b y z n s _ _ HL.out).mono ?_
          rintro e w3 ⟨rfl, hb⟩
          have hX := HX.out.keep hb
          have hb3 := bstep hb1 hb
          obtain ⟨x0, x1, x2, f0, f1, f2⟩ := hX
          have HO3 := Lib.hid (HO.out.below hb3)
          have HB3 := Lib.hid (hbel.trans (hb3.mono hbs))
          have hs3 : w2.heap.size ≤ w3.heap.size := by have := hb3.size; omega
          clear hb hb3 hb1 d0 d1 d2 c0 c1 c2
          go_wp2_with (at_builtin; refine wp_pushD (wr := w3) rfl _ _ rfl w2.heap.size (.slice sa acc.length sc) acc x y z rfl HO3.out rfl (by omega) hs3 ?_; intro g gcap w4 ho4 hb4 hk4 hg4)
          go_wp2
          go_roundw
          case rel => exact ⟨j + 1, acc ++ [(x, y, z)], true, by omega, by go_num, rfl, by rw [← HAC.out, HD.out, addGo_eq' HQ.out HL.out, List.append_assoc]; rfl, by simpa using ho4, HB3.out.trans hb4⟩
          case measure => simp [intOf]; omega
      | false =>
        have hq' : ¬ x.toList = k.toList := by simpa using hq
        have HQ : Hid (x ≠ k) := Lib.hid (fun h => by rw [HKE.out.1 h] at hq; cases hq)
        have HO1 := Lib.hid (HO.out.below hb1)
        have HB1 := Lib.hid (hbel.trans (hb1.mono hbs))
        have hz1 : (wr.alloc (.cells #[.string x, .int .i64 y, .int .i64 z] 26)).heap.size = wr.heap.size + 1 := by simp
        have HZ1 := Lib.hid hz1
        clear hz1 hb1
        cases put with
        | true =>
          go_wp2_with (at_builtin; refine wp_pushD (wr := wr.alloc (.cells #[.string x, .int .i64 y, .int .i64 z] 26)) rfl _ _ rfl w2.heap.size (.slice sa acc.length sc) acc x y z rfl HO1.out (by rw [HZ1.out]; rfl) (by omega) (by rw [HZ1.out]; omega) ?_; intro g gcap w4 ho4 hb4 hk4 hg4)
          go_wp2
          go_roundw
          case rel => exact ⟨j + 1, acc ++ [(x, y, z)], true, by omega, by go_num, rfl, by rw [← HAC.out, HD.out, addGo_put HQ.out, List.append_assoc]; rfl, by simpa using ho4, HB1.out.trans hb4⟩
          case measure => simp [intOf]; omega
        | false =>
          cases hg : Op.bytesLess x.toList k.toList with
          | true =>
            have hg2 : Op.bytesLess k.toList x.toList = false := Km.bl_asymm hg
            have HG : Hid (klt k x = false) := Lib.hid (by unfold klt; rw [← Lib.toList_data, ← Lib.toList_data]; exact hg2)
            go_wp2_with (at_builtin; refine wp_pushD (wr := wr.alloc (.cells #[.string x, .int .i64 y, .int .i64 z] 26)) rfl _ _ rfl w2.heap.size (.slice sa acc.length sc) acc x y z rfl HO1.out (by rw [HZ1.out]; rfl) (by omega) (by rw [HZ1.out]; omega) ?_; intro g gcap w4 ho4 hb4 hk4 hg4)
            go_wp2
            go_roundw
            case rel => exact ⟨j + 1, acc ++ [(x, y, z)], false, by omega, by go_num, rfl, by rw [← HAC.out, HD.out, addGo_le HQ.out HG.out, List.append_assoc]; rfl, by simpa using ho4, HB1.out.trans hb4⟩
            case measure => simp [intOf]; omega
          | false =>
            have hg2 : Op.bytesLess k.toList x.toList = true := by
              cases h : Op.bytesLess k.toList x.toList with
              | true => rfl
              | false => exact absurd (Km.bl_tri hg h) hq'
            have HG : Hid (klt k x = true) := Lib.hid (by unfold klt; rw [← Lib.toList_data, ← Lib.toList_data]; exact hg2)
            go_wp2_with (first
              | (at_builtin; refine wp_pushD (wr := wr.alloc (.cells #[.string x, .int .i64 y, .int .i64 z] 26)) rfl _ _ rfl w2.heap.size (.slice sa acc.length sc) acc k n s rfl HO1.out (by rw [HZ1.out]; rfl) (by omega) (by rw [HZ1.out]; omega) ?_; intro g gcap w4 ho4 hb4 hk4 hg4; obtain ⟨x0, x1, x2, f0, f1, f2⟩ := HX.out.block (hk4 wr.heap.size (by rw [HZ1.out]; omega) (HO.out.lt' (Nat.le_refl _))); have HO4 := Lib.hid ho4; have hs4 : w2.heap.size ≤ w4.heap.size := (by have := (HB1.out.trans hb4).size; omega); clear ho4 hk4)
              | (at_builtin; refine wp_pushD (wr := w4) rfl _ _ rfl w2.heap.size (.slice (some ⟨g, 0, none⟩) (acc.length + 1) gcap) (acc ++ [(k, n, s)]) x y z rfl (by simpa using HO4.out) rfl (by simp; omega) hs4 ?_; intro g5 gcap5 w5 ho5 hb5 hk5 hg5))
            go_wp2
            go_roundw
            case rel => exact ⟨j + 1, acc ++ [(k, n, s)] ++ [(x, y, z)], true, by omega, by go_num, rfl, by rw [← HAC.out, HD.out, addGo_gt HQ.out HG.out]; simp, by simpa using ho5, (HB1.out.trans hb4).trans hb5⟩
            case measure => simp [intOf]; omega
    · have HE : Hid (acc ++ (if put then [] else [(k, n, s)]) = full) := Lib.hid (by have h := HAC.out; rw [List.drop_eq_nil_of_le (by omega)] at h; simpa [addGo] using h)
      have hge : ¬ (j : Int) < (l.length : Int) := by omega
      cases put with
      | true =>
        go_wp2
        go_ret
        exact ⟨_, rfl, by have h := HE.out; simp at h; rw [← h]; exact OwnD.mono HO.out HB.out.size, HB.out.trans (hbel.mono (by omega))⟩
      | false =>
        go_wp2_with (at_builtin; refine wp_pushD (wr := wr) rfl _ _ rfl w2.heap.size (.slice sa acc.length sc) acc k n s rfl HO.out rfl (by omega) hbs ?_; intro g gcap w4 ho4 hb4 hk4 hg4)
        go_wp2
        go_ret
        exact ⟨_, rfl, by have h := HE.out; simp at h; rw [← h]; have := OwnD.mono ho4 HB.out.size; simpa using this, HB.out.trans ((hbel.trans hb4).mono (by omega))⟩

/-- What is answered is what came in, or lies in new memory. -/
theorem refAddP_new (v : Value) (l : List De) (k : ByteArray) (n s : Int) (w : World) (hl : l.length ≤ 100000) (hk : k.size ≤ 9223372036854775807) (hr : DepAt w v l) :
    Calls Try.prog 28 #[v, .agg #[.string k, .int .i64 n, .int .i64 s]] w fun e w' => ∃ u, e = .returned u ∧ DepAt w' u (addR l (k, n, s)) ∧ (u = v ∨ ∀ b, u.ownBlock = some b → w.heap.size ≤ b) ∧ Below w.heap.size w w' := by
  cases hkc : Km.chk k.data.toList <;> cases hsc : Sm.ok n s
  · rw [show addR l (k, n, s) = l by simp [addR, okD, hkc]]; exact (refAddP_no v l k n s _ _ w hk hr hkc hsc rfl).mono fun e w' ⟨h1, h2, h3⟩ => ⟨v, h1, h2, .inl rfl, h3⟩
  · rw [show addR l (k, n, s) = l by simp [addR, okD, hkc]]; exact (refAddP_no v l k n s _ _ w hk hr hkc hsc rfl).mono fun e w' ⟨h1, h2, h3⟩ => ⟨v, h1, h2, .inl rfl, h3⟩
  · rw [show addR l (k, n, s) = l by simp [addR, okD, hkc, hsc]]; exact (refAddP_no v l k n s _ _ w hk hr hkc hsc rfl).mono fun e w' ⟨h1, h2, h3⟩ => ⟨v, h1, h2, .inl rfl, h3⟩
  · rw [show addR l (k, n, s) = addGo (k, n, s) false l by simp [addR, okD, hkc, hsc]]
    exact (refAddP_yes v l k n s w hl hk hr hkc hsc).mono fun e w' ⟨u, h1, h2, h3⟩ => ⟨u, h1, DepAt.of_own h2, .inr (fun b hb => (World.ownsRow.lt h2 b hb).1), h3⟩
theorem refAddP_any (v : Value) (l : List De) (k : ByteArray) (n s : Int) (w : World) (hl : l.length ≤ 100000) (hk : k.size ≤ 9223372036854775807) (hr : DepAt w v l) :
    Calls Try.prog 28 #[v, .agg #[.string k, .int .i64 n, .int .i64 s]] w fun e w' => ∃ u, e = .returned u ∧ DepAt w' u (addR l (k, n, s)) ∧ Below w.heap.size w w' :=
  (refAddP_new v l k n s w hl hk hr).mono fun e w' ⟨u, h1, h2, _, h3⟩ => ⟨u, h1, h2, h3⟩
end Go.Proofs.Ytfnfpanmbmkhmaa
