/- What slices.DeleteFunc answers of dependencies in a row of the caller's own. -/
import Derived.Test.YtplpeokmhomojaaPastOwn
import Derived.Test.YtplpeokmhomojaaPastFind
namespace Go.Proofs.Ytplpeokmhomojaa
open Go.RowKit
set_option linter.unusedVariables false
set_option linter.unusedSimpArgs false

abbrev kept (p : De → Bool) (l : List De) : List De := l.filter fun d => !p d
theorem kept_all {p : De → Bool} {l : List De} (h : fidxD p l = -1) : kept p l = l := by
  unfold fidxD at h
  cases e : l.findIdx? p with
  | some i => rw [e] at h; simp at h
  | none =>
    rw [List.findIdx?_eq_none_iff] at e
    unfold kept
    rw [List.filter_eq_self]
    intro x hx
    simp [e x hx]
theorem fidxD_cases (p : De → Bool) (l : List De) : fidxD p l = -1 ∨ ∃ (i : Nat) (h : i < l.length), fidxD p l = i ∧ p l[i] = true ∧ kept p (l.take i) = l.take i := by
  cases e : l.findIdx? p with
  | none => left; simp [fidxD, e]
  | some i =>
    right
    have e' := e
    rw [List.findIdx?_eq_some_iff_getElem] at e
    obtain ⟨hi, hh, hn⟩ := e
    refine ⟨i, hi, by simp [fidxD, e'], hh, ?_⟩
    unfold kept
    rw [List.filter_eq_self]
    intro x hx
    obtain ⟨j, hj, rfl⟩ := List.getElem_of_mem hx
    simp at hj
    rw [List.getElem_take]
    simpa using hn j (by omega)
theorem kept_step (p : De → Bool) (l : List De) (j : Nat) (h : j < l.length) : kept p (l.take (j + 1)) = kept p (l.take j) ++ (if p l[j] then [] else [l[j]]) := by
  unfold kept
  rw [List.take_succ_eq_append_getElem h, List.filter_append]
  cases hp : p l[j] <;> simp [List.filter_cons, hp]
theorem take_set_snoc {L : List De} {i : Nat} (h : i < L.length) (d : De) : (L.set i d).take (i + 1) = L.take i ++ [d] := by
  rw [List.take_succ_eq_append_getElem (by simpa using h), List.take_set_of_le (Nat.le_refl _)]
  simp
theorem drop_set {L : List De} {i j : Nat} (h : i < j) (d : De) : (L.set i d).drop j = L.drop j := List.drop_set_of_lt h
theorem get_of_drop {L l : List De} {j : Nat} (hj : j < l.length) (hL : L.length = l.length) (h : L.drop j = l.drop j) : L[j]'(by omega) = l[j] := by
  have h1 := congrArg (fun x => x[0]?) h
  simp only [List.getElem?_drop, Nat.add_zero] at h1
  rw [List.getElem?_eq_getElem (by omega), List.getElem?_eq_getElem hj] at h1
  exact Option.some.inj h1
theorem drop_next {L l : List De} {j : Nat} (h : L.drop j = l.drop j) : L.drop (j + 1) = l.drop (j + 1) := by
  have e1 : L.drop (j + 1) = (L.drop j).drop 1 := by rw [List.drop_drop]
  have e2 : l.drop (j + 1) = (l.drop j).drop 1 := by rw [List.drop_drop]
  rw [e1, e2, h]

set_option maxRecDepth 100000 in
set_option maxHeartbeats 3200000 in
theorem delFunc_any (g : Nat) (lb : Array Value) (eg : ∀ args w, (callFunc g args).run Try.prog w = .ok (.enter g args) w) (p : De → Bool) (v : Value) (base : Nat) (l : List De) (w : World) (hl : l.length ≤ 1000000) (ho : OwnD w base v l) (hbs : base ≤ w.heap.size) (hp : PredD g lb p l base w) :
    Calls Try.prog 40 #[v, .func (.func g) #[] lb] w fun e w' => ∃ v', e = .returned v' ∧ OwnD w' base v' (kept p l) ∧ Below base w w' := by
  obtain ⟨a, cap, rfl⟩ := ho.shape
  have hcon := idxFunc_any g lb eg p a cap base l w hl (by obtain ⟨a', c', e, _, _, _, hr⟩ := DepAt.of_own ho; cases e; exact hr) hbs hp
  rcases fidxD_cases p l with hf | ⟨i0, hi0, hf, hpi, hk0⟩
  · rw [hf] at hcon
    have HK := Lib.hid (kept_all hf)
    have HO := Lib.hid ho
    clear ho hp hf
    go_enter Try.func40, Try.ntmps40
    go_wp2_with (go_at_call 34; refine hcon.mono ?_; rintro e w1 ⟨rfl, hb⟩)
    go_ret
    exact ⟨_, rfl, by rw [HK.out]; exact HO.out.below hb, hb.mono hbs⟩
  · rw [hf] at hcon
    obtain ⟨gg, rfl⟩ : ∃ gg, a = some ⟨gg, 0, none⟩ := by
      rcases ho.2 with ⟨e, h0⟩ | ⟨gg, cap', cur, e, _⟩
      · omega
      · cases e; exact ⟨gg, rfl⟩
    obtain ⟨_, hcl, hcm⟩ := ho.cap
    obtain ⟨hgb, hgl⟩ := ho.blk
    unfold maxLen at hcm
    have HO := Lib.hid ho
    have HP := Lib.hid hp
    have HK0 := Lib.hid hk0
    have HPI := Lib.hid hpi
    clear ho hp hf hk0 hpi
    have hi1 : ((i0 : Int) == -1) = false := by simp
    go_enter Try.func40, Try.ntmps40
    go_wp2_with (go_at_call 34; refine hcon.mono ?_; rintro e w1 ⟨rfl, hb⟩)
    have HB1 := Lib.hid hb
    have HO1 := Lib.hid (HO.out.below hb)
    clear hb
    go_loopw [5, 6] (fun s5 s6 wr => ∃ (i j : Nat) (L : List De), i < j ∧ j ≤ l.length ∧ s5 = .int .i64 i ∧ s6 = .int .i64 j ∧ L.length = l.length ∧ OwnD wr base (.slice (some ⟨gg, 0, none⟩) L.length cap) L ∧ i = (kept p (l.take j)).length ∧ L.take i = kept p (l.take j) ∧ L.drop j = l.drop j ∧ Below base w wr) (fun _ s6 _ => l.length - (intOf s6).toNat)
    case atStart => 
      have e : kept p (l.take (i0 + 1)) = l.take i0 := by rw [kept_step p l i0 hi0, HK0.out, HPI.out]; simp
      refine ⟨i0, i0 + 1, l, by omega, by omega, rfl, by go_num, rfl, HO1.out, by rw [e]; simp; omega, by rw [e], rfl, HB1.out.mono hbs⟩
    case round =>
      obtain ⟨i, j, L, hij, hj, rfl, rfl, hLl, hoL, hi, hkt, hkd, hbel⟩ := hrel
      have HL := Lib.hid hLl
      have HOL := Lib.hid hoL
      have HI := Lib.hid hi
      have HT := Lib.hid hkt
      have HD := Lib.hid hkd
      have hgr : gg < wr.heap.size := (hoL.blk).2
      have hwb : base ≤ wr.heap.size := by have := hbel.size; omega
      clear hoL hi hkt hkd hLl
      by_cases hlt : j < l.length
      · have hjL : j < L.length := by rw [HL.out]; exact hlt
        obtain ⟨c0, c1, c2⟩ := HOL.out.at j hjL
        have hcall := HP.out (wr.alloc (.cells #[.string l[j].1, .int .i64 l[j].2.1, .int .i64 l[j].2.2] 26)) l[j] (List.getElem_mem hlt) (hbel.alloc hwb _)
        rw [get_of_drop hlt HL.out HD.out] at c0 c1 c2
        have HS := Lib.hid (kept_step p l j hlt)
        generalize l[j] = d at c0 c1 c2 hcall HS
        obtain ⟨x, y, z⟩ := d
        dsimp only [dv] at c0 c1 c2 hcall
        have hX := VarD.new wr x y z 26
        have HX := Lib.hid hX
        have hb1 : Below wr.heap.size wr (wr.alloc (.cells #[.string x, .int .i64 y, .int .i64 z] 26)) := balloc (Below.refl _ _) _
        clear hX
        have hjl : (j : Int) < (l.length : Int) := by omega
        cases hq : p (x, y, z) with
        | true =>
          rw [hq] at hcall
          rw [hq] at HS
          go_wp2_with (go_at_fn g; refine hcall.mono ?_; rintro e w2 ⟨rfl, hb2⟩)
          go_roundw
          case rel => exact ⟨i, j + 1, L, by omega, by omega, rfl, by go_num, HL.out, HOL.out.below (bstep hb1 hb2), by rw [HS.out]; simpa using HI.out, by rw [HS.out]; simpa using HT.out, drop_next HD.out, hbel.trans ((bstep hb1 hb2).mono hwb)⟩
          case measure => simp [intOf]; omega
        | false =>
          rw [hq] at hcall
          rw [hq] at HS
          have hil : (i : Int) < (l.length : Int) := by omega
          go_wp2_with (go_at_fn g; refine hcall.mono ?_; rintro e w2 ⟨rfl, hb2⟩; obtain ⟨x0, x1, x2, _, _, _⟩ := HX.out.keep hb2; have HO2 := Lib.hid (HOL.out.below (bstep hb1 hb2)); have HB2 := Lib.hid (hbel.trans ((bstep hb1 hb2).mono hwb)); obtain ⟨q0, q1, q2⟩ := HO2.out.at i (by omega); have r0 := HO2.out.fr (i * 3); have r1 := HO2.out.fr (i * 3 + 1); have r2 := HO2.out.fr (i * 3 + 2))
          go_roundw
          case rel =>
            refine ⟨i + 1, j + 1, L.set i (x, y, z), by omega, by omega, by go_num, by go_num, by rw [List.length_set]; exact HL.out, by rw [List.length_set]; exact HO2.out.set i (by omega) x y z, ?_, ?_, ?_, below_set HB2.out hgb _ _ _⟩
            · rw [HS.out, List.length_append, ← HI.out]; simp
            · rw [HS.out, take_set_snoc (by omega), HT.out]; simp
            · rw [drop_set (by omega)]; exact drop_next HD.out
          case measure => simp [intOf]; omega
      · obtain rfl : j = l.length := by omega
        have hil : (i : Int) < (l.length : Int) := by omega
        obtain ⟨vs, hclr⟩ := run_clear_dep wr gg (i * 3) (l.length - i) (cap - i) (by omega)
          (fun q hq => by
            have h3 : (i * 3 + q) / 3 < L.length := by rw [HL.out]; omega
            obtain ⟨a0, a1, a2⟩ := HOL.out.at ((i * 3 + q) / 3) h3
            rcases (show i * 3 + q = (i * 3 + q) / 3 * 3 ∨ i * 3 + q = (i * 3 + q) / 3 * 3 + 1 ∨ i * 3 + q = (i * 3 + q) / 3 * 3 + 2 by omega) with e | e | e
            · rw [e, a0]; rfl
            · rw [e, a1]; rfl
            · rw [e, a2]; rfl)
          (fun q hq => HOL.out.fr _)
        go_wp2
        go_ret
        refine ⟨.slice (some ⟨gg, 0, none⟩) i cap, rfl, ?_, below_setCells hgb _ _ _ hbel⟩
        obtain ⟨xs', h1, h2⟩ := own_setCells vs wr (i * 3) _ HOL.out
        have h3 := own_cut h1 (k := i) (by rw [HL.out]; omega)
        have h4 := HT.out
        have h5 := HI.out
        rw [List.take_length] at h4 h5
        rw [h2, ← dV_take, h4] at h3
        unfold OwnD
        rw [← h5]
        exact h3
end Go.Proofs.Ytplpeokmhomojaa
