/- What slices.Grow and slices.Concat answer of rows of ints. -/
import Derived.Test.YtfldaokegolhfaaAppI
import Derived.Test.YtfldaokegolhfaaShelf
namespace Go.Proofs.Ytfldaokegolhfaa
open Go.RowKit
set_option linter.unusedVariables false
set_option linter.unusedSimpArgs false

/-- A row of slices in memory. -/
def RowsInI (w : World) (a : Option Addr) (vs : List Value) : Prop := ∀ i (h : i < vs.length), ∃ b off, a = some ⟨b, off, none⟩ ∧ b < w.heap.size ∧ w.cell? ⟨b, off + i, none⟩ = some vs[i]
theorem RowsInI.below {w w' : World} {a : Option Addr} {vs : List Value} (h : RowsInI w a vs) (hb : Below w.heap.size w w') : RowsInI w' a vs := by
  intro i hi
  obtain ⟨b, off, rfl, hlt, h0⟩ := h i hi
  exact ⟨b, off, rfl, by have := hb.size; omega, kc hb h0⟩
/-- They read as these rows. -/
def RowsAtI (w : World) (a : Option Addr) (ls : List (List Int)) : Prop := ∃ vs : List Value, vs.length = ls.length ∧ RowsInI w a vs ∧ ∀ i (h : i < vs.length) (h' : i < ls.length), RowAt KI w vs[i] ls[i]
theorem RowsAtI.below {w w' : World} {a : Option Addr} {ls : List (List Int)} (h : RowsAtI w a ls) (hb : Below w.heap.size w w') : RowsAtI w' a ls := by
  obtain ⟨vs, h1, h2, h3⟩ := h
  exact ⟨vs, h1, h2.below hb, fun i hi hi' => (h3 i hi hi').below hb⟩
theorem RowsAtI.get {w : World} {a : Option Addr} {ls : List (List Int)} (h : RowsAtI w a ls) (i : Nat) (hi : i < ls.length) : ∃ b off u, a = some ⟨b, off, none⟩ ∧ b < w.heap.size ∧ w.cell? ⟨b, off + i, none⟩ = some u ∧ RowAt KI w u ls[i] := by
  obtain ⟨vs, h1, h2, h3⟩ := h
  obtain ⟨b, off, e, hlt, hc⟩ := h2 i (by omega)
  exact ⟨b, off, vs[i]'(by omega), e, hlt, hc, h3 i (by omega) hi⟩
def totI (ls : List (List Int)) : Nat := (ls.map List.length).sum
theorem totI_take (ls : List (List Int)) (k : Nat) (h : k < ls.length) : totI (ls.take (k + 1)) = totI (ls.take k) + ls[k].length := by
  unfold totI
  rw [List.take_succ_eq_append_getElem h, List.map_append, List.sum_append, List.map_singleton, List.sum_singleton]
theorem totI_flat (ls : List (List Int)) : ls.flatten.length = totI ls := by simp [totI, List.length_flatten]
theorem flatI_take (ls : List (List Int)) (k : Nat) (h : k < ls.length) : (ls.take (k + 1)).flatten = (ls.take k).flatten ++ ls[k] := by
  rw [List.take_succ_eq_append_getElem h, List.flatten_append]
  simp only [List.flatten_cons, List.flatten_nil, List.append_nil]
theorem totI_mono (ls : List (List Int)) (k : Nat) : totI (ls.take k) ≤ totI ls := by
  unfold totI
  have h : (ls.map List.length).sum = ((ls.take k).map List.length).sum + ((ls.drop k).map List.length).sum := by
    rw [← List.sum_append, ← List.map_append, List.take_append_drop]
  omega

/-- slices.Grow of nil. -/
theorem growI_any (n : Nat) (w : World) (hn : n ≤ 1000000) :
    Calls Try.prog 29 #[.slice none 0 0, .int .i64 n] w fun e w' => ∃ v', e = .returned v' ∧ OwnR KI w' w.heap.size v' [] ∧ Below w.heap.size w w' := by
  obtain ⟨i0, hi, hz0, hz1, hz2⟩ := info_parts ki_ok.inf
  by_cases h0 : n = 0
  · subst h0
    have h := Any8.slices_Grow_room Try.growI none 0 0 0 w (by omega) (by omega) (by omega) (by omega)
    exact h.mono fun e w' ⟨he, hw⟩ => ⟨_, he, OwnR.nil _ _ _, by rw [hw]; exact Below.refl _ _⟩
  · have hz1' : i0.size = 1 := hz1
    have hz2' : i0.bytes = 8 := hz2
    have h := Any8.slices_Grow_grow Try.growI i0 _ hi hz0 (by rw [hz1']; omega) none 0 0 n [] w (by omega) (by omega) (by rw [hz2']; omega) (by omega) (by simp) (by simp) (by simp)
    refine h.mono fun e w' ⟨he, hw⟩ => ⟨_, he, ?_, ?_⟩
    · rw [hw]
      have hcap := grownCap_le_maxLen w (0 + n) 0 3 (by unfold maxLen; omega)
      have hge := grownCap_ge w (0 + n) 0 3
      refine ⟨by rfl, .inr ⟨_, _, _, rfl, Nat.le_refl _, heap_alloc_new _ _, by simp, hcap, ?_, by simp [rV]⟩⟩
      simp only [Builtin.zeroCells, Value.cells, Array.size_append, Array.size_map, Array.size_range, List.size_toArray, List.length_nil, List.length_cons]
      have e : Go.Shelf.Ren.t Try.growI_ren 25 = 3 := rfl
      have hge' : n ≤ grownCap w n 0 3 := by simpa using hge
      simp [KI, Value.cells]
      rw [e]
      omega
    · rw [hw]
      exact ((Below.refl _ w).drew).alloc (Nat.le_refl _) _

set_option maxRecDepth 100000 in
set_option maxHeartbeats 1600000 in
theorem concatI_any (a : Option Addr) (cap : Nat) (ls : List (List Int)) (w : World) (hn : ls.length ≤ 1000) (ht : totI ls ≤ 1000000) (hr : RowsAtI w a ls) :
    Calls Try.prog 26 #[.slice a ls.length cap] w fun e w' => ∃ v', e = .returned v' ∧ OwnR KI w' w.heap.size v' ls.flatten ∧ Below w.heap.size w w' := by
  have HR := Lib.hid hr
  clear hr
  go_enter Try.func26, Try.ntmps26
  go_wp2
  go_loopw [3, 11] (fun s3 i wr => ∃ k : Nat, k ≤ ls.length ∧ i = .int .i64 k ∧ s3 = .int .i64 (totI (ls.take k)) ∧ w = wr) (fun _ i _ => ls.length - (intOf i).toNat)
  case atStart => exact ⟨0, by omega, rfl, rfl, rfl⟩
  case round =>
    obtain ⟨k, hk, rfl, rfl, rfl⟩ := hrel
    by_cases hlt : k < ls.length
    · obtain ⟨b, off, u, rfl, hbl, hc, hd⟩ := HR.out.get k hlt
      have HT := Lib.hid (totI_take ls k hlt)
      have hm1 := totI_mono ls (k + 1)
      rw [HT.out] at hm1
      generalize ls[k] = m at hd HT hm1
      obtain ⟨ma, mc, rfl, _, _, _, _⟩ := hd
      generalize htk : totI (ls.take k) = q at HT hm1
      have HQ := Lib.hid htk
      clear htk
      have hw : IntKind.i64.wrap ((q : Int) + (m.length : Int)) = (q : Int) + (m.length : Int) := IntWalk.i64_in _ (by omega)
      have hw3 : ¬ (q : Int) + (m.length : Int) < 0 := by omega
      go_wp2
      go_roundw
      case rel => exact ⟨k + 1, by omega, by go_num, by rw [HT.out]; simp, (by first | rfl | trivial)⟩
      case measure => simp [intOf]; omega
    · obtain rfl : k = ls.length := by omega
      rw [List.take_length]
      go_wp2_with fail
      refine (growI_any (totI ls) _ ht).mono ?_
      rintro e w1 ⟨v1, rfl, ho1, hb1⟩
      obtain ⟨sa, sc, rfl⟩ := ho1.shape
      have HO1 := Lib.hid ho1
      clear ho1
      go_wp2
      go_loopw [6, 27] (fun o i wr => ∃ k : Nat, k ≤ ls.length ∧ i = .int .i64 k ∧ OwnR KI wr w.heap.size o (ls.take k).flatten ∧ Below w.heap.size w wr) (fun _ i _ => ls.length - (intOf i).toNat)
      case atStart => exact ⟨0, by omega, rfl, HO1.out, hb1⟩
      case round =>
        obtain ⟨k, hk, rfl, ho, hbel⟩ := hrel
        obtain ⟨va, vc, rfl⟩ := ho.shape
        have HO := Lib.hid ho
        clear ho
        by_cases hlt : k < ls.length
        · obtain ⟨b, off, u, rfl, hbl, hc, hd⟩ := (HR.out.below hbel).get k hlt
          have HF := Lib.hid (flatI_take ls k hlt)
          have hm1 := totI_mono ls (k + 1)
          rw [← totI_flat, HF.out, List.length_append] at hm1
          generalize ls[k] = m at hd HF hm1
          obtain ⟨ma, mc, rfl, _, _, _, _⟩ := id hd
          have HD := Lib.hid hd
          have hbs : w.heap.size ≤ wr.heap.size := hbel.size
          clear hd
          go_wp2_with (at_builtin; refine wp_appI rfl _ _ rfl w.heap.size (.slice va (ls.take k).flatten.length vc) (.slice ma m.length mc) (ls.take k).flatten m rfl HO.out rfl HD.out (by omega) hbs ?_; intro v' w2 ho2 hb2 hk2; obtain ⟨sa2, sc2, rfl⟩ := ho2.shape)
          go_roundw
          case rel => exact ⟨k + 1, by omega, by go_num, by rw [HF.out]; simpa using ho2, hbel.trans hb2⟩
          case measure => simp [intOf]; omega
        · obtain rfl : k = ls.length := by omega
          go_wp2
          go_ret
          exact ⟨.slice va (List.take ls.length ls).flatten.length vc, rfl, by have h := HO.out; rw [List.take_length] at h ⊢; exact h, hbel⟩
end Go.Proofs.Ytfldaokegolhfaa
