/- Texts of this proof, one behind the other: PastConc, PastMerge, PastRefMerge, PastGet, PastRefCov, PastBack. -/
import Derived.Test.YtplpeokmhomojaaGPastReads8
import Derived.Deep.RegionHeld3
import Derived.RangeFuncNested
import Derived.RangeFuncBound
import Derived.RangeFuncCalls
import Derived.RangeFuncLeaves
import Derived.Shelf.Abstract
import Derived.Shelf.RegionOpen
import Derived.WalkKit
import Derived.OwnWalkIn
import Derived.TacticsInMore
import Derived.LoopNIn
import Derived.LoopIn
import Derived.Maps.OwnIn
import Derived.Maps.AppendAt
/- What slices.Clone and slices.Concat answer of dependencies. -/
namespace Go.Proofs.Ytplpeokmhomojaa
open Go.RowKit
set_option linter.unusedVariables false
set_option linter.unusedSimpArgs false

set_option maxRecDepth 100000 in
set_option maxHeartbeats 1600000 in
theorem clone_any (v : Value) (l : List De) (w : World) (hl : l.length ≤ 100000) (hr : DepAt w v l) :
    Calls Try.prog 31 #[v] w fun e w' => ∃ v', e = .returned v' ∧ OwnD w' w.heap.size v' l ∧ Below w.heap.size w w' := by
  have hq : ∀ (w : World) (a : Option Addr) (n c n' c' : Nat), (binOp .eql 22 (.slice a n c) (.slice none n' c')).run Try.prog w = .ok (.bool a.isNone) w := fun w a n c n' c' => Lib.run_eql_slice_nil w _ _ a n c n' c' Try.underlying22
  have HV := Lib.hid hr
  obtain ⟨a, cap, rfl, hcap, hmx, hnil, hr⟩ := hr
  cases a with
  | none =>
    have h0 := hnil rfl
    obtain rfl : l = [] := List.length_eq_zero_iff.1 (by omega)
    clear hr hnil
    go_enter Try.func31, Try.ntmps31
    go_wp2
    go_ret
    exact ⟨_, rfl, OwnD.nil _ _, Below.refl _ _⟩
  | some a =>
    have ho : OwnD (w.alloc (.cells #[] 26)) w.heap.size (.slice (some ⟨w.heap.size, 0, none⟩) 0 0) [] := World.ownsRow_made w #[] 0 (Nat.le_refl _) (Nat.zero_le _) (by simp)
    have HO := Lib.hid ho
    have HA := Lib.hid (HV.out.alloc (.cells #[] 26))
    clear hr ho hnil
    go_enter Try.func31, Try.ntmps31
    go_wp2_with (at_builtin; refine wp_appD rfl _ _ rfl w.heap.size (.slice (some ⟨w.heap.size, 0, none⟩) 0 0) (.slice (some a) l.length cap) [] l rfl HO.out rfl HA.out (by simp; omega) (by simp) ?_; intro v' w1 ho1 hb1 hk1 hn1; obtain ⟨sa, sc, rfl⟩ := ho1.shape)
    go_ret
    exact ⟨_, rfl, by simpa using ho1, (balloc (Below.refl _ w) _).trans hb1⟩

/-- A row of slices in memory. -/
def RowsIn (w : World) (a : Option Addr) (vs : List Value) : Prop := ∀ i (h : i < vs.length), ∃ b off, a = some ⟨b, off, none⟩ ∧ b < w.heap.size ∧ w.cell? ⟨b, off + i, none⟩ = some vs[i]
theorem RowsIn.below {w w' : World} {a : Option Addr} {vs : List Value} (h : RowsIn w a vs) (hb : Below w.heap.size w w') : RowsIn w' a vs := by
  intro i hi
  obtain ⟨b, off, rfl, hlt, h0⟩ := h i hi
  exact ⟨b, off, rfl, by have := hb.size; omega, kcell hb hlt h0⟩
/-- They read as these pasts. -/
def RowsAt (w : World) (a : Option Addr) (ls : List (List De)) : Prop := ∃ vs : List Value, vs.length = ls.length ∧ RowsIn w a vs ∧ ∀ i (h : i < vs.length) (h' : i < ls.length), DepAt w vs[i] ls[i]
theorem RowsAt.below {w w' : World} {a : Option Addr} {ls : List (List De)} (h : RowsAt w a ls) (hb : Below w.heap.size w w') : RowsAt w' a ls := by
  obtain ⟨vs, h1, h2, h3⟩ := h
  exact ⟨vs, h1, h2.below hb, fun i hi hi' => (h3 i hi hi').below hb⟩
theorem RowsAt.get {w : World} {a : Option Addr} {ls : List (List De)} (h : RowsAt w a ls) (i : Nat) (hi : i < ls.length) : ∃ b off u, a = some ⟨b, off, none⟩ ∧ b < w.heap.size ∧ w.cell? ⟨b, off + i, none⟩ = some u ∧ DepAt w u ls[i] := by
  obtain ⟨vs, h1, h2, h3⟩ := h
  obtain ⟨b, off, e, hlt, hc⟩ := h2 i (by omega)
  exact ⟨b, off, vs[i]'(by omega), e, hlt, hc, h3 i (by omega) hi⟩
def tot (ls : List (List De)) : Nat := (ls.map List.length).sum
theorem tot_take (ls : List (List De)) (k : Nat) (h : k < ls.length) : tot (ls.take (k + 1)) = tot (ls.take k) + ls[k].length := by
  unfold tot
  rw [List.take_succ_eq_append_getElem h, List.map_append, List.sum_append, List.map_singleton, List.sum_singleton]
theorem tot_flat (ls : List (List De)) : ls.flatten.length = tot ls := by simp [tot, List.length_flatten]
theorem flat_take (ls : List (List De)) (k : Nat) (h : k < ls.length) : (ls.take (k + 1)).flatten = (ls.take k).flatten ++ ls[k] := by
  rw [List.take_succ_eq_append_getElem h, List.flatten_append]
  simp only [List.flatten_cons, List.flatten_nil, List.append_nil]
theorem tot_mono (ls : List (List De)) (k : Nat) : tot (ls.take k) ≤ tot ls := by
  unfold tot
  have h : (ls.map List.length).sum = ((ls.take k).map List.length).sum + ((ls.drop k).map List.length).sum := by
    rw [← List.sum_append, ← List.map_append, List.take_append_drop]
  omega

/-- slices.Grow of nil. -/
theorem grow_any (n : Nat) (w : World) (hn : n ≤ 1000000) :
    Calls Try.prog 72 #[.slice none 0 0, .int .i64 n] w fun e w' => ∃ v', e = .returned v' ∧ OwnD w' w.heap.size v' [] ∧ Below w.heap.size w w' := by
  obtain ⟨i0, hi, hz0, hz1, hz2⟩ := info_parts info_de
  by_cases h0 : n = 0
  · subst h0
    have h := Any8.slices_Grow_room Try.growD none 0 0 0 w (by omega) (by omega) (by omega) (by omega)
    exact h.mono fun e w' ⟨he, hw⟩ => ⟨_, he, OwnD.nil _ _, by rw [hw]; exact Below.refl _ _⟩
  · have h := Any8.slices_Grow_grow Try.growD i0 _ hi hz0 (by rw [hz1]; omega) none 0 0 n [] w (by omega) (by omega) (by rw [hz2]; omega) (by omega) (by simp) (by simp) (by simp)
    refine h.mono fun e w' ⟨he, hw⟩ => ⟨_, he, ?_, ?_⟩
    · rw [hw]
      have hcap := grownCap_le_maxLen w (0 + n) 0 26 (by unfold maxLen; omega)
      have hge := grownCap_ge w (0 + n) 0 26
      refine ⟨rfl, .inr ⟨_, _, _, rfl, Nat.le_refl _, heap_alloc_new _ _, by simp, hcap, ?_, by simp [dV]⟩⟩
      simp only [Builtin.zeroCells, Value.cells, Array.size_append, Array.size_map, Array.size_range, List.size_toArray, List.length_nil, List.length_cons]
      have e : Go.Shelf.Ren.t Try.growD_ren 25 = 26 := rfl
      rw [e]
      omega
    · rw [hw]
      exact ((Below.refl _ w).drew).alloc (Nat.le_refl _) _

set_option maxRecDepth 100000 in
set_option maxHeartbeats 1600000 in
theorem concat_any (a : Option Addr) (cap : Nat) (ls : List (List De)) (w : World) (hn : ls.length ≤ 1000) (ht : tot ls ≤ 1000000) (hr : RowsAt w a ls) :
    Calls Try.prog 36 #[.slice a ls.length cap] w fun e w' => ∃ v', e = .returned v' ∧ OwnD w' w.heap.size v' ls.flatten ∧ Below w.heap.size w w' := by
  have HR := Lib.hid hr
  clear hr
  go_enter Try.func36, Try.ntmps36
  go_wp2
  go_loopw [3, 11] (fun s3 i wr => ∃ k : Nat, k ≤ ls.length ∧ i = .int .i64 k ∧ s3 = .int .i64 (tot (ls.take k)) ∧ w = wr) (fun _ i _ => ls.length - (intOf i).toNat)
  case atStart => exact ⟨0, by omega, rfl, rfl, rfl⟩
  case round =>
    obtain ⟨k, hk, rfl, rfl, rfl⟩ := hrel
    by_cases hlt : k < ls.length
    · obtain ⟨b, off, u, rfl, hbl, hc, hd⟩ := HR.out.get k hlt
      have HT := Lib.hid (tot_take ls k hlt)
      have hm1 := tot_mono ls (k + 1)
      rw [HT.out] at hm1
      generalize ls[k] = m at hd HT hm1
      obtain ⟨ma, mc, rfl, _, _, _, _⟩ := hd
      generalize htk : tot (ls.take k) = q at HT hm1
      have HQ := Lib.hid htk
      clear htk
      have hw : IntKind.i64.wrap ((q : Int) + (m.length : Int)) = (q : Int) + (m.length : Int) := IntWalk.i64_in _ (by omega)
      have hw3 : ¬ (q : Int) + (m.length : Int) < 0 := by omega
      go_wp2
      go_roundw
      case rel => exact ⟨k + 1, by omega, by go_num, by rw [HT.out]; simp, (by first | rfl | trivial)⟩
      case measure => simp [intOf]; omega
    · obtain rfl : k = ls.length := by omega
      rw [List.take_length]
      go_wp2_with fail
      refine (grow_any (tot ls) _ ht).mono ?_
      rintro e w1 ⟨v1, rfl, ho1, hb1⟩
      obtain ⟨sa, sc, rfl⟩ := ho1.shape
      have HO1 := Lib.hid ho1
      clear ho1
      go_wp2
      go_loopw [6, 27] (fun o i wr => ∃ k : Nat, k ≤ ls.length ∧ i = .int .i64 k ∧ OwnD wr w.heap.size o (ls.take k).flatten ∧ Below w.heap.size w wr) (fun _ i _ => ls.length - (intOf i).toNat)
      case atStart => exact ⟨0, by omega, rfl, HO1.out, hb1⟩
      case round =>
        obtain ⟨k, hk, rfl, ho, hbel⟩ := hrel
        obtain ⟨va, vc, rfl⟩ := ho.shape
        have HO := Lib.hid ho
        clear ho
        by_cases hlt : k < ls.length
        · obtain ⟨b, off, u, rfl, hbl, hc, hd⟩ := (HR.out.below hbel).get k hlt
          have HF := Lib.hid (flat_take ls k hlt)
          have hm1 := tot_mono ls (k + 1)
          rw [← tot_flat, HF.out, List.length_append] at hm1
          generalize ls[k] = m at hd HF hm1
          obtain ⟨ma, mc, rfl, _, _, _, _⟩ := id hd
          have HD := Lib.hid hd
          have hbs : w.heap.size ≤ wr.heap.size := hbel.size
          clear hd
          go_wp2_with (at_builtin; refine wp_appD rfl _ _ rfl w.heap.size (.slice va (ls.take k).flatten.length vc) (.slice ma m.length mc) (ls.take k).flatten m rfl HO.out rfl HD.out (by omega) hbs ?_; intro v' w2 ho2 hb2 hk2 hn2; obtain ⟨sa2, sc2, rfl⟩ := ho2.shape)
          go_roundw
          case rel => exact ⟨k + 1, by omega, by go_num, by rw [HF.out]; simpa using ho2, hbel.trans hb2⟩
          case measure => simp [intOf]; omega
        · obtain rfl : k = ls.length := by omega
          go_wp2
          go_ret
          exact ⟨.slice va (List.take ls.length ls).flatten.length vc, rfl, by have h := HO.out; rw [List.take_length] at h ⊢; exact h, hbel⟩
end Go.Proofs.Ytplpeokmhomojaa
/- What past.Merge and the document's Merge answer. -/
namespace Go.Proofs.Ytplpeokmhomojaa
open Go.RowKit
set_option linter.unusedVariables false
set_option linter.unusedSimpArgs false

set_option maxRecDepth 100000 in
theorem mergeC_any (x : ByteArray) (y z : Int) (w : World) (hs : x.size ≤ 9223372036854775807) :
    Calls Try.prog 41 #[.agg #[.string x, .int .i64 y, .int .i64 z]] w fun e w' => e = .returned (.bool (!okD (x, y, z))) ∧ Below w.heap.size w w' := by
  go_enter Try.func41, Try.ntmps41
  go_wp2_with fail
  refine (valid_any x y z _ hs).mono ?_
  rintro e w1 ⟨rfl, hb⟩
  generalize hc : okD (x, y, z) = c
  have HC := Lib.hid hc
  clear hc
  go_wp2
  go_ret
  exact ⟨ret_bool (by rw [HC.out]), bstep (balloc (Below.refl _ w) _) hb⟩

set_option maxRecDepth 100000 in
set_option maxHeartbeats 1600000 in
theorem merge_any (a : Option Addr) (cap : Nat) (ls : List (List De)) (w : World) (hn : ls.length ≤ 1000) (ht : tot ls ≤ 100000) (hz : ∀ l ∈ ls, Szd l) (hr : RowsAt w a ls) :
    Calls Try.prog 14 #[.slice a ls.length cap] w fun e w' => ∃ v', e = .returned v' ∧ ∃ r, IsMerge ls.flatten r ∧ OwnD w' w.heap.size v' r ∧ Below w.heap.size w w' := by
  have HF : Hid (ls.flatten.length ≤ 100000) := Lib.hid (by rw [tot_flat]; exact ht)
  have HZ : Hid (Szd ls.flatten) := Lib.hid (fun d hd => by
    rw [List.mem_flatten] at hd
    obtain ⟨l, h1, h2⟩ := hd
    exact hz l h1 d h2)
  have hcon := concat_any a cap ls w hn (by omega) hr
  clear hr hz
  generalize ls.flatten = f at hcon HF HZ ⊢
  go_enter Try.func14, Try.ntmps14
  go_wp2_with fail
  refine hcon.mono ?_
  rintro e w1 ⟨v1, rfl, ho1, hb1⟩
  have hs1 : w.heap.size ≤ w1.heap.size := hb1.size
  have hdel := delFunc_any 41 #[] (enters_of Try.func41 (by kernel_rfl) rfl) (fun d => !okD d) v1 w.heap.size f w1 (by have := HF.out; omega) ho1 hs1 (fun W d hd _ => mergeC_any d.1 d.2.1 d.2.2 W (HZ.out d hd))
  obtain ⟨sa, sc, rfl⟩ := ho1.shape
  clear ho1
  go_wp2_with fail
  refine hdel.mono ?_
  rintro e w2 ⟨v2, rfl, ho2, hb2⟩
  have HL2 : Hid ((kept (fun d => !okD d) f).length ≤ 100000) := Lib.hid (Nat.le_trans (List.length_filter_le _ _) HF.out)
  generalize hk : kept (fun d => !okD d) f = l2 at ho2 HL2
  have HK := Lib.hid hk
  clear hk
  have hsort := sort_any v2 w.heap.size l2 w2 (by have := HL2.out; omega) ho2
  obtain ⟨sa2, sc2, rfl⟩ := ho2.shape
  clear ho2
  go_wp2_with fail
  refine hsort.mono ?_
  rintro e w3 ⟨rfl, l3, hperm, hlen, hsd, ho3, hb3⟩
  have hs3 : w.heap.size ≤ w3.heap.size := by have := hb2.size; have := hb3.size; omega
  have hcmp := compact_any _ w.heap.size l3 w3 (by have := HL2.out; omega) ho3 hs3
  have HM := Lib.hid (merge_of_sort (f := f) (by rw [HK.out]; exact hperm) hsd)
  clear ho3 hperm hsd
  go_wp2_with fail
  refine hcmp.mono ?_
  rintro e w4 ⟨v4, rfl, ho4, hb4⟩
  obtain ⟨sa4, sc4, rfl⟩ := ho4.shape
  have HO4 := Lib.hid ho4
  clear ho4
  go_wp2
  go_ret
  exact ⟨_, rfl, _, HM.out, HO4.out, hb1.trans (hb2.trans (hb3.trans hb4))⟩
end Go.Proofs.Ytplpeokmhomojaa
/- What the document's Merge, and the law's own 'made', answer. -/
namespace Go.Proofs.Ytplpeokmhomojaa
open Go.RowKit
set_option linter.unusedVariables false
set_option linter.unusedSimpArgs false

theorem addAll_len (l : List De) : ∀ r, (addAll r l).length ≤ r.length + l.length := by
  induction l with
  | nil => intro r; simp [addAll]
  | cons d l ih =>
    intro r
    have h1 := ih (addR r d)
    have h2 := addR_len r d
    simp only [addAll, List.foldl_cons, List.length_cons] at *
    omega
theorem addAll_snoc (r l : List De) (d : De) : addAll r (l ++ [d]) = addR (addAll r l) d := by simp [addAll]
theorem addAll_take (r l : List De) (k : Nat) (h : k < l.length) : addAll r (l.take (k + 1)) = addR (addAll r (l.take k)) l[k] := by
  rw [List.take_succ_eq_append_getElem h, addAll_snoc]
/-- The document's Merge. -/
def mergeR (ls : List (List De)) : List De := ls.foldl addAll []
theorem mergeR_take (ls : List (List De)) (k : Nat) (h : k < ls.length) : mergeR (ls.take (k + 1)) = addAll (mergeR (ls.take k)) ls[k] := by
  unfold mergeR
  rw [List.take_succ_eq_append_getElem h, List.foldl_append]
  rfl
theorem mergeR_len (ls : List (List De)) (k : Nat) (h : k ≤ ls.length) : (mergeR (ls.take k)).length ≤ tot (ls.take k) := by
  induction k with
  | zero => simp [mergeR, tot]
  | succ k ih =>
    have h1 := ih (by omega)
    rw [mergeR_take ls k (by omega), tot_take ls k (by omega)]
    have h2 := addAll_len ls[k] (mergeR (ls.take k))
    omega
theorem mergeR_is : ∀ (ls : List (List De)) (f r : List De), IsMerge f r → IsMerge (f ++ ls.flatten) (ls.foldl addAll r)
  | [], f, r, h => by simpa using h
  | l :: ls, f, r, h => by
    have := mergeR_is ls _ _ (h.all l)
    simpa [List.append_assoc] using this
theorem mergeR_spec (ls : List (List De)) : IsMerge ls.flatten (mergeR ls) := by unfold mergeR; simpa using mergeR_is ls [] [] IsMerge.nil

set_option maxRecDepth 100000 in
set_option maxHeartbeats 3200000 in
theorem refMerge_any (a : Option Addr) (cap : Nat) (ls : List (List De)) (w : World) (hn : ls.length ≤ 1000) (ht : tot ls ≤ 10000) (hz : ∀ l ∈ ls, Szd l) (hr : RowsAt w a ls) :
    Calls Try.prog 15 #[.slice a ls.length cap] w fun e w' => ∃ v', e = .returned v' ∧ DepAt w' v' (mergeR ls) ∧ Below w.heap.size w w' := by
  have HR := Lib.hid hr
  have HZ := Lib.hid hz
  clear hr hz
  go_enter Try.func15, Try.ntmps15
  go_wp2
  go_loopw [3, 4] (fun o i wr => ∃ k : Nat, k ≤ ls.length ∧ i = .int .i64 k ∧ DepAt wr o (mergeR (ls.take k)) ∧ Below w.heap.size w wr) (fun _ i _ => ls.length - (intOf i).toNat)
  case atStart => exact ⟨0, by omega, rfl, DepAt.nil w, Below.refl _ _⟩
  case round =>
    obtain ⟨k, hk, rfl, hd, hbel⟩ := hrel
    obtain ⟨da, dc, rfl, _, _, _, _⟩ := id hd
    have HD := Lib.hid hd
    clear hd
    by_cases hlt : k < ls.length
    · have hml := mergeR_len ls k hk
      have hm1 := tot_mono ls (k + 1)
      rw [tot_take ls k hlt] at hm1
      have HT := Lib.hid (mergeR_take ls k hlt)
      have HZK := Lib.hid (HZ.out ls[k] (List.getElem_mem hlt))
      obtain ⟨b, off, u, rfl, hbl, hc, hu⟩ := (HR.out.below hbel).get k hlt
      generalize ls[k] = m at hu HT HZK hm1
      generalize hq : mergeR (ls.take k) = q at HD HT hml
      have HQ := Lib.hid hq
      clear hq
      obtain ⟨ma, mc, rfl, _, _, _, _⟩ := id hu
      have HU := Lib.hid hu
      clear hu
      go_wp2
      go_loopw [3, 5] (fun o i wr' => ∃ j : Nat, j ≤ m.length ∧ i = .int .i64 j ∧ DepAt wr' o (addAll q (m.take j)) ∧ Below w.heap.size w wr' ∧ Below wr.heap.size wr wr') (fun _ i _ => m.length - (intOf i).toNat)
      case atStart => exact ⟨0, by omega, rfl, HD.out, hbel, Below.refl _ _⟩
      case round =>
        rename_i wr'
        obtain ⟨j, hj, rfl, hd, hbel', hbw⟩ := hrel
        obtain ⟨ea, ec, rfl, _, _, _, _⟩ := id hd
        have HD' := Lib.hid hd
        have hc' := kcell hbw hbl hc
        clear hd
        by_cases hlt' : j < m.length
        · obtain ⟨ua, uc, ue, _, _, _, hur⟩ := HU.out.below hbw
          cases ue
          obtain ⟨b2, off2, rfl, hbl2, c0, c1, c2⟩ := hur j hlt'
          have HA := Lib.hid (addAll_take q m j hlt')
          have hsz := HZK.out m[j] (List.getElem_mem hlt')
          have hal := addAll_len (m.take j) q
          have htl : (m.take j).length ≤ m.length := by simp; omega
          generalize m[j] = d at c0 c1 c2 HA hsz
          obtain ⟨x, y, z⟩ := d
          dsimp only at c0 c1 c2 hsz
          generalize hqq : addAll q (m.take j) = q' at HD' HA hal
          clear hqq
          go_wp2_with fail
          refine (refAddP_any _ q' x y z _ (by omega) hsz HD'.out).mono ?_
          rintro e w2 ⟨v2, rfl, hd2, hb2⟩
          obtain ⟨va, vc, rfl, _, _, _, _⟩ := id hd2
          have HD2 := Lib.hid hd2
          clear hd2
          go_wp2
          go_roundw
          case rel => exact ⟨j + 1, by omega, by go_num, by rw [HA.out]; exact HD2.out, bstep hbel' hb2, bstep hbw hb2⟩
          case measure => simp [intOf]; omega
        · obtain rfl : j = m.length := by omega
          have HE : Hid (addAll q (m.take m.length) = addAll q m) := Lib.hid (by rw [List.take_length])
          go_wp2
          go_roundw
          case rel => exact ⟨k + 1, by omega, by go_num, by rw [HT.out, ← HE.out]; exact HD'.out, hbel'⟩
          case measure => simp [intOf]; omega
    · obtain rfl : k = ls.length := by omega
      go_wp2
      go_ret
      exact ⟨_, rfl, by have h := HD.out; rw [List.take_length] at h ⊢; exact h, hbel⟩
end Go.Proofs.Ytplpeokmhomojaa
/- What past.Get and the document's Get answer. -/
namespace Go.Proofs.Ytplpeokmhomojaa
open Go.RowKit
set_option linter.unusedVariables false
set_option linter.unusedSimpArgs false

/-- The stamp of a key; the zero one: there is none. -/
def gtD (l : List De) (key : ByteArray) : Int × Int := match l.find? (fun d => decide (d.1 = key)) with | none => (0, 0) | some d => d.2
theorem kidx_cases (l : List De) (key : ByteArray) : (kidx l key = -1 ∧ gtD l key = (0, 0)) ∨ ∃ (k : Nat) (h : k < l.length), kidx l key = k ∧ l[k].1 = key ∧ gtD l key = l[k].2 := by
  unfold kidx fidxD gtD
  cases h : l.findIdx? (fun d => decide (d.1 = key)) with
  | none =>
    left
    refine ⟨rfl, ?_⟩
    rw [List.findIdx?_eq_none_iff] at h
    have : l.find? (fun d => decide (d.1 = key)) = none := by
      rw [List.find?_eq_none]
      intro x hx
      simpa using h x hx
    rw [this]
  | some i =>
    right
    rw [List.findIdx?_eq_some_iff_getElem] at h
    obtain ⟨hi, hh, hn⟩ := h
    have : l.find? (fun d => decide (d.1 = key)) = some l[i] := by
      rw [List.find?_eq_some_iff_getElem]
      exact ⟨hh, i, hi, rfl, fun j hj => by simpa using hn j hj⟩
    exact ⟨i, hi, rfl, by simpa using hh, by rw [this]⟩

set_option maxRecDepth 100000 in
set_option maxHeartbeats 800000 in
theorem pget_any (v : Value) (l : List De) (key : ByteArray) (w : World) (hl : l.length ≤ 1000000) (hr : DepAt w v l) :
    Calls Try.prog 18 #[v, .string key] w fun e w' => e = .returned (sv (gtD l key)) ∧ Below w.heap.size w w' := by
  have hcon := pfind_any v l key (w.alloc (.cells #[.int .i64 0, .int .i64 0] 24)) hl (hr.alloc _)
  have hkc := kidx_cases l key
  generalize kidx l key = r at hcon hkc
  obtain ⟨a, cap, rfl, _, _, _, hr⟩ := hr
  have HR := Lib.hid hr
  clear hr
  have hf0 : Var2 (w.alloc (.cells #[.int .i64 0, .int .i64 0] 24)) w.heap.size (0, 0) := ⟨by simp, by simp, by simp, by simp⟩
  rcases hkc with ⟨rfl, hg⟩ | ⟨k, hk, rfl, hk1, hg⟩
  · rw [hg]
    clear hg
    go_enter Try.func18, Try.ntmps18
    go_wp2_with fail
    refine hcon.mono ?_
    rintro e w1 ⟨rfl, hb⟩
    have hv := hf0.keep hb
    have hbel := bstep (balloc (Below.refl _ w) _) hb
    clear hb hcon hf0
    obtain ⟨a0, a1, a2, a3⟩ := hv
    go_wp2
    have hv := Var2.put (p := (0, 0)) ⟨a0, a1, a2, a3⟩ 0 0
    have r0 := hv.c0
    have r1 := hv.c1
    simp only at r0 r1
    refine bodyPost_ret (v := .agg #[.int .i64 0, .int .i64 0]) (by simp [results, Try.results18, go_sem, r0, r1]) rfl ⟨rfl, below_put hbel (Nat.le_refl _) _ _⟩
  · rw [hg]
    clear hg hk1
    obtain ⟨b, off, rfl, hbl, c0, c1, c2⟩ := HR.out k hk
    generalize l[k] = d at c0 c1 c2
    obtain ⟨x, y, z⟩ := d
    dsimp only at c0 c1 c2 ⊢
    go_enter Try.func18, Try.ntmps18
    go_wp2_with fail
    refine hcon.mono ?_
    rintro e w1 ⟨rfl, hb⟩
    have hv := hf0.keep hb
    have hbel := bstep (balloc (Below.refl _ w) _) hb
    have c1 := kcell hbel hbl c1
    have c2 := kcell hbel hbl c2
    have hkl : (k : Int) < (l.length : Int) := by omega
    have HKL := Lib.hid hk
    clear hb hcon hf0 hk
    obtain ⟨a0, a1, a2, a3⟩ := hv
    go_wp2
    have hv := Var2.put (p := (0, 0)) ⟨a0, a1, a2, a3⟩ y z
    have r0 := hv.c0
    have r1 := hv.c1
    simp only at r0 r1
    refine bodyPost_ret (v := .agg #[.int .i64 y, .int .i64 z]) (by simp [results, Try.results18, go_sem, r0, r1]) rfl ⟨rfl, below_put hbel (Nat.le_refl _) _ _⟩

theorem gtD_hit {l : List De} {key : ByteArray} {k : Nat} (hk : k < l.length) (h : ∀ j (hj : j < l.length), j < k → l[j].1 ≠ key) (hh : l[k].1 = key) : gtD l key = l[k].2 := by
  have : l.find? (fun d => decide (d.1 = key)) = some l[k] := by
    rw [List.find?_eq_some_iff_getElem]
    exact ⟨by simpa using hh, k, hk, rfl, fun j hj => by simpa using h j (by omega) hj⟩
  simp [gtD, this]
theorem gtD_none {l : List De} {key : ByteArray} (h : ∀ j (hj : j < l.length), l[j].1 ≠ key) : gtD l key = (0, 0) := by
  have : l.find? (fun d => decide (d.1 = key)) = none := by
    rw [List.find?_eq_none]
    intro x hx
    obtain ⟨j, hj, rfl⟩ := List.getElem_of_mem hx
    simpa using h j hj
  simp [gtD, this]

set_option maxRecDepth 100000 in
set_option maxHeartbeats 800000 in
theorem refPGet_any (v : Value) (l : List De) (key : ByteArray) (w : World) (hl : l.length ≤ 1000000) (hr : DepAt w v l) :
    Calls Try.prog 19 #[v, .string key] w fun e w' => e = .returned (sv (gtD l key)) ∧ Below w.heap.size w w' := by
  obtain ⟨a, cap, rfl, _, _, _, hr⟩ := hr
  have HR := Lib.hid hr
  clear hr
  go_enter Try.func19, Try.ntmps19
  go_wp2
  go_loopw [5] (fun i wr => ∃ k : Nat, k ≤ l.length ∧ i = .int .i64 k ∧ (∀ j (hj : j < l.length), j < k → l[j].1 ≠ key) ∧ Var2 wr w.heap.size (0, 0) ∧ Below w.heap.size w wr) (fun i _ => l.length - (intOf i).toNat)
  case atStart => exact ⟨0, by omega, rfl, (fun j hj h => by omega), ⟨by simp, by simp, by simp, by simp⟩, balloc (Below.refl _ w) _⟩
  case round =>
    obtain ⟨k, hk, rfl, hall, hf0, hbel⟩ := hrel
    have HA := Lib.hid hall
    clear hall
    obtain ⟨a0, a1, a2, a3⟩ := hf0
    simp only at a0 a1
    by_cases hlt : k < l.length
    · obtain ⟨b, off, rfl, hbl, c0, c1, c2⟩ := HR.out.below hbel k hlt
      have HH := Lib.hid (@gtD_hit l key k hlt HA.out)
      have HN : Hid (l[k].1 ≠ key → ∀ j (hj : j < l.length), j < k + 1 → l[j].1 ≠ key) := Lib.hid (fun h j hj h2 => by
        by_cases e : j = k
        · subst e; exact h
        · exact HA.out j hj (by omega))
      generalize l[k] = d at c0 c1 c2 HH HN
      obtain ⟨x, y, z⟩ := d
      dsimp only at c0 c1 c2 HH HN
      have hkey : Hid (x = key ↔ (x.toList == key.toList) = true) := Lib.hid (by
        rw [Lib.toList_data, Lib.toList_data, beq_iff_eq]
        exact ⟨fun h => by rw [h], ba_inj⟩)
      cases hq : (x.toList == key.toList) with
      | true =>
        have hq' : x.toList = key.toList := by simpa using hq
        go_wp2
        have hv := Var2.put (p := (0, 0)) ⟨a0, a1, a2, a3⟩ y z
        have r0 := hv.c0
        have r1 := hv.c1
        simp only at r0 r1
        refine bodyPost_ret (v := .agg #[.int .i64 y, .int .i64 z]) (by simp [results, Try.results19, go_sem, r0, r1]) rfl ⟨?_, below_put hbel (Nat.le_refl _) _ _⟩
        rw [HH.out (hkey.out.2 hq)]
      | false =>
        have hq' : ¬ x.toList = key.toList := by simpa using hq
        go_wp2
        go_roundw
        case rel => exact ⟨k + 1, by omega, by go_num, HN.out (fun h => by rw [hkey.out, hq] at h; cases h), ⟨a0, a1, a2, a3⟩, hbel⟩
        case measure => simp [intOf]; omega
    · obtain rfl : k = l.length := by omega
      go_wp2
      have hv := Var2.put (p := (0, 0)) ⟨a0, a1, a2, a3⟩ 0 0
      have r0 := hv.c0
      have r1 := hv.c1
      simp only at r0 r1
      refine bodyPost_ret (v := .agg #[.int .i64 0, .int .i64 0]) (by simp [results, Try.results19, go_sem, r0, r1]) rfl ⟨?_, below_put hbel (Nat.le_refl _) _ _⟩
      rw [gtD_none (fun j hj => HA.out j hj hj)]
end Go.Proofs.Ytplpeokmhomojaa
/- What the document's Covers answers. -/
namespace Go.Proofs.Ytplpeokmhomojaa
open Go.RowKit
set_option linter.unusedVariables false
set_option linter.unusedSimpArgs false

abbrev cvD (l m : List De) : Bool := !(m.any fun d => Sm.less (gtD l d.1) d.2)
theorem cvD_hit {l m : List De} {k : Nat} (hk : k < m.length) (h : Sm.less (gtD l m[k].1) m[k].2 = true) : cvD l m = false := by
  unfold cvD
  rw [show (m.any fun d => Sm.less (gtD l d.1) d.2) = true from List.any_eq_true.2 ⟨m[k], List.getElem_mem hk, h⟩]
  rfl
theorem cvD_none {l m : List De} (h : ∀ j (hj : j < m.length), Sm.less (gtD l m[j].1) m[j].2 = false) : cvD l m = true := by
  unfold cvD
  rw [show (m.any fun d => Sm.less (gtD l d.1) d.2) = false from by
    rw [List.any_eq_false]
    intro x hx
    obtain ⟨j, hj, rfl⟩ := List.getElem_of_mem hx
    simp [h j hj]]
  rfl

set_option maxRecDepth 100000 in
set_option maxHeartbeats 1600000 in
theorem refCovers_any (v1 v2 : Value) (l m : List De) (w : World) (hl : l.length ≤ 1000000) (hm : m.length ≤ 1000000) (h1 : DepAt w v1 l) (h2 : DepAt w v2 m) :
    Calls Try.prog 21 #[v1, v2] w fun e w' => e = .returned (.bool (cvD l m)) ∧ Below w.heap.size w w' := by
  have HV1 := Lib.hid h1
  obtain ⟨a, cap, rfl, _, _, _, hr⟩ := h1
  obtain ⟨a2, cap2, rfl, _, _, _, hr2⟩ := h2
  have HR2 := Lib.hid hr2
  clear hr hr2
  go_enter Try.func21, Try.ntmps21
  go_wp2
  go_loopw [5] (fun i wr => ∃ k : Nat, k ≤ m.length ∧ i = .int .i64 k ∧ (∀ j (hj : j < m.length), j < k → Sm.less (gtD l m[j].1) m[j].2 = false) ∧ Below w.heap.size w wr) (fun i _ => m.length - (intOf i).toNat)
  case atStart => exact ⟨0, by omega, rfl, (fun j hj h => by omega), Below.refl _ _⟩
  case round =>
    obtain ⟨k, hk, rfl, hall, hbel⟩ := hrel
    have HA := Lib.hid hall
    clear hall
    by_cases hlt : k < m.length
    · obtain ⟨b, off, rfl, hbl, c0, c1, c2⟩ := HR2.out.below hbel k hlt
      have HH := Lib.hid (@cvD_hit l m k hlt)
      have HN : Hid (Sm.less (gtD l m[k].1) m[k].2 = false → ∀ j (hj : j < m.length), j < k + 1 → Sm.less (gtD l m[j].1) m[j].2 = false) := Lib.hid (fun h j hj h2 => by
        by_cases e : j = k
        · subst e; exact h
        · exact HA.out j hj (by omega))
      generalize m[k] = d at c0 c1 c2 HH HN
      obtain ⟨x, y, z⟩ := d
      dsimp only at c0 c1 c2 HH HN
      have hget := refPGet_any _ l x wr hl (HV1.out.below hbel)
      generalize gtD l x = g at hget HH HN
      obtain ⟨g0, g1⟩ := g
      go_wp2_with fail
      refine hget.mono ?_
      rintro e w1 ⟨rfl, hb1⟩
      have d0 := kcell hb1 hbl c0
      have d1 := kcell hb1 hbl c1
      have d2 := kcell hb1 hbl c2
      have hbl1 : b < w1.heap.size := by have := hb1.size; omega
      have hbel1 := bstep hbel hb1
      have e1 : (w1.alloc (.cells #[.int .i64 g0, .int .i64 g1] 24)).cell? ⟨b, off + k * 3 + 1, none⟩ = some (.int .i64 y) := kc (balloc (Below.refl _ _) _) d1
      have e2 : (w1.alloc (.cells #[.int .i64 g0, .int .i64 g1] 24)).cell? ⟨b, off + k * 3 + 2, none⟩ = some (.int .i64 z) := kc (balloc (Below.refl _ _) _) d2
      have g00 : (w1.alloc (.cells #[.int .i64 g0, .int .i64 g1] 24)).cell? ⟨w1.heap.size, 0, none⟩ = some (.int .i64 g0) := by simp
      have g01 : (w1.alloc (.cells #[.int .i64 g0, .int .i64 g1] 24)).cell? ⟨w1.heap.size, 1, none⟩ = some (.int .i64 g1) := by simp
      generalize hq : Sm.less (g0, g1) (y, z) = c at HH HN
      have HQ := Lib.hid hq
      clear hq hget c0 c1 c2 d0 d1 d2 hb1
      go_wp2_with fail
      go_region_held3 (fun w' => w'.cell? ⟨w1.heap.size, 0, none⟩ = some (.int .i64 g0) ∧ w'.cell? ⟨w1.heap.size, 1, none⟩ = some (.int .i64 g1) ∧ w'.cell? ⟨b, off + k * 3 + 1, none⟩ = some (.int .i64 y) ∧ w'.cell? ⟨b, off + k * 3 + 2, none⟩ = some (.int .i64 z))
        (first | exact ⟨g00, g01, e1, e2⟩ | exact gg1)
        (first
          | (go_at_call 39; ((refine (refLess_b g0 g1 y z c _ HQ.out).mono ?_); rintro e wa ⟨rfl, ha⟩; have gg1 := keep22 ha ⟨g00, g01, e1, e2⟩)))
      have hb2 := bstep hbel1 (bstep (balloc (Below.refl _ w1) _).drew ha)
      cases c with
      | true =>
        go_wp2
        go_ret
        exact ⟨ret_bool (HH.out (by first | rfl | trivial)).symm, hb2⟩
      | false =>
        go_wp2
        go_roundw
        case rel => exact ⟨k + 1, by omega, by go_num, HN.out (by first | rfl | trivial), hb2⟩
        case measure => simp [intOf]; omega
    · obtain rfl : k = m.length := by omega
      go_wp2
      go_ret
      exact ⟨ret_bool (cvD_none (fun j hj => HA.out j hj hj)).symm, hbel⟩
end Go.Proofs.Ytplpeokmhomojaa
/- slices.Backward over dependencies. -/
namespace Go.Proofs.Ytplpeokmhomojaa
open Go.RowKit Go.Shelf
set_option linter.unusedVariables false
set_option linter.unusedSimpArgs false
attribute [local go_sem] Oper.semAt_some

/-- What is handed to a round: the place, the dependency; its key is no longer than a text can be. -/
abbrev BackA := { x : Int × De // x.2.1.size ≤ maxLen }
def bkA (l : List De) (hz : Szd l) (j : Nat) (h : j < l.length) : BackA := ⟨((j : Int), l[j]), by have := hz l[j] (List.getElem_mem h); unfold maxLen; omega⟩
/-- The last k, from behind. -/
def bkL (l : List De) (hz : Szd l) : Nat → List BackA
  | 0 => []
  | k + 1 => if h : k < l.length then bkL l hz k ++ [bkA l hz (l.length - 1 - k) (by omega)] else bkL l hz k
theorem bkL_succ (l : List De) (hz : Szd l) (k : Nat) (h : k < l.length) : bkL l hz (k + 1) = bkL l hz k ++ [bkA l hz (l.length - 1 - k) (by omega)] := by rw [bkL, dif_pos h]
theorem bkL_len (l : List De) (hz : Szd l) (k : Nat) (h : k ≤ l.length) : (bkL l hz k).length = k := by
  induction k with
  | zero => rfl
  | succ k ih => rw [bkL_succ l hz k (by omega), List.length_append, ih (by omega)]; rfl

/-- Below n0 all but block mb lies as it lay. -/
def KB (mb n0 : Nat) (A B : World) : Prop := ∀ k, k < n0 → k ≠ mb → B.heap[k]? = A.heap[k]?
theorem KB.refl (mb n0 : Nat) (A : World) : KB mb n0 A A := fun _ _ _ => rfl
theorem KB.trans {mb n0 : Nat} {A B C : World} (h : KB mb n0 A B) (k : KB mb n0 B C) : KB mb n0 A C := fun i h1 h2 => (k i h1 h2).trans (h i h1 h2)
theorem KB.cell {mb n0 : Nat} {A B : World} (h : KB mb n0 A B) {b o : Nat} (h1 : b < n0) (h2 : b ≠ mb) : B.cell? ⟨b, o, none⟩ = A.cell? ⟨b, o, none⟩ := World.cell?_of_block (h b h1 h2)

set_option maxRecDepth 100000 in
set_option maxHeartbeats 2000000 in
theorem back1_in (F : Fence) (n : Nat) (h8 : F.fn 81) (hro : F.round = none) (hn : 1 ≤ n) (lp Bs n0 mb cap : Nat) (a : Option Addr) (l : List De) (hz : Szd l) (hl : l.length ≤ 1000000) (J Jx : List BackA → World → Prop)
    (hY : ∀ pre x W, J pre W → pre.length < l.length → YieldAt F (n - 1) Try.prog lp #[.int .i64 x.1.1, .agg #[.string x.1.2.1, .int .i64 x.1.2.2.1, .int .i64 x.1.2.2.2]] W fun e W' =>
      (e = .returned (.bool true) ∧ J (pre ++ [x]) W' ∧ KB mb n0 W W') ∨ (e = .returned (.bool false) ∧ Jx (pre ++ [x]) W'))
    (W : World) (hBn : Bs < n0) (hBm : Bs ≠ mb) (hBs : W.cell? ⟨Bs, 0, none⟩ = some (.slice a l.length cap)) (hlow : ∀ b off, a = some ⟨b, off, none⟩ → 0 < l.length → b < n0 ∧ b ≠ mb) (hr : DepIn W a l) (h0 : J [] W) :
    CallsIn F n Try.prog 81 #[.func (.yield lp) #[] #[], .pointer (some ⟨Bs, 0, none⟩)] W fun e W' => (∃ v, e = .returned v) ∧
      ((∃ ys, ys = bkL l hz l.length ∧ J ys W') ∨ (∃ pre, True ∧ Jx pre W')) := by
  have HR := Lib.hid hr
  clear hr
  refine callsIn_of_wp Try.func81 rfl h8 ?_ hro
  simp only [Try.ntmps81, List.size_toArray, List.length_cons, List.length_nil, Nat.reduceAdd, Nat.reduceSub, Array.replicate_succ, Array.replicate_zero, List.push_toArray, List.append_toArray, List.nil_append, List.cons_append]
  have hw0 : IntKind.i64.wrap ((l.length : Int) - 1) = (l.length : Int) - 1 := IntWalk.i64_in _ (by omega)
  gi_wp2
  gi_loopw [3] (fun i wr => ∃ k : Nat, k ≤ l.length ∧ i = .int .i64 ((l.length : Int) - 1 - k) ∧ J (bkL l hz k) wr ∧ KB mb n0 W wr) (fun i _ => (intOf i + 1).toNat)
  case atStart => exact ⟨0, Nat.zero_le _, by simp, h0, KB.refl _ _ _⟩
  case round =>
    obtain ⟨k, hk, rfl, hJs, hnx⟩ := hrel
    have hBs' := (hnx.cell (o := 0) hBn hBm).trans hBs
    by_cases hlt : k < l.length
    · obtain ⟨q, hq⟩ : ∃ q, q = l.length - 1 - k := ⟨_, rfl⟩
      have hqi : (l.length : Int) - 1 - (k : Int) = (q : Int) := by omega
      have hql : q < l.length := by omega
      have HQ := Lib.hid hq
      clear hq
      obtain ⟨b, off, rfl, hbl, c0, c1, c2⟩ := HR.out q hql
      obtain ⟨hbn, hbm⟩ := hlow b off rfl (by omega)
      replace c0 := (hnx.cell hbn hbm).trans c0
      replace c1 := (hnx.cell hbn hbm).trans c1
      replace c2 := (hnx.cell hbn hbm).trans c2
      have HS : Hid (bkL l hz (k + 1) = bkL l hz k ++ [bkA l hz q hql]) := Lib.hid (by rw [bkL_succ l hz k hlt]; congr 2; simp [HQ.out])
      have hx : (bkA l hz q hql).1 = ((q : Int), l[q]) := rfl
      obtain ⟨fn, tmps, assign, body, hy, hR⟩ := hY _ (bkA l hz q hql) wr hJs (by rw [bkL_len l hz k hk]; exact hlt)
      rw [hx] at hy
      generalize bkA l hz q hql = xx at HS hR
      generalize l[q] = d at c0 c1 c2 hy
      obtain ⟨x, y, z⟩ := d
      dsimp only at hy c0 c1 c2
      rw [hqi]
      have hq1 : (0 : Int) ≤ (q : Int) := by omega
      have hq2 : (q : Int) < (l.length : Int) := by omega
      have hq3 : IntKind.i64.wrap ((q : Int) - 1) = (q : Int) - 1 := IntWalk.i64_in _ (by omega)
      have HQI := Lib.hid hqi
      clear hqi hx
      gi_wp2
      refine hR.mono ?_
      rintro e W3 (⟨rfl, hJ3, hk3⟩ | ⟨rfl, hJx3⟩)
      · gi_wp2
        go_roundw
        case rel => exact ⟨k + 1, by omega, by have := HQI.out; simp; omega, by rw [HS.out]; exact hJ3, hnx.trans hk3⟩
        case measure => simp [intOf]
      · gi_wp2
        refine bodyPost_ret (results_none rfl _ _ _) rfl ?_
        exact ⟨⟨_, rfl⟩, .inr ⟨_, trivial, hJx3⟩⟩
    · obtain rfl : k = l.length := by omega
      have hneg : (l.length : Int) - 1 - (l.length : Int) = -1 := by omega
      rw [hneg]
      clear hneg
      gi_wp2
      go_end0
      exact ⟨⟨_, rfl⟩, .inl ⟨_, rfl, hJs⟩⟩

set_option maxHeartbeats 1000000 in
theorem backward_in (F : Fence) (n : Nat) (h5 : F.fn 49) (hro : F.round = none) (a : Option Addr) (len cap : Nat) (w : World) :
    CallsIn F n Try.prog 49 #[.slice a len cap] w fun e w' => e = .returned (.func (.func 81) #[] #[.pointer (some ⟨w.heap.size, 0, none⟩)]) ∧ w' = w.alloc (.cells #[.slice a len cap] 22) := by
  refine callsIn_of_wp Try.func49 rfl h5 ?_ hro
  simp only [Try.ntmps49, List.size_toArray, List.length_cons, List.length_nil, Nat.reduceAdd, Nat.reduceSub, Array.replicate_succ, Array.replicate_zero, List.push_toArray, List.append_toArray, List.nil_append, List.cons_append]
  gi_wp2
  go_ret
  exact ⟨rfl, rfl⟩

theorem back_stops (F : Fence) (n : Nat) (h8 : F.fn 81) (hro : F.round = none) (hn : 1 ≤ n) (Bs n0 mb cap : Nat) (a : Option Addr) (l : List De) (hz : Szd l) (hl : l.length ≤ 1000000) (w : World) (hB0 : Bs < w.heap.size) (hBn : Bs < n0) (hBm : Bs ≠ mb) (hc : w.cell? ⟨Bs, 0, none⟩ = some (.slice a l.length cap)) (hlow : ∀ b off, a = some ⟨b, off, none⟩ → 0 < l.length → b < n0 ∧ b ≠ mb) (hr : DepIn w a l) :
    SeqStopsK F n Try.prog 81 #[.pointer (some ⟨Bs, 0, none⟩)] (fun x : BackA => #[.int .i64 x.1.1, .agg #[.string x.1.2.1, .int .i64 x.1.2.2.1, .int .i64 x.1.2.2.2]]) (KB mb n0) (fun ys => ys = bkL l hz l.length) (fun _ => True) l.length w := fun lp J Jx W hW _ _ hY h0 =>
  back1_in F n h8 hro hn lp Bs n0 mb cap a l hz hl J Jx hY W hBn hBm ((hW.cell (p := ⟨Bs, 0, none⟩) hB0).trans hc) hlow (hr.below hW) h0
end Go.Proofs.Ytplpeokmhomojaa
