/- Texts of this proof, one behind the other: ChConc, ShRead. -/
import Derived.Test.YtjfmgplhcinkfaaGO15
import Derived.Deep.RegionHeld3
import Derived.BigQuiet
/- What slices.Clone and slices.Concat answer of versions. -/
namespace Go.Proofs.Ytjfmgplhcinkfaa
open Go.RowKit
set_option linter.unusedVariables false
set_option linter.unusedSimpArgs false

set_option maxRecDepth 100000 in
set_option maxHeartbeats 1600000 in
theorem cloneW_any (v : Value) (l : List Vw) (w : World) (hl : l.length ≤ 100000) (hr : RowAt KW w v l) :
    Calls Try.prog 31 #[v] w fun e w' => ∃ v', e = .returned v' ∧ OwnR KW w' w.heap.size v' l ∧ Below w.heap.size w w' := by
  have hq : ∀ (w : World) (a : Option Addr) (n c n' c' : Nat), (binOp .eql 51 (.slice a n c) (.slice none n' c')).run Try.prog w = .ok (.bool a.isNone) w := fun w a n c n' c' => Lib.run_eql_slice_nil w _ _ a n c n' c' Try.underlying51
  have HV := Lib.hid hr
  obtain ⟨a, cap, rfl, hcap, hmx, hnil, hr⟩ := hr
  cases a with
  | none =>
    have h0 := hnil rfl
    obtain rfl : l = [] := List.length_eq_zero_iff.1 (by omega)
    clear hr hnil
    go_enter Try.func31, Try.ntmps31
    go_wp2
    go_ret
    exact ⟨_, rfl, OwnR.nil _ _ _, Below.refl _ _⟩
  | some a =>
    have ho : OwnR KW (w.alloc (.cells #[] 32)) w.heap.size (.slice (some ⟨w.heap.size, 0, none⟩) 0 0) [] := World.ownsRow_made w #[] 0 (Nat.le_refl _) (Nat.zero_le _) (by simp)
    have HO := Lib.hid ho
    have HA := Lib.hid (HV.out.below (balloc (Below.refl _ _) (.cells #[] 32)))
    clear hr ho hnil
    go_enter Try.func31, Try.ntmps31
    go_wp2_with (at_builtin; refine wp_appR kw_ok rfl _ _ rfl w.heap.size (.slice (some ⟨w.heap.size, 0, none⟩) 0 0) (.slice (some a) l.length cap) [] l rfl HO.out rfl HA.out (by simp; omega) (by simp) ?_; intro v' w1 ho1 hb1 hk1; obtain ⟨sa, sc, rfl⟩ := ho1.shape)
    go_ret
    exact ⟨_, rfl, by simpa using ho1, (balloc (Below.refl _ w) _).trans hb1⟩

/-- A row of slices in memory. -/
def RowsInW (w : World) (a : Option Addr) (vs : List Value) : Prop := ∀ i (h : i < vs.length), ∃ b off, a = some ⟨b, off, none⟩ ∧ b < w.heap.size ∧ w.cell? ⟨b, off + i, none⟩ = some vs[i]
theorem RowsInW.below {w w' : World} {a : Option Addr} {vs : List Value} (h : RowsInW w a vs) (hb : Below w.heap.size w w') : RowsInW w' a vs := by
  intro i hi
  obtain ⟨b, off, rfl, hlt, h0⟩ := h i hi
  exact ⟨b, off, rfl, by have := hb.size; omega, kcell hb hlt h0⟩
/-- They read as these pasts. -/
def RowsAtW (w : World) (a : Option Addr) (ls : List (List Vw)) : Prop := ∃ vs : List Value, vs.length = ls.length ∧ RowsInW w a vs ∧ ∀ i (h : i < vs.length) (h' : i < ls.length), RowAt KW w vs[i] ls[i]
theorem RowsAtW.below {w w' : World} {a : Option Addr} {ls : List (List Vw)} (h : RowsAtW w a ls) (hb : Below w.heap.size w w') : RowsAtW w' a ls := by
  obtain ⟨vs, h1, h2, h3⟩ := h
  exact ⟨vs, h1, h2.below hb, fun i hi hi' => (h3 i hi hi').below hb⟩
theorem RowsAtW.get {w : World} {a : Option Addr} {ls : List (List Vw)} (h : RowsAtW w a ls) (i : Nat) (hi : i < ls.length) : ∃ b off u, a = some ⟨b, off, none⟩ ∧ b < w.heap.size ∧ w.cell? ⟨b, off + i, none⟩ = some u ∧ RowAt KW w u ls[i] := by
  obtain ⟨vs, h1, h2, h3⟩ := h
  obtain ⟨b, off, e, hlt, hc⟩ := h2 i (by omega)
  exact ⟨b, off, vs[i]'(by omega), e, hlt, hc, h3 i (by omega) hi⟩
def totW (ls : List (List Vw)) : Nat := (ls.map List.length).sum
theorem totW_take (ls : List (List Vw)) (k : Nat) (h : k < ls.length) : totW (ls.take (k + 1)) = totW (ls.take k) + ls[k].length := by
  unfold totW
  rw [List.take_succ_eq_append_getElem h, List.map_append, List.sum_append, List.map_singleton, List.sum_singleton]
theorem totW_flat (ls : List (List Vw)) : ls.flatten.length = totW ls := by simp [totW, List.length_flatten]
theorem flatW_take (ls : List (List Vw)) (k : Nat) (h : k < ls.length) : (ls.take (k + 1)).flatten = (ls.take k).flatten ++ ls[k] := by
  rw [List.take_succ_eq_append_getElem h, List.flatten_append]
  simp only [List.flatten_cons, List.flatten_nil, List.append_nil]
theorem totW_mono (ls : List (List Vw)) (k : Nat) : totW (ls.take k) ≤ totW ls := by
  unfold totW
  have h : (ls.map List.length).sum = ((ls.take k).map List.length).sum + ((ls.drop k).map List.length).sum := by
    rw [← List.sum_append, ← List.map_append, List.take_append_drop]
  omega

/-- slices.Grow of nil. -/
theorem growW_any (n : Nat) (w : World) (hn : n ≤ 1000000) :
    Calls Try.prog 66 #[.slice none 0 0, .int .i64 n] w fun e w' => ∃ v', e = .returned v' ∧ OwnR KW w' w.heap.size v' [] ∧ Below w.heap.size w w' := by
  obtain ⟨i0, hi, hz0, hz1, hz2⟩ := info_parts kw_ok.inf
  replace hz1 : i0.size = 6 := hz1
  replace hz2 : i0.bytes = 80 := hz2
  replace hz0 : i0.zero = some (.agg #[.string ⟨#[]⟩, .string ⟨#[]⟩, .bool false, .int .i64 0, .int .i64 0, .slice none 0 0]) := hz0
  by_cases h0 : n = 0
  · subst h0
    have h := Any8.slices_Grow_room Try.growV none 0 0 0 w (by omega) (by omega) (by omega) (by omega)
    exact h.mono fun e w' ⟨he, hw⟩ => ⟨_, he, OwnR.nil _ _ _, by rw [hw]; exact Below.refl _ _⟩
  · have h := Any8.slices_Grow_grow Try.growV i0 _ hi hz0 (by rw [hz1]; omega) none 0 0 n [] w (by omega) (by omega) (by rw [hz2]; omega) (by omega) (by simp) (by simp) (by simp)
    refine h.mono fun e w' ⟨he, hw⟩ => ⟨_, he, ?_, ?_⟩
    · rw [hw]
      have hcap := grownCap_le_maxLen w (0 + n) 0 32 (by unfold maxLen; omega)
      have hge := grownCap_ge w (0 + n) 0 32
      refine ⟨rfl, .inr ⟨_, _, _, rfl, Nat.le_refl _, heap_alloc_new _ _, by simp, hcap, ?_, by simp [rV]⟩⟩
      simp only [Builtin.zeroCells, Value.cells, Array.size_append, Array.size_map, Array.size_range, List.size_toArray, List.length_nil, List.length_cons]
      have e : Go.Shelf.Ren.t Try.growV_ren 25 = 32 := rfl
      rw [e]
      have e6 : KW.sz = 6 := rfl
      rw [e6]
      omega
    · rw [hw]
      exact ((Below.refl _ w).drew).alloc (Nat.le_refl _) _

set_option maxRecDepth 100000 in
set_option maxHeartbeats 1600000 in
theorem concatW_any (a : Option Addr) (cap : Nat) (ls : List (List Vw)) (w : World) (hn : ls.length ≤ 1000) (ht : totW ls ≤ 1000000) (hr : RowsAtW w a ls) :
    Calls Try.prog 48 #[.slice a ls.length cap] w fun e w' => ∃ v', e = .returned v' ∧ OwnR KW w' w.heap.size v' ls.flatten ∧ Below w.heap.size w w' := by
  have HR := Lib.hid hr
  clear hr
  go_enter Try.func48, Try.ntmps48
  go_wp2
  go_loopw [3, 11] (fun s3 i wr => ∃ k : Nat, k ≤ ls.length ∧ i = .int .i64 k ∧ s3 = .int .i64 (totW (ls.take k)) ∧ w = wr) (fun _ i _ => ls.length - (intOf i).toNat)
  case atStart => exact ⟨0, by omega, rfl, rfl, rfl⟩
  case round =>
    obtain ⟨k, hk, rfl, rfl, rfl⟩ := hrel
    by_cases hlt : k < ls.length
    · obtain ⟨b, off, u, rfl, hbl, hc, hd⟩ := HR.out.get k hlt
      have HT := Lib.hid (totW_take ls k hlt)
      have hm1 := totW_mono ls (k + 1)
      rw [HT.out] at hm1
      generalize ls[k] = m at hd HT hm1
      obtain ⟨ma, mc, rfl, _, _, _, _⟩ := hd
      generalize htk : totW (ls.take k) = q at HT hm1
      have HQ := Lib.hid htk
      clear htk
      have hw : IntKind.i64.wrap ((q : Int) + (m.length : Int)) = (q : Int) + (m.length : Int) := IntWalk.i64_in _ (by omega)
      have hw3 : ¬ (q : Int) + (m.length : Int) < 0 := by omega
      go_wp2
      go_roundw
      case rel => exact ⟨k + 1, by omega, by go_num, by rw [HT.out]; simp, (by first | rfl | trivial)⟩
      case measure => simp [intOf]; omega
    · obtain rfl : k = ls.length := by omega
      rw [List.take_length]
      go_wp2_with fail
      refine (growW_any (totW ls) _ ht).mono ?_
      rintro e w1 ⟨v1, rfl, ho1, hb1⟩
      obtain ⟨sa, sc, rfl⟩ := ho1.shape
      have HO1 := Lib.hid ho1
      clear ho1
      go_wp2
      go_loopw [6, 27] (fun o i wr => ∃ k : Nat, k ≤ ls.length ∧ i = .int .i64 k ∧ OwnR KW wr w.heap.size o (ls.take k).flatten ∧ Below w.heap.size w wr) (fun _ i _ => ls.length - (intOf i).toNat)
      case atStart => exact ⟨0, by omega, rfl, HO1.out, hb1⟩
      case round =>
        obtain ⟨k, hk, rfl, ho, hbel⟩ := hrel
        obtain ⟨va, vc, rfl⟩ := ho.shape
        have HO := Lib.hid ho
        clear ho
        by_cases hlt : k < ls.length
        · obtain ⟨b, off, u, rfl, hbl, hc, hd⟩ := (HR.out.below hbel).get k hlt
          have HF := Lib.hid (flatW_take ls k hlt)
          have hm1 := totW_mono ls (k + 1)
          rw [← totW_flat, HF.out, List.length_append] at hm1
          generalize ls[k] = m at hd HF hm1
          obtain ⟨ma, mc, rfl, _, _, _, _⟩ := id hd
          have HD := Lib.hid hd
          have hbs : w.heap.size ≤ wr.heap.size := hbel.size
          clear hd
          go_wp2_with (at_builtin; refine wp_appR kw_ok rfl _ _ rfl w.heap.size (.slice va (ls.take k).flatten.length vc) (.slice ma m.length mc) (ls.take k).flatten m rfl HO.out rfl HD.out (by omega) hbs ?_; intro v' w2 ho2 hb2 hk2; obtain ⟨sa2, sc2, rfl⟩ := ho2.shape)
          go_roundw
          case rel => exact ⟨k + 1, by omega, by go_num, by rw [HF.out]; simpa using ho2, hbel.trans hb2⟩
          case measure => simp [intOf]; omega
        · obtain rfl : k = ls.length := by omega
          go_wp2
          go_ret
          exact ⟨.slice va (List.take ls.length ls).flatten.length vc, rfl, by have h := HO.out; rw [List.take_length] at h ⊢; exact h, hbel⟩
end Go.Proofs.Ytjfmgplhcinkfaa
/- What a shard's New, owns, chain, Head, Chain, Ranges answer. -/
namespace Go.Proofs.Ytjfmgplhcinkfaa
open Go.RowKit
set_option linter.unusedVariables false
set_option linter.unusedSimpArgs false

set_option maxRecDepth 100000 in
set_option maxHeartbeats 800000 in
theorem cloneR_any (v : Value) (l : List (ByteArray × ByteArray)) (w : World) (hl : l.length ≤ 100000) (hr : RowAt KR w v l) :
    Calls Try.prog 28 #[v] w fun e w' => ∃ v', e = .returned v' ∧ OwnR KR w' w.heap.size v' l ∧ Below w.heap.size w w' := by
  have hq : ∀ (w : World) (a : Option Addr) (n c n' c' : Nat), (binOp .eql 26 (.slice a n c) (.slice none n' c')).run Try.prog w = .ok (.bool a.isNone) w := fun w a n c n' c' => Lib.run_eql_slice_nil w _ _ a n c n' c' Try.underlying26
  have HV := Lib.hid hr
  obtain ⟨a, cap, rfl, hcap, hmx, hnil, hr⟩ := hr
  cases a with
  | none =>
    have h0 := hnil rfl
    obtain rfl : l = [] := List.length_eq_zero_iff.1 (by omega)
    clear hr hnil
    go_enter Try.func28, Try.ntmps28
    go_wp2
    go_ret
    exact ⟨_, rfl, OwnR.nil _ _ _, Below.refl _ _⟩
  | some a =>
    have ho : OwnR KR (w.alloc (.cells #[] 69)) w.heap.size (.slice (some ⟨w.heap.size, 0, none⟩) 0 0) [] := World.ownsRow_made w #[] 0 (Nat.le_refl _) (Nat.zero_le _) (by simp)
    have HO := Lib.hid ho
    have HA := Lib.hid (HV.out.below (balloc (Below.refl _ _) (.cells #[] 69)))
    clear hr ho hnil
    go_enter Try.func28, Try.ntmps28
    go_wp2_with (at_builtin; refine wp_appR kr_ok rfl _ _ rfl w.heap.size (.slice (some ⟨w.heap.size, 0, none⟩) 0 0) (.slice (some a) l.length cap) [] l rfl HO.out rfl HA.out (by simp; omega) (by simp) ?_; intro v' w1 ho1 hb1 hk1; obtain ⟨sa, sc, rfl⟩ := ho1.shape)
    go_ret
    exact ⟨_, rfl, by simpa using ho1, (balloc (Below.refl _ w) _).trans hb1⟩

set_option maxRecDepth 100000 in
set_option maxHeartbeats 800000 in
theorem snew_any (v : Value) (R : List (ByteArray × ByteArray)) (w : World) (hl : R.length ≤ 100000) (hr : RowAt KR w v R) :
    Calls Try.prog 10 #[v] w fun e w' => ∃ b S, e = .returned (.pointer (some ⟨b, 0, none⟩)) ∧ SdAt w' S b R [] (fun _ => []) ∧ (∀ j, S j → w.heap.size ≤ j) ∧ Below w.heap.size w w' := by
  have hcl := cloneR_any v R w hl hr
  obtain ⟨a, cap, rfl, _⟩ := id hr
  clear hr
  go_enter Try.func10, Try.ntmps10
  go_wp2_with fail
  refine hcl.mono ?_
  rintro e w1 ⟨v1, rfl, ho, hb⟩
  obtain ⟨a1, c1, rfl⟩ := ho.shape
  go_wp2
  go_ret
  have hbA : Below w1.heap.size w1 (w1.alloc (.cells #[.slice a1 R.length c1, .map none] 57)) := balloc (Below.refl _ w1) _
  refine ⟨w1.heap.size, fun j => j = w1.heap.size ∨ (Value.slice a1 R.length c1).ownBlock = some j, rfl, ⟨none, 0, .slice a1 R.length c1, fun _ => .slice none 0 0, ?_⟩, ?_, bstep hb hbA⟩
  · refine ⟨?_, .inl rfl, (by simp), (by simp), (by simp), (by simp), (ho.below hbA).mono (Nat.zero_le _), ?_, KeyL.nil, (by simp), (by simp), (fun _ => rfl), (fun k hk => absurd rfl hk), (fun k x hx => by simp at hx)⟩
    · rintro j (rfl | hj)
      · simp
      · have := (ho.lt j hj).2
        simp
        omega
    · intro g hg
      have := (ho.lt g hg).2
      exact ⟨.inr hg, by omega, by simp⟩
  · rintro j (rfl | hj)
    · exact hb.size
    · exact (ho.lt j hj).1

section
variable {w : World} {S : Nat → Prop} {b : Nat} {mo : Option Nat} {n : Nat} {rv : Value} {val : ByteArray → Value} {R : List (ByteArray × ByteArray)} {L : List ByteArray} {F : Ch}
theorem SdM.rat (h : SdM w S b mo n rv val R L F) : RowAt KR w rv R := RowAt.of_own kr_ok h.rr

set_option maxRecDepth 100000 in
set_option maxHeartbeats 800000 in
theorem sownsC_any {w : World} {b : Nat} {rv : Value} {R : List (ByteArray × ByteArray)} (h0 : w.cell? ⟨b, 0, none⟩ = some rv) (hat : RowAt KR w rv R) (hR : R.length ≤ 100) (k : ByteArray) :
    Calls Try.prog 32 #[.pointer (some ⟨b, 0, none⟩), .string k] w fun e w' => e = .returned (.bool (ownsK R k)) ∧ Below w.heap.size w w' := by
  obtain ⟨a, c, rfl, _, _, _, hr⟩ := hat
  have hf := find_any a c R k w hR hr.rng
  clear hr
  have HO : Hid (ownsK R k = decide (0 ≤ Km.fidx (tls R) k.data.toList)) := Lib.hid rfl
  generalize ownsK R k = o at HO ⊢
  generalize Km.fidx (tls R) k.data.toList = z at hf HO
  go_enter Try.func32, Try.ntmps32
  go_wp2_with fail
  refine hf.mono ?_
  rintro e w1 ⟨rfl, hb⟩
  go_wp2
  go_ret
  exact ⟨ret_bool HO.out.symm, hb⟩
theorem sowns_any (h : SdM w S b mo n rv val R L F) (hR : R.length ≤ 100) (k : ByteArray) :
    Calls Try.prog 32 #[.pointer (some ⟨b, 0, none⟩), .string k] w fun e w' => e = .returned (.bool (ownsK R k)) ∧ Below w.heap.size w w' := sownsC_any h.c0 h.rat hR k

set_option maxRecDepth 100000 in
set_option maxHeartbeats 800000 in
theorem schainM_any (h : SdM w S b mo n rv val R L F) (k : ByteArray) (hk : k.size ≤ maxLen) :
    Calls Try.prog 35 #[.pointer (some ⟨b, 0, none⟩), .string k] w fun e w' => w = w' ∧ ∃ v, e = .returned v ∧ OwnR KW w 0 v (F k) ∧ Off S b mo v := by
  have hrun := h.look hk
  obtain ⟨ho, hoff⟩ := h.own k
  generalize atK F val k = v at hrun ho hoff
  have h1 := h.c1
  obtain ⟨a, c, rfl⟩ := ho.shape
  have HO := Lib.hid ho
  have HOF := Lib.hid hoff
  clear h ho hoff
  go_enter Try.func35, Try.ntmps35
  go_wp2
  go_ret
  exact ⟨rfl, _, rfl, HO.out, HOF.out⟩
end
section
variable {w : World} {S : Nat → Prop} {b : Nat} {R : List (ByteArray × ByteArray)} {L : List ByteArray} {F : Ch}
theorem schain_any (h : SdAt w S b R L F) (k : ByteArray) (hk : k.size ≤ maxLen) :
    Calls Try.prog 35 #[.pointer (some ⟨b, 0, none⟩), .string k] w fun e w' => w = w' ∧ ∃ v, e = .returned v ∧ WRow w v (F k) := by
  obtain ⟨mo, n, rv, val, h⟩ := h
  exact (schainM_any h k hk).mono fun e w' ⟨h1, v, h2, h3, _⟩ => ⟨h1, v, h2, h.wrow h3⟩

set_option maxRecDepth 100000 in
set_option maxHeartbeats 800000 in
/-- What Head answers of whatever chain the helper gives. -/
theorem sheadC_any (p : Value) (k : ByteArray) (xs : List Vw) (w : World) (hl : xs.length ≤ 1000000) (hp : ∃ a, p = .pointer a)
    (hc : ∀ W, Below w.heap.size w W → Calls Try.prog 35 #[p, .string k] W fun e w' => W = w' ∧ ∃ v, e = .returned v ∧ WRow W v xs) :
    Calls Try.prog 20 #[p, .string k] w fun e w' => e = .returned (.tuple #[wV (xs.getLast?.getD vw0), .bool xs.getLast?.isSome]) ∧ Below w.heap.size w w' := by
  obtain ⟨pa, rfl⟩ := hp
  obtain ⟨W1, hW1⟩ : ∃ W1, w.alloc (.cells #[.string ⟨#[]⟩, .string ⟨#[]⟩, .bool false, .int .i64 0, .int .i64 0, .slice none 0 0] 32) = W1 := ⟨_, rfl⟩
  have hb1 : Below w.heap.size w W1 := by rw [← hW1]; exact balloc (Below.refl _ w) _
  have hV : VwP W1 w.heap.size wz (.slice none 0 0) := by
    rw [← hW1]
    exact VwP.new w wz (.slice none 0 0) 32
  have hc1 := hc W1 hb1
  have hhd := fun W v h => chead_any v xs W hl h
  generalize xs.getLast?.isSome = c at hhd ⊢
  generalize xs.getLast?.getD vw0 = x at hhd ⊢
  have HPUT := Lib.hid (fun (W : World) (h : VwP W w.heap.size wz (.slice none 0 0)) => h.putw x.1 (pw x))
  have HBP := Lib.hid (fun (W : World) (h : Below w.heap.size w W) => below_putw h (Nat.le_refl _) x.1 (pw x))
  have HV := Lib.hid hV
  have HB1 := Lib.hid hb1
  obtain ⟨⟨key, val, gone, ⟨m, t⟩, past⟩, pa', pc⟩ := x
  dsimp only [wV, wcs, wvs, pw, World.putw] at *
  clear hV hb1 hc
  go_enter Try.func20, Try.ntmps20
  go_upto_region 1 with fail
  try rw [hW1]
  clear hW1
  go_wp2_with fail
  refine hc1.mono ?_
  rintro e w3 ⟨rfl, v, rfl, hrow⟩
  obtain ⟨sa, sc, rfl, _, _, _⟩ := hrow.shape
  have hh := hhd _ _ hrow
  clear hhd hrow
  go_wp2_with fail
  refine hh.mono ?_
  rintro e w4 ⟨rfl, hb4⟩
  have HV1 := Lib.hid (HV.out.keep hb4)
  obtain ⟨z0, z1, z2, z3, z4, z5, zf⟩ := HV1.out
  have zf0 := zf 0 (by decide)
  have zf1 := zf 1 (by decide)
  have zf2 := zf 2 (by decide)
  have zf3 := zf 3 (by decide)
  have zf4 := zf 4 (by decide)
  have zf5 := zf 5 (by decide)
  dsimp only [wz] at z0 z1 z2 z3 z4 z5
  have hP := HPUT.out _ HV1.out
  have HBE := Lib.hid (HBP.out _ (bstep HB1.out hb4))
  clear zf HV HV1 HB1 HPUT HBP hb4
  have HP := Lib.hid hP
  clear hP
  go_wp2
  obtain ⟨r0, r1, r2, r3, r4, r5, _⟩ := HP.out
  dsimp only at r0 r1 r2 r3 r4 r5
  refine bodyPost_ret (v := .tuple #[.agg #[.string key, .string val, .bool gone, .int .i64 m, .int .i64 t, .slice pa' past.length pc], .bool c]) (by simp [results, Try.results20, go_sem, r0, r1, r2, r3, r4, r5]) rfl ⟨rfl, HBE.out⟩
theorem shead_any (h : SdAt w S b R L F) (k : ByteArray) (hk : k.size ≤ maxLen) (hl : (F k).length ≤ 1000000) :
    Calls Try.prog 20 #[.pointer (some ⟨b, 0, none⟩), .string k] w fun e w' => e = .returned (.tuple #[wV ((F k).getLast?.getD vw0), .bool (F k).getLast?.isSome]) ∧ Below w.heap.size w w' :=
  sheadC_any _ k (F k) w hl ⟨_, rfl⟩ (fun W hb => schain_any (h.below hb) k hk)

set_option maxRecDepth 100000 in
set_option maxHeartbeats 800000 in
theorem schainC_any (p : Value) (k : ByteArray) (xs : List Vw) (w : World) (hl : xs.length ≤ 100000) (hp : ∃ a, p = .pointer a)
    (hc : Calls Try.prog 35 #[p, .string k] w fun e w' => w = w' ∧ ∃ v, e = .returned v ∧ WRow w v xs) :
    Calls Try.prog 25 #[p, .string k] w fun e w' => ∃ v, e = .returned v ∧ OwnR KW w' w.heap.size v xs ∧ Below w.heap.size w w' := by
  obtain ⟨pa, rfl⟩ := hp
  have hcl := fun v h => cloneW_any v xs w hl h
  go_enter Try.func25, Try.ntmps25
  go_wp2_with fail
  refine hc.mono ?_
  rintro e w3 ⟨rfl, v, rfl, hrow⟩
  obtain ⟨sa, sc, rfl, _, _, _⟩ := hrow.shape
  have hh := hcl _ hrow.1
  clear hcl hrow
  go_wp2_with fail
  refine hh.mono ?_
  rintro e w4 ⟨v4, rfl, ho4, hb4⟩
  obtain ⟨ta, tc, rfl⟩ := ho4.shape
  go_wp2
  go_ret
  exact ⟨_, rfl, ho4, hb4⟩
theorem sChain_any (h : SdAt w S b R L F) (k : ByteArray) (hk : k.size ≤ maxLen) (hl : (F k).length ≤ 100000) :
    Calls Try.prog 25 #[.pointer (some ⟨b, 0, none⟩), .string k] w fun e w' => ∃ v, e = .returned v ∧ OwnR KW w' w.heap.size v (F k) ∧ Below w.heap.size w w' :=
  schainC_any _ k (F k) w hl ⟨_, rfl⟩ (schain_any h k hk)

set_option maxRecDepth 100000 in
set_option maxHeartbeats 800000 in
theorem sranges_any (h : SdAt w S b R L F) (hR : R.length ≤ 100000) :
    Calls Try.prog 22 #[.pointer (some ⟨b, 0, none⟩)] w fun e w' => ∃ v, e = .returned v ∧ OwnR KR w' w.heap.size v R ∧ Below w.heap.size w w' := by
  obtain ⟨mo, n, rv, val, h⟩ := h
  have hcl := cloneR_any rv R w hR h.rat
  have h0 := h.c0
  obtain ⟨a, c, e⟩ := h.rr.shape
  rw [e] at h0 hcl
  clear h
  go_enter Try.func22, Try.ntmps22
  go_wp2_with fail
  refine hcl.mono ?_
  rintro e w4 ⟨v4, rfl, ho4, hb4⟩
  obtain ⟨ta, tc, rfl⟩ := ho4.shape
  go_wp2
  go_ret
  exact ⟨_, rfl, ho4, hb4⟩
end

/-! No shard. -/
set_option maxRecDepth 100000 in
theorem schain_nil (k : ByteArray) (w : World) :
    Calls Try.prog 35 #[.pointer none, .string k] w fun e w' => w = w' ∧ ∃ v, e = .returned v ∧ WRow w v [] := by
  go_enter Try.func35, Try.ntmps35
  go_wp2
  go_ret
  exact ⟨rfl, _, rfl, WRow.nil _⟩
set_option maxRecDepth 100000 in
theorem sranges_nil (w : World) :
    Calls Try.prog 22 #[.pointer none] w fun e w' => e = .returned (.slice none 0 0) ∧ w = w' := by
  go_enter Try.func22, Try.ntmps22
  go_wp2
  go_ret
  exact ⟨rfl, rfl⟩
end Go.Proofs.Ytjfmgplhcinkfaa
