/- QueueFull: the walk. -/
import Derived.Test.YtfmedinhlmiaeaaGQ27
import Derived.Deep.DeepCutAuto
namespace Go.Proofs.Ytfmedinhlmiaeaa
open Go.RowKit
set_option linter.unusedVariables false
set_option linter.unusedSimpArgs false

/-- So many writes to one key. -/
def fL (k : Nat) : List Vw := (List.range k).map fun (i : Nat) => verQ ⟨#[97]⟩ (1 + (i : Int)) [] none 0
theorem fL_len (k : Nat) : (fL k).length = k := by simp [fL]
theorem fL_snoc (k : Nat) : fL (k + 1) = fL k ++ [verQ ⟨#[97]⟩ (1 + (k : Int)) [] none 0] := by
  unfold fL
  rw [List.range_succ, List.map_append]
  rfl
theorem verQ_ok (b : UInt8) (n : Int) (hb : Km.chk [b] = true) (hn : 1 ≤ n ∧ n ≤ 1000) : okW (verQ ⟨#[b]⟩ n [] none 0).1 = true := by
  have h1 : Km.chk (⟨#[b]⟩ : ByteArray).data.toList = true := hb
  have h2 : Sm.ok n 0 = true := by simp [Sm.ok]; omega
  unfold okW verQ
  dsimp only
  rw [h1, h2]
  rfl
theorem verQ_bd (w : World) (b : UInt8) (n : Int) (hn : 1 ≤ n ∧ n ≤ 1000) : VwB w (verQ ⟨#[b]⟩ n [] none 0) :=
  ⟨⟨by show (1 : Nat) ≤ _; omega, by show (0 : Nat) ≤ _; omega, by simp [verQ], by intro d hd; simp [verQ] at hd, DepAt.nil _⟩, by unfold In64 verQ; dsimp only; omega⟩
theorem fL_bd (w : World) (k : Nat) (hk : k ≤ 100) : ∀ x ∈ fL k, VwB w x := by
  intro x hx
  unfold fL at hx
  obtain ⟨i, hi, rfl⟩ := List.mem_map.1 hx
  have := List.mem_range.1 hi
  exact verQ_bd w 97 _ (by omega)
theorem fL_past (k : Nat) : ∀ x ∈ fL k, x.1.past.length ≤ 100000 := by
  intro x hx
  unfold fL at hx
  obtain ⟨i, hi, rfl⟩ := List.mem_map.1 hx
  simp [verQ]
theorem fL_push (k : Nat) (hk : k < 31) : pushE (fL (min k 24)) (verQ ⟨#[97]⟩ (1 + (k : Int)) [] none 0) = (if k < 24 then 0 else 15) ∧ pushL (fL (min k 24)) (verQ ⟨#[97]⟩ (1 + (k : Int)) [] none 0) = (if k < 24 then fL (k + 1) else []) := by
  unfold pushE pushL
  rw [verQ_ok 97 _ (by decide +kernel) (by omega), if_pos rfl, if_pos rfl, fL_len]
  by_cases h : k < 24
  · rw [if_neg (show ¬ 24 ≤ min k 24 by omega), if_neg (show ¬ 24 ≤ min k 24 by omega), if_pos h, if_pos h, Nat.min_eq_left (by omega), fL_snoc]
    exact ⟨rfl, rfl⟩
  · rw [if_pos (show 24 ≤ min k 24 by omega), if_pos (show 24 ≤ min k 24 by omega), if_neg h, if_neg h]
    exact ⟨rfl, rfl⟩
theorem fL_next (k : Nat) : nxI exR [] (fL (k + 1)) = some 0 := by
  have e : fL (k + 1) = verQ ⟨#[97]⟩ 1 [] none 0 :: (List.range k).map fun (i : Nat) => verQ ⟨#[97]⟩ (1 + ((i + 1 : Nat) : Int)) [] none 0 := by
    unfold fL
    rw [List.range_succ_eq_map, List.map_cons, List.map_map]
    rfl
  rw [e]
  unfold nxI
  rw [List.findIdx?_cons, show readyB exR [] (verQ ⟨#[97]⟩ 1 [] none 0) = true from ex_none []]
  rfl
theorem fL_next' (k : Nat) : nxV exR [] (fL (k + 1)) = verQ ⟨#[97]⟩ 1 [] none 0 ∧ (nxL exR [] (fL (k + 1))).length = k ∧ (nxI exR [] (fL (k + 1))).isSome = true := by
  unfold nxV nxL
  rw [fL_next]
  refine ⟨?_, ?_, rfl⟩
  · dsimp only
    unfold fL
    rw [List.range_succ_eq_map]
    rfl
  · dsimp only
    rw [List.length_append, List.length_take, List.length_drop, fL_len]
    omega
theorem rngs0 : rngsOf 0 = exR := rfl
theorem fL_zero : fL (min 0 24) = [] := rfl
theorem push_zero (l : List Vw) : pushE l vw0 = 1 := by
  unfold pushE
  rw [show okW vw0.1 = false from by decide +kernel]
  rfl
theorem push_b (l : List Vw) (h : l.length < 24) : pushE l (verQ ⟨#[98]⟩ 1 [] none 0) = 0 := by
  unfold pushE
  rw [verQ_ok 98 _ (by decide +kernel) (by omega), if_pos rfl, if_neg (by omega)]

set_option maxRecDepth 100000 in
set_option maxHeartbeats 6400000 in
theorem walkQueueFull (w : World) (n : Int) (hnw : (Lit.int .i64 n).wf = true) : Calls Try.prog 7 #[.int .i64 n] w fun e w' => e = .returned (.bool true) ∧ Below w.heap.size w w' := by
  obtain ⟨m, hm, hm31, hm0⟩ : ∃ m : Nat, (n.tmod 31 + 31).tmod 31 = (m : Int) ∧ m < 31 ∧ (-31 < n.tmod 31 ∧ n.tmod 31 < 31) := by
    have h1 := Int.tmod_lt_of_pos n (b := 31) (by omega)
    have h2 := Int.lt_tmod_of_pos n (b := 31) (by omega)
    have h3 := Int.tmod_lt_of_pos (n.tmod 31 + 31) (b := 31) (by omega)
    have h4 := Int.tmod_nonneg (31 : Int) (a := n.tmod 31 + 31) (by omega)
    exact ⟨((n.tmod 31 + 31).tmod 31).toNat, by omega, by omega, by omega⟩
  have hw1 : IntKind.i64.wrap (n.tmod 31) = n.tmod 31 := IntWalk.i64_in _ (by omega)
  have hw2 : IntKind.i64.wrap (n.tmod 31 + 31) = n.tmod 31 + 31 := IntWalk.i64_in _ (by omega)
  have hw3 : IntKind.i64.wrap (m : Int) = (m : Int) := IntWalk.i64_in _ (by omega)
  have hver := fun (k : Int) (W : World) => ver14_any ⟨#[97]⟩ k [] none 0 W
  have hverb := fun (W : World) => ver14_any ⟨#[98]⟩ 1 [] none 0 W
  dsimp only [List.length_nil] at hver hverb
  have HM := Lib.hid hm31
  clear hm0 hm31
  go_enter Try.func7, Try.ntmps7
  go_wp2_with fail
  refine (awake14_any _).mono ?_
  rintro e w1 ⟨rfl, hb1⟩
  have HB1 := Lib.hid hb1
  clear hb1
  go_wp2
  clear hw1 hw2 hw3 hm
  go_loopw [5, 6] (fun o i wr => ∃ k : Nat, k ≤ m ∧ i = .int .i64 k ∧ OwnR KW wr w1.heap.size o (fL (min k 24)) ∧ Below w1.heap.size w1 wr) (fun _ i _ => m - (intOf i).toNat)
  case atStart => exact ⟨0, by omega, rfl, by rw [fL_zero]; exact OwnR.nil _ _ _, Below.refl _ _⟩
  case round =>
    obtain ⟨k, hk, rfl, ho, hbel⟩ := hrel
    have HO := Lib.hid ho
    obtain ⟨sa, sc, rfl⟩ := ho.shape
    have HBEL := Lib.hid hbel
    have hm31 := HM.out
    by_cases hlt : k < m
    · obtain ⟨p1, p2⟩ := fL_push k (by omega)
      have hpu := fun (W : World) (hb : Below wr.heap.size wr W) => push_any (.slice sa (fL (min k 24)).length sc) (fL (min k 24)) (verQ ⟨#[97]⟩ (1 + (k : Int)) [] none 0) W (by rw [fL_len]; omega) (RowAt.of_own kw_ok (OwnR.below HO.out hb)) (verQ_bd W 97 _ (by omega)).1
      rw [p1, p2] at hpu
      dsimp only [verQ, wV, wcs, wvs, pw, List.length_nil] at hpu hver
      have hki : (k : Int) < (m : Int) := by omega
      have hwk : IntKind.i64.wrap (1 + (k : Int)) = 1 + (k : Int) := IntWalk.i64_in _ (by omega)
      clear p1 p2 ho hbel
      by_cases h24 : k < 24
      · rw [if_pos h24, if_pos h24] at hpu
        have h24i : (k : Int) < 24 := by omega
        have HMIN : Hid (min (k + 1) 24 = k + 1) := Lib.hid (by omega)
        go_wp2_with fail
        refine (hver _ _).mono ?_
        rintro e w2 ⟨rfl, hb2⟩
        go_wp2_with fail
        refine (hpu _ hb2).mono ?_
        rintro e w3 ⟨v3, rfl, ho3, hb3⟩
        have HO3 := Lib.hid ho3
        obtain ⟨sa3, sc3, rfl⟩ := ho3.shape
        have HB3 := Lib.hid (bstep HBEL.out (bstep hb2 hb3))
        have hs2 := hb2.size
        have hs0 := HBEL.out.size
        clear ho3 hb3 hb2 hpu
        go_wp2
        go_roundw
        case rel => exact ⟨k + 1, by omega, by go_num, by rw [HMIN.out]; exact OwnR.mono HO3.out (by omega), HB3.out⟩
        case measure => simp [intOf]; omega
      · rw [if_neg h24, if_neg h24] at hpu
        have h24i : ¬ (k : Int) < 24 := by omega
        have HMIN : Hid (min (k + 1) 24 = min k 24) := Lib.hid (by omega)
        go_wp2_with fail
        refine (hver _ _).mono ?_
        rintro e w2 ⟨rfl, hb2⟩
        go_wp2_with fail
        refine (hpu _ hb2).mono ?_
        rintro e w3 ⟨v3, rfl, ho3, hb3⟩
        obtain ⟨sa3, sc3, rfl⟩ := ho3.shape
        have HB3 := Lib.hid (bstep hb2 hb3)
        clear ho3 hb3 hb2 hpu
        go_wp2
        go_roundw
        case rel => exact ⟨k + 1, by omega, by go_num, by rw [HMIN.out]; exact OwnR.below HO.out HB3.out, bstep HBEL.out HB3.out⟩
        case measure => simp [intOf]; omega
    · obtain rfl : k = m := by omega
      have hpz := fun (W : World) (hb : Below wr.heap.size wr W) => push_any (.slice sa (fL (min k 24)).length sc) (fL (min k 24)) vw0 W (by rw [fL_len]; omega) (RowAt.of_own kw_ok (OwnR.below HO.out hb)) ⟨by decide, by decide, by decide, by intro d hd; simp [vw0, wz] at hd, DepAt.nil _⟩
      rw [push_zero] at hpz
      dsimp only [vw0, wz, wV, wcs, wvs, pw, List.length_nil] at hpz
      have HFL := Lib.hid (fL_len (min k 24))
      go_wp2_with fail
      refine (hpz _ (Below.refl _ _)).mono ?_
      rintro e w2 ⟨v2, rfl, ho2, hb2⟩
      obtain ⟨sa2, sc2, rfl⟩ := ho2.shape
      have HO2 := Lib.hid (OwnR.below HO.out hb2)
      have HB2 := Lib.hid (bstep HBEL.out hb2)
      clear ho2 hb2 hpz ho hbel
      go_wp2_with fail
      refine (ranges14_any 0 _).mono ?_
      rintro e w3 ⟨v3, rfl, ho3, hb3⟩
      rw [rngs0] at ho3
      obtain ⟨ra, rc, rfl⟩ := ho3.shape
      have HO3 := Lib.hid (OwnR.below HO2.out hb3)
      have HB3 := Lib.hid (bstep HB2.out hb3)
      have hnx := next_any (.slice sa (fL (min k 24)).length sc) (.slice none 0 0) (fL (min k 24)) [] ra rc exR w3 (by rw [fL_len]; omega) (WRow.of_own HO3.out (fL_bd _ _ (by omega))) (fL_past _) (Ctx.made (by simp) (by intro d hd; simp at hd) (DepAt.nil _) (by simp) ho3)
      clear ho3 hb3
      by_cases h0 : k = 0
      · subst h0
        rw [fL_zero, show nxV exR [] [] = vw0 from rfl, show nxL exR [] [] = [] from rfl, show (nxI exR [] []).isSome = false from rfl] at hnx
        dsimp only [vw0, wz, wV, wcs, wvs, pw, List.length_nil] at hnx
        go_wp2_with fail
        refine hnx.mono ?_
        rintro e w4 ⟨v4, rfl, ho4, hb4⟩
        obtain ⟨sa4, sc4, rfl⟩ := ho4.shape
        have HB4 := Lib.hid (bstep HB3.out hb4)
        clear hb4 ho4 hnx
        go_wp2
        go_ret
        exact ⟨rfl, bstep HB1.out (bstep HB4.out (balloc (Below.refl _ _) _))⟩
      · obtain ⟨q, hq⟩ : ∃ q, min k 24 = q + 1 := ⟨min k 24 - 1, by omega⟩
        obtain ⟨e1, e2, e3⟩ := fL_next' q
        rw [hq, e1, e3, fL_len] at hnx
        generalize nxL exR [] (fL (q + 1)) = nl at hnx e2
        have HNL := Lib.hid e2
        have hq24 : q < 24 := by omega
        rw [hq] at HFL HO3
        have HQ := Lib.hid hq
        have hki : ¬ (k : Int) = 0 := by omega
        have hwq : IntKind.i64.wrap (((q + 1 : Nat) : Int) - 1) = (q : Int) := by rw [IntWalk.i64_in _ (by omega)]; omega
        dsimp only [verQ, wV, wcs, wvs, pw, List.length_nil] at hnx
        rw [hq, fL_len]
        clear hq e2 e1 e3
        go_wp2_with fail
        refine hnx.mono ?_
        rintro e w4 ⟨v4, rfl, ho4, hb4⟩
        obtain ⟨sa4, sc4, hv4⟩ : ∃ a c, v4 = .slice a q c := by
          obtain ⟨a9, c9, e9⟩ := ho4.shape
          exact ⟨a9, c9, by rw [e9, HNL.out]⟩
        subst hv4
        have HO4 := Lib.hid ho4
        have HB4 := Lib.hid (bstep HB3.out hb4)
        clear hb4 ho4 hnx
        go_upto_if 66 with (fail)
        obtain ⟨w5, hw5⟩ : ∃ w5, w4.alloc (.cells #[.string ⟨#[97]⟩, .string ⟨#[]⟩, .bool false, .int .i64 1, .int .i64 0, .slice none 0 0] 27) = w5 := ⟨_, rfl⟩
        have HV5 := Lib.hid (VwP.new w4 (verQ ⟨#[97]⟩ 1 [] none 0).1 (.slice none 0 0) 27)
        have HB45 := Lib.hid (balloc (Below.refl _ w4) (.cells #[.string ⟨#[97]⟩, .string ⟨#[]⟩, .bool false, .int .i64 1, .int .i64 0, .slice none 0 0] 27))
        obtain ⟨PV, hPV⟩ : ∃ PV, PV = w4.heap.size := ⟨_, rfl⟩
        dsimp only [wvs, verQ] at HV5
        rw [hw5] at HV5 HB45
        rw [← hPV] at HV5
        try rw [hw5]
        try rw [← hPV]
        clear hw5 hPV
        have HO5 := Lib.hid (HO4.out.below HB45.out)
        have HB5 := Lib.hid (bstep HB4.out HB45.out)
        have hpb := fun (W : World) (hb : Below w5.heap.size w5 W) => push_any (.slice sa4 q sc4) nl (verQ ⟨#[98]⟩ 1 [] none 0) W (by have := HNL.out; omega) (RowAt.of_own kw_ok (OwnR.below HO5.out hb)) (verQ_bd W 98 _ (by omega)).1
        rw [push_b nl (by have := HNL.out; omega)] at hpb
        generalize pushL nl (verQ ⟨#[98]⟩ 1 [] none 0) = pl at hpb
        dsimp only [verQ, wV, wcs, wvs, pw, List.length_nil] at hpb hverb
        go_wp2_with fail
        refine (hverb _).mono ?_
        rintro e w6 ⟨rfl, hb6⟩
        go_wp2_with fail
        refine (hpb _ hb6).mono ?_
        rintro e w7 ⟨v7, rfl, ho7, hb7⟩
        obtain ⟨sa7, sc7, rfl⟩ := ho7.shape
        have HB57 := Lib.hid (bstep hb6 hb7)
        have HB7 := Lib.hid (bstep HB5.out HB57.out)
        obtain ⟨c0, c1, c2, c3, c4, c5, _⟩ := HV5.out.keep HB57.out
        dsimp only at c3
        clear c0 c1 c2 c4 c5 ho7 hb7 hb6 hpb
        go_wp2
        go_ret
        exact ⟨rfl, bstep HB1.out HB7.out⟩
end Go.Proofs.Ytfmedinhlmiaeaa
