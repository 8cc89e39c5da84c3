/- ChainBelow, walked: what is told at a stamp is not above it, and the latest such. -/
import Derived.Test.YtfkeeehfpbnibaaGC23
import Derived.Deep.RegionHeld3
import Derived.Deep.DeepCutAuto
namespace Go.Proofs.Ytfkeeehfpbnibaa
open Go.RowKit Go.Shelf
set_option linter.unusedVariables false
set_option linter.unusedSimpArgs false

theorem getD_bd {w : World} {c : List Vw} {o : Option Vw} (h : ∀ x ∈ c, VwB w x) (hm : ∀ x, o = some x → x ∈ c) : VwB w (o.getD vw0) := by
  cases o with
  | none => exact ⟨⟨by decide, by decide, by simp [vw0, wz], (fun d hd => by simp [vw0, wz] at hd), DepAt.nil _⟩, by unfold In64; decide⟩
  | some x => exact h x (hm x rfl)

set_option maxRecDepth 100000 in
set_option maxHeartbeats 3200000 in
theorem walkChainBelow (w : World) (a : Option Addr) (l : List (Int × Int)) (cap : Nat) (h1 : l.length ≤ cap) (h2 : cap ≤ maxLen) (h3 : a = none → cap = 0) (h64 : ∀ r ∈ l, In64 r) (hst : StIn w a l) (s0 s1 : Int) (hs64 : In64 (s0, s1)) :
    Calls Try.prog 6 #[.slice a l.length cap, .agg #[.int .i64 s0, .int .i64 s1]] w fun e w' => e = .returned (.bool true) ∧ Below w.heap.size w w' := by
  have hrow : RowAt KT w (.slice a l.length cap) l := ⟨a, cap, rfl, h1, h2, h3, hst.rowT⟩
  have hmade := fun W (h : Below w.heap.size w W) => made_any (.slice a l.length cap) l W (by unfold maxLen at h2; omega) (hrow.below h) h64
  have hchn := madeK_chn l (madeN l)
  have hcl0 := madeK_len l (madeN l)
  have hn16 : madeN l ≤ 16 := by unfold madeN; omega
  generalize madeK l (madeN l) = c at hmade hchn hcl0
  have hc16 : c.length ≤ 16 := by omega
  have HCHN := Lib.hid hchn
  have hb0 : Below w.heap.size w (w.alloc (.cells #[.int .i64 s0, .int .i64 s1] 25)) := balloc (Below.refl _ w) _
  have q0 : (w.alloc (.cells #[.int .i64 s0, .int .i64 s1] 25)).cell? ⟨w.heap.size, 0, none⟩ = some (.int .i64 s0) := by simp
  have q1 : (w.alloc (.cells #[.int .i64 s0, .int .i64 s1] 25)).cell? ⟨w.heap.size, 1, none⟩ = some (.int .i64 s1) := by simp
  clear hrow hchn hcl0 hn16 h1 h2 h3 h64 hst
  go_enter Try.func6, Try.ntmps6
  go_upto_region 1 with fail
  generalize w.alloc (.cells #[.int .i64 s0, .int .i64 s1] 25) = w0 at *
  go_wp2_with fail
  refine (awake12_any _).mono ?_
  rintro e w1 ⟨rfl, hb1⟩
  have hb1' := bstep hb0 hb1
  go_wp2_with fail
  refine (hmade _ hb1').mono ?_
  rintro e w2 ⟨v2, rfl, hr2, hb2⟩
  obtain ⟨ca, cc, rfl, _, _, _⟩ := hr2.shape
  have q0 := kc hb2 (kc hb1 q0)
  have q1 := kc hb2 (kc hb1 q1)
  have hbe := fun W (h : Below w2.heap.size w2 W) s => cbelow_any (.slice ca c.length cc) c s W (by omega) (hr2.below h)
  have hhd := fun W (h : Below w2.heap.size w2 W) => chead_any (.slice ca c.length cc) c W (by omega) (hr2.below h)
  have HR := Lib.hid hr2
  have HB2 := Lib.hid (bstep hb1' hb2)
  clear hr2 hb0 hb1 hb1' hb2 hmade
  have hbe1 := hbe w2 (Below.refl _ _) (s0, s1)
  have HBS : Hid (∀ (i : Nat) (hi : i < c.length), Sm.less (s0, s1) c[i].1.st = false → (lastP (notA (s0, s1)) c).isSome = true ∧ Sm.less ((lastP (notA (s0, s1)) c).getD vw0).1.st c[i].1.st = false) := Lib.hid (fun i hi hf => by
    cases ho : lastP (notA (s0, s1)) c with
    | none => rw [below_none ho i hi] at hf; cases hf
    | some v => exact ⟨rfl, below_some HCHN.out ho i hi hf⟩)
  have HBN : Hid ((lastP (notA (s0, s1)) c).isSome = true → Sm.less (s0, s1) ((lastP (notA (s0, s1)) c).getD vw0).1.st = false) := Lib.hid (fun h => by
    cases ho : lastP (notA (s0, s1)) c with
    | none => rw [ho] at h; cases h
    | some v => exact below_fits ho)
  have HN0 : Hid (c.getLast? = none → (lastP (notA (s0, s1)) c).isSome = false) := Lib.hid (fun h => by
    rw [List.getLast?_eq_none_iff] at h
    subst h
    rfl)
  generalize (lastP (notA (s0, s1)) c).isSome = is at hbe1 HBS HBN HN0
  generalize (lastP (notA (s0, s1)) c).getD vw0 = v at hbe1 HBS HBN
  obtain ⟨⟨key, val, gone, ⟨m, t⟩, past⟩, pa, pc⟩ := v
  dsimp only [wV, wcs, wvs, pw] at hbe1 HBS HBN
  go_wp2_with fail
  refine hbe1.mono ?_
  rintro e w3 ⟨rfl, hb3⟩
  have q0 := kc hb3 q0
  have q1 := kc hb3 q1
  clear hbe1
  go_upto_region 4 with fail
  obtain ⟨w4, hw4⟩ : ∃ w4, w3.alloc (.cells #[.string key, .string val, .bool gone, .int .i64 m, .int .i64 t, .slice pa past.length pc] 28) = w4 := ⟨_, rfl⟩
  have hb4 : Below w3.heap.size w3 w4 := by rw [← hw4]; exact balloc (Below.refl _ w3) _
  have v3 : w4.cell? ⟨w3.heap.size, 3, none⟩ = some (.int .i64 m) := by rw [← hw4]; simp
  have v4 : w4.cell? ⟨w3.heap.size, 4, none⟩ = some (.int .i64 t) := by rw [← hw4]; simp
  try rw [hw4]
  clear hw4
  have q0 := kc hb4 q0
  have q1 := kc hb4 q1
  have HB4 := Lib.hid (bstep hb3 hb4)
  clear hb3 hb4
  go_wp2
  go_loopw [9] (fun i wr => ∃ k : Nat, k ≤ c.length ∧ i = .int .i64 k ∧ Below w4.heap.size w4 wr) (fun i _ => c.length - (intOf i).toNat)
  case atStart => exact ⟨0, by omega, rfl, Below.refl _ _⟩
  case round =>
    obtain ⟨k, hk, rfl, hbel⟩ := hrel
    have p0 := kc hbel q0
    have p1 := kc hbel q1
    have r3 := kc hbel v3
    have r4 := kc hbel v4
    have HB := Lib.hid hbel
    have HW := Lib.hid (bstep HB4.out hbel)
    by_cases hlt : k < c.length
    · obtain ⟨b, off, rfl, hbl, hq, _⟩ := (HR.out.below HW.out).at k hlt
      have d3 := hq.c3
      have d4 := hq.c4
      have HBSk := Lib.hid (HBS.out k hlt)
      have hki : (k : Int) < (c.length : Int) := by omega
      generalize c[k].1.st = st at d3 d4 HBSk
      obtain ⟨y, z⟩ := st
      dsimp only at d3 d4
      have hls := fun W => refLess_any s0 s1 y z W
      have hls2 := fun W => refLess_any m t y z W
      generalize Sm.less (s0, s1) (y, z) = f at hls HBSk
      generalize Sm.less (m, t) (y, z) = g at hls2 HBSk
      have g0 : (wr.drew.cell? ⟨w.heap.size, 0, none⟩ = some (.int .i64 s0) ∧ wr.drew.cell? ⟨w.heap.size, 1, none⟩ = some (.int .i64 s1)) ∧ wr.drew.cell? ⟨b, off + k * 6 + 3, none⟩ = some (.int .i64 y) ∧ wr.drew.cell? ⟨b, off + k * 6 + 4, none⟩ = some (.int .i64 z) := ⟨⟨p0, p1⟩, d3, d4⟩
      clear hq
      go_upto_region 7 with fail
      refine wp_region_held_drew (S := fun w' => (w'.cell? ⟨w.heap.size, 0, none⟩ = some (.int .i64 s0) ∧ w'.cell? ⟨w.heap.size, 1, none⟩ = some (.int .i64 s1)) ∧ w'.cell? ⟨b, off + k * 6 + 3, none⟩ = some (.int .i64 y) ∧ w'.cell? ⟨b, off + k * 6 + 4, none⟩ = some (.int .i64 z)) (by kernel_rfl) (g0) (fun hHeld => ?_)
      refine wpAnyH_take (i := 0) (v := ?va0) rfl (by kernel_rfl) (by kernel_rfl) (by kernel_rfl) (fun _ _ _ h => h) (Or.inl ⟨by rfl, ?ya0⟩) (by assumption) ?ra0
      case ya0 => (intro w hSw; (try dsimp only at hSw); go_simp; try with_reducible rfl)
      try simp only [Act.put, List.setIfInBounds_toArray, List.set_cons_zero, List.set_cons_succ, List.getElem_toArray, List.getElem_cons_zero, List.getElem_cons_succ]
      refine wpAnyH_take (i := 1) (v := ?va1) rfl (by kernel_rfl) (by kernel_rfl) (by kernel_rfl) (fun _ _ _ h => h) (Or.inl ⟨by rfl, ?ya1⟩) (by assumption) ?ra1
      case ya1 => (intro w hSw; (try dsimp only at hSw); go_simp; try with_reducible rfl)
      try simp only [Act.put, List.setIfInBounds_toArray, List.set_cons_zero, List.set_cons_succ, List.getElem_toArray, List.getElem_cons_zero, List.getElem_cons_succ]
      refine wpAnyH_take (i := 2) (v := ?va2) rfl (by kernel_rfl) (by kernel_rfl) (by kernel_rfl) (fun _ _ _ h => h) (Or.inl ⟨by rfl, ?ya2⟩) (by assumption) ?ra2
      case ya2 => (intro w hSw; (try dsimp only at hSw); go_simp; try with_reducible rfl)
      try simp only [Act.put, List.setIfInBounds_toArray, List.set_cons_zero, List.set_cons_succ, List.getElem_toArray, List.getElem_cons_zero, List.getElem_cons_succ]
      refine wpAnyH_take (i := 3) (v := ?va3) rfl (by kernel_rfl) (by kernel_rfl) (by kernel_rfl) (fun _ _ _ h => h) (Or.inl ⟨by rfl, ?ya3⟩) (by assumption) ?ra3
      case ya3 => (intro w hSw; (try dsimp only at hSw); go_simp; try with_reducible rfl)
      try simp only [Act.put, List.setIfInBounds_toArray, List.set_cons_zero, List.set_cons_succ, List.getElem_toArray, List.getElem_cons_zero, List.getElem_cons_succ]
      refine wpAnyH_take (i := 4) (v := ?va4) rfl (by kernel_rfl) (by kernel_rfl) (by kernel_rfl) (fun _ _ _ h => h) (Or.inl ⟨by rfl, ?ya4⟩) (by assumption) ?ra4
      case ya4 => (intro w hSw; (try dsimp only at hSw); go_simp; try with_reducible rfl)
      try simp only [Act.put, List.setIfInBounds_toArray, List.set_cons_zero, List.set_cons_succ, List.getElem_toArray, List.getElem_cons_zero, List.getElem_cons_succ]
      refine wpAnyH_take (i := 5) (v := ?va5) rfl (by kernel_rfl) (by kernel_rfl) (by kernel_rfl) (fun _ _ _ h => h) (Or.inl ⟨by rfl, ?ya5⟩) (by assumption) ?ra5
      case ya5 => (intro w hSw; (try dsimp only at hSw); go_simp; try with_reducible rfl)
      try simp only [Act.put, List.setIfInBounds_toArray, List.set_cons_zero, List.set_cons_succ, List.getElem_toArray, List.getElem_cons_zero, List.getElem_cons_succ]
      refine wpAnyH_ready (rs := [6]) (by kernel_rfl) (by simp) ?_
      refine AllReadyH.cons rfl (fun K hK => ?_) AllReadyH.nil
      go_simp
      go_at_call 13
      refine (hls _).mono ?_
      rintro e w5 ⟨rfl, hb5⟩
      have g1 := And.intro (keepK2 hb5 g0.1) (keepK2 hb5 g0.2)
      go_wp2_with fail
      refine hK.out _ _ (g1) (fun hHeld => ?_)
      clear hK K
      try simp only [Act.put, List.setIfInBounds_toArray, List.set_cons_zero, List.set_cons_succ, List.getElem_toArray, List.getElem_cons_zero, List.getElem_cons_succ]
      refine wpAnyH_take (i := 7) (v := ?va7) rfl (by kernel_rfl) (by kernel_rfl) (by kernel_rfl) (fun _ _ _ h => h) (Or.inl ⟨by rfl, ?ya7⟩) (by assumption) ?ra7
      case ya7 => (intro w hSw; (try dsimp only at hSw); go_simp; try with_reducible rfl)
      try simp only [Act.put, List.setIfInBounds_toArray, List.set_cons_zero, List.set_cons_succ, List.getElem_toArray, List.getElem_cons_zero, List.getElem_cons_succ]
      refine wpAnyH_take (i := 8) (v := ?va8) rfl (by kernel_rfl) (by kernel_rfl) (by kernel_rfl) (fun _ _ _ h => h) (Or.inl ⟨by rfl, ?ya8⟩) (by assumption) ?ra8
      case ya8 => (intro w hSw; (try dsimp only at hSw); go_simp; try with_reducible rfl)
      try simp only [Act.put, List.setIfInBounds_toArray, List.set_cons_zero, List.set_cons_succ, List.getElem_toArray, List.getElem_cons_zero, List.getElem_cons_succ]
      refine wpAnyH_done (by kernel_rfl) ?_ _
      have hb5' : Below wr.heap.size wr w5 := ((Below.refl _ wr).drew).trans hb5
      have HB5 := Lib.hid (bstep HB.out hb5')
      have r3 := kc hb5' r3
      have r4 := kc hb5' r4
      have d3 := kc hb5' d3
      have d4 := kc hb5' d4
      clear g0 g1 hb5 hb5' p0 p1 hls
      have g0 : (w5.drew.cell? ⟨w3.heap.size, 3, none⟩ = some (.int .i64 m) ∧ w5.drew.cell? ⟨w3.heap.size, 4, none⟩ = some (.int .i64 t)) ∧ w5.drew.cell? ⟨b, off + k * 6 + 3, none⟩ = some (.int .i64 y) ∧ w5.drew.cell? ⟨b, off + k * 6 + 4, none⟩ = some (.int .i64 z) := ⟨⟨r3, r4⟩, d3, d4⟩
      go_upto_region 8 with fail
      go_cut [53] (fun s53 wx => s53 = .bool false ∧ Below w5.heap.size w5 wx)
      case first =>
        cases f with
        | true =>
          refine wp_region_held_drew (S := fun w' => True) (by kernel_rfl) (trivial) (fun hHeld => ?_)
          refine wpAnyH_take (i := 0) (v := ?vb0) rfl (by kernel_rfl) (by kernel_rfl) (by kernel_rfl) (fun _ _ _ h => h) (Or.inl ⟨by rfl, ?yb0⟩) (by assumption) ?rb0
          case yb0 => (intro w hSw; (try dsimp only at hSw); go_simp; try with_reducible rfl)
          try simp only [Act.put, List.setIfInBounds_toArray, List.set_cons_zero, List.set_cons_succ, List.getElem_toArray, List.getElem_cons_zero, List.getElem_cons_succ]
          refine wpAnyH_take (i := 1) (v := ?vb1) rfl (by kernel_rfl) (by kernel_rfl) (by kernel_rfl) (fun _ _ _ h => h) (Or.inl ⟨by rfl, ?yb1⟩) (by assumption) ?rb1
          case yb1 => (intro w hSw; (try dsimp only at hSw); go_simp; try with_reducible rfl)
          try simp only [Act.put, List.setIfInBounds_toArray, List.set_cons_zero, List.set_cons_succ, List.getElem_toArray, List.getElem_cons_zero, List.getElem_cons_succ]
          refine wpAnyH_take (i := 2) (v := undef) rfl (by kernel_rfl) (by kernel_rfl) (by kernel_rfl) (fun _ _ _ h => h) (Or.inr ⟨by rfl, rfl⟩) (by assumption) ?_
          try simp only [Act.put, List.setIfInBounds_toArray, List.set_cons_zero, List.set_cons_succ, List.getElem_toArray, List.getElem_cons_zero, List.getElem_cons_succ]
          refine wpAnyH_take (i := 3) (v := undef) rfl (by kernel_rfl) (by kernel_rfl) (by kernel_rfl) (fun _ _ _ h => h) (Or.inr ⟨by rfl, rfl⟩) (by assumption) ?_
          try simp only [Act.put, List.setIfInBounds_toArray, List.set_cons_zero, List.set_cons_succ, List.getElem_toArray, List.getElem_cons_zero, List.getElem_cons_succ]
          refine wpAnyH_take (i := 4) (v := undef) rfl (by kernel_rfl) (by kernel_rfl) (by kernel_rfl) (fun _ _ _ h => h) (Or.inr ⟨by rfl, rfl⟩) (by assumption) ?_
          try simp only [Act.put, List.setIfInBounds_toArray, List.set_cons_zero, List.set_cons_succ, List.getElem_toArray, List.getElem_cons_zero, List.getElem_cons_succ]
          refine wpAnyH_take (i := 5) (v := undef) rfl (by kernel_rfl) (by kernel_rfl) (by kernel_rfl) (fun _ _ _ h => h) (Or.inr ⟨by rfl, rfl⟩) (by assumption) ?_
          try simp only [Act.put, List.setIfInBounds_toArray, List.set_cons_zero, List.set_cons_succ, List.getElem_toArray, List.getElem_cons_zero, List.getElem_cons_succ]
          refine wpAnyH_take (i := 6) (v := undef) rfl (by kernel_rfl) (by kernel_rfl) (by kernel_rfl) (fun _ _ _ h => h) (Or.inr ⟨by rfl, rfl⟩) (by assumption) ?_
          try simp only [Act.put, List.setIfInBounds_toArray, List.set_cons_zero, List.set_cons_succ, List.getElem_toArray, List.getElem_cons_zero, List.getElem_cons_succ]
          refine wpAnyH_take (i := 7) (v := undef) rfl (by kernel_rfl) (by kernel_rfl) (by kernel_rfl) (fun _ _ _ h => h) (Or.inr ⟨by rfl, rfl⟩) (by assumption) ?_
          try simp only [Act.put, List.setIfInBounds_toArray, List.set_cons_zero, List.set_cons_succ, List.getElem_toArray, List.getElem_cons_zero, List.getElem_cons_succ]
          refine wpAnyH_take (i := 8) (v := undef) rfl (by kernel_rfl) (by kernel_rfl) (by kernel_rfl) (fun _ _ _ h => h) (Or.inr ⟨by rfl, rfl⟩) (by assumption) ?_
          try simp only [Act.put, List.setIfInBounds_toArray, List.set_cons_zero, List.set_cons_succ, List.getElem_toArray, List.getElem_cons_zero, List.getElem_cons_succ]
          refine wpAnyH_take (i := 9) (v := undef) rfl (by kernel_rfl) (by kernel_rfl) (by kernel_rfl) (fun _ _ _ h => h) (Or.inr ⟨by rfl, rfl⟩) (by assumption) ?_
          try simp only [Act.put, List.setIfInBounds_toArray, List.set_cons_zero, List.set_cons_succ, List.getElem_toArray, List.getElem_cons_zero, List.getElem_cons_succ]
          refine wpAnyH_take (i := 10) (v := undef) rfl (by kernel_rfl) (by kernel_rfl) (by kernel_rfl) (fun _ _ _ h => h) (Or.inr ⟨by rfl, rfl⟩) (by assumption) ?_
          try simp only [Act.put, List.setIfInBounds_toArray, List.set_cons_zero, List.set_cons_succ, List.getElem_toArray, List.getElem_cons_zero, List.getElem_cons_succ]
          refine wpAnyH_take (i := 11) (v := undef) rfl (by kernel_rfl) (by kernel_rfl) (by kernel_rfl) (fun _ _ _ h => h) (Or.inr ⟨by rfl, rfl⟩) (by assumption) ?_
          try simp only [Act.put, List.setIfInBounds_toArray, List.set_cons_zero, List.set_cons_succ, List.getElem_toArray, List.getElem_cons_zero, List.getElem_cons_succ]
          refine wpAnyH_take (i := 12) (v := undef) rfl (by kernel_rfl) (by kernel_rfl) (by kernel_rfl) (fun _ _ _ h => h) (Or.inr ⟨by rfl, rfl⟩) (by assumption) ?_
          try simp only [Act.put, List.setIfInBounds_toArray, List.set_cons_zero, List.set_cons_succ, List.getElem_toArray, List.getElem_cons_zero, List.getElem_cons_succ]
          refine wpAnyH_take (i := 13) (v := undef) rfl (by kernel_rfl) (by kernel_rfl) (by kernel_rfl) (fun _ _ _ h => h) (Or.inr ⟨by rfl, rfl⟩) (by assumption) ?_
          try simp only [Act.put, List.setIfInBounds_toArray, List.set_cons_zero, List.set_cons_succ, List.getElem_toArray, List.getElem_cons_zero, List.getElem_cons_succ]
          refine wpAnyH_take (i := 14) (v := ?vb14) rfl (by kernel_rfl) (by kernel_rfl) (by kernel_rfl) (fun _ _ _ h => h) (Or.inl ⟨by rfl, ?yb14⟩) (by assumption) ?rb14
          case yb14 => (intro w hSw; (try dsimp only at hSw); go_simp; try with_reducible rfl)
          try simp only [Act.put, List.setIfInBounds_toArray, List.set_cons_zero, List.set_cons_succ, List.getElem_toArray, List.getElem_cons_zero, List.getElem_cons_succ]
          refine wpAnyH_done (by kernel_rfl) ?_ _
          go_wp2
          go_meet
          exact ⟨rfl, (Below.refl _ w5).drew⟩
        | false =>
          obtain ⟨h5, h6⟩ := HBSk.out rfl
          subst h5 h6
          refine wp_region_held_drew (S := fun w' => (w'.cell? ⟨w3.heap.size, 3, none⟩ = some (.int .i64 m) ∧ w'.cell? ⟨w3.heap.size, 4, none⟩ = some (.int .i64 t)) ∧ w'.cell? ⟨b, off + k * 6 + 3, none⟩ = some (.int .i64 y) ∧ w'.cell? ⟨b, off + k * 6 + 4, none⟩ = some (.int .i64 z)) (by kernel_rfl) (g0) (fun hHeld => ?_)
          refine wpAnyH_take (i := 0) (v := ?vc0) rfl (by kernel_rfl) (by kernel_rfl) (by kernel_rfl) (fun _ _ _ h => h) (Or.inl ⟨by rfl, ?yc0⟩) (by assumption) ?rc0
          case yc0 => (intro w hSw; (try dsimp only at hSw); go_simp; try with_reducible rfl)
          try simp only [Act.put, List.setIfInBounds_toArray, List.set_cons_zero, List.set_cons_succ, List.getElem_toArray, List.getElem_cons_zero, List.getElem_cons_succ]
          refine wpAnyH_take (i := 1) (v := ?vc1) rfl (by kernel_rfl) (by kernel_rfl) (by kernel_rfl) (fun _ _ _ h => h) (Or.inl ⟨by rfl, ?yc1⟩) (by assumption) ?rc1
          case yc1 => (intro w hSw; (try dsimp only at hSw); go_simp; try with_reducible rfl)
          try simp only [Act.put, List.setIfInBounds_toArray, List.set_cons_zero, List.set_cons_succ, List.getElem_toArray, List.getElem_cons_zero, List.getElem_cons_succ]
          refine wpAnyH_take (i := 2) (v := ?vc2) rfl (by kernel_rfl) (by kernel_rfl) (by kernel_rfl) (fun _ _ _ h => h) (Or.inl ⟨by rfl, ?yc2⟩) (by assumption) ?rc2
          case yc2 => (intro w hSw; (try dsimp only at hSw); go_simp; try with_reducible rfl)
          try simp only [Act.put, List.setIfInBounds_toArray, List.set_cons_zero, List.set_cons_succ, List.getElem_toArray, List.getElem_cons_zero, List.getElem_cons_succ]
          refine wpAnyH_take (i := 3) (v := ?vc3) rfl (by kernel_rfl) (by kernel_rfl) (by kernel_rfl) (fun _ _ _ h => h) (Or.inl ⟨by rfl, ?yc3⟩) (by assumption) ?rc3
          case yc3 => (intro w hSw; (try dsimp only at hSw); go_simp; try with_reducible rfl)
          try simp only [Act.put, List.setIfInBounds_toArray, List.set_cons_zero, List.set_cons_succ, List.getElem_toArray, List.getElem_cons_zero, List.getElem_cons_succ]
          refine wpAnyH_take (i := 4) (v := ?vc4) rfl (by kernel_rfl) (by kernel_rfl) (by kernel_rfl) (fun _ _ _ h => h) (Or.inl ⟨by rfl, ?yc4⟩) (by assumption) ?rc4
          case yc4 => (intro w hSw; (try dsimp only at hSw); go_simp; try with_reducible rfl)
          try simp only [Act.put, List.setIfInBounds_toArray, List.set_cons_zero, List.set_cons_succ, List.getElem_toArray, List.getElem_cons_zero, List.getElem_cons_succ]
          refine wpAnyH_take (i := 5) (v := ?vc5) rfl (by kernel_rfl) (by kernel_rfl) (by kernel_rfl) (fun _ _ _ h => h) (Or.inl ⟨by rfl, ?yc5⟩) (by assumption) ?rc5
          case yc5 => (intro w hSw; (try dsimp only at hSw); go_simp; try with_reducible rfl)
          try simp only [Act.put, List.setIfInBounds_toArray, List.set_cons_zero, List.set_cons_succ, List.getElem_toArray, List.getElem_cons_zero, List.getElem_cons_succ]
          refine wpAnyH_take (i := 6) (v := ?vc6) rfl (by kernel_rfl) (by kernel_rfl) (by kernel_rfl) (fun _ _ _ h => h) (Or.inl ⟨by rfl, ?yc6⟩) (by assumption) ?rc6
          case yc6 => (intro w hSw; (try dsimp only at hSw); go_simp; try with_reducible rfl)
          try simp only [Act.put, List.setIfInBounds_toArray, List.set_cons_zero, List.set_cons_succ, List.getElem_toArray, List.getElem_cons_zero, List.getElem_cons_succ]
          refine wpAnyH_take (i := 7) (v := ?vc7) rfl (by kernel_rfl) (by kernel_rfl) (by kernel_rfl) (fun _ _ _ h => h) (Or.inl ⟨by rfl, ?yc7⟩) (by assumption) ?rc7
          case yc7 => (intro w hSw; (try dsimp only at hSw); go_simp; try with_reducible rfl)
          try simp only [Act.put, List.setIfInBounds_toArray, List.set_cons_zero, List.set_cons_succ, List.getElem_toArray, List.getElem_cons_zero, List.getElem_cons_succ]
          refine wpAnyH_take (i := 8) (v := ?vc8) rfl (by kernel_rfl) (by kernel_rfl) (by kernel_rfl) (fun _ _ _ h => h) (Or.inl ⟨by rfl, ?yc8⟩) (by assumption) ?rc8
          case yc8 => (intro w hSw; (try dsimp only at hSw); go_simp; try with_reducible rfl)
          try simp only [Act.put, List.setIfInBounds_toArray, List.set_cons_zero, List.set_cons_succ, List.getElem_toArray, List.getElem_cons_zero, List.getElem_cons_succ]
          refine wpAnyH_take (i := 9) (v := ?vc9) rfl (by kernel_rfl) (by kernel_rfl) (by kernel_rfl) (fun _ _ _ h => h) (Or.inl ⟨by rfl, ?yc9⟩) (by assumption) ?rc9
          case yc9 => (intro w hSw; (try dsimp only at hSw); go_simp; try with_reducible rfl)
          try simp only [Act.put, List.setIfInBounds_toArray, List.set_cons_zero, List.set_cons_succ, List.getElem_toArray, List.getElem_cons_zero, List.getElem_cons_succ]
          refine wpAnyH_take (i := 10) (v := ?vc10) rfl (by kernel_rfl) (by kernel_rfl) (by kernel_rfl) (fun _ _ _ h => h) (Or.inl ⟨by rfl, ?yc10⟩) (by assumption) ?rc10
          case yc10 => (intro w hSw; (try dsimp only at hSw); go_simp; try with_reducible rfl)
          try simp only [Act.put, List.setIfInBounds_toArray, List.set_cons_zero, List.set_cons_succ, List.getElem_toArray, List.getElem_cons_zero, List.getElem_cons_succ]
          refine wpAnyH_take (i := 11) (v := ?vc11) rfl (by kernel_rfl) (by kernel_rfl) (by kernel_rfl) (fun _ _ _ h => h) (Or.inl ⟨by rfl, ?yc11⟩) (by assumption) ?rc11
          case yc11 => (intro w hSw; (try dsimp only at hSw); go_simp; try with_reducible rfl)
          try simp only [Act.put, List.setIfInBounds_toArray, List.set_cons_zero, List.set_cons_succ, List.getElem_toArray, List.getElem_cons_zero, List.getElem_cons_succ]
          refine wpAnyH_ready (rs := [12]) (by kernel_rfl) (by simp) ?_
          refine AllReadyH.cons rfl (fun K hK => ?_) AllReadyH.nil
          go_simp
          go_at_call 13
          refine (hls2 _).mono ?_
          rintro e w6 ⟨rfl, hb6⟩
          have g1 := And.intro (keepK2 hb6 g0.1) (keepK2 hb6 g0.2)
          go_wp2_with fail
          refine hK.out _ _ (g1) (fun hHeld => ?_)
          clear hK K
          try simp only [Act.put, List.setIfInBounds_toArray, List.set_cons_zero, List.set_cons_succ, List.getElem_toArray, List.getElem_cons_zero, List.getElem_cons_succ]
          refine wpAnyH_take (i := 13) (v := ?vc13) rfl (by kernel_rfl) (by kernel_rfl) (by kernel_rfl) (fun _ _ _ h => h) (Or.inl ⟨by rfl, ?yc13⟩) (by assumption) ?rc13
          case yc13 => (intro w hSw; (try dsimp only at hSw); go_simp; try with_reducible rfl)
          try simp only [Act.put, List.setIfInBounds_toArray, List.set_cons_zero, List.set_cons_succ, List.getElem_toArray, List.getElem_cons_zero, List.getElem_cons_succ]
          refine wpAnyH_take (i := 14) (v := ?vc14) rfl (by kernel_rfl) (by kernel_rfl) (by kernel_rfl) (fun _ _ _ h => h) (Or.inl ⟨by rfl, ?yc14⟩) (by assumption) ?rc14
          case yc14 => (intro w hSw; (try dsimp only at hSw); go_simp; try with_reducible rfl)
          try simp only [Act.put, List.setIfInBounds_toArray, List.set_cons_zero, List.set_cons_succ, List.getElem_toArray, List.getElem_cons_zero, List.getElem_cons_succ]
          refine wpAnyH_done (by kernel_rfl) ?_ _
          go_wp2
          go_meet
          exact ⟨rfl, ((Below.refl _ w5).drew).trans hb6⟩
      case rest =>
        obtain ⟨rfl, hbx⟩ := hcut
        clear g0 r3 r4 d3 d4
        go_wp2
        go_roundw
        case rel => exact ⟨k + 1, by omega, by go_num, bstep HB5.out hbx⟩
        case measure => simp [intOf]; omega
    · obtain rfl : k = c.length := by omega
      have hls := fun W => refLess_any s0 s1 m t W
      have HHE : Hid (∀ y, c.getLast? = some y → lastP (notA y.1.st) c = some y) := Lib.hid (fun y h => below_head h)
      go_upto_region 10 with fail
      go_cut [60] (fun s60 wx => s60 = .bool false ∧ Below wr.heap.size wr wx)
      case first =>
        cases is with
        | false =>
          go_wp2
          go_meet
          exact ⟨rfl, Below.refl _ _⟩
        | true =>
          rw [HBN.out rfl] at hls
          go_wp2_with fail
          refine (hls _).mono ?_
          rintro e w5 ⟨rfl, hb5⟩
          go_wp2
          go_meet
          exact ⟨rfl, hb5⟩
      case rest =>
        obtain ⟨rfl, hbx⟩ := hcut
        obtain ⟨w5, hw5⟩ : ∃ w5, w5 = wc := ⟨_, rfl⟩
        subst hw5
        have HB5 := Lib.hid (bstep HW.out hbx)
        clear hbx p0 p1 r3 r4 q0 q1 v3 v4 HB hbel HW hls
        have hhd5 := hhd _ HB5.out
        have hgl : c.getLast? = none ∨ ∃ y, c.getLast? = some y := by
          cases c.getLast? with
          | none => exact .inl rfl
          | some y => exact .inr ⟨y, rfl⟩
        rcases hgl with hgl | ⟨y, hgl⟩
        · rw [hgl] at hhd5
          have his := HN0.out hgl
          subst his
          dsimp only [Option.getD_none, Option.isSome_none, wV, wcs, wvs, pw, vw0, wz, List.length_nil] at hhd5
          clear hgl
          go_wp2_with fail
          refine hhd5.mono ?_
          rintro e w6 ⟨rfl, hb6⟩
          go_wp2
          go_ret
          exact ⟨rfl, HB2.out.trans ((balloc (bstep HB5.out hb6) _).mono HB2.out.size)⟩
        · rw [hgl] at hhd5
          have hbey := fun W (h : Below w2.heap.size w2 W) => hbe W h y.1.st
          rw [HHE.out y hgl] at hbey
          have hym : y ∈ c := List.mem_of_getLast? hgl
          have hsm := fun W (h : Below w2.heap.size w2 W) => refWSameB_any y.1 y.1 (pw y) (pw y) W (((HR.out.2 y hym).1).below h) (((HR.out.2 y hym).1).below h)
          rw [sameW_self] at hsm
          clear hgl hym
          obtain ⟨⟨key1, val1, gone1, ⟨m1, t1⟩, past1⟩, pa1, pc1⟩ := y
          dsimp only [Option.getD_some, Option.isSome_some, wV, wcs, wvs, pw] at hhd5 hbey hsm
          go_wp2_with fail
          refine hhd5.mono ?_
          rintro e w6 ⟨rfl, hb6⟩
          go_upto_region 15 with fail
          obtain ⟨w7, hw7⟩ : ∃ w7, w6.alloc (.cells #[.string key1, .string val1, .bool gone1, .int .i64 m1, .int .i64 t1, .slice pa1 past1.length pc1] 28) = w7 := ⟨_, rfl⟩
          have hb7 : Below w6.heap.size w6 w7 := by rw [← hw7]; exact balloc (Below.refl _ w6) _
          have hv7 : VwP w7 w6.heap.size ⟨key1, val1, gone1, (m1, t1), past1⟩ (.slice pa1 past1.length pc1) := by rw [← hw7]; exact VwP.new w6 ⟨key1, val1, gone1, (m1, t1), past1⟩ (.slice pa1 past1.length pc1) 28
          try rw [hw7]
          clear hw7
          have HB7 := Lib.hid (bstep HB5.out (bstep hb6 hb7))
          have HV7 := Lib.hid hv7
          obtain ⟨x0, x1, x2, x3, x4, x5, _⟩ := id hv7
          dsimp only at x0 x1 x2 x3 x4 x5
          clear hv7 hb6 hb7 hhd5
          go_wp2_with fail
          refine (hbey _ HB7.out).mono ?_
          rintro e w8 ⟨rfl, hb8⟩
          go_upto_region 16 with fail
          obtain ⟨w9, hw9⟩ : ∃ w9, w8.alloc (.cells #[.string key1, .string val1, .bool gone1, .int .i64 m1, .int .i64 t1, .slice pa1 past1.length pc1] 28) = w9 := ⟨_, rfl⟩
          have hb9 : Below w8.heap.size w8 w9 := by rw [← hw9]; exact balloc (Below.refl _ w8) _
          have hv9 : VwP w9 w8.heap.size ⟨key1, val1, gone1, (m1, t1), past1⟩ (.slice pa1 past1.length pc1) := by rw [← hw9]; exact VwP.new w8 ⟨key1, val1, gone1, (m1, t1), past1⟩ (.slice pa1 past1.length pc1) 28
          try rw [hw9]
          clear hw9
          have HB9 := Lib.hid (bstep HB7.out (bstep hb8 hb9))
          have hv7' := HV7.out.keep (bstep hb8 hb9)
          clear x0 x1 x2 x3 x4 x5 hb8 hb9
          obtain ⟨x0, x1, x2, x3, x4, x5, _⟩ := hv7'
          obtain ⟨y0, y1, y2, y3, y4, y5, _⟩ := hv9
          dsimp only at x0 x1 x2 x3 x4 x5 y0 y1 y2 y3 y4 y5
          go_wp2_with fail
          refine (hsm _ HB9.out).mono ?_
          rintro e w10 ⟨rfl, hb10⟩
          go_wp2
          go_ret
          exact ⟨rfl, HB2.out.trans ((bstep HB9.out hb10).mono HB2.out.size)⟩
end Go.Proofs.Ytfkeeehfpbnibaa
