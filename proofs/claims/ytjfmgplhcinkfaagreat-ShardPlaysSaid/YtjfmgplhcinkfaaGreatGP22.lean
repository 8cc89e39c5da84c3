/- What the document's Put answers of a row of versions. -/
import Derived.Test.YtjfmgplhcinkfaaGreatGP21
namespace Go.Proofs.YtjfmgplhcinkfaaGreat
open Go.RowKit Go.Shelf
set_option linter.unusedVariables false
set_option linter.unusedSimpArgs false

theorem insB_mem {x y : Vw} {l : List Vw} (h : y ∈ insB x l) : y = x ∨ y ∈ l := by
  unfold insB at h
  rw [List.mem_append, List.mem_cons] at h
  rcases h with h | h | h
  · exact .inr ((List.takeWhile_sublist _).subset h)
  · exact .inl h
  · exact .inr ((List.dropWhile_sublist _).subset h)
theorem insB_len (x : Vw) (l : List Vw) : (insB x l).length = l.length + 1 := by
  unfold insB
  have := congrArg List.length (List.takeWhile_append_dropWhile (p := fun y => !gtW x y) (l := l))
  rw [List.length_append] at this
  rw [List.length_append, List.length_cons]
  omega
theorem outR_len (x : Vw) (l : List Vw) : (outR x l).length ≤ l.length + 1 := by
  unfold outR
  split
  · rw [insB_len]; omega
  · omega
set_option maxRecDepth 100000 in
set_option maxHeartbeats 4000000 in
theorem rputN_any (v : Value) (xs : List Vw) (x : Vw) (w : World) (hl : xs.length ≤ 100000) (hr : WRow w v xs) (hx : VwB w x) :
    Calls Tryz.prog 43 #[v, wV x] w fun e w' => ∃ v', e = .returned (.tuple #[v', .bool (putOkR xs x)]) ∧ (OwnR KW w' (w.heap.size + 1) v' (putR xs x) ∨ (v' = v ∧ putR xs x = xs)) ∧ WRow w' v' (putR xs x) ∧ Below w.heap.size w w' := by
  have HR := Lib.hid hr
  have HX := Lib.hid hx
  obtain ⟨a, cap, rfl, hcap, hmx, hnil⟩ := hr.shape
  have hb1 : Below w.heap.size w (w.alloc (.cells (wcs x) 36)) := balloc (Below.refl _ w) _
  have hV := VwP.new w x.1 (pw x) 36
  have hck := fun W (h : Below w.heap.size w W) => refWCheckB_any x.1 (pw x) W (hx.1.below h)
  have HPO : Hid (putOkR xs x = (okW x.1 && fitK xs x && !xs.any (isS x.1.st))) := Lib.hid rfl
  have HPC : Hid (putR xs x = if putOkR xs x = true then insB x xs else xs) := Lib.hid rfl
  have HFK : Hid ((xs = [] → fitK xs x = true) ∧ ∀ h : 0 < xs.length, fitK xs x = decide (xs[0].1.key = x.1.key)) := Lib.hid ⟨fun h => by subst h; rfl, fitK_pos x⟩
  generalize putOkR xs x = ok at HPO HPC ⊢
  generalize putR xs x = pc1 at HPC ⊢
  generalize fitK xs x = c2 at HPO HFK
  generalize okW x.1 = c1 at hck HPO
  clear hr hx
  have HVB := Lib.hid (fun W (h : Below w.heap.size w W) => HX.out.below h)
  obtain ⟨⟨key, val, gone, ⟨m, t⟩, past⟩, pa, pc⟩ := x
  dsimp only [wV, wcs, wvs, pw] at *
  have HV := Lib.hid hV
  have HB1 := Lib.hid hb1
  clear hV hb1
  go_enter Tryz.func43, Tryz.ntmps43
  go_upto_region 1 with fail
  obtain ⟨w1, hw1⟩ : ∃ w1, w.alloc (.cells #[.string key, .string val, .bool gone, .int .i64 m, .int .i64 t, .slice pa past.length pc] 36) = w1 := ⟨_, rfl⟩
  try rw [hw1]
  rw [hw1] at HV HB1
  have hlow : w.heap.size + 1 ≤ w1.heap.size := by rw [← hw1]; simp
  clear hw1
  obtain ⟨x0, x1, x2, x3, x4, x5, _⟩ := id HV.out
  dsimp only at x0 x1 x2 x3 x4 x5
  go_wp2_with fail
  refine (hck _ HB1.out).mono ?_
  rintro e w2 ⟨rfl, hb2⟩
  have HV2 := Lib.hid (HV.out.keep hb2)
  have HB2 := Lib.hid (bstep HB1.out hb2)
  have hlow2 : w.heap.size + 1 ≤ w2.heap.size := by have := hb2.size; omega
  clear x0 x1 x2 x3 x4 x5 HV HB1 hb2 hck hlow
  go_upto_region 2 with fail
  obtain ⟨may, hmay⟩ : ∃ may : Bool, may = !(c1 && c2) := ⟨_, rfl⟩
  have HMAY := Lib.hid hmay
  clear hmay
  go_cut [27] (fun s27 wx => s27 = .bool may ∧ Below w2.heap.size w2 wx)
  case first =>
    cases c1 with
    | false =>
      have hm1 : may = true := by rw [HMAY.out]; rfl
      subst hm1
      refine wp_region_held_drew (S := fun w' => True) (by kernel_rfl) (trivial) (fun hHeld => ?_)
      refine wpAnyH_take (i := 0) (v := ?va0) rfl (by kernel_rfl) (by kernel_rfl) (by kernel_rfl) (fun _ _ _ h => h) (Or.inl ⟨by rfl, ?ya0⟩) (by assumption) ?ra0
      case ya0 => (intro w hSw; (try dsimp only at hSw); go_simp; try with_reducible rfl)
      try simp only [Act.put, List.setIfInBounds_toArray, List.set_cons_zero, List.set_cons_succ, List.getElem_toArray, List.getElem_cons_zero, List.getElem_cons_succ]
      refine wpAnyH_take (i := 1) (v := ?va1) rfl (by kernel_rfl) (by kernel_rfl) (by kernel_rfl) (fun _ _ _ h => h) (Or.inl ⟨by rfl, ?ya1⟩) (by assumption) ?ra1
      case ya1 => (intro w hSw; (try dsimp only at hSw); go_simp; try with_reducible rfl)
      try simp only [Act.put, List.setIfInBounds_toArray, List.set_cons_zero, List.set_cons_succ, List.getElem_toArray, List.getElem_cons_zero, List.getElem_cons_succ]
      refine wpAnyH_take (i := 2) (v := ?va2) rfl (by kernel_rfl) (by kernel_rfl) (by kernel_rfl) (fun _ _ _ h => h) (Or.inl ⟨by rfl, ?ya2⟩) (by assumption) ?ra2
      case ya2 => (intro w hSw; (try dsimp only at hSw); go_simp; try with_reducible rfl)
      try simp only [Act.put, List.setIfInBounds_toArray, List.set_cons_zero, List.set_cons_succ, List.getElem_toArray, List.getElem_cons_zero, List.getElem_cons_succ]
      refine wpAnyH_take (i := 3) (v := undef) rfl (by kernel_rfl) (by kernel_rfl) (by kernel_rfl) (fun _ _ _ h => h) (Or.inr ⟨by rfl, rfl⟩) (by assumption) ?_
      try simp only [Act.put, List.setIfInBounds_toArray, List.set_cons_zero, List.set_cons_succ, List.getElem_toArray, List.getElem_cons_zero, List.getElem_cons_succ]
      refine wpAnyH_take (i := 4) (v := undef) rfl (by kernel_rfl) (by kernel_rfl) (by kernel_rfl) (fun _ _ _ h => h) (Or.inr ⟨by rfl, rfl⟩) (by assumption) ?_
      try simp only [Act.put, List.setIfInBounds_toArray, List.set_cons_zero, List.set_cons_succ, List.getElem_toArray, List.getElem_cons_zero, List.getElem_cons_succ]
      refine wpAnyH_take (i := 5) (v := undef) rfl (by kernel_rfl) (by kernel_rfl) (by kernel_rfl) (fun _ _ _ h => h) (Or.inr ⟨by rfl, rfl⟩) (by assumption) ?_
      try simp only [Act.put, List.setIfInBounds_toArray, List.set_cons_zero, List.set_cons_succ, List.getElem_toArray, List.getElem_cons_zero, List.getElem_cons_succ]
      refine wpAnyH_take (i := 6) (v := undef) rfl (by kernel_rfl) (by kernel_rfl) (by kernel_rfl) (fun _ _ _ h => h) (Or.inr ⟨by rfl, rfl⟩) (by assumption) ?_
      try simp only [Act.put, List.setIfInBounds_toArray, List.set_cons_zero, List.set_cons_succ, List.getElem_toArray, List.getElem_cons_zero, List.getElem_cons_succ]
      refine wpAnyH_take (i := 7) (v := undef) rfl (by kernel_rfl) (by kernel_rfl) (by kernel_rfl) (fun _ _ _ h => h) (Or.inr ⟨by rfl, rfl⟩) (by assumption) ?_
      try simp only [Act.put, List.setIfInBounds_toArray, List.set_cons_zero, List.set_cons_succ, List.getElem_toArray, List.getElem_cons_zero, List.getElem_cons_succ]
      refine wpAnyH_take (i := 8) (v := undef) rfl (by kernel_rfl) (by kernel_rfl) (by kernel_rfl) (fun _ _ _ h => h) (Or.inr ⟨by rfl, rfl⟩) (by assumption) ?_
      try simp only [Act.put, List.setIfInBounds_toArray, List.set_cons_zero, List.set_cons_succ, List.getElem_toArray, List.getElem_cons_zero, List.getElem_cons_succ]
      refine wpAnyH_take (i := 9) (v := undef) rfl (by kernel_rfl) (by kernel_rfl) (by kernel_rfl) (fun _ _ _ h => h) (Or.inr ⟨by rfl, rfl⟩) (by assumption) ?_
      try simp only [Act.put, List.setIfInBounds_toArray, List.set_cons_zero, List.set_cons_succ, List.getElem_toArray, List.getElem_cons_zero, List.getElem_cons_succ]
      refine wpAnyH_take (i := 10) (v := undef) rfl (by kernel_rfl) (by kernel_rfl) (by kernel_rfl) (fun _ _ _ h => h) (Or.inr ⟨by rfl, rfl⟩) (by assumption) ?_
      try simp only [Act.put, List.setIfInBounds_toArray, List.set_cons_zero, List.set_cons_succ, List.getElem_toArray, List.getElem_cons_zero, List.getElem_cons_succ]
      refine wpAnyH_take (i := 11) (v := undef) rfl (by kernel_rfl) (by kernel_rfl) (by kernel_rfl) (fun _ _ _ h => h) (Or.inr ⟨by rfl, rfl⟩) (by assumption) ?_
      try simp only [Act.put, List.setIfInBounds_toArray, List.set_cons_zero, List.set_cons_succ, List.getElem_toArray, List.getElem_cons_zero, List.getElem_cons_succ]
      refine wpAnyH_take (i := 12) (v := undef) rfl (by kernel_rfl) (by kernel_rfl) (by kernel_rfl) (fun _ _ _ h => h) (Or.inr ⟨by rfl, rfl⟩) (by assumption) ?_
      try simp only [Act.put, List.setIfInBounds_toArray, List.set_cons_zero, List.set_cons_succ, List.getElem_toArray, List.getElem_cons_zero, List.getElem_cons_succ]
      refine wpAnyH_take (i := 13) (v := undef) rfl (by kernel_rfl) (by kernel_rfl) (by kernel_rfl) (fun _ _ _ h => h) (Or.inr ⟨by rfl, rfl⟩) (by assumption) ?_
      try simp only [Act.put, List.setIfInBounds_toArray, List.set_cons_zero, List.set_cons_succ, List.getElem_toArray, List.getElem_cons_zero, List.getElem_cons_succ]
      refine wpAnyH_take (i := 14) (v := undef) rfl (by kernel_rfl) (by kernel_rfl) (by kernel_rfl) (fun _ _ _ h => h) (Or.inr ⟨by rfl, rfl⟩) (by assumption) ?_
      try simp only [Act.put, List.setIfInBounds_toArray, List.set_cons_zero, List.set_cons_succ, List.getElem_toArray, List.getElem_cons_zero, List.getElem_cons_succ]
      refine wpAnyH_take (i := 15) (v := ?va15) rfl (by kernel_rfl) (by kernel_rfl) (by kernel_rfl) (fun _ _ _ h => h) (Or.inl ⟨by rfl, ?ya15⟩) (by assumption) ?ra15
      case ya15 => (intro w hSw; (try dsimp only at hSw); go_simp; try with_reducible rfl)
      try simp only [Act.put, List.setIfInBounds_toArray, List.set_cons_zero, List.set_cons_succ, List.getElem_toArray, List.getElem_cons_zero, List.getElem_cons_succ]
      refine wpAnyH_done (by kernel_rfl) ?_ _
      go_wp2
      go_meet
      exact ⟨rfl, (Below.refl _ w2).drew⟩
    | true =>
      by_cases hx0 : xs.length = 0
      · obtain rfl : xs = [] := List.length_eq_zero_iff.1 hx0
        have hm1 : may = false := by rw [HMAY.out, HFK.out.1 rfl]; rfl
        subst hm1
        refine wp_region_held_drew (S := fun w' => True) (by kernel_rfl) (trivial) (fun hHeld => ?_)
        refine wpAnyH_take (i := 0) (v := ?vb0) rfl (by kernel_rfl) (by kernel_rfl) (by kernel_rfl) (fun _ _ _ h => h) (Or.inl ⟨by rfl, ?yb0⟩) (by assumption) ?rb0
        case yb0 => (intro w hSw; (try dsimp only at hSw); go_simp; try with_reducible rfl)
        try simp only [Act.put, List.setIfInBounds_toArray, List.set_cons_zero, List.set_cons_succ, List.getElem_toArray, List.getElem_cons_zero, List.getElem_cons_succ]
        refine wpAnyH_take (i := 1) (v := ?vb1) rfl (by kernel_rfl) (by kernel_rfl) (by kernel_rfl) (fun _ _ _ h => h) (Or.inl ⟨by rfl, ?yb1⟩) (by assumption) ?rb1
        case yb1 => (intro w hSw; (try dsimp only at hSw); go_simp; try with_reducible rfl)
        try simp only [Act.put, List.setIfInBounds_toArray, List.set_cons_zero, List.set_cons_succ, List.getElem_toArray, List.getElem_cons_zero, List.getElem_cons_succ]
        refine wpAnyH_take (i := 2) (v := ?vb2) rfl (by kernel_rfl) (by kernel_rfl) (by kernel_rfl) (fun _ _ _ h => h) (Or.inl ⟨by rfl, ?yb2⟩) (by assumption) ?rb2
        case yb2 => (intro w hSw; (try dsimp only at hSw); go_simp; try with_reducible rfl)
        try simp only [Act.put, List.setIfInBounds_toArray, List.set_cons_zero, List.set_cons_succ, List.getElem_toArray, List.getElem_cons_zero, List.getElem_cons_succ]
        refine wpAnyH_take (i := 3) (v := ?vb3) rfl (by kernel_rfl) (by kernel_rfl) (by kernel_rfl) (fun _ _ _ h => h) (Or.inl ⟨by rfl, ?yb3⟩) (by assumption) ?rb3
        case yb3 => (intro w hSw; (try dsimp only at hSw); go_simp; try with_reducible rfl)
        try simp only [Act.put, List.setIfInBounds_toArray, List.set_cons_zero, List.set_cons_succ, List.getElem_toArray, List.getElem_cons_zero, List.getElem_cons_succ]
        refine wpAnyH_take (i := 4) (v := ?vb4) rfl (by kernel_rfl) (by kernel_rfl) (by kernel_rfl) (fun _ _ _ h => h) (Or.inl ⟨by rfl, ?yb4⟩) (by assumption) ?rb4
        case yb4 => (intro w hSw; (try dsimp only at hSw); go_simp; try with_reducible rfl)
        try simp only [Act.put, List.setIfInBounds_toArray, List.set_cons_zero, List.set_cons_succ, List.getElem_toArray, List.getElem_cons_zero, List.getElem_cons_succ]
        refine wpAnyH_take (i := 5) (v := ?vb5) rfl (by kernel_rfl) (by kernel_rfl) (by kernel_rfl) (fun _ _ _ h => h) (Or.inl ⟨by rfl, ?yb5⟩) (by assumption) ?rb5
        case yb5 => (intro w hSw; (try dsimp only at hSw); go_simp; try with_reducible rfl)
        try simp only [Act.put, List.setIfInBounds_toArray, List.set_cons_zero, List.set_cons_succ, List.getElem_toArray, List.getElem_cons_zero, List.getElem_cons_succ]
        refine wpAnyH_take (i := 6) (v := ?vb6) rfl (by kernel_rfl) (by kernel_rfl) (by kernel_rfl) (fun _ _ _ h => h) (Or.inl ⟨by rfl, ?yb6⟩) (by assumption) ?rb6
        case yb6 => (intro w hSw; (try dsimp only at hSw); go_simp; try with_reducible rfl)
        try simp only [Act.put, List.setIfInBounds_toArray, List.set_cons_zero, List.set_cons_succ, List.getElem_toArray, List.getElem_cons_zero, List.getElem_cons_succ]
        refine wpAnyH_take (i := 7) (v := undef) rfl (by kernel_rfl) (by kernel_rfl) (by kernel_rfl) (fun _ _ _ h => h) (Or.inr ⟨by rfl, rfl⟩) (by assumption) ?_
        try simp only [Act.put, List.setIfInBounds_toArray, List.set_cons_zero, List.set_cons_succ, List.getElem_toArray, List.getElem_cons_zero, List.getElem_cons_succ]
        refine wpAnyH_take (i := 8) (v := undef) rfl (by kernel_rfl) (by kernel_rfl) (by kernel_rfl) (fun _ _ _ h => h) (Or.inr ⟨by rfl, rfl⟩) (by assumption) ?_
        try simp only [Act.put, List.setIfInBounds_toArray, List.set_cons_zero, List.set_cons_succ, List.getElem_toArray, List.getElem_cons_zero, List.getElem_cons_succ]
        refine wpAnyH_take (i := 9) (v := undef) rfl (by kernel_rfl) (by kernel_rfl) (by kernel_rfl) (fun _ _ _ h => h) (Or.inr ⟨by rfl, rfl⟩) (by assumption) ?_
        try simp only [Act.put, List.setIfInBounds_toArray, List.set_cons_zero, List.set_cons_succ, List.getElem_toArray, List.getElem_cons_zero, List.getElem_cons_succ]
        refine wpAnyH_take (i := 10) (v := undef) rfl (by kernel_rfl) (by kernel_rfl) (by kernel_rfl) (fun _ _ _ h => h) (Or.inr ⟨by rfl, rfl⟩) (by assumption) ?_
        try simp only [Act.put, List.setIfInBounds_toArray, List.set_cons_zero, List.set_cons_succ, List.getElem_toArray, List.getElem_cons_zero, List.getElem_cons_succ]
        refine wpAnyH_take (i := 11) (v := undef) rfl (by kernel_rfl) (by kernel_rfl) (by kernel_rfl) (fun _ _ _ h => h) (Or.inr ⟨by rfl, rfl⟩) (by assumption) ?_
        try simp only [Act.put, List.setIfInBounds_toArray, List.set_cons_zero, List.set_cons_succ, List.getElem_toArray, List.getElem_cons_zero, List.getElem_cons_succ]
        refine wpAnyH_take (i := 12) (v := undef) rfl (by kernel_rfl) (by kernel_rfl) (by kernel_rfl) (fun _ _ _ h => h) (Or.inr ⟨by rfl, rfl⟩) (by assumption) ?_
        try simp only [Act.put, List.setIfInBounds_toArray, List.set_cons_zero, List.set_cons_succ, List.getElem_toArray, List.getElem_cons_zero, List.getElem_cons_succ]
        refine wpAnyH_take (i := 13) (v := undef) rfl (by kernel_rfl) (by kernel_rfl) (by kernel_rfl) (fun _ _ _ h => h) (Or.inr ⟨by rfl, rfl⟩) (by assumption) ?_
        try simp only [Act.put, List.setIfInBounds_toArray, List.set_cons_zero, List.set_cons_succ, List.getElem_toArray, List.getElem_cons_zero, List.getElem_cons_succ]
        refine wpAnyH_take (i := 14) (v := ?vb14) rfl (by kernel_rfl) (by kernel_rfl) (by kernel_rfl) (fun _ _ _ h => h) (Or.inl ⟨by rfl, ?yb14⟩) (by assumption) ?rb14
        case yb14 => (intro w hSw; (try dsimp only at hSw); go_simp; try with_reducible rfl)
        try simp only [Act.put, List.setIfInBounds_toArray, List.set_cons_zero, List.set_cons_succ, List.getElem_toArray, List.getElem_cons_zero, List.getElem_cons_succ]
        refine wpAnyH_take (i := 15) (v := ?vb15) rfl (by kernel_rfl) (by kernel_rfl) (by kernel_rfl) (fun _ _ _ h => h) (Or.inl ⟨by rfl, ?yb15⟩) (by assumption) ?rb15
        case yb15 => (intro w hSw; (try dsimp only at hSw); go_simp; try with_reducible rfl)
        try simp only [Act.put, List.setIfInBounds_toArray, List.set_cons_zero, List.set_cons_succ, List.getElem_toArray, List.getElem_cons_zero, List.getElem_cons_succ]
        refine wpAnyH_done (by kernel_rfl) ?_ _
        go_wp2
        go_meet
        exact ⟨rfl, (Below.refl _ w2).drew⟩
      · have hfk := HFK.out.2 (by omega)
        obtain ⟨b, off, rfl, hbl, hq, _⟩ := (HR.out.below HB2.out).at 0 (by omega)
        have hky := hq.c0
        have hpos : (0 : Int) < (xs.length : Int) := by omega
        have hposN : 0 < xs.length := by omega
        have hpb : decide (0 < xs.length) = true := by simp [hposN]
        rw [Nat.zero_mul, Nat.add_zero] at hky
        generalize xs[0].1.key = ky at hfk hky
        have g0 : w2.drew.cell? ⟨b, off, none⟩ = some (.string ky) ∧ w2.drew.cell? ⟨w.heap.size, 0, none⟩ = some (.string key) := ⟨hky, HV2.out.c0⟩
        have HFQ := Lib.hid hfk
        clear hfk hq hky
        by_cases hkk : ky = key
        · subst hkk
          have hm1 : may = false := by rw [HMAY.out, HFQ.out]; simp
          subst hm1
          refine wp_region_held_drew (S := fun w' => w'.cell? ⟨b, off, none⟩ = some (.string ky) ∧ w'.cell? ⟨w.heap.size, 0, none⟩ = some (.string ky)) (by kernel_rfl) (g0) (fun hHeld => ?_)
          refine wpAnyH_take (i := 0) (v := ?vc0) rfl (by kernel_rfl) (by kernel_rfl) (by kernel_rfl) (fun _ _ _ h => h) (Or.inl ⟨by rfl, ?yc0⟩) (by assumption) ?rc0
          case yc0 => (intro w hSw; (try dsimp only at hSw); go_simp; try with_reducible rfl)
          try simp only [Act.put, List.setIfInBounds_toArray, List.set_cons_zero, List.set_cons_succ, List.getElem_toArray, List.getElem_cons_zero, List.getElem_cons_succ]
          refine wpAnyH_take (i := 1) (v := ?vc1) rfl (by kernel_rfl) (by kernel_rfl) (by kernel_rfl) (fun _ _ _ h => h) (Or.inl ⟨by rfl, ?yc1⟩) (by assumption) ?rc1
          case yc1 => (intro w hSw; (try dsimp only at hSw); go_simp; try with_reducible rfl)
          try simp only [Act.put, List.setIfInBounds_toArray, List.set_cons_zero, List.set_cons_succ, List.getElem_toArray, List.getElem_cons_zero, List.getElem_cons_succ]
          refine wpAnyH_take (i := 2) (v := ?vc2) rfl (by kernel_rfl) (by kernel_rfl) (by kernel_rfl) (fun _ _ _ h => h) (Or.inl ⟨by rfl, ?yc2⟩) (by assumption) ?rc2
          case yc2 => (intro w hSw; (try dsimp only at hSw); go_simp; try with_reducible rfl)
          try simp only [Act.put, List.setIfInBounds_toArray, List.set_cons_zero, List.set_cons_succ, List.getElem_toArray, List.getElem_cons_zero, List.getElem_cons_succ]
          refine wpAnyH_take (i := 3) (v := ?vc3) rfl (by kernel_rfl) (by kernel_rfl) (by kernel_rfl) (fun _ _ _ h => h) (Or.inl ⟨by rfl, ?yc3⟩) (by assumption) ?rc3
          case yc3 => (intro w hSw; (try dsimp only at hSw); go_simp; try with_reducible rfl)
          try simp only [Act.put, List.setIfInBounds_toArray, List.set_cons_zero, List.set_cons_succ, List.getElem_toArray, List.getElem_cons_zero, List.getElem_cons_succ]
          refine wpAnyH_take (i := 4) (v := ?vc4) rfl (by kernel_rfl) (by kernel_rfl) (by kernel_rfl) (fun _ _ _ h => h) (Or.inl ⟨by rfl, ?yc4⟩) (by assumption) ?rc4
          case yc4 => (intro w hSw; (try dsimp only at hSw); go_simp; try with_reducible rfl)
          try simp only [Act.put, List.setIfInBounds_toArray, List.set_cons_zero, List.set_cons_succ, List.getElem_toArray, List.getElem_cons_zero, List.getElem_cons_succ]
          refine wpAnyH_take (i := 5) (v := ?vc5) rfl (by kernel_rfl) (by kernel_rfl) (by kernel_rfl) (fun _ _ _ h => h) (Or.inl ⟨by rfl, ?yc5⟩) (by assumption) ?rc5
          case yc5 => (intro w hSw; (try dsimp only at hSw); go_simp; try with_reducible rfl)
          try simp only [Act.put, List.setIfInBounds_toArray, List.set_cons_zero, List.set_cons_succ, List.getElem_toArray, List.getElem_cons_zero, List.getElem_cons_succ]
          refine wpAnyH_take (i := 6) (v := ?vc6) rfl (by kernel_rfl) (by kernel_rfl) (by kernel_rfl) (fun _ _ _ h => h) (Or.inl ⟨by rfl, ?yc6⟩) (by assumption) ?rc6
          case yc6 => (intro w hSw; (try dsimp only at hSw); go_simp; try with_reducible rfl)
          try simp only [Act.put, List.setIfInBounds_toArray, List.set_cons_zero, List.set_cons_succ, List.getElem_toArray, List.getElem_cons_zero, List.getElem_cons_succ]
          refine wpAnyH_take (i := 7) (v := ?vc7) rfl (by kernel_rfl) (by kernel_rfl) (by kernel_rfl) (fun _ _ _ h => h) (Or.inl ⟨by rfl, ?yc7⟩) (by assumption) ?rc7
          case yc7 => (intro w hSw; (try dsimp only at hSw); go_simp; try with_reducible rfl)
          try simp only [Act.put, List.setIfInBounds_toArray, List.set_cons_zero, List.set_cons_succ, List.getElem_toArray, List.getElem_cons_zero, List.getElem_cons_succ]
          refine wpAnyH_take (i := 8) (v := ?vc8) rfl (by kernel_rfl) (by kernel_rfl) (by kernel_rfl) (fun _ _ _ h => h) (Or.inl ⟨by rfl, ?yc8⟩) (by assumption) ?rc8
          case yc8 => (intro w hSw; (try dsimp only at hSw); go_simp; try with_reducible rfl)
          try simp only [Act.put, List.setIfInBounds_toArray, List.set_cons_zero, List.set_cons_succ, List.getElem_toArray, List.getElem_cons_zero, List.getElem_cons_succ]
          refine wpAnyH_take (i := 9) (v := ?vc9) rfl (by kernel_rfl) (by kernel_rfl) (by kernel_rfl) (fun _ _ _ h => h) (Or.inl ⟨by rfl, ?yc9⟩) (by assumption) ?rc9
          case yc9 => (intro w hSw; (try dsimp only at hSw); go_simp; try with_reducible rfl)
          try simp only [Act.put, List.setIfInBounds_toArray, List.set_cons_zero, List.set_cons_succ, List.getElem_toArray, List.getElem_cons_zero, List.getElem_cons_succ]
          refine wpAnyH_take (i := 10) (v := ?vc10) rfl (by kernel_rfl) (by kernel_rfl) (by kernel_rfl) (fun _ _ _ h => h) (Or.inl ⟨by rfl, ?yc10⟩) (by assumption) ?rc10
          case yc10 => (intro w hSw; (try dsimp only at hSw); go_simp; try with_reducible rfl)
          try simp only [Act.put, List.setIfInBounds_toArray, List.set_cons_zero, List.set_cons_succ, List.getElem_toArray, List.getElem_cons_zero, List.getElem_cons_succ]
          refine wpAnyH_take (i := 11) (v := ?vc11) rfl (by kernel_rfl) (by kernel_rfl) (by kernel_rfl) (fun _ _ _ h => h) (Or.inl ⟨by rfl, ?yc11⟩) (by assumption) ?rc11
          case yc11 => (intro w hSw; (try dsimp only at hSw); go_simp; try with_reducible rfl)
          try simp only [Act.put, List.setIfInBounds_toArray, List.set_cons_zero, List.set_cons_succ, List.getElem_toArray, List.getElem_cons_zero, List.getElem_cons_succ]
          refine wpAnyH_take (i := 12) (v := ?vc12) rfl (by kernel_rfl) (by kernel_rfl) (by kernel_rfl) (fun _ _ _ h => h) (Or.inl ⟨by rfl, ?yc12⟩) (by assumption) ?rc12
          case yc12 => (intro w hSw; (try dsimp only at hSw); go_simp; try with_reducible rfl)
          try simp only [Act.put, List.setIfInBounds_toArray, List.set_cons_zero, List.set_cons_succ, List.getElem_toArray, List.getElem_cons_zero, List.getElem_cons_succ]
          refine wpAnyH_take (i := 13) (v := ?vc13) rfl (by kernel_rfl) (by kernel_rfl) (by kernel_rfl) (fun _ _ _ h => h) (Or.inl ⟨by rfl, ?yc13⟩) (by assumption) ?rc13
          case yc13 => (intro w hSw; (try dsimp only at hSw); go_simp; try with_reducible rfl)
          try simp only [Act.put, List.setIfInBounds_toArray, List.set_cons_zero, List.set_cons_succ, List.getElem_toArray, List.getElem_cons_zero, List.getElem_cons_succ]
          refine wpAnyH_take (i := 14) (v := ?vc14) rfl (by kernel_rfl) (by kernel_rfl) (by kernel_rfl) (fun _ _ _ h => h) (Or.inl ⟨by rfl, ?yc14⟩) (by assumption) ?rc14
          case yc14 => (intro w hSw; (try dsimp only at hSw); go_simp; try with_reducible rfl)
          try simp only [Act.put, List.setIfInBounds_toArray, List.set_cons_zero, List.set_cons_succ, List.getElem_toArray, List.getElem_cons_zero, List.getElem_cons_succ]
          refine wpAnyH_take (i := 15) (v := ?vc15) rfl (by kernel_rfl) (by kernel_rfl) (by kernel_rfl) (fun _ _ _ h => h) (Or.inl ⟨by rfl, ?yc15⟩) (by assumption) ?rc15
          case yc15 => (intro w hSw; (try dsimp only at hSw); go_simp; try with_reducible rfl)
          try simp only [Act.put, List.setIfInBounds_toArray, List.set_cons_zero, List.set_cons_succ, List.getElem_toArray, List.getElem_cons_zero, List.getElem_cons_succ]
          refine wpAnyH_done (by kernel_rfl) ?_ _
          go_wp2
          go_meet
          exact ⟨rfl, (Below.refl _ w2).drew⟩
        · have hm1 : may = true := by rw [HMAY.out, HFQ.out]; simp [hkk]
          subst hm1
          have hkl : ¬ ky.toList = key.toList := fun h => hkk (ba_inj (by rw [← Lib.toList_data, ← Lib.toList_data]; exact h))
          refine wp_region_held_drew (S := fun w' => w'.cell? ⟨b, off, none⟩ = some (.string ky) ∧ w'.cell? ⟨w.heap.size, 0, none⟩ = some (.string key)) (by kernel_rfl) (g0) (fun hHeld => ?_)
          refine wpAnyH_take (i := 0) (v := ?vd0) rfl (by kernel_rfl) (by kernel_rfl) (by kernel_rfl) (fun _ _ _ h => h) (Or.inl ⟨by rfl, ?yd0⟩) (by assumption) ?rd0
          case yd0 => (intro w hSw; (try dsimp only at hSw); go_simp; try with_reducible rfl)
          try simp only [Act.put, List.setIfInBounds_toArray, List.set_cons_zero, List.set_cons_succ, List.getElem_toArray, List.getElem_cons_zero, List.getElem_cons_succ]
          refine wpAnyH_take (i := 1) (v := ?vd1) rfl (by kernel_rfl) (by kernel_rfl) (by kernel_rfl) (fun _ _ _ h => h) (Or.inl ⟨by rfl, ?yd1⟩) (by assumption) ?rd1
          case yd1 => (intro w hSw; (try dsimp only at hSw); go_simp; try with_reducible rfl)
          try simp only [Act.put, List.setIfInBounds_toArray, List.set_cons_zero, List.set_cons_succ, List.getElem_toArray, List.getElem_cons_zero, List.getElem_cons_succ]
          refine wpAnyH_take (i := 2) (v := ?vd2) rfl (by kernel_rfl) (by kernel_rfl) (by kernel_rfl) (fun _ _ _ h => h) (Or.inl ⟨by rfl, ?yd2⟩) (by assumption) ?rd2
          case yd2 => (intro w hSw; (try dsimp only at hSw); go_simp; try with_reducible rfl)
          try simp only [Act.put, List.setIfInBounds_toArray, List.set_cons_zero, List.set_cons_succ, List.getElem_toArray, List.getElem_cons_zero, List.getElem_cons_succ]
          refine wpAnyH_take (i := 3) (v := ?vd3) rfl (by kernel_rfl) (by kernel_rfl) (by kernel_rfl) (fun _ _ _ h => h) (Or.inl ⟨by rfl, ?yd3⟩) (by assumption) ?rd3
          case yd3 => (intro w hSw; (try dsimp only at hSw); go_simp; try with_reducible rfl)
          try simp only [Act.put, List.setIfInBounds_toArray, List.set_cons_zero, List.set_cons_succ, List.getElem_toArray, List.getElem_cons_zero, List.getElem_cons_succ]
          refine wpAnyH_take (i := 4) (v := ?vd4) rfl (by kernel_rfl) (by kernel_rfl) (by kernel_rfl) (fun _ _ _ h => h) (Or.inl ⟨by rfl, ?yd4⟩) (by assumption) ?rd4
          case yd4 => (intro w hSw; (try dsimp only at hSw); go_simp; try with_reducible rfl)
          try simp only [Act.put, List.setIfInBounds_toArray, List.set_cons_zero, List.set_cons_succ, List.getElem_toArray, List.getElem_cons_zero, List.getElem_cons_succ]
          refine wpAnyH_take (i := 5) (v := ?vd5) rfl (by kernel_rfl) (by kernel_rfl) (by kernel_rfl) (fun _ _ _ h => h) (Or.inl ⟨by rfl, ?yd5⟩) (by assumption) ?rd5
          case yd5 => (intro w hSw; (try dsimp only at hSw); go_simp; try with_reducible rfl)
          try simp only [Act.put, List.setIfInBounds_toArray, List.set_cons_zero, List.set_cons_succ, List.getElem_toArray, List.getElem_cons_zero, List.getElem_cons_succ]
          refine wpAnyH_take (i := 6) (v := ?vd6) rfl (by kernel_rfl) (by kernel_rfl) (by kernel_rfl) (fun _ _ _ h => h) (Or.inl ⟨by rfl, ?yd6⟩) (by assumption) ?rd6
          case yd6 => (intro w hSw; (try dsimp only at hSw); go_simp; try with_reducible rfl)
          try simp only [Act.put, List.setIfInBounds_toArray, List.set_cons_zero, List.set_cons_succ, List.getElem_toArray, List.getElem_cons_zero, List.getElem_cons_succ]
          refine wpAnyH_take (i := 7) (v := ?vd7) rfl (by kernel_rfl) (by kernel_rfl) (by kernel_rfl) (fun _ _ _ h => h) (Or.inl ⟨by rfl, ?yd7⟩) (by assumption) ?rd7
          case yd7 => (intro w hSw; (try dsimp only at hSw); go_simp; try with_reducible rfl)
          try simp only [Act.put, List.setIfInBounds_toArray, List.set_cons_zero, List.set_cons_succ, List.getElem_toArray, List.getElem_cons_zero, List.getElem_cons_succ]
          refine wpAnyH_take (i := 8) (v := ?vd8) rfl (by kernel_rfl) (by kernel_rfl) (by kernel_rfl) (fun _ _ _ h => h) (Or.inl ⟨by rfl, ?yd8⟩) (by assumption) ?rd8
          case yd8 => (intro w hSw; (try dsimp only at hSw); go_simp; try with_reducible rfl)
          try simp only [Act.put, List.setIfInBounds_toArray, List.set_cons_zero, List.set_cons_succ, List.getElem_toArray, List.getElem_cons_zero, List.getElem_cons_succ]
          refine wpAnyH_take (i := 9) (v := ?vd9) rfl (by kernel_rfl) (by kernel_rfl) (by kernel_rfl) (fun _ _ _ h => h) (Or.inl ⟨by rfl, ?yd9⟩) (by assumption) ?rd9
          case yd9 => (intro w hSw; (try dsimp only at hSw); go_simp; try with_reducible rfl)
          try simp only [Act.put, List.setIfInBounds_toArray, List.set_cons_zero, List.set_cons_succ, List.getElem_toArray, List.getElem_cons_zero, List.getElem_cons_succ]
          refine wpAnyH_take (i := 10) (v := ?vd10) rfl (by kernel_rfl) (by kernel_rfl) (by kernel_rfl) (fun _ _ _ h => h) (Or.inl ⟨by rfl, ?yd10⟩) (by assumption) ?rd10
          case yd10 => (intro w hSw; (try dsimp only at hSw); go_simp; try with_reducible rfl)
          try simp only [Act.put, List.setIfInBounds_toArray, List.set_cons_zero, List.set_cons_succ, List.getElem_toArray, List.getElem_cons_zero, List.getElem_cons_succ]
          refine wpAnyH_take (i := 11) (v := ?vd11) rfl (by kernel_rfl) (by kernel_rfl) (by kernel_rfl) (fun _ _ _ h => h) (Or.inl ⟨by rfl, ?yd11⟩) (by assumption) ?rd11
          case yd11 => (intro w hSw; (try dsimp only at hSw); go_simp; try with_reducible rfl)
          try simp only [Act.put, List.setIfInBounds_toArray, List.set_cons_zero, List.set_cons_succ, List.getElem_toArray, List.getElem_cons_zero, List.getElem_cons_succ]
          refine wpAnyH_take (i := 12) (v := ?vd12) rfl (by kernel_rfl) (by kernel_rfl) (by kernel_rfl) (fun _ _ _ h => h) (Or.inl ⟨by rfl, ?yd12⟩) (by assumption) ?rd12
          case yd12 => (intro w hSw; (try dsimp only at hSw); go_simp; try with_reducible rfl)
          try simp only [Act.put, List.setIfInBounds_toArray, List.set_cons_zero, List.set_cons_succ, List.getElem_toArray, List.getElem_cons_zero, List.getElem_cons_succ]
          refine wpAnyH_take (i := 13) (v := ?vd13) rfl (by kernel_rfl) (by kernel_rfl) (by kernel_rfl) (fun _ _ _ h => h) (Or.inl ⟨by rfl, ?yd13⟩) (by assumption) ?rd13
          case yd13 => (intro w hSw; (try dsimp only at hSw); go_simp; try with_reducible rfl)
          try simp only [Act.put, List.setIfInBounds_toArray, List.set_cons_zero, List.set_cons_succ, List.getElem_toArray, List.getElem_cons_zero, List.getElem_cons_succ]
          refine wpAnyH_take (i := 14) (v := ?vd14) rfl (by kernel_rfl) (by kernel_rfl) (by kernel_rfl) (fun _ _ _ h => h) (Or.inl ⟨by rfl, ?yd14⟩) (by assumption) ?rd14
          case yd14 => (intro w hSw; (try dsimp only at hSw); go_simp; try with_reducible rfl)
          try simp only [Act.put, List.setIfInBounds_toArray, List.set_cons_zero, List.set_cons_succ, List.getElem_toArray, List.getElem_cons_zero, List.getElem_cons_succ]
          refine wpAnyH_take (i := 15) (v := ?vd15) rfl (by kernel_rfl) (by kernel_rfl) (by kernel_rfl) (fun _ _ _ h => h) (Or.inl ⟨by rfl, ?yd15⟩) (by assumption) ?rd15
          case yd15 => (intro w hSw; (try dsimp only at hSw); go_simp; try with_reducible rfl)
          try simp only [Act.put, List.setIfInBounds_toArray, List.set_cons_zero, List.set_cons_succ, List.getElem_toArray, List.getElem_cons_zero, List.getElem_cons_succ]
          refine wpAnyH_done (by kernel_rfl) ?_ _
          go_wp2
          go_meet
          exact ⟨by simp [hkl], (Below.refl _ w2).drew⟩
  case rest =>
    obtain ⟨rfl, hb3⟩ := hcut
    have HB3 := Lib.hid (bstep HB2.out hb3)
    have HV3 := Lib.hid (HV2.out.keep hb3)
    have hlow3 : w.heap.size + 1 ≤ wc.heap.size := by have := hb3.size; omega
    clear hb3 HB2 HV2 hlow2
    have HMAYN : Hid ((c1 && c2) = !may) := Lib.hid (by rw [HMAY.out]; simp)
    cases may with
    | true =>
      have hok : ok = false := by rw [HPO.out, HMAYN.out]; rfl
      have hpc : pc1 = xs := by rw [HPC.out, hok]; rfl
      subst hok hpc
      go_wp2
      go_ret2
      exact ⟨_, rfl, .inr (by first | exact ⟨rfl, rfl⟩ | rfl), HR.out.below HB3.out, HB3.out⟩
    | false =>
      have HOK : Hid (ok = !xs.any (isS (m, t))) := Lib.hid (by rw [HPO.out, HMAYN.out]; simp)
      clear HPO HMAY HMAYN
      go_wp2
      go_loopw [7, 8, 9] (fun o pb i wr => ∃ k : Nat, k ≤ xs.length ∧ i = .int .i64 k ∧ pb = .bool ((xs.take k).any (gtW (⟨key, val, gone, (m, t), past⟩, pa, pc))) ∧ OwnR KW wr (w.heap.size + 1) o (outR (⟨key, val, gone, (m, t), past⟩, pa, pc) (xs.take k)) ∧ (∀ (j : Nat) (h : j < xs.length), j < k → isS (m, t) xs[j] = false) ∧ VwP wr w.heap.size ⟨key, val, gone, (m, t), past⟩ (.slice pa past.length pc) ∧ w.heap.size + 1 ≤ wr.heap.size ∧ Below w.heap.size w wr) (fun _ _ i _ => xs.length - (intOf i).toNat)
      case atStart => exact ⟨0, by omega, rfl, rfl, OwnR.nil _ _ _, (fun j h h2 => by omega), HV3.out, hlow3, HB3.out⟩
      case round =>
        obtain ⟨k, hk, rfl, rfl, ho, hno, hv, hlw, hbel⟩ := hrel
        obtain ⟨sa, sc, rfl⟩ := ho.shape
        have HO := Lib.hid ho
        have HNO := Lib.hid hno
        have HVR := Lib.hid hv
        have HB := Lib.hid hbel
        have HLL := Lib.hid (outR_len (⟨key, val, gone, (m, t), past⟩, pa, pc) (xs.take k))
        clear ho hno hv hbel
        by_cases hlt : k < xs.length
        · obtain ⟨b, off, rfl, hbl, hq, _⟩ := (HR.out.below HB.out).at k hlt
          have hrow := fun W (h : Below w.heap.size w W) => ((HR.out.below h).at k hlt)
          have HTK : Hid (xs.take (k + 1) = xs.take k ++ [xs[k]]) := Lib.hid (List.take_succ_eq_append_getElem hlt)
          have HNK : Hid (isS (m, t) xs[k] = false → ∀ (j : Nat) (h : j < xs.length), j < k + 1 → isS (m, t) xs[j] = false) := Lib.hid (fun h0 j h h2 => by
            by_cases e : j = k
            · subst e; exact h0
            · exact HNO.out j h (by omega))
          have HAN : Hid (isS (m, t) xs[k] = true → xs.any (isS (m, t)) = true) := Lib.hid (fun h => List.any_eq_true.2 ⟨xs[k], List.getElem_mem hlt, h⟩)
          have HQ : Hid (∀ W, Below w.heap.size w W → VwQ W b (off + k * 6) xs[k]) := Lib.hid (fun W h => by
            obtain ⟨b', off', e', _, h', _⟩ := hrow W h
            cases e'
            exact h')
          clear hrow hq
          have HTL : Hid ((xs.take k).length = k) := Lib.hid (by rw [List.length_take]; omega)
          have HIS : Hid (isS (m, t) xs[k] = decide (xs[k].1.st = (m, t))) := Lib.hid rfl
          have HGT : Hid (gtW (⟨key, val, gone, (m, t), past⟩, pa, pc) xs[k] = Sm.less (m, t) xs[k].1.st) := Lib.hid rfl
          generalize xs[k] = y at HTK HNK HAN HQ HIS HGT
          have HOA : Hid ((xs.take k).any (gtW (⟨key, val, gone, (m, t), past⟩, pa, pc)) = true → outR (⟨key, val, gone, (m, t), past⟩, pa, pc) (xs.take k ++ [y]) = outR (⟨key, val, gone, (m, t), past⟩, pa, pc) (xs.take k) ++ [y]) := Lib.hid outR_any
          have HON : Hid ((xs.take k).any (gtW (⟨key, val, gone, (m, t), past⟩, pa, pc)) = false → gtW (⟨key, val, gone, (m, t), past⟩, pa, pc) y = true → outR (⟨key, val, gone, (m, t), past⟩, pa, pc) (xs.take k ++ [y]) = outR (⟨key, val, gone, (m, t), past⟩, pa, pc) (xs.take k) ++ [(⟨key, val, gone, (m, t), past⟩, pa, pc)] ++ [y]) := Lib.hid outR_now
          have HOT : Hid ((xs.take k).any (gtW (⟨key, val, gone, (m, t), past⟩, pa, pc)) = false → gtW (⟨key, val, gone, (m, t), past⟩, pa, pc) y = false → outR (⟨key, val, gone, (m, t), past⟩, pa, pc) (xs.take k ++ [y]) = outR (⟨key, val, gone, (m, t), past⟩, pa, pc) (xs.take k) ++ [y]) := Lib.hid outR_not
          have HTA : Hid ((xs.take (k + 1)).any (gtW (⟨key, val, gone, (m, t), past⟩, pa, pc)) = ((xs.take k).any (gtW (⟨key, val, gone, (m, t), past⟩, pa, pc)) || gtW (⟨key, val, gone, (m, t), past⟩, pa, pc) y)) := Lib.hid (by rw [HTK.out]; simp)
          rw [← HTK.out] at HOA HON HOT
          obtain ⟨L2, hL2⟩ : ∃ L2, outR (⟨key, val, gone, (m, t), past⟩, pa, pc) (xs.take (k + 1)) = L2 := ⟨_, rfl⟩
          obtain ⟨pb2, hpb2⟩ : ∃ pb2, (xs.take (k + 1)).any (gtW (⟨key, val, gone, (m, t), past⟩, pa, pc)) = pb2 := ⟨_, rfl⟩
          have HL2 := Lib.hid hL2
          have HPB2 := Lib.hid hpb2
          rw [hL2] at HOA HON HOT
          rw [hpb2] at HTA
          clear hL2 hpb2
          generalize outR (⟨key, val, gone, (m, t), past⟩, pa, pc) (xs.take k) = Lk at HO HLL HOA HON HOT ⊢
          generalize (xs.take k).any (gtW (⟨key, val, gone, (m, t), past⟩, pa, pc)) = pb at HTA HOA HON HOT ⊢
          have hLk : Lk.length ≤ k + 1 := by have h1 := HLL.out; have h2 := HTL.out; omega
          obtain ⟨⟨key', val', gone', ⟨m', t'⟩, past'⟩, pa', pc'⟩ := y
          have heq := fun w' => eq_stamp w' m' t' m t
          dsimp only at HIS HGT
          have hk2 : (k : Int) < (xs.length : Int) := by omega
          generalize decide (((m', t') : Int × Int) = (m, t)) = ds at heq HIS
          have HLESS : Hid (gtW (⟨key, val, gone, (m, t), past⟩, pa, pc) (⟨key', val', gone', (m', t'), past'⟩, pa', pc') = Sm.less (m, t) (m', t')) := HGT
          clear HGT
          generalize gtW (⟨key, val, gone, (m, t), past⟩, pa, pc) (⟨key', val', gone', (m', t'), past'⟩, pa', pc') = g at HLESS HTA HON HOT
          have g0 : (wr.drew.cell? ⟨b, off + k * 6 + 3, none⟩ = some (.int .i64 m') ∧ wr.drew.cell? ⟨b, off + k * 6 + 4, none⟩ = some (.int .i64 t')) ∧ wr.drew.cell? ⟨w.heap.size, 3, none⟩ = some (.int .i64 m) ∧ wr.drew.cell? ⟨w.heap.size, 4, none⟩ = some (.int .i64 t) := ⟨⟨(HQ.out wr HB.out).c3, (HQ.out wr HB.out).c4⟩, HVR.out.c3, HVR.out.c4⟩
          go_upto_region 9 with fail
          go_cut [42] (fun s42 wx => s42 = .bool ds ∧ Below wr.heap.size wr wx)
          case first =>
            refine wp_region_held_drew (S := fun w' => (w'.cell? ⟨b, off + k * 6 + 3, none⟩ = some (.int .i64 m') ∧ w'.cell? ⟨b, off + k * 6 + 4, none⟩ = some (.int .i64 t')) ∧ w'.cell? ⟨w.heap.size, 3, none⟩ = some (.int .i64 m) ∧ w'.cell? ⟨w.heap.size, 4, none⟩ = some (.int .i64 t)) (by kernel_rfl) (g0) (fun hHeld => ?_)
            refine wpAnyH_take (i := 0) (v := ?ve0) rfl (by kernel_rfl) (by kernel_rfl) (by kernel_rfl) (fun _ _ _ h => h) (Or.inl ⟨by rfl, ?ye0⟩) (by assumption) ?re0
            case ye0 => (intro w hSw; (try dsimp only at hSw); go_simp; try with_reducible rfl)
            try simp only [Act.put, List.setIfInBounds_toArray, List.set_cons_zero, List.set_cons_succ, List.getElem_toArray, List.getElem_cons_zero, List.getElem_cons_succ]
            refine wpAnyH_take (i := 1) (v := ?ve1) rfl (by kernel_rfl) (by kernel_rfl) (by kernel_rfl) (fun _ _ _ h => h) (Or.inl ⟨by rfl, ?ye1⟩) (by assumption) ?re1
            case ye1 => (intro w hSw; (try dsimp only at hSw); go_simp; try with_reducible rfl)
            try simp only [Act.put, List.setIfInBounds_toArray, List.set_cons_zero, List.set_cons_succ, List.getElem_toArray, List.getElem_cons_zero, List.getElem_cons_succ]
            refine wpAnyH_take (i := 2) (v := ?ve2) rfl (by kernel_rfl) (by kernel_rfl) (by kernel_rfl) (fun _ _ _ h => h) (Or.inl ⟨by rfl, ?ye2⟩) (by assumption) ?re2
            case ye2 => (intro w hSw; (try dsimp only at hSw); go_simp; try with_reducible rfl)
            try simp only [Act.put, List.setIfInBounds_toArray, List.set_cons_zero, List.set_cons_succ, List.getElem_toArray, List.getElem_cons_zero, List.getElem_cons_succ]
            refine wpAnyH_take (i := 3) (v := ?ve3) rfl (by kernel_rfl) (by kernel_rfl) (by kernel_rfl) (fun _ _ _ h => h) (Or.inl ⟨by rfl, ?ye3⟩) (by assumption) ?re3
            case ye3 => (intro w hSw; (try dsimp only at hSw); go_simp; try with_reducible rfl)
            try simp only [Act.put, List.setIfInBounds_toArray, List.set_cons_zero, List.set_cons_succ, List.getElem_toArray, List.getElem_cons_zero, List.getElem_cons_succ]
            refine wpAnyH_take (i := 4) (v := ?ve4) rfl (by kernel_rfl) (by kernel_rfl) (by kernel_rfl) (fun _ _ _ h => h) (Or.inl ⟨by rfl, ?ye4⟩) (by assumption) ?re4
            case ye4 => (intro w hSw; (try dsimp only at hSw); go_simp; try with_reducible rfl)
            try simp only [Act.put, List.setIfInBounds_toArray, List.set_cons_zero, List.set_cons_succ, List.getElem_toArray, List.getElem_cons_zero, List.getElem_cons_succ]
            refine wpAnyH_take (i := 5) (v := ?ve5) rfl (by kernel_rfl) (by kernel_rfl) (by kernel_rfl) (fun _ _ _ h => h) (Or.inl ⟨by rfl, ?ye5⟩) (by assumption) ?re5
            case ye5 => (intro w hSw; (try dsimp only at hSw); go_simp; try with_reducible rfl)
            try simp only [Act.put, List.setIfInBounds_toArray, List.set_cons_zero, List.set_cons_succ, List.getElem_toArray, List.getElem_cons_zero, List.getElem_cons_succ]
            refine wpAnyH_take (i := 6) (v := ?ve6) rfl (by kernel_rfl) (by kernel_rfl) (by kernel_rfl) (fun _ _ _ h => h) (Or.inl ⟨by rfl, ?ye6⟩) (by assumption) ?re6
            case ye6 => (intro w hSw; (try dsimp only at hSw); go_simp; try with_reducible rfl)
            try simp only [Act.put, List.setIfInBounds_toArray, List.set_cons_zero, List.set_cons_succ, List.getElem_toArray, List.getElem_cons_zero, List.getElem_cons_succ]
            refine wpAnyH_take (i := 7) (v := ?ve7) rfl (by kernel_rfl) (by kernel_rfl) (by kernel_rfl) (fun _ _ _ h => h) (Or.inl ⟨by rfl, ?ye7⟩) (by assumption) ?re7
            case ye7 => (intro w hSw; (try dsimp only at hSw); go_simp; try with_reducible rfl)
            try simp only [Act.put, List.setIfInBounds_toArray, List.set_cons_zero, List.set_cons_succ, List.getElem_toArray, List.getElem_cons_zero, List.getElem_cons_succ]
            refine wpAnyH_done (by kernel_rfl) ?_ _
            go_wp2
            go_meet
            exact ⟨rfl, (Below.refl _ wr).drew⟩
          case rest =>
            obtain ⟨rfl, hbx⟩ := hcut
            obtain ⟨w4, hw4⟩ : ∃ w4, w4 = wc := ⟨_, rfl⟩
            subst hw4
            have HB4 := Lib.hid (bstep HB.out hbx)
            have HV4 := Lib.hid (HVR.out.keep hbx)
            have HO4 := Lib.hid (HO.out.below hbx)
            have hlw4 : w.heap.size + 1 ≤ w4.heap.size := by have := hbx.size; omega
            clear hbx g0 heq HB HVR HO
            cases ds with
            | true =>
              have hok : ok = false := by rw [HOK.out, HAN.out (by rw [HIS.out])]; rfl
              have hpc : pc1 = xs := by rw [HPC.out, hok]; rfl
              subst hok hpc
              go_wp2
              go_ret2
              exact ⟨_, rfl, .inr (by first | exact ⟨rfl, rfl⟩ | rfl), HR.out.below HB4.out, HB4.out⟩
            | false =>
              have HN2 := Lib.hid (HNK.out (by rw [HIS.out]))
              have g0 : (w4.drew.cell? ⟨b, off + k * 6 + 3, none⟩ = some (.int .i64 m') ∧ w4.drew.cell? ⟨b, off + k * 6 + 4, none⟩ = some (.int .i64 t')) ∧ w4.drew.cell? ⟨w.heap.size, 3, none⟩ = some (.int .i64 m) ∧ w4.drew.cell? ⟨w.heap.size, 4, none⟩ = some (.int .i64 t) := ⟨⟨(HQ.out w4 HB4.out).c3, (HQ.out w4 HB4.out).c4⟩, HV4.out.c3, HV4.out.c4⟩
              go_upto_region 11 with fail
              obtain ⟨nw, hnw⟩ : ∃ nw : Bool, nw = (!pb && g) := ⟨_, rfl⟩
              have HNW := Lib.hid hnw
              clear hnw
              go_cut [55] (fun s55 wx => s55 = .bool nw ∧ Below w4.heap.size w4 wx)
              case first =>
                cases pb with
                | true =>
                  refine wp_region_held_drew (S := fun w' => True) (by kernel_rfl) (trivial) (fun hHeld => ?_)
                  refine wpAnyH_take (i := 0) (v := ?vf0) rfl (by kernel_rfl) (by kernel_rfl) (by kernel_rfl) (fun _ _ _ h => h) (Or.inl ⟨by rfl, ?yf0⟩) (by assumption) ?rf0
                  case yf0 => (intro w hSw; (try dsimp only at hSw); go_simp; try with_reducible rfl)
                  try simp only [Act.put, List.setIfInBounds_toArray, List.set_cons_zero, List.set_cons_succ, List.getElem_toArray, List.getElem_cons_zero, List.getElem_cons_succ]
                  refine wpAnyH_take (i := 1) (v := ?vf1) rfl (by kernel_rfl) (by kernel_rfl) (by kernel_rfl) (fun _ _ _ h => h) (Or.inl ⟨by rfl, ?yf1⟩) (by assumption) ?rf1
                  case yf1 => (intro w hSw; (try dsimp only at hSw); go_simp; try with_reducible rfl)
                  try simp only [Act.put, List.setIfInBounds_toArray, List.set_cons_zero, List.set_cons_succ, List.getElem_toArray, List.getElem_cons_zero, List.getElem_cons_succ]
                  refine wpAnyH_take (i := 2) (v := ?vf2) rfl (by kernel_rfl) (by kernel_rfl) (by kernel_rfl) (fun _ _ _ h => h) (Or.inl ⟨by rfl, ?yf2⟩) (by assumption) ?rf2
                  case yf2 => (intro w hSw; (try dsimp only at hSw); go_simp; try with_reducible rfl)
                  try simp only [Act.put, List.setIfInBounds_toArray, List.set_cons_zero, List.set_cons_succ, List.getElem_toArray, List.getElem_cons_zero, List.getElem_cons_succ]
                  refine wpAnyH_take (i := 3) (v := undef) rfl (by kernel_rfl) (by kernel_rfl) (by kernel_rfl) (fun _ _ _ h => h) (Or.inr ⟨by rfl, rfl⟩) (by assumption) ?_
                  try simp only [Act.put, List.setIfInBounds_toArray, List.set_cons_zero, List.set_cons_succ, List.getElem_toArray, List.getElem_cons_zero, List.getElem_cons_succ]
                  refine wpAnyH_take (i := 4) (v := undef) rfl (by kernel_rfl) (by kernel_rfl) (by kernel_rfl) (fun _ _ _ h => h) (Or.inr ⟨by rfl, rfl⟩) (by assumption) ?_
                  try simp only [Act.put, List.setIfInBounds_toArray, List.set_cons_zero, List.set_cons_succ, List.getElem_toArray, List.getElem_cons_zero, List.getElem_cons_succ]
                  refine wpAnyH_take (i := 5) (v := undef) rfl (by kernel_rfl) (by kernel_rfl) (by kernel_rfl) (fun _ _ _ h => h) (Or.inr ⟨by rfl, rfl⟩) (by assumption) ?_
                  try simp only [Act.put, List.setIfInBounds_toArray, List.set_cons_zero, List.set_cons_succ, List.getElem_toArray, List.getElem_cons_zero, List.getElem_cons_succ]
                  refine wpAnyH_take (i := 6) (v := undef) rfl (by kernel_rfl) (by kernel_rfl) (by kernel_rfl) (fun _ _ _ h => h) (Or.inr ⟨by rfl, rfl⟩) (by assumption) ?_
                  try simp only [Act.put, List.setIfInBounds_toArray, List.set_cons_zero, List.set_cons_succ, List.getElem_toArray, List.getElem_cons_zero, List.getElem_cons_succ]
                  refine wpAnyH_take (i := 7) (v := undef) rfl (by kernel_rfl) (by kernel_rfl) (by kernel_rfl) (fun _ _ _ h => h) (Or.inr ⟨by rfl, rfl⟩) (by assumption) ?_
                  try simp only [Act.put, List.setIfInBounds_toArray, List.set_cons_zero, List.set_cons_succ, List.getElem_toArray, List.getElem_cons_zero, List.getElem_cons_succ]
                  refine wpAnyH_take (i := 8) (v := undef) rfl (by kernel_rfl) (by kernel_rfl) (by kernel_rfl) (fun _ _ _ h => h) (Or.inr ⟨by rfl, rfl⟩) (by assumption) ?_
                  try simp only [Act.put, List.setIfInBounds_toArray, List.set_cons_zero, List.set_cons_succ, List.getElem_toArray, List.getElem_cons_zero, List.getElem_cons_succ]
                  refine wpAnyH_take (i := 9) (v := undef) rfl (by kernel_rfl) (by kernel_rfl) (by kernel_rfl) (fun _ _ _ h => h) (Or.inr ⟨by rfl, rfl⟩) (by assumption) ?_
                  try simp only [Act.put, List.setIfInBounds_toArray, List.set_cons_zero, List.set_cons_succ, List.getElem_toArray, List.getElem_cons_zero, List.getElem_cons_succ]
                  refine wpAnyH_take (i := 10) (v := undef) rfl (by kernel_rfl) (by kernel_rfl) (by kernel_rfl) (fun _ _ _ h => h) (Or.inr ⟨by rfl, rfl⟩) (by assumption) ?_
                  try simp only [Act.put, List.setIfInBounds_toArray, List.set_cons_zero, List.set_cons_succ, List.getElem_toArray, List.getElem_cons_zero, List.getElem_cons_succ]
                  refine wpAnyH_take (i := 11) (v := ?vf11) rfl (by kernel_rfl) (by kernel_rfl) (by kernel_rfl) (fun _ _ _ h => h) (Or.inl ⟨by rfl, ?yf11⟩) (by assumption) ?rf11
                  case yf11 => (intro w hSw; (try dsimp only at hSw); go_simp; try with_reducible rfl)
                  try simp only [Act.put, List.setIfInBounds_toArray, List.set_cons_zero, List.set_cons_succ, List.getElem_toArray, List.getElem_cons_zero, List.getElem_cons_succ]
                  refine wpAnyH_done (by kernel_rfl) ?_ _
                  go_wp2
                  go_meet
                  exact ⟨by rw [HNW.out]; rfl, (Below.refl _ w4).drew⟩
                | false =>
                  refine wp_region_held_drew (S := fun w' => (w'.cell? ⟨b, off + k * 6 + 3, none⟩ = some (.int .i64 m') ∧ w'.cell? ⟨b, off + k * 6 + 4, none⟩ = some (.int .i64 t')) ∧ w'.cell? ⟨w.heap.size, 3, none⟩ = some (.int .i64 m) ∧ w'.cell? ⟨w.heap.size, 4, none⟩ = some (.int .i64 t)) (by kernel_rfl) (g0) (fun hHeld => ?_)
                  refine wpAnyH_take (i := 0) (v := ?vg0) rfl (by kernel_rfl) (by kernel_rfl) (by kernel_rfl) (fun _ _ _ h => h) (Or.inl ⟨by rfl, ?yg0⟩) (by assumption) ?rg0
                  case yg0 => (intro w hSw; (try dsimp only at hSw); go_simp; try with_reducible rfl)
                  try simp only [Act.put, List.setIfInBounds_toArray, List.set_cons_zero, List.set_cons_succ, List.getElem_toArray, List.getElem_cons_zero, List.getElem_cons_succ]
                  refine wpAnyH_take (i := 1) (v := ?vg1) rfl (by kernel_rfl) (by kernel_rfl) (by kernel_rfl) (fun _ _ _ h => h) (Or.inl ⟨by rfl, ?yg1⟩) (by assumption) ?rg1
                  case yg1 => (intro w hSw; (try dsimp only at hSw); go_simp; try with_reducible rfl)
                  try simp only [Act.put, List.setIfInBounds_toArray, List.set_cons_zero, List.set_cons_succ, List.getElem_toArray, List.getElem_cons_zero, List.getElem_cons_succ]
                  refine wpAnyH_take (i := 2) (v := ?vg2) rfl (by kernel_rfl) (by kernel_rfl) (by kernel_rfl) (fun _ _ _ h => h) (Or.inl ⟨by rfl, ?yg2⟩) (by assumption) ?rg2
                  case yg2 => (intro w hSw; (try dsimp only at hSw); go_simp; try with_reducible rfl)
                  try simp only [Act.put, List.setIfInBounds_toArray, List.set_cons_zero, List.set_cons_succ, List.getElem_toArray, List.getElem_cons_zero, List.getElem_cons_succ]
                  refine wpAnyH_take (i := 3) (v := ?vg3) rfl (by kernel_rfl) (by kernel_rfl) (by kernel_rfl) (fun _ _ _ h => h) (Or.inl ⟨by rfl, ?yg3⟩) (by assumption) ?rg3
                  case yg3 => (intro w hSw; (try dsimp only at hSw); go_simp; try with_reducible rfl)
                  try simp only [Act.put, List.setIfInBounds_toArray, List.set_cons_zero, List.set_cons_succ, List.getElem_toArray, List.getElem_cons_zero, List.getElem_cons_succ]
                  refine wpAnyH_take (i := 4) (v := ?vg4) rfl (by kernel_rfl) (by kernel_rfl) (by kernel_rfl) (fun _ _ _ h => h) (Or.inl ⟨by rfl, ?yg4⟩) (by assumption) ?rg4
                  case yg4 => (intro w hSw; (try dsimp only at hSw); go_simp; try with_reducible rfl)
                  try simp only [Act.put, List.setIfInBounds_toArray, List.set_cons_zero, List.set_cons_succ, List.getElem_toArray, List.getElem_cons_zero, List.getElem_cons_succ]
                  refine wpAnyH_take (i := 5) (v := ?vg5) rfl (by kernel_rfl) (by kernel_rfl) (by kernel_rfl) (fun _ _ _ h => h) (Or.inl ⟨by rfl, ?yg5⟩) (by assumption) ?rg5
                  case yg5 => (intro w hSw; (try dsimp only at hSw); go_simp; try with_reducible rfl)
                  try simp only [Act.put, List.setIfInBounds_toArray, List.set_cons_zero, List.set_cons_succ, List.getElem_toArray, List.getElem_cons_zero, List.getElem_cons_succ]
                  refine wpAnyH_take (i := 6) (v := ?vg6) rfl (by kernel_rfl) (by kernel_rfl) (by kernel_rfl) (fun _ _ _ h => h) (Or.inl ⟨by rfl, ?yg6⟩) (by assumption) ?rg6
                  case yg6 => (intro w hSw; (try dsimp only at hSw); go_simp; try with_reducible rfl)
                  try simp only [Act.put, List.setIfInBounds_toArray, List.set_cons_zero, List.set_cons_succ, List.getElem_toArray, List.getElem_cons_zero, List.getElem_cons_succ]
                  refine wpAnyH_take (i := 7) (v := ?vg7) rfl (by kernel_rfl) (by kernel_rfl) (by kernel_rfl) (fun _ _ _ h => h) (Or.inl ⟨by rfl, ?yg7⟩) (by assumption) ?rg7
                  case yg7 => (intro w hSw; (try dsimp only at hSw); go_simp; try with_reducible rfl)
                  try simp only [Act.put, List.setIfInBounds_toArray, List.set_cons_zero, List.set_cons_succ, List.getElem_toArray, List.getElem_cons_zero, List.getElem_cons_succ]
                  refine wpAnyH_take (i := 8) (v := ?vg8) rfl (by kernel_rfl) (by kernel_rfl) (by kernel_rfl) (fun _ _ _ h => h) (Or.inl ⟨by rfl, ?yg8⟩) (by assumption) ?rg8
                  case yg8 => (intro w hSw; (try dsimp only at hSw); go_simp; try with_reducible rfl)
                  try simp only [Act.put, List.setIfInBounds_toArray, List.set_cons_zero, List.set_cons_succ, List.getElem_toArray, List.getElem_cons_zero, List.getElem_cons_succ]
                  refine wpAnyH_take (i := 9) (v := ?vg9) rfl (by kernel_rfl) (by kernel_rfl) (by kernel_rfl) (fun _ _ _ h => h) (Or.inl ⟨by rfl, ?yg9⟩) (by assumption) ?rg9
                  case yg9 => (intro w hSw; (try dsimp only at hSw); go_simp; try with_reducible rfl)
                  try simp only [Act.put, List.setIfInBounds_toArray, List.set_cons_zero, List.set_cons_succ, List.getElem_toArray, List.getElem_cons_zero, List.getElem_cons_succ]
                  refine wpAnyH_ready (rs := [10]) (by kernel_rfl) (by simp) ?_
                  refine AllReadyH.cons rfl (fun K hK => ?_) AllReadyH.nil
                  go_simp
                  go_at_call 60
                  refine (refLess_any m t m' t' _).mono ?_
                  rintro e w5 ⟨rfl, hb5⟩
                  have g1 := And.intro (keepK2 hb5 g0.1) (keepK2 hb5 g0.2)
                  go_wp2_with fail
                  refine hK.out _ _ (g1) (fun hHeld => ?_)
                  clear hK K
                  try simp only [Act.put, List.setIfInBounds_toArray, List.set_cons_zero, List.set_cons_succ, List.getElem_toArray, List.getElem_cons_zero, List.getElem_cons_succ]
                  refine wpAnyH_take (i := 11) (v := ?vg11) rfl (by kernel_rfl) (by kernel_rfl) (by kernel_rfl) (fun _ _ _ h => h) (Or.inl ⟨by rfl, ?yg11⟩) (by assumption) ?rg11
                  case yg11 => (intro w hSw; (try dsimp only at hSw); go_simp; try with_reducible rfl)
                  try simp only [Act.put, List.setIfInBounds_toArray, List.set_cons_zero, List.set_cons_succ, List.getElem_toArray, List.getElem_cons_zero, List.getElem_cons_succ]
                  refine wpAnyH_done (by kernel_rfl) ?_ _
                  go_wp2
                  go_meet
                  exact ⟨by rw [HNW.out, HLESS.out]; rfl, ((Below.refl _ w4).drew).trans hb5⟩
              case rest =>
                obtain ⟨rfl, hby⟩ := hcut
                obtain ⟨w6, hw6⟩ : ∃ w6, w6 = wc := ⟨_, rfl⟩
                subst hw6
                have HB6 := Lib.hid (bstep HB4.out hby)
                have HV6 := Lib.hid (HV4.out.keep hby)
                have HO6 := Lib.hid (HO4.out.below hby)
                have hlw6 : w.heap.size + 1 ≤ w6.heap.size := by have := hby.size; omega
                have hlb : w.heap.size < w6.heap.size := by omega
                clear hby g0 HB4 HV4 HO4 hlw4 hlw
                cases pb with
                | true =>
                  have HE2 := Lib.hid (HOA.out rfl)
                  have hp2 : pb2 = true := by rw [HTA.out]; rfl
                  have hnw : nw = false := HNW.out
                  subst hp2 hnw
                  have hy := HQ.out w6 HB6.out
                  obtain ⟨y0, y1, y2, y3, y4, y5⟩ := id hy
                  dsimp only [pw] at y0 y1 y2 y3 y4 y5
                  clear hy
                  go_wp2_with (at_builtin; refine wp_pushR kw_ok (wr := w6) rfl _ _ rfl (w.heap.size + 1) (.slice sa Lk.length sc) Lk (⟨key', val', gone', (m', t'), past'⟩, pa', pc') #[.string key', .string val', .bool gone', .int .i64 m', .int .i64 t', .slice pa' past'.length pc'] rfl rfl HO6.out rfl (by omega) hlw6 ?_; intro g3 cap3 w8 ho8 hb8 hk8 hat8 hlt8)
                  go_roundw
                  case rel => exact ⟨k + 1, by omega, by go_num, by rw [HPB2.out], by rw [HL2.out, HE2.out]; simpa using ho8, HN2.out, HV6.out.block (hk8 _ hlb (HO6.out.lo (by omega))), by have := hb8.size; omega, HB6.out.trans (hb8.mono (show w.heap.size ≤ w.heap.size + 1 by omega))⟩
                  case measure => simp [intOf]; omega
                | false =>
                  cases g with
                  | false =>
                    have HE2 := Lib.hid (HOT.out rfl rfl)
                    have hp2 : pb2 = false := by rw [HTA.out]; rfl
                    have hnw : nw = false := HNW.out
                    subst hp2 hnw
                    have hy := HQ.out w6 HB6.out
                    obtain ⟨y0, y1, y2, y3, y4, y5⟩ := id hy
                    dsimp only [pw] at y0 y1 y2 y3 y4 y5
                    clear hy
                    go_wp2_with (at_builtin; refine wp_pushR kw_ok (wr := w6) rfl _ _ rfl (w.heap.size + 1) (.slice sa Lk.length sc) Lk (⟨key', val', gone', (m', t'), past'⟩, pa', pc') #[.string key', .string val', .bool gone', .int .i64 m', .int .i64 t', .slice pa' past'.length pc'] rfl rfl HO6.out rfl (by omega) hlw6 ?_; intro g3 cap3 w8 ho8 hb8 hk8 hat8 hlt8)
                    go_roundw
                    case rel => exact ⟨k + 1, by omega, by go_num, by rw [HPB2.out], by rw [HL2.out, HE2.out]; simpa using ho8, HN2.out, HV6.out.block (hk8 _ hlb (HO6.out.lo (by omega))), by have := hb8.size; omega, HB6.out.trans (hb8.mono (show w.heap.size ≤ w.heap.size + 1 by omega))⟩
                    case measure => simp [intOf]; omega
                  | true =>
                    have HE2 := Lib.hid (HON.out rfl rfl)
                    have hp2 : pb2 = true := by rw [HTA.out]; rfl
                    have hnw : nw = true := HNW.out
                    subst hp2 hnw
                    obtain ⟨x0, x1, x2, x3, x4, x5, _⟩ := id HV6.out
                    dsimp only at x0 x1 x2 x3 x4 x5
                    go_upto_region 14 with (at_builtin; refine wp_pushR kw_ok (wr := w6) rfl _ _ rfl (w.heap.size + 1) (.slice sa Lk.length sc) Lk (⟨key, val, gone, (m, t), past⟩, pa, pc) #[.string key, .string val, .bool gone, .int .i64 m, .int .i64 t, .slice pa past.length pc] rfl rfl HO6.out rfl (by omega) hlw6 ?_; intro g2 cap2 w7 ho7 hb7 hk7 hat7 hlt7)
                    have hv7 := HV6.out.block (hk7 _ hlb (HO6.out.lo (by omega)))
                    have hB7 := HB6.out.trans (hb7.mono (show w.heap.size ≤ w.heap.size + 1 by omega))
                    have hlw7 : w.heap.size + 1 ≤ w7.heap.size := by have := hb7.size; omega
                    have hlb7 : w.heap.size < w7.heap.size := by omega
                    have hLk2 : (Lk ++ [((⟨key, val, gone, (m, t), past⟩, pa, pc) : Vw)]).length = Lk.length + 1 := by simp
                    have HO7 : Hid (OwnR KW w7 (w.heap.size + 1) (.slice (some ⟨g2, 0, none⟩) (Lk.length + 1) cap2) (Lk ++ [(⟨key, val, gone, (m, t), past⟩, pa, pc)])) := Lib.hid ho7
                    have HV7 := Lib.hid hv7
                    have HB7 := Lib.hid hB7
                    clear x0 x1 x2 x3 x4 x5 ho7 hb7 hk7 hat7 hlt7 hv7 hB7 HO6 HV6 HB6
                    have hy := HQ.out w7 HB7.out
                    obtain ⟨y0, y1, y2, y3, y4, y5⟩ := id hy
                    dsimp only [pw] at y0 y1 y2 y3 y4 y5
                    clear hy
                    have HO8 : Hid (OwnR KW w7 (w.heap.size + 1) (.slice (some ⟨g2, 0, none⟩) (Lk ++ [((⟨key, val, gone, (m, t), past⟩, pa, pc) : Vw)]).length cap2) (Lk ++ [(⟨key, val, gone, (m, t), past⟩, pa, pc)])) := Lib.hid (by rw [hLk2]; exact HO7.out)
                    clear HO7
                    generalize hL3 : Lk ++ [((⟨key, val, gone, (m, t), past⟩, pa, pc) : Vw)] = L3 at HO8 HE2 hLk2
                    rw [← hLk2]
                    have hL3l : L3.length ≤ 1000000 := by omega
                    clear hLk2 hL3 hlb
                    go_wp2_with (at_builtin; refine wp_pushR kw_ok (wr := w7) rfl _ _ rfl (w.heap.size + 1) (.slice (some ⟨g2, 0, none⟩) L3.length cap2) L3 (⟨key', val', gone', (m', t'), past'⟩, pa', pc') #[.string key', .string val', .bool gone', .int .i64 m', .int .i64 t', .slice pa' past'.length pc'] rfl rfl HO8.out rfl hL3l hlw7 ?_; intro g3 cap3 w8 ho8 hb8 hk8 hat8 hlt8)
                    go_roundw
                    case rel => exact ⟨k + 1, by omega, by go_num, by rw [HPB2.out], by rw [HL2.out, HE2.out]; simpa using ho8, HN2.out, HV7.out.block (hk8 _ hlb7 (HO8.out.lo (by omega))), by have := hb8.size; omega, HB7.out.trans (hb8.mono (show w.heap.size ≤ w.heap.size + 1 by omega))⟩
                    case measure => simp [intOf]; omega
        · obtain rfl : k = xs.length := by omega
          have HTL : Hid (xs.take xs.length = xs) := Lib.hid (List.take_length)
          have hno : xs.any (isS (m, t)) = false := by
            rw [List.any_eq_false]
            intro z hz
            obtain ⟨j, hj, rfl⟩ := List.getElem_of_mem hz
            rw [HNO.out j hj hj]
            simp
          have hok : ok = true := by rw [HOK.out, hno]; rfl
          have hpc : pc1 = insB (⟨key, val, gone, (m, t), past⟩, pa, pc) xs := by rw [HPC.out, hok]; rfl
          subst hok hpc
          rw [HTL.out] at HO HLL ⊢
          have HEND := Lib.hid (outR_end (x := (⟨key, val, gone, (m, t), past⟩, pa, pc)) (l := xs))
          have HMEM := Lib.hid (fun z (hz : z ∈ insB (⟨key, val, gone, (m, t), past⟩, pa, pc) xs) => insB_mem hz)
          obtain ⟨Lz, hLz⟩ : ∃ Lz, insB (⟨key, val, gone, (m, t), past⟩, pa, pc) xs = Lz := ⟨_, rfl⟩
          have HLZ := Lib.hid hLz
          rw [hLz] at HEND HMEM
          clear hLz
          generalize outR (⟨key, val, gone, (m, t), past⟩, pa, pc) xs = Lk at HO HLL HEND ⊢
          generalize xs.any (gtW (⟨key, val, gone, (m, t), past⟩, pa, pc)) = pb at HEND ⊢
          have hLk := HLL.out
          have hfin : ∀ W v', Below w.heap.size w W → OwnR KW W (w.heap.size + 1) v' Lz → WRow W v' Lz := fun W v' h1 h2 => WRow.of_own h2 (fun z hz => by
            rcases HMEM.out z hz with rfl | h3
            · exact HVB.out W h1
            · exact (HR.out.below h1).2 z h3)
          have HFIN := Lib.hid hfin
          clear hno hfin HPC HOK
          cases pb with
          | true =>
            have hz : Lz = Lk := HEND.out
            subst hz
            go_wp2
            go_ret2
            exact ⟨_, rfl, .inl (by rw [HLZ.out]; exact HO.out), by rw [HLZ.out]; exact HFIN.out _ _ HB.out HO.out, HB.out⟩
          | false =>
            have hz : Lz = Lk ++ [(⟨key, val, gone, (m, t), past⟩, pa, pc)] := HEND.out
            have HZ := Lib.hid hz
            clear hz
            obtain ⟨x0, x1, x2, x3, x4, x5, _⟩ := id HVR.out
            dsimp only at x0 x1 x2 x3 x4 x5
            go_wp2_with (at_builtin; refine wp_pushR kw_ok (wr := wr) rfl _ _ rfl (w.heap.size + 1) (.slice sa Lk.length sc) Lk (⟨key, val, gone, (m, t), past⟩, pa, pc) #[.string key, .string val, .bool gone, .int .i64 m, .int .i64 t, .slice pa past.length pc] rfl rfl HO.out rfl (by omega) hlw ?_; intro g2 cap2 w7 ho7 hb7 hk7 hat7 hlt7)
            go_ret2
            have hB7 := HB.out.trans (hb7.mono (show w.heap.size ≤ w.heap.size + 1 by omega))
            exact ⟨_, rfl, .inl (by rw [HLZ.out, HZ.out]; exact ho7), by rw [HLZ.out]; exact HFIN.out _ _ hB7 (by rw [HZ.out]; exact ho7), hB7⟩

theorem rput_any (v : Value) (xs : List Vw) (x : Vw) (w : World) (hl : xs.length ≤ 100000) (hr : WRow w v xs) (hx : VwB w x) :
    Calls Tryz.prog 43 #[v, wV x] w fun e w' => ∃ v', e = .returned (.tuple #[v', .bool (putOkR xs x)]) ∧ WRow w' v' (putR xs x) ∧ Below w.heap.size w w' :=
  (rputN_any v xs x w hl hr hx).mono fun e w' ⟨v', h1, _, h2, h3⟩ => ⟨v', h1, h2, h3⟩
end Go.Proofs.YtjfmgplhcinkfaaGreat
