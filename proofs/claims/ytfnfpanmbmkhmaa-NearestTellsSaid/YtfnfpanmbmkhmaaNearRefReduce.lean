/- What the document's Reduce answers. -/
import Derived.Test.YtfnfpanmbmkhmaaGN517
namespace Go.Proofs.Ytfnfpanmbmkhmaa
open Go.RowKit Go.Maps
set_option linter.unusedVariables false
set_option linter.unusedSimpArgs false

/-- Is the one at place i told of by another one ahead of place k? -/
def ToldI (ds : List De) (l : List Ve) (i k : Nat) (t : Bool) : Prop := t = true ↔ ∃ j, ∃ h : j < ds.length, ∃ h' : i < ds.length, j < k ∧ j ≠ i ∧ impB l ds[j] ds[i] = true
theorem ToldI.step {ds : List De} {l : List Ve} {i k : Nat} {t : Bool} (hi : i < ds.length) (hk : k < ds.length) (h : ToldI ds l i k t) (r : Bool) (h1 : k ≠ i ∧ impB l ds[k] ds[i] = true → r = true) (h2 : r = true → k ≠ i ∧ impB l ds[k] ds[i] = true) : ToldI ds l i (k + 1) (t || r) := by
  unfold ToldI at h ⊢
  rw [Bool.or_eq_true, h]
  constructor
  · rintro (⟨j, hj, h', h3, h4, h5⟩ | h3)
    · exact ⟨j, hj, h', by omega, h4, h5⟩
    · exact ⟨k, hk, hi, by omega, (h2 h3).1, (h2 h3).2⟩
  · rintro ⟨j, hj, h', h3, h4, h5⟩
    by_cases e : j = k
    · subst e
      exact .inr (h1 ⟨h4, h5⟩)
    · exact .inl ⟨j, hj, h', by omega, h4, h5⟩
theorem ToldI.all {ds : List De} {l : List Ve} {i : Nat} {t : Bool} (hi : i < ds.length) (hnd : ds.Nodup) (h : ToldI ds l i ds.length t) : t = (ds.any fun x => decide (x ≠ ds[i]) && impB l x ds[i]) := by
  unfold ToldI at h
  rw [Bool.eq_iff_iff, h, List.any_eq_true]
  constructor
  · rintro ⟨j, hj, h', _, h4, h5⟩
    refine ⟨ds[j], List.getElem_mem hj, ?_⟩
    rw [Bool.and_eq_true, decide_eq_true_eq]
    refine ⟨fun e => h4 ?_, h5⟩
    rcases Nat.lt_trichotomy j i with q | q | q
    · exact absurd e (List.pairwise_iff_getElem.1 hnd j i hj hi q)
    · exact q
    · exact absurd e.symm (List.pairwise_iff_getElem.1 hnd i j hi hj q)
  · rintro ⟨x, hx, h5⟩
    obtain ⟨j, hj, rfl⟩ := List.getElem_of_mem hx
    rw [Bool.and_eq_true, decide_eq_true_eq] at h5
    exact ⟨j, hj, hi, hj, fun e => h5.1 (by subst e; rfl), h5.2⟩
def keepL (ds : List De) (l : List Ve) (y : De) : Bool := !(ds.any fun x => decide (x ≠ y) && impB l x y)

set_option maxRecDepth 100000 in
set_option maxHeartbeats 12800000 in
theorem refReduce5_any (v1 v2 : Value) (ds : List De) (xs : List Vp) (w : World) (hl : ds.length ≤ 50) (hs : Srt ds) (hx : xs.length ≤ 1000) (hok : ∀ x ∈ xs, VOk x.1) (h1 : DepAt w v1 ds) (h2 : VRow w v2 xs) :
    Calls Try.prog 15 #[v1, v2] w fun e w' => ∃ u, e = .returned u ∧ OwnD w' w.heap.size u (redL ds (xs.map Prod.fst)) ∧ Below w.heap.size w w' := by
  have HV1 := Lib.hid h1
  have HV2 := Lib.hid h2
  have HOK := Lib.hid hok
  have HND := Lib.hid (srt_nodup hs)
  obtain ⟨a1, c1, rfl, _, _, _, _⟩ := h1
  obtain ⟨a2, c2, rfl, _, _⟩ := h2.shape
  have e0 : redL ds (xs.map Prod.fst) = ds.filter (keepL ds (xs.map Prod.fst)) := rfl
  rw [e0]
  clear h2 hok hs e0
  go_enter Try.func15, Try.ntmps15
  go_wp2
  go_loopw [5, 6] (fun o i wr => ∃ k : Nat, k ≤ ds.length ∧ i = .int .i64 k ∧ OwnD wr w.heap.size o ((ds.take k).filter (keepL ds (xs.map Prod.fst))) ∧ Below w.heap.size w wr) (fun _ i _ => ds.length - (intOf i).toNat)
  case atStart => exact ⟨0, by omega, rfl, OwnD.nil _ _, Below.refl _ _⟩
  case round =>
    obtain ⟨i, hk, rfl, ho, hbel⟩ := hrel
    have hol : ((ds.take i).filter (keepL ds (xs.map Prod.fst))).length ≤ 50 := by
      have h1 := List.length_filter_le (keepL ds (xs.map Prod.fst)) (ds.take i)
      have h2 := List.length_take_le i ds
      omega
    generalize hacc : (ds.take i).filter (keepL ds (xs.map Prod.fst)) = acc at ho hol
    have HACC := Lib.hid hacc
    have HO := Lib.hid ho
    obtain ⟨sa, sc, rfl⟩ := ho.shape
    have hbs := hbel.size
    clear ho hacc
    by_cases hlt : i < ds.length
    · obtain ⟨a', c', e', _, _, _, hdi⟩ := HV1.out.below hbel
      cases e'
      obtain ⟨b', off', rfl, hbl', d0, d1, d2⟩ := hdi i hlt
      clear d0 d1 d2 hdi
      obtain ⟨w0, hw0⟩ : ∃ w0, w0 = wr := ⟨_, rfl⟩
      subst hw0
      have HBEL := Lib.hid hbel
      clear hbel
      have HTK : Hid ((ds.take (i + 1)).filter (keepL ds (xs.map Prod.fst)) = acc ++ if keepL ds (xs.map Prod.fst) ds[i] then [ds[i]] else []) := Lib.hid (by
        rw [List.take_succ_eq_append_getElem hlt, List.filter_append, HACC.out]
        congr 1
        cases h : keepL ds (xs.map Prod.fst) ds[i] <;> simp [h])
      have HALL := Lib.hid (fun t (h : ToldI ds (xs.map Prod.fst) i ds.length t) => h.all hlt HND.out)
      have HST := Lib.hid (fun (k : Nat) (t : Bool) (hk : k < ds.length) (h : ToldI ds (xs.map Prod.fst) i k t) => h.step hlt hk)
      obtain ⟨di, hdi⟩ : ∃ di, ds[i] = di := ⟨_, rfl⟩
      rw [hdi] at HTK HALL HST
      have HDI := Lib.hid hdi
      clear hdi
      obtain ⟨x, y, z⟩ := di
      have hii : (i : Int) < (ds.length : Int) := by omega
      have hii0 : (0 : Int) ≤ (i : Int) := by omega
      go_wp2
      go_loopw [7, 8] (fun t j wr => ∃ (k : Nat) (td : Bool), k ≤ ds.length ∧ j = .int .i64 k ∧ t = .bool td ∧ ToldI ds (xs.map Prod.fst) i k td ∧ Below w0.heap.size w0 wr) (fun _ j _ => ds.length - (intOf j).toNat)
      case atStart => exact ⟨0, false, by omega, rfl, rfl, by unfold ToldI; simp, Below.refl _ _⟩
      case round =>
        obtain ⟨k, td, hk2, rfl, rfl, htd, hbel⟩ := hrel
        have HTD0 := Lib.hid htd
        clear htd
        by_cases hkl : k < ds.length
        · obtain ⟨a', c', e', _, _, _, hdi⟩ := (HV1.out.below HBEL.out).below hbel
          cases e'
          obtain ⟨b8, off8, e8, hbl8, d0, d1, d2⟩ := hdi k hkl
          cases e8
          obtain ⟨b8, off8, e8, _, k0, k1, k2⟩ := hdi i hlt
          cases e8
          have HIMP : Hid (∀ t : Bool, (impB (xs.map Prod.fst) ds[k] ds[i] = true ↔ ((fndP xs ds[k]).isSome = true ∧ (!Sm.less (gtD ((fndP xs ds[k]).getD vz).1.past x) (y, z)) = true))) := Lib.hid (fun _ => by
            unfold impB
            rw [Bool.and_eq_true, ← fndP_isSome, ← fndP_past, HDI.out])
          have HSTEP := Lib.hid (fun r h1 h2 => HST.out k td hkl HTD0.out r h1 h2)
          rw [HDI.out] at k0 k1 k2
          dsimp only at k0 k1 k2
          rw [HDI.out] at HIMP
          clear hdi HST
          generalize ds[k] = d at d0 d1 d2 HIMP HSTEP
          obtain ⟨dx, dy, dz⟩ := d
          dsimp only at d0 d1 d2
          have HPL := Lib.hid (fpast_len HOK.out (dx, dy, dz))
          have hC := fun W hW => refFind5_any (.slice a2 xs.length c2) xs dx dy dz W (by omega) hW
          have hD := fun (W : World) (hW : Below w.heap.size w W) => (HV2.out.below hW).fpast (dx, dy, dz)
          have hG := fun W hW => refPGet_any (pu ((fndP xs (dx, dy, dz)).getD vz)) ((fndP xs (dx, dy, dz)).getD vz).1.past x W (by have := HPL.out; omega) hW
          generalize (fndP xs (dx, dy, dz)).isSome = b1 at hC HIMP
          generalize (fndP xs (dx, dy, dz)).getD vz = r at hC hD hG HIMP
          have HD := Lib.hid hD
          generalize gtD r.1.past x = gg at hG HIMP
          obtain ⟨g0, g1⟩ := gg
          have HSTEP : Hid (∀ (r : Bool), (k ≠ i ∧ b1 = true ∧ (!Sm.less (g0, g1) (y, z)) = true → r = true) → (r = true → k ≠ i ∧ b1 = true ∧ (!Sm.less (g0, g1) (y, z)) = true) → ToldI ds (xs.map Prod.fst) i (k + 1) (td || r)) := Lib.hid (fun r h1 h2 => HSTEP.out r (fun h => h1 ⟨h.1, (HIMP.out true).1 h.2⟩) (fun h => ⟨(h2 h).1, (HIMP.out true).2 (h2 h).2⟩))
          clear hD HPL HIMP
          obtain ⟨⟨key, val, gone, ⟨n1, s1⟩, past⟩, pa, pc⟩ := r
          dsimp only [vv, vcs, pu, sv] at hC hG HD
          have HG := Lib.hid hG
          clear hG
          go_wp2_with fail
          refine (hC _ ((HV2.out.below HBEL.out).below hbel)).mono ?_
          rintro e w1 ⟨rfl, hb1⟩
          have HBA : Hid (Below w0.heap.size w0 (w1.alloc (.cells #[.string key, .string val, .bool gone, .int .i64 n1, .int .i64 s1, .slice pa past.length pc] 34))) := Lib.hid (balloc (bstep hbel hb1) _)
          have HDP := Lib.hid (HD.out _ (HBEL.out.trans (HBA.out.mono hbs)))
          have hG := HG.out
          have g0s : (w1.alloc (.cells #[.string key, .string val, .bool gone, .int .i64 n1, .int .i64 s1, .slice pa past.length pc] 34)).cell? ⟨w1.heap.size, 5, none⟩ = some (.slice pa past.length pc) ∧ (w1.alloc (.cells #[.string key, .string val, .bool gone, .int .i64 n1, .int .i64 s1, .slice pa past.length pc] 34)).cell? ⟨b', off' + i * 3, none⟩ = some (.string x) := ⟨by simp, kc (balloc (Below.refl _ w1) _) (kc hb1 k0)⟩
          clear hb1 hC HD k0 k1 k2 d0 d1 d2 HG
          go_wp2_with fail
          refine wp_region_held_drew (S := fun w' => w'.cell? ⟨w1.heap.size, 5, none⟩ = some (.slice pa past.length pc) ∧ w'.cell? ⟨b', off' + i * 3, none⟩ = some (.string x)) (by kernel_rfl) (g0s) (fun hHeld => ?_)
          refine wpAnyH_take (i := 0) (v := ?vk1) rfl (by kernel_rfl) (by kernel_rfl) (by kernel_rfl) (fun _ _ _ h => h) (Or.inl ⟨by rfl, ?yk1⟩) (by assumption) ?rk1
          case yk1 => (intro w hSw; (try dsimp only at hSw); go_simp; try with_reducible rfl)
          try simp only [Act.put, List.setIfInBounds_toArray, List.set_cons_zero, List.set_cons_succ, List.getElem_toArray, List.getElem_cons_zero, List.getElem_cons_succ]
          refine wpAnyH_take (i := 1) (v := ?vk2) rfl (by kernel_rfl) (by kernel_rfl) (by kernel_rfl) (fun _ _ _ h => h) (Or.inl ⟨by rfl, ?yk2⟩) (by assumption) ?rk2
          case yk2 => (intro w hSw; (try dsimp only at hSw); go_simp; try with_reducible rfl)
          try simp only [Act.put, List.setIfInBounds_toArray, List.set_cons_zero, List.set_cons_succ, List.getElem_toArray, List.getElem_cons_zero, List.getElem_cons_succ]
          refine wpAnyH_take (i := 2) (v := ?vk3) rfl (by kernel_rfl) (by kernel_rfl) (by kernel_rfl) (fun _ _ _ h => h) (Or.inl ⟨by rfl, ?yk3⟩) (by assumption) ?rk3
          case yk3 => (intro w hSw; (try dsimp only at hSw); go_simp; try with_reducible rfl)
          try simp only [Act.put, List.setIfInBounds_toArray, List.set_cons_zero, List.set_cons_succ, List.getElem_toArray, List.getElem_cons_zero, List.getElem_cons_succ]
          refine wpAnyH_take (i := 3) (v := ?vk4) rfl (by kernel_rfl) (by kernel_rfl) (by kernel_rfl) (fun _ _ _ h => h) (Or.inl ⟨by rfl, ?yk4⟩) (by assumption) ?rk4
          case yk4 => (intro w hSw; (try dsimp only at hSw); go_simp; try with_reducible rfl)
          try simp only [Act.put, List.setIfInBounds_toArray, List.set_cons_zero, List.set_cons_succ, List.getElem_toArray, List.getElem_cons_zero, List.getElem_cons_succ]
          refine wpAnyH_take (i := 4) (v := ?vk5) rfl (by kernel_rfl) (by kernel_rfl) (by kernel_rfl) (fun _ _ _ h => h) (Or.inl ⟨by rfl, ?yk5⟩) (by assumption) ?rk5
          case yk5 => (intro w hSw; (try dsimp only at hSw); go_simp; try with_reducible rfl)
          try simp only [Act.put, List.setIfInBounds_toArray, List.set_cons_zero, List.set_cons_succ, List.getElem_toArray, List.getElem_cons_zero, List.getElem_cons_succ]
          refine wpAnyH_take (i := 5) (v := ?vk6) rfl (by kernel_rfl) (by kernel_rfl) (by kernel_rfl) (fun _ _ _ h => h) (Or.inl ⟨by rfl, ?yk6⟩) (by assumption) ?rk6
          case yk6 => (intro w hSw; (try dsimp only at hSw); go_simp; try with_reducible rfl)
          try simp only [Act.put, List.setIfInBounds_toArray, List.set_cons_zero, List.set_cons_succ, List.getElem_toArray, List.getElem_cons_zero, List.getElem_cons_succ]
          refine wpAnyH_take (i := 6) (v := ?vk7) rfl (by kernel_rfl) (by kernel_rfl) (by kernel_rfl) (fun _ _ _ h => h) (Or.inl ⟨by rfl, ?yk7⟩) (by assumption) ?rk7
          case yk7 => (intro w hSw; (try dsimp only at hSw); go_simp; try with_reducible rfl)
          try simp only [Act.put, List.setIfInBounds_toArray, List.set_cons_zero, List.set_cons_succ, List.getElem_toArray, List.getElem_cons_zero, List.getElem_cons_succ]
          refine wpAnyH_ready (rs := [7, 8]) (by kernel_rfl) (by simp) ?_
          refine AllReadyH.cons rfl (fun K hK => ?_) (AllReadyH.cons rfl (fun K hK => ?_) AllReadyH.nil)
          · go_simp
            go_at_call 24
            refine (hG (w1.alloc (.cells #[.string key, .string val, .bool gone, .int .i64 n1, .int .i64 s1, .slice pa past.length pc] 34)).drew (HDP.out.below ((Below.refl _ _).drew))).mono ?_
            rintro e wa ⟨rfl, ha⟩
            have g1s := And.intro (kc ha g0s.1) (kc ha g0s.2)
            go_wp2_with fail
            refine hK.out _ _ (g1s) (fun hHeld => ?_)
            clear hK K
            try simp only [Act.put, List.setIfInBounds_toArray, List.set_cons_zero, List.set_cons_succ, List.getElem_toArray, List.getElem_cons_zero, List.getElem_cons_succ]
            have g2s := And.intro (kc (balloc (Below.refl _ wa) (.cells #[.int .i64 0, .int .i64 0] 24)) g1s.1) (kc (balloc (Below.refl _ wa) (.cells #[.int .i64 0, .int .i64 0] 24)) g1s.2)
            have hne1 : w1.heap.size ≠ wa.heap.size := by have := lt_of_cellN g1s.1; omega
            have hne2 : b' ≠ wa.heap.size := by have := lt_of_cellN g1s.2; omega
            refine wpAnyH_ready (rs := [8]) (by kernel_rfl) (by simp) ?_
            refine AllReadyH.cons rfl (fun K hK => ?_) AllReadyH.nil
            go_simp
            refine hK.out _ _ (g2s) (fun hHeld => ?_)
            clear hK K
            try simp only [Act.put, List.setIfInBounds_toArray, List.set_cons_zero, List.set_cons_succ, List.getElem_toArray, List.getElem_cons_zero, List.getElem_cons_succ]
            refine wpAnyH_ready (rs := [9]) (by kernel_rfl) (by simp) ?_
            refine AllReadyH.cons rfl (fun K hK => ?_) AllReadyH.nil
            go_simp
            refine hK.out _ _ (And.intro (kc (balloc (Below.refl _ wa) (.cells #[.int .i64 g0, .int .i64 g1] 24)) g1s.1) (kc (balloc (Below.refl _ wa) (.cells #[.int .i64 g0, .int .i64 g1] 24)) g1s.2)) (fun hHeld => ?_)
            clear hK K
            try simp only [Act.put, List.setIfInBounds_toArray, List.set_cons_zero, List.set_cons_succ, List.getElem_toArray, List.getElem_cons_zero, List.getElem_cons_succ]
            refine wpAnyH_done (by kernel_rfl) ?_ _
            have HBW : Hid (Below w0.heap.size w0 (wa.alloc (.cells #[.int .i64 g0, .int .i64 g1] 24))) := Lib.hid (balloc (bstep HBA.out (bstep ((Below.refl _ _).drew) ha)) _)
            have HS2 : Hid ((wa.alloc (.cells #[.int .i64 g0, .int .i64 g1] 24)).cell? ⟨wa.heap.size, 0, none⟩ = some (.int .i64 g0) ∧ (wa.alloc (.cells #[.int .i64 g0, .int .i64 g1] 24)).cell? ⟨wa.heap.size, 1, none⟩ = some (.int .i64 g1)) := Lib.hid ⟨by simp, by simp⟩
            clear g1s g2s hne1 hne2 hHeld ha g0s
            have HP := Lib.hid ((HV1.out.below HBEL.out).below HBW.out)
            obtain ⟨a9, c9, e9, _, _, _, hd9⟩ := HP.out
            cases e9
            obtain ⟨b9, off9, e9, _, k0, k1, k2⟩ := hd9 i hlt
            cases e9
            rw [HDI.out] at k0 k1 k2
            dsimp only at k0 k1 k2
            obtain ⟨q0, q1⟩ := HS2.out
            clear hd9
            by_cases hki : k = i
            · have hkd : decide ((k : Int) = (i : Int)) = true := by simp [hki]
              have hkb : ((k : Int) == (i : Int)) = true := by simp [hki]
              have hkn : ((k : Int) != (i : Int)) = false := by simp [hki]
              have hke : (k : Int) = (i : Int) := by omega
              have HTD := Lib.hid (HSTEP.out false (fun h => absurd hki h.1) (fun h => by cases h))
              go_wp2_with fail
              go_quiet (fail)
              go_wp2
              go_roundw
              case rel => exact ⟨k + 1, td, by omega, by go_num, rfl, by simpa using HTD.out, bstep HBW.out (bdrewN _ _)⟩
              case measure => simp [intOf]; omega
            · have hkd : decide ((k : Int) = (i : Int)) = false := by simp; omega
              have hkb : ((k : Int) == (i : Int)) = false := by simp; omega
              have hkn : ((k : Int) != (i : Int)) = true := by simp; omega
              have hke : ¬ (k : Int) = (i : Int) := by omega
              cases b1 with
              | false =>
                have HTD := Lib.hid (HSTEP.out false (fun h => by cases h.2.1) (fun h => by cases h))
                go_wp2_with fail
                go_quiet (fail)
                go_wp2
                go_roundw
                case rel => exact ⟨k + 1, td, by omega, by go_num, rfl, by simpa using HTD.out, bstep HBW.out (bdrewN _ _)⟩
                case measure => simp [intOf]; omega
              | true =>
                have hLs := fun W' => refLess_any g0 g1 y z W'
                have HTD := Lib.hid (HSTEP.out (!Sm.less (g0, g1) (y, z)) (fun h => h.2.2) (fun h => ⟨hki, rfl, h⟩))
                generalize Sm.less (g0, g1) (y, z) = ls at hLs HTD
                have g9 : (wa.alloc (.cells #[.int .i64 g0, .int .i64 g1] 24)).cell? ⟨wa.heap.size, 0, none⟩ = some (.int .i64 g0) ∧ (wa.alloc (.cells #[.int .i64 g0, .int .i64 g1] 24)).cell? ⟨wa.heap.size, 1, none⟩ = some (.int .i64 g1) ∧ (wa.alloc (.cells #[.int .i64 g0, .int .i64 g1] 24)).cell? ⟨b', off' + i * 3 + 1, none⟩ = some (.int .i64 y) ∧ (wa.alloc (.cells #[.int .i64 g0, .int .i64 g1] 24)).cell? ⟨b', off' + i * 3 + 2, none⟩ = some (.int .i64 z) := ⟨q0, q1, k1, k2⟩
                clear q0 q1 k0 k1 k2
                go_wp2_with fail
                go_region_held3 (fun w' => w'.cell? ⟨wa.heap.size, 0, none⟩ = some (.int .i64 g0) ∧ w'.cell? ⟨wa.heap.size, 1, none⟩ = some (.int .i64 g1) ∧ w'.cell? ⟨b', off' + i * 3 + 1, none⟩ = some (.int .i64 y) ∧ w'.cell? ⟨b', off' + i * 3 + 2, none⟩ = some (.int .i64 z))
                  (first | exact g9 | exact g10)
                  (first
                    | (go_at_call 25; ((refine (hLs _).mono ?_); rintro e w9 ⟨rfl, h9⟩; have g10 := keep22 h9 g9)))
                have hb9 := bstep HBW.out (bstep ((Below.refl _ _).drew) h9)
                cases ls with
                | true =>
                  go_wp2
                  go_roundw
                  case rel => exact ⟨k + 1, td, by omega, by go_num, rfl, by simpa using HTD.out, hb9⟩
                  case measure => simp [intOf]; omega
                | false =>
                  go_wp2
                  go_roundw
                  case rel => exact ⟨k + 1, true, by omega, by go_num, rfl, by simpa using HTD.out, hb9⟩
                  case measure => simp [intOf]; omega
          · go_simp
            have hzB : (w1.alloc (.cells #[.string key, .string val, .bool gone, .int .i64 n1, .int .i64 s1, .slice pa past.length pc] 34)).drew.heap.size = w1.heap.size + 1 := by simp
            have hbZ : Below (w1.alloc (.cells #[.string key, .string val, .bool gone, .int .i64 n1, .int .i64 s1, .slice pa past.length pc] 34)).heap.size (w1.alloc (.cells #[.string key, .string val, .bool gone, .int .i64 n1, .int .i64 s1, .slice pa past.length pc] 34)) (((w1.alloc (.cells #[.string key, .string val, .bool gone, .int .i64 n1, .int .i64 s1, .slice pa past.length pc] 34)).alloc (.cells #[.int .i64 0, .int .i64 0] 24)).drew) := ((balloc (Below.refl _ _) _).drew)
            have gz := And.intro (kc hbZ g0s.1) (kc hbZ g0s.2)
            refine hK.out _ _ (gz) (fun hHeld => ?_)
            clear hK K
            try simp only [Act.put, List.setIfInBounds_toArray, List.set_cons_zero, List.set_cons_succ, List.getElem_toArray, List.getElem_cons_zero, List.getElem_cons_succ]
            refine wpAnyH_ready (rs := [7]) (by kernel_rfl) (by simp) ?_
            refine AllReadyH.cons rfl (fun K hK => ?_) AllReadyH.nil
            go_simp
            go_at_call 24
            refine (hG _ (HDP.out.below hbZ)).mono ?_
            rintro e wa ⟨rfl, ha⟩
            have g1s := And.intro (kc ha gz.1) (kc ha gz.2)
            have hvB : Var2 (((w1.alloc (.cells #[.string key, .string val, .bool gone, .int .i64 n1, .int .i64 s1, .slice pa past.length pc] 34)).alloc (.cells #[.int .i64 0, .int .i64 0] 24)).drew) (w1.heap.size + 1) (0, 0) := ⟨by simp, by simp, by simp, by simp⟩
            obtain ⟨p0, p1, f0, f1⟩ := hvB.keep ha
            have hvP := Var2.put (p := (0, 0)) ⟨p0, p1, f0, f1⟩ g0 g1
            have hneB : b' ≠ w1.heap.size + 1 := by have := lt_of_cellN g0s.2; simp at this; omega
            go_wp2_with fail
            refine hK.out _ _ (g1s) (fun hHeld => ?_)
            clear hK K
            try simp only [Act.put, List.setIfInBounds_toArray, List.set_cons_zero, List.set_cons_succ, List.getElem_toArray, List.getElem_cons_zero, List.getElem_cons_succ]
            refine wpAnyH_ready (rs := [9]) (by kernel_rfl) (by simp) ?_
            refine AllReadyH.cons rfl (fun K hK => ?_) AllReadyH.nil
            go_simp
            have gst := And.intro (b := wa.cell? ⟨b', off' + i * 3, none⟩ = some (.string x)) g1s.1 g1s.2
            refine hK.out _ _ (And.intro (by rw [World.cell?_setCell_other _ _ _ _ (by simp), World.cell?_setCell_other _ _ _ _ (by simp)]; exact g1s.1) (by rw [World.cell?_setCell_other _ _ _ _ (by simp [hneB]), World.cell?_setCell_other _ _ _ _ (by simp [hneB])]; exact g1s.2)) (fun hHeld => ?_)
            clear hK K
            try simp only [Act.put, List.setIfInBounds_toArray, List.set_cons_zero, List.set_cons_succ, List.getElem_toArray, List.getElem_cons_zero, List.getElem_cons_succ]
            refine wpAnyH_done (by kernel_rfl) ?_ _
            have HBW : Hid (Below w0.heap.size w0 ((wa.setCell ⟨w1.heap.size + 1, 0, none⟩ (.int .i64 g0)).setCell ⟨w1.heap.size + 1, 1, none⟩ (.int .i64 g1))) := Lib.hid (((bstep HBA.out (bstep hbZ ha)).setCell (by have := HBA.out.size; simp at this; omega) _).setCell (by have := HBA.out.size; simp at this; omega) _)
            have HS2 : Hid (((wa.setCell ⟨w1.heap.size + 1, 0, none⟩ (.int .i64 g0)).setCell ⟨w1.heap.size + 1, 1, none⟩ (.int .i64 g1)).cell? ⟨w1.heap.size + 1, 0, none⟩ = some (.int .i64 g0) ∧ ((wa.setCell ⟨w1.heap.size + 1, 0, none⟩ (.int .i64 g0)).setCell ⟨w1.heap.size + 1, 1, none⟩ (.int .i64 g1)).cell? ⟨w1.heap.size + 1, 1, none⟩ = some (.int .i64 g1)) := Lib.hid ⟨hvP.c0, hvP.c1⟩
            clear g1s gz gst hHeld ha g0s hvP p0 p1 f0 f1 hvB hbZ hzB
            have HP := Lib.hid ((HV1.out.below HBEL.out).below HBW.out)
            obtain ⟨a9, c9, e9, _, _, _, hd9⟩ := HP.out
            cases e9
            obtain ⟨b9, off9, e9, _, k0, k1, k2⟩ := hd9 i hlt
            cases e9
            rw [HDI.out] at k0 k1 k2
            dsimp only at k0 k1 k2
            obtain ⟨q0, q1⟩ := HS2.out
            clear hd9
            by_cases hki : k = i
            · have hkd : decide ((k : Int) = (i : Int)) = true := by simp [hki]
              have hkb : ((k : Int) == (i : Int)) = true := by simp [hki]
              have hkn : ((k : Int) != (i : Int)) = false := by simp [hki]
              have hke : (k : Int) = (i : Int) := by omega
              have HTD := Lib.hid (HSTEP.out false (fun h => absurd hki h.1) (fun h => by cases h))
              go_wp2_with fail
              go_quiet (fail)
              go_wp2
              go_roundw
              case rel => exact ⟨k + 1, td, by omega, by go_num, rfl, by simpa using HTD.out, bstep HBW.out (bdrewN _ _)⟩
              case measure => simp [intOf]; omega
            · have hkd : decide ((k : Int) = (i : Int)) = false := by simp; omega
              have hkb : ((k : Int) == (i : Int)) = false := by simp; omega
              have hkn : ((k : Int) != (i : Int)) = true := by simp; omega
              have hke : ¬ (k : Int) = (i : Int) := by omega
              cases b1 with
              | false =>
                have HTD := Lib.hid (HSTEP.out false (fun h => by cases h.2.1) (fun h => by cases h))
                go_wp2_with fail
                go_quiet (fail)
                go_wp2
                go_roundw
                case rel => exact ⟨k + 1, td, by omega, by go_num, rfl, by simpa using HTD.out, bstep HBW.out (bdrewN _ _)⟩
                case measure => simp [intOf]; omega
              | true =>
                have hLs := fun W' => refLess_any g0 g1 y z W'
                have HTD := Lib.hid (HSTEP.out (!Sm.less (g0, g1) (y, z)) (fun h => h.2.2) (fun h => ⟨hki, rfl, h⟩))
                generalize Sm.less (g0, g1) (y, z) = ls at hLs HTD
                have g9 : ((wa.setCell ⟨w1.heap.size + 1, 0, none⟩ (.int .i64 g0)).setCell ⟨w1.heap.size + 1, 1, none⟩ (.int .i64 g1)).cell? ⟨w1.heap.size + 1, 0, none⟩ = some (.int .i64 g0) ∧ ((wa.setCell ⟨w1.heap.size + 1, 0, none⟩ (.int .i64 g0)).setCell ⟨w1.heap.size + 1, 1, none⟩ (.int .i64 g1)).cell? ⟨w1.heap.size + 1, 1, none⟩ = some (.int .i64 g1) ∧ ((wa.setCell ⟨w1.heap.size + 1, 0, none⟩ (.int .i64 g0)).setCell ⟨w1.heap.size + 1, 1, none⟩ (.int .i64 g1)).cell? ⟨b', off' + i * 3 + 1, none⟩ = some (.int .i64 y) ∧ ((wa.setCell ⟨w1.heap.size + 1, 0, none⟩ (.int .i64 g0)).setCell ⟨w1.heap.size + 1, 1, none⟩ (.int .i64 g1)).cell? ⟨b', off' + i * 3 + 2, none⟩ = some (.int .i64 z) := ⟨q0, q1, k1, k2⟩
                clear q0 q1 k0 k1 k2
                go_wp2_with fail
                go_region_held3 (fun w' => w'.cell? ⟨w1.heap.size + 1, 0, none⟩ = some (.int .i64 g0) ∧ w'.cell? ⟨w1.heap.size + 1, 1, none⟩ = some (.int .i64 g1) ∧ w'.cell? ⟨b', off' + i * 3 + 1, none⟩ = some (.int .i64 y) ∧ w'.cell? ⟨b', off' + i * 3 + 2, none⟩ = some (.int .i64 z))
                  (first | exact g9 | exact g10)
                  (first
                    | (go_at_call 25; ((refine (hLs _).mono ?_); rintro e w9 ⟨rfl, h9⟩; have g10 := keep22 h9 g9)))
                have hb9 := bstep HBW.out (bstep ((Below.refl _ _).drew) h9)
                cases ls with
                | true =>
                  go_wp2
                  go_roundw
                  case rel => exact ⟨k + 1, td, by omega, by go_num, rfl, by simpa using HTD.out, hb9⟩
                  case measure => simp [intOf]; omega
                | false =>
                  go_wp2
                  go_roundw
                  case rel => exact ⟨k + 1, true, by omega, by go_num, rfl, by simpa using HTD.out, hb9⟩
                  case measure => simp [intOf]; omega
        · obtain rfl : k = ds.length := by omega
          have HE := Lib.hid (HALL.out td HTD0.out)
          have HKP : Hid (keepL ds (xs.map Prod.fst) (x, y, z) = !td) := Lib.hid (by unfold keepL; rw [HE.out])
          obtain ⟨a', c', e', _, _, _, hdi⟩ := (HV1.out.below HBEL.out).below hbel
          cases e'
          obtain ⟨b8, off8, e8, hbl8, d0, d1, d2⟩ := hdi i hlt
          cases e8
          rw [HDI.out] at d0 d1 d2
          dsimp only at d0 d1 d2
          clear hdi HST HALL HE
          cases td with
          | true =>
            go_wp2
            go_roundw
            case rel => exact ⟨i + 1, by omega, by go_num, by rw [HTK.out, HKP.out]; simpa using HO.out.below hbel, HBEL.out.trans (hbel.mono hbs)⟩
            case measure => simp [intOf]; omega
          | false =>
            go_wp2_with (at_builtin; refine wp_pushD (wr := wr) rfl _ _ rfl w.heap.size (.slice sa acc.length sc) acc x y z rfl (HO.out.below hbel) rfl (by omega) (by have := hbel.size; omega) ?_; intro g gcap w4 ho4 hb4 hk4 hg4)
            go_wp2
            go_roundw
            case rel => exact ⟨i + 1, by omega, by go_num, by rw [HTK.out, HKP.out]; simpa using ho4, HBEL.out.trans ((hbel.mono hbs).trans hb4)⟩
            case measure => simp [intOf]; omega
    · obtain rfl : i = ds.length := by omega
      go_wp2
      go_ret
      exact ⟨_, rfl, by have h := HACC.out; rw [List.take_length] at h; rw [h]; exact HO.out, hbel⟩
end Go.Proofs.Ytfnfpanmbmkhmaa
