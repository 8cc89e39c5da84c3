/- The walk of the law NearestOwn. -/
import Derived.Test.YtfnfpanmbmkhmaaGN517
namespace Go.Proofs.Ytfnfpanmbmkhmaa
open Go.RowKit Go.Maps
set_option linter.unusedVariables false
set_option linter.unusedSimpArgs false

theorem keepB4 {W w1 : World} {b1 o1 b2 o2 b3 o3 b4 o4 : Nat} {x1 x2 x3 x4 : Value} (hb : Below W.heap.size W w1)
    (h : W.cell? ⟨b1, o1, none⟩ = some x1 ∧ W.cell? ⟨b2, o2, none⟩ = some x2 ∧ W.cell? ⟨b3, o3, none⟩ = some x3 ∧ W.cell? ⟨b4, o4, none⟩ = some x4) :
    w1.cell? ⟨b1, o1, none⟩ = some x1 ∧ w1.cell? ⟨b2, o2, none⟩ = some x2 ∧ w1.cell? ⟨b3, o3, none⟩ = some x3 ∧ w1.cell? ⟨b4, o4, none⟩ = some x4 :=
  ⟨kc hb h.1, kc hb h.2.1, kc hb h.2.2.1, kc hb h.2.2.2⟩
theorem dnew3 (w : World) (k : ByteArray) (n s : Int) (T : TypeId) : (w.alloc (.cells #[.string k, .int .i64 n, .int .i64 s] T)).cell? ⟨w.heap.size, 0, none⟩ = some (.string k) ∧ (w.alloc (.cells #[.string k, .int .i64 n, .int .i64 s] T)).cell? ⟨w.heap.size, 1, none⟩ = some (.int .i64 n) ∧ (w.alloc (.cells #[.string k, .int .i64 n, .int .i64 s] T)).cell? ⟨w.heap.size, 2, none⟩ = some (.int .i64 s) := ⟨by simp, by simp, by simp⟩
theorem own_len (v : Ve) : (ownP v).length ≤ v.past.length + 1 := by
  have h := mergeR_len [v.past, [v.dep]] 2 (by simp)
  rw [List.take_of_length_le (by simp)] at h
  simp [tot] at h
  unfold ownP
  omega

set_option maxRecDepth 100000 in
set_option maxHeartbeats 6400000 in
theorem walkNearestOwn (w : World) (a : Option Addr) (ws : List Wr) (cap : Nat) (hl : ws.length ≤ 9223372036854775807) (hr : WrIn w a ws) :
    Calls Try.prog 8 #[.slice a ws.length cap] w fun e w' => e = .returned (.bool true) ∧ Below w.heap.size w w' := by
  have HR := Lib.hid hr
  clear hr
  go_enter Try.func8, Try.ntmps8
  go_wp2_with fail
  refine (awake5_any _).mono ?_
  rintro e w1 ⟨rfl, hb1⟩
  go_wp2_with fail
  refine (made5_any a cap ws w1 hl (HR.out.below hb1)).mono ?_
  rintro e w2 ⟨u2, xs, rfl, hmap, hvm, hb2⟩
  have HM3 : Hid (Made w2 u2 xs ws) := Lib.hid ⟨hvm.row, hmap⟩
  have hbel3 := bstep hb1 hb2
  obtain ⟨sa, sc, rfl⟩ := hvm.own.shape
  have hxl := HM3.out.len
  clear hvm hmap hb1 hb2
  go_wp2
  go_loopw [5] (fun j wr => ∃ k : Nat, k ≤ xs.length ∧ j = .int .i64 k ∧ Below w2.heap.size w2 wr) (fun j _ => xs.length - (intOf j).toNat)
  case atStart => exact ⟨0, by omega, rfl, Below.refl _ _⟩
  case round =>
    obtain ⟨i, hk, rfl, hbel⟩ := hrel
    by_cases hlt : i < xs.length
    · have hii : (i : Int) < (xs.length : Int) := by omega
      have hii0 : (0 : Int) ≤ (i : Int) := by omega
      have HM := Lib.hid (HM3.out.below hbel)
      obtain ⟨b, off, rfl, hbl, ⟨c0, c1, c2, c3, c4, c5⟩, hdp⟩ := HM.out.row.at i hlt
      have hm : xs[i].1 ∈ xs.map Prod.fst := List.mem_map.2 ⟨_, List.getElem_mem hlt, rfl⟩
      have hvk := HM.out.ok _ (List.getElem_mem hlt)
      have hod := HM.out.inv.dep hm
      have HCL := Lib.hid (own_closed HM.out.inv.snd hm hod)
      have HRD := Lib.hid (own_red HM.out.inv.snd hm hod)
      have HOS := Lib.hid (ownP_merge xs[i].1).srt
      have hpl : (ownP xs[i].1).length ≤ 8 := keys_len (ownP_merge xs[i].1).srt (fun d hd => by
        obtain ⟨v, hv, _⟩ := cl_iff.1 (own_closed HM.out.inv.snd hm hod) d hd
        obtain ⟨hvo, e1, _⟩ := fnd_some hv
        rw [← e1]
        exact HM.out.inv.keys v hvo)
      have HE : Hid (ownP xs[i].1 = mergeR [xs[i].1.past, [xs[i].1.dep]]) := Lib.hid rfl
      generalize xs[i] = x at c0 c1 c2 c3 c4 c5 hdp hvk HCL HRD HOS hpl HE
      obtain ⟨⟨key, val, gone, ⟨n1, s1⟩, past⟩, pa, pc⟩ := x
      obtain ⟨hks, _, hsrt, hlen⟩ := hvk
      dsimp only [pu, Ve.dep] at c0 c1 c2 c3 c4 c5 hdp HCL HRD HOS hpl HE hks hsrt hlen
      have g0 : wr.cell? ⟨b, off + i * 6, none⟩ = some (.string key) ∧ wr.cell? ⟨b, off + i * 6 + 3, none⟩ = some (.int .i64 n1) ∧ wr.cell? ⟨b, off + i * 6 + 4, none⟩ = some (.int .i64 s1) := ⟨c0, c3, c4⟩
      have hbA : Below wr.heap.size wr (wr.drew.alloc (.cells #[.string ByteArray.empty, .int .i64 0, .int .i64 0] 26)) := balloc (Below.refl _ wr).drew _
      have hbD : Below wr.heap.size wr (wr.drew.alloc (.cells #[.string key, .int .i64 n1, .int .i64 s1] 26)) := balloc (Below.refl _ wr).drew _
      have g1 := keepA3 hbA g0
      have g2 := keepA3 hbD g0
      have hne0 : b ≠ wr.heap.size := by omega
      have HD0 := Lib.hid hdp
      have HC5 := Lib.hid c5
      have HBD : Hid (Below wr.heap.size wr ((wr.alloc (.cells #[.string key, .int .i64 n1, .int .i64 s1] 26)).drew)) := Lib.hid (balloc (Below.refl _ wr) _).drew
      clear hm hod c0 c1 c2 c3 c4 c5 hdp hbA hbD
      go_wp2_with fail
      refine wp_region_held_drew (S := fun w' => w'.cell? ⟨b, off + i * 6, none⟩ = some (.string key) ∧ w'.cell? ⟨b, off + i * 6 + 3, none⟩ = some (.int .i64 n1) ∧ w'.cell? ⟨b, off + i * 6 + 4, none⟩ = some (.int .i64 s1)) (by kernel_rfl) (g0) (fun hHeld => ?_)
      refine wpAnyH_take (i := 0) (v := ?va0) rfl (by kernel_rfl) (by kernel_rfl) (by kernel_rfl) (fun _ _ _ h => h) (Or.inl ⟨by rfl, ?ya0⟩) (by assumption) ?ra0
      case ya0 => (intro w hSw; (try dsimp only at hSw); go_simp; try with_reducible rfl)
      try simp only [Act.put, List.setIfInBounds_toArray, List.set_cons_zero, List.set_cons_succ, List.getElem_toArray, List.getElem_cons_zero, List.getElem_cons_succ]
      refine wpAnyH_take (i := 1) (v := ?va1) rfl (by kernel_rfl) (by kernel_rfl) (by kernel_rfl) (fun _ _ _ h => h) (Or.inl ⟨by rfl, ?ya1⟩) (by assumption) ?ra1
      case ya1 => (intro w hSw; (try dsimp only at hSw); go_simp; try with_reducible rfl)
      try simp only [Act.put, List.setIfInBounds_toArray, List.set_cons_zero, List.set_cons_succ, List.getElem_toArray, List.getElem_cons_zero, List.getElem_cons_succ]
      refine wpAnyH_take (i := 2) (v := ?va2) rfl (by kernel_rfl) (by kernel_rfl) (by kernel_rfl) (fun _ _ _ h => h) (Or.inl ⟨by rfl, ?ya2⟩) (by assumption) ?ra2
      case ya2 => (intro w hSw; (try dsimp only at hSw); go_simp; try with_reducible rfl)
      try simp only [Act.put, List.setIfInBounds_toArray, List.set_cons_zero, List.set_cons_succ, List.getElem_toArray, List.getElem_cons_zero, List.getElem_cons_succ]
      refine wpAnyH_take (i := 3) (v := ?va3) rfl (by kernel_rfl) (by kernel_rfl) (by kernel_rfl) (fun _ _ _ h => h) (Or.inl ⟨by rfl, ?ya3⟩) (by assumption) ?ra3
      case ya3 => (intro w hSw; (try dsimp only at hSw); go_simp; try with_reducible rfl)
      try simp only [Act.put, List.setIfInBounds_toArray, List.set_cons_zero, List.set_cons_succ, List.getElem_toArray, List.getElem_cons_zero, List.getElem_cons_succ]
      refine wpAnyH_take (i := 4) (v := ?va4) rfl (by kernel_rfl) (by kernel_rfl) (by kernel_rfl) (fun _ _ _ h => h) (Or.inl ⟨by rfl, ?ya4⟩) (by assumption) ?ra4
      case ya4 => (intro w hSw; (try dsimp only at hSw); go_simp; try with_reducible rfl)
      try simp only [Act.put, List.setIfInBounds_toArray, List.set_cons_zero, List.set_cons_succ, List.getElem_toArray, List.getElem_cons_zero, List.getElem_cons_succ]
      refine wpAnyH_take (i := 5) (v := ?va5) rfl (by kernel_rfl) (by kernel_rfl) (by kernel_rfl) (fun _ _ _ h => h) (Or.inl ⟨by rfl, ?ya5⟩) (by assumption) ?ra5
      case ya5 => (intro w hSw; (try dsimp only at hSw); go_simp; try with_reducible rfl)
      try simp only [Act.put, List.setIfInBounds_toArray, List.set_cons_zero, List.set_cons_succ, List.getElem_toArray, List.getElem_cons_zero, List.getElem_cons_succ]
      refine wpAnyH_take (i := 6) (v := ?va6) rfl (by kernel_rfl) (by kernel_rfl) (by kernel_rfl) (fun _ _ _ h => h) (Or.inl ⟨by rfl, ?ya6⟩) (by assumption) ?ra6
      case ya6 => (intro w hSw; (try dsimp only at hSw); go_simp; try with_reducible rfl)
      try simp only [Act.put, List.setIfInBounds_toArray, List.set_cons_zero, List.set_cons_succ, List.getElem_toArray, List.getElem_cons_zero, List.getElem_cons_succ]
      refine wpAnyH_take (i := 7) (v := ?va7) rfl (by kernel_rfl) (by kernel_rfl) (by kernel_rfl) (fun _ _ _ h => h) (Or.inl ⟨by rfl, ?ya7⟩) (by assumption) ?ra7
      case ya7 => (intro w hSw; (try dsimp only at hSw); go_simp; try with_reducible rfl)
      try simp only [Act.put, List.setIfInBounds_toArray, List.set_cons_zero, List.set_cons_succ, List.getElem_toArray, List.getElem_cons_zero, List.getElem_cons_succ]
      refine wpAnyH_take (i := 8) (v := ?va8) rfl (by kernel_rfl) (by kernel_rfl) (by kernel_rfl) (fun _ _ _ h => h) (Or.inl ⟨by rfl, ?ya8⟩) (by assumption) ?ra8
      case ya8 => (intro w hSw; (try dsimp only at hSw); go_simp; try with_reducible rfl)
      try simp only [Act.put, List.setIfInBounds_toArray, List.set_cons_zero, List.set_cons_succ, List.getElem_toArray, List.getElem_cons_zero, List.getElem_cons_succ]
      refine wpAnyH_take (i := 9) (v := ?va9) rfl (by kernel_rfl) (by kernel_rfl) (by kernel_rfl) (fun _ _ _ h => h) (Or.inl ⟨by rfl, ?ya9⟩) (by assumption) ?ra9
      case ya9 => (intro w hSw; (try dsimp only at hSw); go_simp; try with_reducible rfl)
      try simp only [Act.put, List.setIfInBounds_toArray, List.set_cons_zero, List.set_cons_succ, List.getElem_toArray, List.getElem_cons_zero, List.getElem_cons_succ]
      refine wpAnyH_take (i := 10) (v := ?va10) rfl (by kernel_rfl) (by kernel_rfl) (by kernel_rfl) (fun _ _ _ h => h) (Or.inl ⟨by rfl, ?ya10⟩) (by assumption) ?ra10
      case ya10 => (intro w hSw; (try dsimp only at hSw); go_simp; try with_reducible rfl)
      try simp only [Act.put, List.setIfInBounds_toArray, List.set_cons_zero, List.set_cons_succ, List.getElem_toArray, List.getElem_cons_zero, List.getElem_cons_succ]
      refine wpAnyH_ready (rs := [11]) (by kernel_rfl) (by simp) ?_
      refine AllReadyH.cons rfl (fun K hK => ?_) AllReadyH.nil
      go_simp
      refine hK.out _ _ (g1) (fun hHeld => ?_)
      clear hK K
      try simp only [Act.put, List.setIfInBounds_toArray, List.set_cons_zero, List.set_cons_succ, List.getElem_toArray, List.getElem_cons_zero, List.getElem_cons_succ]
      refine wpAnyH_ready (rs := [12]) (by kernel_rfl) (by simp) ?_
      refine AllReadyH.cons rfl (fun K hK => ?_) AllReadyH.nil
      go_simp
      refine hK.out _ _ (g2) (fun hHeld => ?_)
      clear hK K
      try simp only [Act.put, List.setIfInBounds_toArray, List.set_cons_zero, List.set_cons_succ, List.getElem_toArray, List.getElem_cons_zero, List.getElem_cons_succ]
      refine wpAnyH_done (by kernel_rfl) ?_ _
      have hn : ((wr.alloc (.cells #[.string key, .int .i64 n1, .int .i64 s1] 26)).drew).cell? ⟨wr.heap.size, 0, none⟩ = some (.string key) ∧ ((wr.alloc (.cells #[.string key, .int .i64 n1, .int .i64 s1] 26)).drew).cell? ⟨wr.heap.size, 1, none⟩ = some (.int .i64 n1) ∧ ((wr.alloc (.cells #[.string key, .int .i64 n1, .int .i64 s1] 26)).drew).cell? ⟨wr.heap.size, 2, none⟩ = some (.int .i64 s1) := dnew3 wr key n1 s1 26
      have HHE : Hid (((wr.alloc (.cells #[.string key, .int .i64 n1, .int .i64 s1] 26)).drew).heap.size = wr.heap.size + 1) := Lib.hid (by simp)
      have HN := Lib.hid hn
      clear g0 g1 g2 hHeld hn
      go_wp2_with fail
      generalize (wr.alloc (.cells #[.string key, .int .i64 n1, .int .i64 s1] 26)).drew = W2 at *
      have HM2 := Lib.hid (HM.out.below HBD.out)
      have hbel2 := bstep hbel HBD.out
      have hd0 := HD0.out.below HBD.out
      have h0 : W2.cell? ⟨b, off + i * 6 + 5, none⟩ = some (.slice pa past.length pc) ∧ W2.cell? ⟨wr.heap.size, 0, none⟩ = some (.string key) ∧ W2.cell? ⟨wr.heap.size, 1, none⟩ = some (.int .i64 n1) ∧ W2.cell? ⟨wr.heap.size, 2, none⟩ = some (.int .i64 s1) := ⟨kc HBD.out HC5.out, HN.out.1, HN.out.2.1, HN.out.2.2⟩
      have hdd := DepAt.new W2 [(key, n1, s1)] 26 (by simp)
      have HROWS := RowsAt.two 29 (hd0.drew.alloc (.cells #[.string key, .int .i64 n1, .int .i64 s1] 26)) hdd.drew
      have hbR : Below W2.heap.size W2 ((W2.drew.alloc (.cells #[.string key, .int .i64 n1, .int .i64 s1] 26)).alloc (.cells #[.slice pa past.length pc, .slice (some ⟨W2.heap.size, 0, none⟩) 1 1] 29)) := balloc (balloc (Below.refl _ W2).drew _) _
      have h1 := keepB4 (balloc (Below.refl _ W2).drew (.cells #[.string key, .int .i64 n1, .int .i64 s1] 26)) h0
      have h2 := keepB4 hbR h0
      have hM := refMerge_any (some ⟨W2.heap.size + 1, 0, none⟩) 2 [past, [(key, n1, s1)]] ((W2.drew.alloc (.cells #[.string key, .int .i64 n1, .int .i64 s1] 26)).alloc (.cells #[.slice pa past.length pc, .slice (some ⟨W2.heap.size, 0, none⟩) 1 1] 29)) (by simp) (by simp [tot]; omega) (by
        intro l hl
        simp at hl
        rcases hl with rfl | rfl
        · exact hsrt.szd
        · intro d hd
          simp at hd
          subst hd
          exact hks) (by
        have e : (W2.drew.alloc (.cells #[.string key, .int .i64 n1, .int .i64 s1] 26)).heap.size = W2.heap.size + 1 := by simp
        rw [e] at HROWS
        exact HROWS)
      rw [← HE.out] at hM
      have HBR := Lib.hid hbR
      clear HROWS hdd hd0 hbR HD0 HC5 HN HM HBD hbel hsrt hks
      refine wp_region_held_drew (S := fun w' => w'.cell? ⟨b, off + i * 6 + 5, none⟩ = some (.slice pa past.length pc) ∧ w'.cell? ⟨wr.heap.size, 0, none⟩ = some (.string key) ∧ w'.cell? ⟨wr.heap.size, 1, none⟩ = some (.int .i64 n1) ∧ w'.cell? ⟨wr.heap.size, 2, none⟩ = some (.int .i64 s1)) (by kernel_rfl) (h0) (fun hHeld => ?_)
      refine wpAnyH_take (i := 0) (v := ?vb0) rfl (by kernel_rfl) (by kernel_rfl) (by kernel_rfl) (fun _ _ _ h => h) (Or.inl ⟨by rfl, ?yb0⟩) (by assumption) ?rb0
      case yb0 => (intro w hSw; (try dsimp only at hSw); go_simp; try with_reducible rfl)
      try simp only [Act.put, List.setIfInBounds_toArray, List.set_cons_zero, List.set_cons_succ, List.getElem_toArray, List.getElem_cons_zero, List.getElem_cons_succ]
      refine wpAnyH_take (i := 1) (v := ?vb1) rfl (by kernel_rfl) (by kernel_rfl) (by kernel_rfl) (fun _ _ _ h => h) (Or.inl ⟨by rfl, ?yb1⟩) (by assumption) ?rb1
      case yb1 => (intro w hSw; (try dsimp only at hSw); go_simp; try with_reducible rfl)
      try simp only [Act.put, List.setIfInBounds_toArray, List.set_cons_zero, List.set_cons_succ, List.getElem_toArray, List.getElem_cons_zero, List.getElem_cons_succ]
      refine wpAnyH_take (i := 2) (v := ?vb2) rfl (by kernel_rfl) (by kernel_rfl) (by kernel_rfl) (fun _ _ _ h => h) (Or.inl ⟨by rfl, ?yb2⟩) (by assumption) ?rb2
      case yb2 => (intro w hSw; (try dsimp only at hSw); go_simp; try with_reducible rfl)
      try simp only [Act.put, List.setIfInBounds_toArray, List.set_cons_zero, List.set_cons_succ, List.getElem_toArray, List.getElem_cons_zero, List.getElem_cons_succ]
      refine wpAnyH_take (i := 3) (v := ?vb3) rfl (by kernel_rfl) (by kernel_rfl) (by kernel_rfl) (fun _ _ _ h => h) (Or.inl ⟨by rfl, ?yb3⟩) (by assumption) ?rb3
      case yb3 => (intro w hSw; (try dsimp only at hSw); go_simp; try with_reducible rfl)
      try simp only [Act.put, List.setIfInBounds_toArray, List.set_cons_zero, List.set_cons_succ, List.getElem_toArray, List.getElem_cons_zero, List.getElem_cons_succ]
      refine wpAnyH_take (i := 4) (v := ?vb4) rfl (by kernel_rfl) (by kernel_rfl) (by kernel_rfl) (fun _ _ _ h => h) (Or.inl ⟨by rfl, ?yb4⟩) (by assumption) ?rb4
      case yb4 => (intro w hSw; (try dsimp only at hSw); go_simp; try with_reducible rfl)
      try simp only [Act.put, List.setIfInBounds_toArray, List.set_cons_zero, List.set_cons_succ, List.getElem_toArray, List.getElem_cons_zero, List.getElem_cons_succ]
      refine wpAnyH_take (i := 5) (v := ?vb5) rfl (by kernel_rfl) (by kernel_rfl) (by kernel_rfl) (fun _ _ _ h => h) (Or.inl ⟨by rfl, ?yb5⟩) (by assumption) ?rb5
      case yb5 => (intro w hSw; (try dsimp only at hSw); go_simp; try with_reducible rfl)
      try simp only [Act.put, List.setIfInBounds_toArray, List.set_cons_zero, List.set_cons_succ, List.getElem_toArray, List.getElem_cons_zero, List.getElem_cons_succ]
      refine wpAnyH_ready (rs := [6]) (by kernel_rfl) (by simp) ?_
      refine AllReadyH.cons rfl (fun K hK => ?_) AllReadyH.nil
      go_simp
      refine hK.out _ _ (h1) (fun hHeld => ?_)
      clear hK K
      try simp only [Act.put, List.setIfInBounds_toArray, List.set_cons_zero, List.set_cons_succ, List.getElem_toArray, List.getElem_cons_zero, List.getElem_cons_succ]
      refine wpAnyH_ready (rs := [7]) (by kernel_rfl) (by simp) ?_
      refine AllReadyH.cons rfl (fun K hK => ?_) AllReadyH.nil
      go_simp
      refine hK.out _ _ (h2) (fun hHeld => ?_)
      clear hK K
      try simp only [Act.put, List.setIfInBounds_toArray, List.set_cons_zero, List.set_cons_succ, List.getElem_toArray, List.getElem_cons_zero, List.getElem_cons_succ]
      refine wpAnyH_ready (rs := [8]) (by kernel_rfl) (by simp) ?_
      refine AllReadyH.cons rfl (fun K hK => ?_) AllReadyH.nil
      go_simp
      go_at_call 27
      refine (hM).mono ?_
      rintro e w3 ⟨u3, rfl, hd3, hb3⟩
      have h3 := keepB4 hb3 h2; have HD3 := Lib.hid hd3; obtain ⟨ua, uc, rfl, _, _, _, _⟩ := hd3
      go_wp2_with fail
      refine hK.out _ _ (h3) (fun hHeld => ?_)
      clear hK K
      try simp only [Act.put, List.setIfInBounds_toArray, List.set_cons_zero, List.set_cons_succ, List.getElem_toArray, List.getElem_cons_zero, List.getElem_cons_succ]
      refine wpAnyH_take (i := 9) (v := ?vb9) rfl (by kernel_rfl) (by kernel_rfl) (by kernel_rfl) (fun _ _ _ h => h) (Or.inl ⟨by rfl, ?yb9⟩) (by assumption) ?rb9
      case yb9 => (intro w hSw; (try dsimp only at hSw); go_simp; try with_reducible rfl)
      try simp only [Act.put, List.setIfInBounds_toArray, List.set_cons_zero, List.set_cons_succ, List.getElem_toArray, List.getElem_cons_zero, List.getElem_cons_succ]
      refine wpAnyH_done (by kernel_rfl) ?_ _
      have HBW := Lib.hid ((HBR.out.trans (hb3.mono (by have := HBR.out.size; omega))) : Below W2.heap.size W2 w3)
      have HMw := Lib.hid (HM2.out.below HBW.out)
      have hbw := bstep hbel2 HBW.out
      have HP := Lib.hid HOS.out
      clear hM h0 h1 h2 hb3 HBR HBW HM2 hbel2 hHeld
      generalize ownP ⟨key, val, gone, (n1, s1), past⟩ = p at HD3 HCL HRD HOS hpl HP
      have hRd := reduce_any _ _ p xs w3 (by omega) HOS.out (by omega) HMw.out.ok HD3.out HMw.out.row
      rw [HRD.out] at hRd
      go_wp2_with fail
      refine hRd.mono ?_
      rintro e w4 ⟨u4, rfl, ho4, hb4⟩
      have hd4 := DepAt.of_own ho4
      obtain ⟨na, nc, rfl⟩ := ho4.shape
      obtain ⟨a', c', e', _, _, _, hd4i⟩ := hd4
      cases e'
      obtain ⟨b4, off4, rfl, _, d0, d1, d2⟩ := hd4i 0 (by simp)
      simp only [List.getElem_cons_zero, Nat.zero_mul, Nat.add_zero] at d0 d1 d2
      have HM4 := Lib.hid (HMw.out.below hb4)
      have HP4 := Lib.hid (HD3.out.below hb4)
      have k3 := keepB4 hb4 h3
      have hbw4 := bstep hbw hb4
      have hCl := fun W hW => closed5_any (.slice ua p.length uc) (.slice (some ⟨b, off, none⟩) xs.length sc) p xs W (by omega) HOS.out (by omega) HMw.out.ok (HP4.out.below hW) (HM4.out.row.below hW)
      rw [HCL.out] at hCl
      have hne := fun w' => ne_dep w' key n1 s1 key n1 s1
      rw [decide_eq_true rfl] at hne
      have m0 : w4.cell? ⟨b4, off4, none⟩ = some (.string key) ∧ w4.cell? ⟨b4, off4 + 1, none⟩ = some (.int .i64 n1) ∧ w4.cell? ⟨b4, off4 + 2, none⟩ = some (.int .i64 s1) ∧ w4.cell? ⟨wr.heap.size, 0, none⟩ = some (.string key) ∧ w4.cell? ⟨wr.heap.size, 1, none⟩ = some (.int .i64 n1) ∧ w4.cell? ⟨wr.heap.size, 2, none⟩ = some (.int .i64 s1) := ⟨d0, d1, d2, k3.2.1, k3.2.2.1, k3.2.2.2⟩
      clear hRd ho4 hd4i d0 d1 d2 k3 h3 HMw HD3 hb4 hbw
      go_wp2_with fail
      refine wp_region_held_drew (S := fun w' => w'.cell? ⟨b4, off4, none⟩ = some (.string key) ∧ w'.cell? ⟨b4, off4 + 1, none⟩ = some (.int .i64 n1) ∧ w'.cell? ⟨b4, off4 + 2, none⟩ = some (.int .i64 s1) ∧ w'.cell? ⟨wr.heap.size, 0, none⟩ = some (.string key) ∧ w'.cell? ⟨wr.heap.size, 1, none⟩ = some (.int .i64 n1) ∧ w'.cell? ⟨wr.heap.size, 2, none⟩ = some (.int .i64 s1)) (by kernel_rfl) (m0) (fun hHeld => ?_)
      refine wpAnyH_take (i := 0) (v := ?vc0) rfl (by kernel_rfl) (by kernel_rfl) (by kernel_rfl) (fun _ _ _ h => h) (Or.inl ⟨by rfl, ?yc0⟩) (by assumption) ?rc0
      case yc0 => (intro w hSw; (try dsimp only at hSw); go_simp; try with_reducible rfl)
      try simp only [Act.put, List.setIfInBounds_toArray, List.set_cons_zero, List.set_cons_succ, List.getElem_toArray, List.getElem_cons_zero, List.getElem_cons_succ]
      refine wpAnyH_take (i := 1) (v := ?vc1) rfl (by kernel_rfl) (by kernel_rfl) (by kernel_rfl) (fun _ _ _ h => h) (Or.inl ⟨by rfl, ?yc1⟩) (by assumption) ?rc1
      case yc1 => (intro w hSw; (try dsimp only at hSw); go_simp; try with_reducible rfl)
      try simp only [Act.put, List.setIfInBounds_toArray, List.set_cons_zero, List.set_cons_succ, List.getElem_toArray, List.getElem_cons_zero, List.getElem_cons_succ]
      refine wpAnyH_take (i := 2) (v := ?vc2) rfl (by kernel_rfl) (by kernel_rfl) (by kernel_rfl) (fun _ _ _ h => h) (Or.inl ⟨by rfl, ?yc2⟩) (by assumption) ?rc2
      case yc2 => (intro w hSw; (try dsimp only at hSw); go_simp; try with_reducible rfl)
      try simp only [Act.put, List.setIfInBounds_toArray, List.set_cons_zero, List.set_cons_succ, List.getElem_toArray, List.getElem_cons_zero, List.getElem_cons_succ]
      refine wpAnyH_take (i := 3) (v := ?vc3) rfl (by kernel_rfl) (by kernel_rfl) (by kernel_rfl) (fun _ _ _ h => h) (Or.inl ⟨by rfl, ?yc3⟩) (by assumption) ?rc3
      case yc3 => (intro w hSw; (try dsimp only at hSw); go_simp; try with_reducible rfl)
      try simp only [Act.put, List.setIfInBounds_toArray, List.set_cons_zero, List.set_cons_succ, List.getElem_toArray, List.getElem_cons_zero, List.getElem_cons_succ]
      refine wpAnyH_take (i := 4) (v := ?vc4) rfl (by kernel_rfl) (by kernel_rfl) (by kernel_rfl) (fun _ _ _ h => h) (Or.inl ⟨by rfl, ?yc4⟩) (by assumption) ?rc4
      case yc4 => (intro w hSw; (try dsimp only at hSw); go_simp; try with_reducible rfl)
      try simp only [Act.put, List.setIfInBounds_toArray, List.set_cons_zero, List.set_cons_succ, List.getElem_toArray, List.getElem_cons_zero, List.getElem_cons_succ]
      refine wpAnyH_take (i := 5) (v := ?vc5) rfl (by kernel_rfl) (by kernel_rfl) (by kernel_rfl) (fun _ _ _ h => h) (Or.inl ⟨by rfl, ?yc5⟩) (by assumption) ?rc5
      case yc5 => (intro w hSw; (try dsimp only at hSw); go_simp; try with_reducible rfl)
      try simp only [Act.put, List.setIfInBounds_toArray, List.set_cons_zero, List.set_cons_succ, List.getElem_toArray, List.getElem_cons_zero, List.getElem_cons_succ]
      refine wpAnyH_take (i := 6) (v := ?vc6) rfl (by kernel_rfl) (by kernel_rfl) (by kernel_rfl) (fun _ _ _ h => h) (Or.inl ⟨by rfl, ?yc6⟩) (by assumption) ?rc6
      case yc6 => (intro w hSw; (try dsimp only at hSw); go_simp; try with_reducible rfl)
      try simp only [Act.put, List.setIfInBounds_toArray, List.set_cons_zero, List.set_cons_succ, List.getElem_toArray, List.getElem_cons_zero, List.getElem_cons_succ]
      refine wpAnyH_take (i := 7) (v := ?vc7) rfl (by kernel_rfl) (by kernel_rfl) (by kernel_rfl) (fun _ _ _ h => h) (Or.inl ⟨by rfl, ?yc7⟩) (by assumption) ?rc7
      case yc7 => (intro w hSw; (try dsimp only at hSw); go_simp; try with_reducible rfl)
      try simp only [Act.put, List.setIfInBounds_toArray, List.set_cons_zero, List.set_cons_succ, List.getElem_toArray, List.getElem_cons_zero, List.getElem_cons_succ]
      refine wpAnyH_take (i := 8) (v := ?vc8) rfl (by kernel_rfl) (by kernel_rfl) (by kernel_rfl) (fun _ _ _ h => h) (Or.inl ⟨by rfl, ?yc8⟩) (by assumption) ?rc8
      case yc8 => (intro w hSw; (try dsimp only at hSw); go_simp; try with_reducible rfl)
      try simp only [Act.put, List.setIfInBounds_toArray, List.set_cons_zero, List.set_cons_succ, List.getElem_toArray, List.getElem_cons_zero, List.getElem_cons_succ]
      refine wpAnyH_take (i := 9) (v := ?vc9) rfl (by kernel_rfl) (by kernel_rfl) (by kernel_rfl) (fun _ _ _ h => h) (Or.inl ⟨by rfl, ?yc9⟩) (by assumption) ?rc9
      case yc9 => (intro w hSw; (try dsimp only at hSw); go_simp; try with_reducible rfl)
      try simp only [Act.put, List.setIfInBounds_toArray, List.set_cons_zero, List.set_cons_succ, List.getElem_toArray, List.getElem_cons_zero, List.getElem_cons_succ]
      refine wpAnyH_take (i := 10) (v := ?vc10) rfl (by kernel_rfl) (by kernel_rfl) (by kernel_rfl) (fun _ _ _ h => h) (Or.inl ⟨by rfl, ?yc10⟩) (by assumption) ?rc10
      case yc10 => (intro w hSw; (try dsimp only at hSw); go_simp; try with_reducible rfl)
      try simp only [Act.put, List.setIfInBounds_toArray, List.set_cons_zero, List.set_cons_succ, List.getElem_toArray, List.getElem_cons_zero, List.getElem_cons_succ]
      refine wpAnyH_take (i := 11) (v := ?vc11) rfl (by kernel_rfl) (by kernel_rfl) (by kernel_rfl) (fun _ _ _ h => h) (Or.inl ⟨by rfl, ?yc11⟩) (by assumption) ?rc11
      case yc11 => (intro w hSw; (try dsimp only at hSw); go_simp; try with_reducible rfl)
      try simp only [Act.put, List.setIfInBounds_toArray, List.set_cons_zero, List.set_cons_succ, List.getElem_toArray, List.getElem_cons_zero, List.getElem_cons_succ]
      refine wpAnyH_take (i := 12) (v := ?vc12) rfl (by kernel_rfl) (by kernel_rfl) (by kernel_rfl) (fun _ _ _ h => h) (Or.inl ⟨by rfl, ?yc12⟩) (by assumption) ?rc12
      case yc12 => (intro w hSw; (try dsimp only at hSw); go_simp; try with_reducible rfl)
      try simp only [Act.put, List.setIfInBounds_toArray, List.set_cons_zero, List.set_cons_succ, List.getElem_toArray, List.getElem_cons_zero, List.getElem_cons_succ]
      refine wpAnyH_ready (rs := [13]) (by kernel_rfl) (by simp) ?_
      refine AllReadyH.cons rfl (fun K hK => ?_) AllReadyH.nil
      go_simp
      go_at_call 22
      refine (hCl _ (Below.refl _ _).drew).mono ?_
      rintro e w9 ⟨rfl, h9⟩
      have m1 : w9.cell? ⟨b4, off4, none⟩ = some (.string key) ∧ w9.cell? ⟨b4, off4 + 1, none⟩ = some (.int .i64 n1) ∧ w9.cell? ⟨b4, off4 + 2, none⟩ = some (.int .i64 s1) ∧ w9.cell? ⟨wr.heap.size, 0, none⟩ = some (.string key) ∧ w9.cell? ⟨wr.heap.size, 1, none⟩ = some (.int .i64 n1) ∧ w9.cell? ⟨wr.heap.size, 2, none⟩ = some (.int .i64 s1) := ⟨kc h9 m0.1, kc h9 m0.2.1, kc h9 m0.2.2.1, kc h9 m0.2.2.2.1, kc h9 m0.2.2.2.2.1, kc h9 m0.2.2.2.2.2⟩
      go_wp2_with fail
      refine hK.out _ _ (m1) (fun hHeld => ?_)
      clear hK K
      try simp only [Act.put, List.setIfInBounds_toArray, List.set_cons_zero, List.set_cons_succ, List.getElem_toArray, List.getElem_cons_zero, List.getElem_cons_succ]
      refine wpAnyH_take (i := 14) (v := ?vc14) rfl (by kernel_rfl) (by kernel_rfl) (by kernel_rfl) (fun _ _ _ h => h) (Or.inl ⟨by rfl, ?yc14⟩) (by assumption) ?rc14
      case yc14 => (intro w hSw; (try dsimp only at hSw); go_simp; try with_reducible rfl)
      try simp only [Act.put, List.setIfInBounds_toArray, List.set_cons_zero, List.set_cons_succ, List.getElem_toArray, List.getElem_cons_zero, List.getElem_cons_succ]
      refine wpAnyH_take (i := 15) (v := ?vc15) rfl (by kernel_rfl) (by kernel_rfl) (by kernel_rfl) (fun _ _ _ h => h) (Or.inl ⟨by rfl, ?yc15⟩) (by assumption) ?rc15
      case yc15 => (intro w hSw; (try dsimp only at hSw); go_simp; try with_reducible rfl)
      try simp only [Act.put, List.setIfInBounds_toArray, List.set_cons_zero, List.set_cons_succ, List.getElem_toArray, List.getElem_cons_zero, List.getElem_cons_succ]
      refine wpAnyH_done (by kernel_rfl) ?_ _
      go_wp2
      go_roundw
      case rel => exact ⟨i + 1, by omega, by go_num, bstep hbw4 (bstep ((Below.refl _ _).drew) h9)⟩
      case measure => simp [intOf]; omega
    · obtain rfl : i = xs.length := by omega
      go_wp2
      go_ret
      exact ⟨rfl, bstep hbel3 hbel⟩
end Go.Proofs.Ytfnfpanmbmkhmaa
