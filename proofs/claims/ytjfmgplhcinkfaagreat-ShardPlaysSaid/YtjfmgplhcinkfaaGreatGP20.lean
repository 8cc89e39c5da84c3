/- Texts of this proof, one behind the other: ShClean, ShMove, ShLaw3. -/
import Derived.Test.YtjfmgplhcinkfaaGreatGP19
import Derived.Deep.DeepCutAuto
import Derived.Maps.RangeWalk
/- What a shard's Clean does. -/
namespace Go.Proofs.YtjfmgplhcinkfaaGreat
open Go.RowKit
set_option linter.unusedVariables false
set_option linter.unusedSimpArgs false

/-- What Clean leaves. -/
def ClnPost (w : World) (S : Nat → Prop) (b : Nat) (R : List (ByteArray × ByteArray)) (L : List ByteArray) (F' : Ch) (w' : World) : Prop := (∃ S', SdAt w' S' b R L F' ∧ ∀ j, S' j → S j ∨ w.heap.size ≤ j) ∧ Mv S w w'
/-- On the way. -/
def ClnAt (w : World) (S : Nat → Prop) (b : Nat) (mo : Option Nat) (rv : Value) (R : List (ByteArray × ByteArray)) (L : List ByteArray) (F' : Ch) (w' : World) : Prop := ∃ S' n val, SdM w' S' b mo n rv val R L F' ∧ ∀ j, S' j → S j ∨ w.heap.size ≤ j
theorem cleanL_sub {c : List Vw} {s : Int × Int} {pins : List (Int × Int)} : ∀ x ∈ cleanL c s pins, x ∈ c := fun x hx => (List.mem_filter.1 hx).1

set_option maxRecDepth 100000 in
set_option maxHeartbeats 3200000 in
theorem sclean_any {w : World} {S : Nat → Prop} {b : Nat} {R : List (ByteArray × ByteArray)} {L : List ByteArray} {F : Ch} (h : SdAt w S b R L F) (hL : L.length ≤ 100000) (hF : ∀ k, (F k).length ≤ 100000) (s : Int × Int) (v : Value) (pins : List De) (hp : pins.length ≤ 100000) (hpk : ∀ d ∈ pins, d.1.size ≤ maxLen ∧ In64 d.2) (hpr : DepAt w v pins) :
    Calls Tryz.prog 8 #[.pointer (some ⟨b, 0, none⟩), sv s, v] w fun e w' => e = .returned (.tuple #[]) ∧ ClnPost w S b R L (cleanF F s pins) w' := by
  obtain ⟨mo, n, rv, val, h⟩ := h
  have hb1 : Below w.heap.size w (w.alloc (.cells #[.int .i64 s.1, .int .i64 s.2] 33)) := balloc (Below.refl _ w) _
  have q0 : (w.alloc (.cells #[.int .i64 s.1, .int .i64 s.2] 33)).cell? ⟨w.heap.size, 0, none⟩ = some (.int .i64 s.1) := by simp
  have q1 : (w.alloc (.cells #[.int .i64 s.1, .int .i64 s.2] 33)).cell? ⟨w.heap.size, 1, none⟩ = some (.int .i64 s.2) := by simp
  have HSE := Lib.hid (fun W (hb : Below w.heap.size w W) => selector_any v pins W hp (fun d hd => (hpk d hd).1) (hpr.below hb))
  have HKY := Lib.hid (fun W (hb : Below w.heap.size w W) => skeys_any (show SdAt W S b R L F from ⟨mo, n, rv, val, h.below hb⟩) hL)
  obtain ⟨va, vc, rfl, _⟩ := id hpr
  have HF := Lib.hid hF
  have HH := Lib.hid h
  have HPK := Lib.hid hpk
  have HPL := Lib.hid hp
  have HLL := Lib.hid hL
  have HSL := Lib.hid h.lt
  have HBL := Lib.hid (h.lt b h.sb)
  have HND := Lib.hid h.kl.nd
  have HKA := Lib.hid (cleanI_all (s := s) (pins := pins) h.kl)
  have HK0 := Lib.hid (cleanI_zero F s pins L)
  have HKK := Lib.hid (h.ks)
  have HKLN := Lib.hid h.kl
  have HMO := Lib.hid (h.m0)
  have HSM := Lib.hid h.sm
  generalize hcf : cleanF F s pins = CF at HKA ⊢
  clear h hpr hF hpk hp hL hcf
  obtain ⟨s0, s1⟩ := s
  dsimp only at q0 q1
  go_enter Tryz.func8, Tryz.ntmps8
  go_upto_region 1 with fail
  generalize w.alloc (.cells #[.int .i64 s0, .int .i64 s1] 33) = w1 at *
  have HB1 := Lib.hid hb1
  have HQ1 := Lib.hid (And.intro q0 q1)
  clear hb1 q0 q1
  go_wp2_with fail
  refine (HSE.out _ HB1.out).mono ?_
  rintro e w2 ⟨B, rfl, hse, hb2⟩
  have HB2 := Lib.hid (bstep HB1.out hb2)
  have HQ2 := Lib.hid (And.intro (kc hb2 HQ1.out.1) (kc hb2 HQ1.out.2))
  have HSE2 := Lib.hid hse
  have hs1 : w.heap.size ≤ w1.heap.size := HB1.out.size
  have HS1 := Lib.hid hs1
  clear hse hb2 hs1 HQ1
  go_wp2_with fail
  refine (HKY.out _ HB2.out).mono ?_
  rintro e w3 ⟨kv, rfl, hko, hb3⟩
  obtain ⟨ka, kcap, rfl⟩ := hko.shape
  have HB3 := Lib.hid (bstep HB2.out hb3)
  have HQ3 := Lib.hid (And.intro (kc hb3 HQ2.out.1) (kc hb3 HQ2.out.2))
  have HSE3 := Lib.hid (HSE2.out.below hb3)
  have HKO := Lib.hid hko
  have HS2 : Hid (w.heap.size ≤ w2.heap.size) := Lib.hid HB2.out.size
  clear hko hb3 HSE HKY HSE2 HQ2
  go_wp2
  go_loopw [15] (fun i wr => ∃ k : Nat, k ≤ L.length ∧ i = .int .i64 k ∧ ClnAt w S b mo rv R L (cleanI F (s0, s1) pins L k) wr ∧ Mv (fun j => mo = some j) w3 wr) (fun i _ => L.length - (intOf i).toNat)
  case atStart => exact ⟨0, by omega, rfl, ⟨S, n, val, by rw [HK0.out]; exact HH.out.below HB3.out, fun j hj => .inl hj⟩, Mv.refl _ _⟩
  case round =>
    obtain ⟨k, hkl, rfl, hat, hmv⟩ := hrel
    have HMV := Lib.hid hmv
    have HAT := Lib.hid hat
    clear hat hmv
    by_cases hlt : k < L.length
    · obtain ⟨S', n', val', hsd, hsub⟩ := HAT.out
      obtain ⟨mb, hmb⟩ : ∃ mb, mo = some mb := by
        cases mo with
        | none => have := HMO.out rfl; rw [this] at hlt; simp at hlt
        | some mb => exact ⟨mb, rfl⟩
      have HMB := Lib.hid hmb
      have hmlt : mb < w.heap.size := HSL.out mb (HSM.out mb hmb).1
      have HML := Lib.hid hmlt
      have hPne : ∀ j, w.heap.size ≤ j → ¬ mo = some j := fun j hj e => by rw [hmb] at e; cases e; omega
      have HPN := Lib.hid hPne
      have HKR : Hid (OwnR KS wr w2.heap.size (.slice ka L.length kcap) L) := Lib.hid (HKO.out.block (fun g hg => HMV.out.block g (HKO.out.lt g hg).2 (hPne g (by have := (HKO.out.lt g hg).1; have := HS2.out; omega))))
      obtain ⟨kb, koff, rfl, hkbl, hkc⟩ := (RowIn.of_own ks_ok HKR.out).str k hlt
      have hq := And.intro (HMV.out.cell (hPne _ (Nat.le_refl _)) HQ3.out.1) (HMV.out.cell (hPne _ (Nat.le_refl _)) HQ3.out.2)
      have HSR : Hid (SelAt wr w1.heap.size B pins) := Lib.hid (HSE3.out.mv HMV.out (fun j hj => hPne j (by have := HS1.out; omega)))
      obtain ⟨hci, hcs⟩ := cleanI_succ (F := F) (s := (s0, s1)) (pins := pins) HND.out hlt
      have hkin : F L[k] ≠ [] := (HKLN.out.2 _).1 (List.getElem_mem hlt)
      have HKS := Lib.hid (HKK.out _ (List.getElem_mem hlt))
      have hfl := HF.out L[k]
      generalize L[k] = key at hkc hci hcs hkin HKS hfl
      have HCI := Lib.hid hci
      have HSUB := Lib.hid hsub
      generalize cleanI F (s0, s1) pins L k = FI at hsd hcs HCI HAT
      obtain ⟨sa, sc, hsh⟩ := (hsd.own key).1.shape
      have hown := (hsd.own key)
      rw [hcs] at hsh
      have hlk : ∀ W, Below wr.heap.size wr W → SdM W S' b mo n' rv val' R L FI := fun W hb => hsd.below hb
      have HG : Hid (∀ W, Below wr.heap.size wr W → (W.cell? ⟨w.heap.size, 0, none⟩ = some (.int .i64 s0) ∧ W.cell? ⟨w.heap.size, 1, none⟩ = some (.int .i64 s1)) ∧ W.cell? ⟨b, 1, none⟩ = some (.map mo) ∧ (Instr.lookup 66 (.map mo) (.string key) false).run Tryz.prog W = .ok (.slice sa (F key).length sc) W) := Lib.hid (fun W hb => ⟨⟨kc hb hq.1, kc hb hq.2⟩, (hlk W hb).c1, by have := (hlk W hb).look HKS.out; rw [hsh] at this; exact this⟩)
      have HWR : Hid (∀ W, Below wr.heap.size wr W → WRow W (.slice sa (F key).length sc) (F key)) := Lib.hid (fun W hb => by
        have h1 := (hlk W hb).own key
        have h2 := (hlk W hb).wrow h1.1
        rw [hcs, hsh] at h2
        exact h2)
      have HCL : Hid (∀ W pv, Below wr.heap.size wr W → RowAt KT W pv (pinsOf pins key) → Calls Tryz.prog 34 #[.slice sa (F key).length sc, sv (s0, s1), pv] W fun e w' => ∃ v', e = .returned v' ∧ OwnR KW w' W.heap.size v' (cleanL (F key) (s0, s1) (pinsOf pins key)) ∧ Below W.heap.size W w') := Lib.hid (fun W pv hb hpr => clean_any _ pv (F key) (s0, s1) (pinsOf pins key) W hfl (by have := pinsOf_len pins key; have := HPL.out; omega) (HWR.out W hb) hpr (fun d hd => (HPK.out (key, d) (pinsOf_mem.1 hd)).2))
      have HNE : Hid (cleanL (F key) (s0, s1) (pinsOf pins key) ≠ []) := Lib.hid (fun e => hkin (clean_ne.1 e))
      have HSB : Hid (∀ x ∈ cleanL (F key) (s0, s1) (pinsOf pins key), x ∈ FI key) := Lib.hid (fun x hx => by rw [hcs]; exact cleanL_sub x hx)
      have HKN : Hid (FI key ≠ []) := Lib.hid (by rw [hcs]; exact hkin)
      have hcll : (cleanL (F key) (s0, s1) (pinsOf pins key)).length ≤ 100000 := Nat.le_trans clean_len hfl
      generalize cleanL (F key) (s0, s1) (pinsOf pins key) = CL at HCI HCL HNE HSB hcll
      generalize hxl : (F key).length = xl at HG HWR HCL
      have HBD : Hid (Below wr.heap.size wr wr.drew) := Lib.hid ((Below.refl _ wr).drew)
      have HSD := Lib.hid (HSR.out.below HBD.out)
      have HLK := Lib.hid hlk
      have g0 : (wr.drew.cell? ⟨w.heap.size, 0, none⟩ = some (.int .i64 s0) ∧ wr.drew.cell? ⟨w.heap.size, 1, none⟩ = some (.int .i64 s1)) ∧ wr.drew.cell? ⟨b, 1, none⟩ = some (.map mo) ∧ (Instr.lookup 66 (.map mo) (.string key) false).run Tryz.prog wr.drew = .ok (.slice sa xl sc) wr.drew := HG.out _ HBD.out
      have HCN := Lib.hid (fun W (vv : Value) (hr : RowAt KW W vv CL) => cloneW_any vv CL W hcll hr)
      have HST : Hid (∀ W5 : World, Below wr.heap.size wr W5 → ∀ (W6 : World) (v6 : Value), OwnR KW W6 W5.heap.size v6 CL → Below W5.heap.size W5 W6 → ∃ w7, (Instr.mapUpdate 66 (.map mo) (.string key) v6).run Tryz.prog W6 = .ok () w7 ∧ w7.cell? ⟨b, 1, none⟩ = some (.map mo) ∧ ClnAt w S b mo rv R L (updF FI key CL) w7 ∧ Mv (fun j => mo = some j) w3 w7) := Lib.hid (fun W5 hb5 W6 v6 ho6 hb6 => by
        have h6 := HLK.out W6 (bstep hb5 hb6)
        obtain ⟨w7, hrun, hm7, ht7⟩ := (h6.mp mb HMB.out).store Tryz.underlying66 (by have := h6.cnt HMB.out; have := HLL.out; unfold maxLen; omega) HKS.out v6
        have hwr : wr.heap.size ≤ W5.heap.size := hb5.size
        have h7 := hsd.repl HMB.out (bstep hb5 hb6) HKS.out HKN.out HNE.out ho6 hwr hm7 ht7 HSB.out
        have hw3 : w.heap.size ≤ wr.heap.size := by have := HMV.out.size; have := HB3.out.size; omega
        refine ⟨w7, by rw [HMB.out]; exact hrun, h7.c1, ⟨_, _, _, h7, fun j hj => ?_⟩, (HMV.out.trans (Mv.of_below (bstep hb5 hb6))).trans ((Mv.of_turned ht7).mono (fun j e => by rw [HMB.out, e]))⟩
        rcases hj with hj | hj
        · exact HSUB.out j hj
        · have := (ho6.lt j hj).1
          exact .inr (by omega))
      clear hq hci hkin hfl hcs hown hsh hlk hsd hsub hmb hmlt hPne hxl hcll
      have hki : (k : Int) < (L.length : Int) := by omega
      go_wp2_with fail
      refine wp_region_held_drew (S := fun w' => (w'.cell? ⟨w.heap.size, 0, none⟩ = some (.int .i64 s0) ∧ w'.cell? ⟨w.heap.size, 1, none⟩ = some (.int .i64 s1)) ∧ w'.cell? ⟨b, 1, none⟩ = some (.map mo) ∧ (Instr.lookup 66 (.map mo) (.string key) false).run Tryz.prog w' = .ok (.slice sa xl sc) w') (by kernel_rfl) (g0) (fun hHeld => ?_)
      refine wpAnyH_take (i := 0) (v := ?vc0) rfl (by kernel_rfl) (by kernel_rfl) (by kernel_rfl) (fun _ _ _ h => h) (Or.inl ⟨by rfl, ?yc0⟩) (by assumption) ?rc0
      case yc0 => (intro w hSw; (try dsimp only at hSw); go_simp; try with_reducible rfl)
      try simp only [Act.put, List.setIfInBounds_toArray, List.set_cons_zero, List.set_cons_succ, List.getElem_toArray, List.getElem_cons_zero, List.getElem_cons_succ]
      refine wpAnyH_take (i := 1) (v := ?vc1) rfl (by kernel_rfl) (by kernel_rfl) (by kernel_rfl) (fun _ _ _ h => h) (Or.inl ⟨by rfl, ?yc1⟩) (by assumption) ?rc1
      case yc1 => (intro w hSw; (try dsimp only at hSw); go_simp; try with_reducible rfl)
      try simp only [Act.put, List.setIfInBounds_toArray, List.set_cons_zero, List.set_cons_succ, List.getElem_toArray, List.getElem_cons_zero, List.getElem_cons_succ]
      refine wpAnyH_take (i := 2) (v := ?vc2) rfl (by kernel_rfl) (by kernel_rfl) (by kernel_rfl) (fun _ _ _ h => h) (Or.inl ⟨by rfl, ?yc2⟩) (by assumption) ?rc2
      case yc2 => (intro w hSw; (try dsimp only at hSw); go_simp; try with_reducible rfl)
      try simp only [Act.put, List.setIfInBounds_toArray, List.set_cons_zero, List.set_cons_succ, List.getElem_toArray, List.getElem_cons_zero, List.getElem_cons_succ]
      refine wpAnyH_take (i := 3) (v := ?vc3) rfl (by kernel_rfl) (by kernel_rfl) (by kernel_rfl) (fun _ _ _ h => h) (Or.inl ⟨by rfl, ?yc3⟩) (by assumption) ?rc3
      case yc3 => (intro w hSw; (try dsimp only at hSw); go_simp; try with_reducible rfl)
      try simp only [Act.put, List.setIfInBounds_toArray, List.set_cons_zero, List.set_cons_succ, List.getElem_toArray, List.getElem_cons_zero, List.getElem_cons_succ]
      refine wpAnyH_take (i := 4) (v := ?vc4) rfl (by kernel_rfl) (by kernel_rfl) (by kernel_rfl) (fun _ _ _ h => h) (Or.inl ⟨by rfl, ?yc4⟩) (by assumption) ?rc4
      case yc4 => (intro w hSw; (try dsimp only at hSw); go_simp; try with_reducible rfl)
      try simp only [Act.put, List.setIfInBounds_toArray, List.set_cons_zero, List.set_cons_succ, List.getElem_toArray, List.getElem_cons_zero, List.getElem_cons_succ]
      refine wpAnyH_take (i := 5) (v := ?vc5) rfl (by kernel_rfl) (by kernel_rfl) (by kernel_rfl) (fun _ _ _ h => h) (Or.inl ⟨by rfl, ?yc5⟩) (by assumption) ?rc5
      case yc5 => (intro w hSw; (try dsimp only at hSw); go_simp; try with_reducible rfl)
      try simp only [Act.put, List.setIfInBounds_toArray, List.set_cons_zero, List.set_cons_succ, List.getElem_toArray, List.getElem_cons_zero, List.getElem_cons_succ]
      refine wpAnyH_take (i := 6) (v := ?vc6) rfl (by kernel_rfl) (by kernel_rfl) (by kernel_rfl) (fun _ _ _ h => h) (Or.inl ⟨by rfl, ?yc6⟩) (by assumption) ?rc6
      case yc6 => (intro w hSw; (try dsimp only at hSw); go_simp; try with_reducible rfl)
      try simp only [Act.put, List.setIfInBounds_toArray, List.set_cons_zero, List.set_cons_succ, List.getElem_toArray, List.getElem_cons_zero, List.getElem_cons_succ]
      refine wpAnyH_take (i := 7) (v := ?vc7) rfl (by kernel_rfl) (by kernel_rfl) (by kernel_rfl) (fun _ _ _ h => h) (Or.inl ⟨by rfl, ?yc7⟩) (by assumption) ?rc7
      case yc7 => (intro w hSw; (try dsimp only at hSw); go_simp; try with_reducible rfl)
      try simp only [Act.put, List.setIfInBounds_toArray, List.set_cons_zero, List.set_cons_succ, List.getElem_toArray, List.getElem_cons_zero, List.getElem_cons_succ]
      refine wpAnyH_take (i := 8) (v := ?vc8) rfl (by kernel_rfl) (by kernel_rfl) (by kernel_rfl) (fun _ _ _ h => h) (Or.inl ⟨by rfl, ?yc8⟩) (by assumption) ?rc8
      case yc8 => (intro w hSw; (try dsimp only at hSw); go_simp; try with_reducible rfl)
      try simp only [Act.put, List.setIfInBounds_toArray, List.set_cons_zero, List.set_cons_succ, List.getElem_toArray, List.getElem_cons_zero, List.getElem_cons_succ]
      refine wpAnyH_ready (rs := [9]) (by kernel_rfl) (by simp) ?_
      refine AllReadyH.cons rfl (fun K hK => ?_) AllReadyH.nil
      go_simp
      go_at_call 47
      refine (selC_any _ _ B pins HSD.out key HKS.out).mono ?_
      rintro e w4 ⟨rfl, pv, rfl, hpr⟩
      obtain ⟨pa, pcap, rfl, _⟩ := id hpr
      have hcl := HCL.out _ _ HBD.out hpr
      clear hpr
      go_wp2_with fail
      refine hK.out _ _ (g0) (fun hHeld => ?_)
      clear hK K
      try simp only [Act.put, List.setIfInBounds_toArray, List.set_cons_zero, List.set_cons_succ, List.getElem_toArray, List.getElem_cons_zero, List.getElem_cons_succ]
      refine wpAnyH_ready (rs := [10]) (by kernel_rfl) (by simp) ?_
      refine AllReadyH.cons rfl (fun K hK => ?_) AllReadyH.nil
      go_simp
      go_at_call 34
      refine (hcl).mono ?_
      rintro e w5 ⟨v5, rfl, ho5, hb5⟩
      obtain ⟨ca, cc, rfl⟩ := ho5.shape
      have g1 : (w5.cell? ⟨w.heap.size, 0, none⟩ = some (.int .i64 s0) ∧ w5.cell? ⟨w.heap.size, 1, none⟩ = some (.int .i64 s1)) ∧ w5.cell? ⟨b, 1, none⟩ = some (.map mo) ∧ (Instr.lookup 66 (.map mo) (.string key) false).run Tryz.prog w5 = .ok (.slice sa xl sc) w5 := HG.out _ (bstep HBD.out hb5)
      have HO5 := Lib.hid ho5
      have HB5 := Lib.hid (bstep HBD.out hb5)
      clear ho5 hb5 hcl
      go_wp2_with fail
      refine hK.out _ _ (g1) (fun hHeld => ?_)
      clear hK K
      try simp only [Act.put, List.setIfInBounds_toArray, List.set_cons_zero, List.set_cons_succ, List.getElem_toArray, List.getElem_cons_zero, List.getElem_cons_succ]
      refine wpAnyH_take (i := 11) (v := ?vc11) rfl (by kernel_rfl) (by kernel_rfl) (by kernel_rfl) (fun _ _ _ h => h) (Or.inl ⟨by rfl, ?yc11⟩) (by assumption) ?rc11
      case yc11 => (intro w hSw; (try dsimp only at hSw); go_simp; try with_reducible rfl)
      try simp only [Act.put, List.setIfInBounds_toArray, List.set_cons_zero, List.set_cons_succ, List.getElem_toArray, List.getElem_cons_zero, List.getElem_cons_succ]
      refine wpAnyH_done (by kernel_rfl) ?_ _
      clear g0
      have h5c := g1.2.1
      clear g1
      have h5d : RowAt KW w5.drew (.slice ca CL.length cc) CL := (RowAt.of_own kw_ok HO5.out).below ((Below.refl _ w5).drew)
      have h5b : Below wr.heap.size wr w5.drew := HB5.out.drew
      have h5c : w5.drew.cell? ⟨b, 1, none⟩ = some (.map mo) := h5c
      go_wp2_with fail
      refine wp_region_held_drew (S := fun w' => w'.cell? ⟨b, 1, none⟩ = some (.map mo)) (by kernel_rfl) (h5c) (fun hHeld => ?_)
      refine wpAnyH_take (i := 0) (v := ?vd0) rfl (by kernel_rfl) (by kernel_rfl) (by kernel_rfl) (fun _ _ _ h => h) (Or.inl ⟨by rfl, ?yd0⟩) (by assumption) ?rd0
      case yd0 => (intro w hSw; (try dsimp only at hSw); go_simp; try with_reducible rfl)
      try simp only [Act.put, List.setIfInBounds_toArray, List.set_cons_zero, List.set_cons_succ, List.getElem_toArray, List.getElem_cons_zero, List.getElem_cons_succ]
      refine wpAnyH_take (i := 1) (v := ?vd1) rfl (by kernel_rfl) (by kernel_rfl) (by kernel_rfl) (fun _ _ _ h => h) (Or.inl ⟨by rfl, ?yd1⟩) (by assumption) ?rd1
      case yd1 => (intro w hSw; (try dsimp only at hSw); go_simp; try with_reducible rfl)
      try simp only [Act.put, List.setIfInBounds_toArray, List.set_cons_zero, List.set_cons_succ, List.getElem_toArray, List.getElem_cons_zero, List.getElem_cons_succ]
      refine wpAnyH_take (i := 2) (v := ?vd2) rfl (by kernel_rfl) (by kernel_rfl) (by kernel_rfl) (fun _ _ _ h => h) (Or.inl ⟨by rfl, ?yd2⟩) (by assumption) ?rd2
      case yd2 => (intro w hSw; (try dsimp only at hSw); go_simp; try with_reducible rfl)
      try simp only [Act.put, List.setIfInBounds_toArray, List.set_cons_zero, List.set_cons_succ, List.getElem_toArray, List.getElem_cons_zero, List.getElem_cons_succ]
      refine wpAnyH_take (i := 3) (v := ?vd3) rfl (by kernel_rfl) (by kernel_rfl) (by kernel_rfl) (fun _ _ _ h => h) (Or.inl ⟨by rfl, ?yd3⟩) (by assumption) ?rd3
      case yd3 => (intro w hSw; (try dsimp only at hSw); go_simp; try with_reducible rfl)
      try simp only [Act.put, List.setIfInBounds_toArray, List.set_cons_zero, List.set_cons_succ, List.getElem_toArray, List.getElem_cons_zero, List.getElem_cons_succ]
      refine wpAnyH_take (i := 4) (v := ?vd4) rfl (by kernel_rfl) (by kernel_rfl) (by kernel_rfl) (fun _ _ _ h => h) (Or.inl ⟨by rfl, ?yd4⟩) (by assumption) ?rd4
      case yd4 => (intro w hSw; (try dsimp only at hSw); go_simp; try with_reducible rfl)
      try simp only [Act.put, List.setIfInBounds_toArray, List.set_cons_zero, List.set_cons_succ, List.getElem_toArray, List.getElem_cons_zero, List.getElem_cons_succ]
      refine wpAnyH_take (i := 5) (v := ?vd5) rfl (by kernel_rfl) (by kernel_rfl) (by kernel_rfl) (fun _ _ _ h => h) (Or.inl ⟨by rfl, ?yd5⟩) (by assumption) ?rd5
      case yd5 => (intro w hSw; (try dsimp only at hSw); go_simp; try with_reducible rfl)
      try simp only [Act.put, List.setIfInBounds_toArray, List.set_cons_zero, List.set_cons_succ, List.getElem_toArray, List.getElem_cons_zero, List.getElem_cons_succ]
      refine wpAnyH_ready (rs := [6]) (by kernel_rfl) (by simp) ?_
      refine AllReadyH.cons rfl (fun K hK => ?_) AllReadyH.nil
      go_simp
      go_at_call 35
      refine (HCN.out _ _ h5d).mono ?_
      rintro e w6 ⟨v6, rfl, ho6, hb6⟩
      obtain ⟨da, dc, rfl⟩ := ho6.shape
      obtain ⟨w7, hrun7, hc7, hs7⟩ := HST.out w5.drew h5b w6 _ ho6 hb6
      have h6c : w6.cell? ⟨b, 1, none⟩ = some (.map mo) := kc hb6 h5c
      have HS7 := Lib.hid hs7
      clear ho6 hb6 hs7
      go_wp2_with fail
      refine hK.out _ _ (h6c) (fun hHeld => ?_)
      clear hK K
      try simp only [Act.put, List.setIfInBounds_toArray, List.set_cons_zero, List.set_cons_succ, List.getElem_toArray, List.getElem_cons_zero, List.getElem_cons_succ]
      refine wpAnyH_ready (rs := [7]) (by kernel_rfl) (by simp) ?_
      refine AllReadyH.cons rfl (fun K hK => ?_) AllReadyH.nil
      go_simp
      refine hK.out _ _ (hc7) (fun hHeld => ?_)
      clear hK K
      try simp only [Act.put, List.setIfInBounds_toArray, List.set_cons_zero, List.set_cons_succ, List.getElem_toArray, List.getElem_cons_zero, List.getElem_cons_succ]
      refine wpAnyH_done (by kernel_rfl) ?_ _
      have hL1 : L.length ≤ 100000 := HLL.out
      go_wp2
      go_roundw
      case rel => exact ⟨k + 1, by omega, by go_num, by rw [HCI.out]; exact HS7.out.1, HS7.out.2⟩
      case measure => simp [intOf]; omega
    · obtain rfl : k = L.length := by omega
      have hki : ¬ (L.length : Int) < (L.length : Int) := by omega
      obtain ⟨S', n', val', hsd, hsub⟩ := HAT.out
      rw [HKA.out] at hsd
      have HPO : Hid (ClnPost w S b R L CF wr) := Lib.hid ⟨⟨S', ⟨_, _, _, _, hsd⟩, hsub⟩, (Mv.of_below HB3.out).trans (HMV.out.mono (fun j e => (HSM.out j e).1))⟩
      clear hsd hsub
      go_wp2
      go_end0
      exact ⟨rfl, HPO.out⟩
end Go.Proofs.YtjfmgplhcinkfaaGreat
/- What a shard's Move does. -/
namespace Go.Proofs.YtjfmgplhcinkfaaGreat
open Go.RowKit Go.Maps
set_option linter.unusedVariables false
set_option linter.unusedSimpArgs false

/-- What is left in the map on the way: what the ranges have, and what is still to come. -/
def gL (F : Ch) (val : ByteArray → Value) (R : List (ByteArray × ByteArray)) (left : Lit → Bool) (s : ByteArray) : Option Value := if F s = [] then none else if ownsK R s || left (.string (bts s)) then some (val s) else none
def MvRel (D : DataW Value) (g : ByteArray → Option Value) : Prop := ∀ l, WideAt.IsKeyLit l → Maps.has D l = (litS g l).isSome ∧ ∀ z, D.atKey l (.held z) = .held ((litS g l).getD z)
theorem MvRel.congr {D : DataW Value} {g g' : ByteArray → Option Value} (h : MvRel D g) (e : ∀ s : ByteArray, s.size ≤ maxLen → g s = g' s) : MvRel D g' := by
  unfold MvRel at *
  rw [← litS_congr e]
  exact h
theorem MvRel.del {D : DataW Value} {g g' : ByteArray → Option Value} (h : MvRel D g) {k : ByteArray} (hk : k.size ≤ maxLen) (h0 : g' k = none) (h1 : ∀ s, s ≠ k → g' s = g s) : MvRel (D.del (.string (bts k))) g' := by
  intro l hl
  by_cases e : l = .string (bts k)
  · subst e
    rw [litS_str _ hk, h0]
    exact ⟨Maps.has_del_same, fun z => Maps.atKey_del_same _⟩
  · have he : litS g' l = litS g l := by
      cases l <;> try rfl
      rename_i x
      simp only [litS]
      by_cases hx : x.length ≤ maxLen
      · rw [if_pos hx, if_pos hx]
        exact h1 _ (fun e' => e (by rw [← e']))
      · rw [if_neg hx, if_neg hx]
    rw [he]
    exact ⟨(Maps.has_del_other e).trans (h l hl).1, fun z => (Maps.atKey_del_other e _).trans ((h l hl).2 z)⟩
theorem MapZ.of_rel {w : World} {m n : Nat} {D : DataW Value} {g : ByteArray → Option Value} (ho : w.ownsMap Tryz.prog 9 hvR m n D) (h : MvRel D g) : ∃ n', MapZ w m n' g := by
  obtain ⟨es, clock, g1, g2, g3, g4⟩ := ho
  have hs : Maps.size D = es.size := by rw [g4]; simp [Maps.size, DataW.length_sorted]
  exact ⟨es.size, D, ⟨es, clock, g1, g2, Nat.le_refl _, g4⟩, hs, h⟩
theorem gL_step {F : Ch} {val : ByteArray → Value} {R : List (ByteArray × ByteArray)} {left : Lit → Bool} {k : ByteArray} (s : ByteArray) (hs : s ≠ k) : gL F val R (fun z => left z && !z.sameKey (.string (bts k))) s = gL F val R left s := by
  unfold gL
  have : (Lit.string (bts s)).sameKey (.string (bts k)) = false := by
    cases h : (Lit.string (bts s)).sameKey (.string (bts k)) with
    | false => rfl
    | true =>
      have := WideAt.sameKey_eq h
      simp only [Lit.string.injEq] at this
      exact absurd (bts_inj this) hs
  simp [this]

/-- What Move leaves. -/
def MovPost (w : World) (S : Nat → Prop) (b : Nat) (R' : List (ByteArray × ByteArray)) (L : List ByteArray) (F' : Ch) (w' : World) : Prop := (∃ S', SdAt w' S' b R' L F' ∧ ∀ j, S' j → S j ∨ w.heap.size ≤ j) ∧ Mv S w w'
/-- The map turned. -/
theorem SdM.moved {w w' : World} {S : Nat → Prop} {b m n n' : Nat} {rv : Value} {val : ByteArray → Value} {R : List (ByteArray × ByteArray)} {L : List ByteArray} {F : Ch} (h : SdM w S b (some m) n rv val R L F) (hm : Mv (fun j => j = m) w w') (p : ByteArray → Bool) (hz : MapZ w' m n' (gF (cutF F p) val)) :
    SdM w' S b (some m) n' rv val R (L.filter p) (cutF F p) := by
  have hS := (h.sm m rfl).1
  have hbm : b ≠ m := fun e => (h.sm m rfl).2 e.symm
  have hbl := h.lt b h.sb
  have hbb : w'.heap[b]? = w.heap[b]? := hm.block b hbl hbm
  have hsub : ∀ k, cutF F p k ≠ [] → cutF F p k = F k ∧ F k ≠ [] := fun k hk => by
    unfold cutF at hk ⊢
    by_cases e : p k = true
    · rw [if_pos e] at hk ⊢
      exact ⟨rfl, hk⟩
    · rw [if_neg e] at hk
      exact absurd rfl hk
  refine ⟨fun j hj => Nat.lt_of_lt_of_le (h.lt j hj) hm.size, h.sb, h.sm, by rw [World.cell?_of_block hbb]; exact h.c0, by rw [World.cell?_of_block hbb]; exact h.c1, fun i => by rw [World.frozen?_of_block hbb]; exact h.fr i, ?_, h.ro, h.kl.cut p, fun k hk => h.ks k (List.mem_filter.1 hk).1, ?_, (fun e => by cases e), ?_, ?_⟩
  · exact h.rr.block (fun g hg => hm.block g (h.lt g (h.ro g hg).1) (fun e => (h.ro g hg).2.2 (by rw [e])))
  · intro m' e
    cases e
    exact hz
  · intro k hk
    obtain ⟨e1, e2⟩ := hsub k hk
    rw [e1]
    have := h.rows k e2
    exact ⟨this.1.block (fun g hg => hm.block g (h.lt g (this.2 g hg).1) (fun e => (this.2 g hg).2.2 (by rw [e]))), this.2⟩
  · intro k x hx
    have hk : cutF F p k ≠ [] := fun e => by rw [e] at hx; cases hx
    obtain ⟨e1, e2⟩ := hsub k hk
    rw [e1] at hx
    obtain ⟨h1, h2⟩ := h.vb k x hx
    exact ⟨h1.block hm.size (fun hne a ha => hm.block _ (h1.pastLt hne a ha) (fun e => h2 hne a ha (by rw [e]; exact hS))), h2⟩

set_option maxRecDepth 100000 in
set_option maxHeartbeats 3200000 in
theorem smove_any {w : World} {S : Nat → Prop} {b : Nat} {R : List (ByteArray × ByteArray)} {L : List ByteArray} {F : Ch} (h : SdAt w S b R L F) (v : Value) (R' : List (ByteArray × ByteArray)) (hR : R'.length ≤ 100) (hr : RowAt KR w v R') :
    Calls Tryz.prog 10 #[.pointer (some ⟨b, 0, none⟩), v] w fun e w' => e = .returned (.tuple #[]) ∧ MovPost w S b R' (L.filter (ownsK R')) (cutF F (ownsK R')) w' := by
  obtain ⟨mo, n, rv, val, h⟩ := h
  have hcl := cloneR_any v R' w (by omega) hr
  obtain ⟨va, vc, rfl, _⟩ := id hr
  have HH := Lib.hid h
  clear hr h
  go_enter Tryz.func10, Tryz.ntmps10
  go_wp2_with fail
  refine hcl.mono ?_
  rintro e w1 ⟨v1, rfl, ho1, hb1⟩
  obtain ⟨a1, c1, rfl⟩ := ho1.shape
  have h1 := HH.out.below hb1
  have hne : ∀ {j}, j < w.heap.size → (Value.slice a1 R'.length c1).ownBlock ≠ some j := fun hj e => by have := (ho1.lt _ e).1; omega
  have h2 := h1.rset ho1 (fun g hg hs => hne (HH.out.lt g hs) hg) (fun d x hx => (HH.out.vb d x hx).1.pastLt.mono fun j hj => hne hj)
  have c0 := h1.c0
  have f0 := h1.fr 0
  have hMv : Mv S w (w1.setCell ⟨b, 0, none⟩ (.slice a1 R'.length c1)) := (Mv.of_below hb1).set HH.out.sb _
  have HS : Hid (∀ j, S j ∨ (Value.slice a1 R'.length c1).ownBlock = some j → S j ∨ w.heap.size ≤ j) := Lib.hid (fun j hj => hj.imp id (fun e => (ho1.lt j e).1))
  have HMV := Lib.hid hMv
  have HH2 := Lib.hid h2
  clear h1 h2 ho1 hb1 hMv hcl hne
  go_upto_region 2 with fail
  generalize w1.setCell ⟨b, 0, none⟩ (.slice a1 R'.length c1) = w2 at *
  clear c0 f0
  have c1' := HH2.out.c1
  cases mo with
  | none =>
    have hF : ∀ k, F k = [] := fun k => by
      by_cases e : F k = []
      · exact e
      · have := (HH2.out.kl.2 k).2 e
        rw [HH2.out.m0 rfl] at this
        cases this
    have hcut : cutF F (ownsK R') = F := by
      funext k
      unfold cutF
      rw [hF k]
      simp
    have hL : L.filter (ownsK R') = L := by rw [HH2.out.m0 rfl]; rfl
    have hrg := run_range_nilMap (P := Tryz.prog) w2 66 _ _ Tryz.underlying66
    have hnx : ∀ ty, (Instr.next (.pointer (some ⟨w2.heap.size, 0, none⟩)) false ty).run Tryz.prog (w2.alloc (.mapIter none 0 #[] 0)) = _ := fun ty => run_next_nilMap _ ty 0 0 #[]
    have hA : Below w2.heap.size w2 (w2.alloc (.mapIter none 0 #[] 0)) := balloc (Below.refl _ _) _
    have HPO : Hid (MovPost w S b R' (L.filter (ownsK R')) (cutF F (ownsK R')) (w2.alloc (.mapIter none 0 #[] 0))) := Lib.hid (by
      rw [hcut, hL]
      exact ⟨⟨_, ⟨_, _, _, _, HH2.out.below hA⟩, HS.out⟩, HMV.out.step hA⟩)
    clear hA hcut hL hF
    go_wp2
    refine wp_loop_rounds 1 ?_
    rw [rounds_succ]
    go_wp2
    go_end0
    exact ⟨rfl, HPO.out⟩
  | some m =>
    obtain ⟨D0, hown, hsz, hf⟩ := HH2.out.mp m rfl
    have hml := HH2.out.lt m (HH2.out.sm m rfl).1
    have HSB := Lib.hid (HH2.out.sb)
    have hrel0 : MvRel D0 (gL F val R' (Maps.has D0)) := MvRel.congr (D := D0) (g := gF F val) hf (fun s hs => by
      unfold gL gF
      by_cases e : F s = []
      · rw [if_pos e, if_pos e]
      · rw [if_neg e, if_neg e]
        have : Maps.has D0 (.string (bts s)) = true := by
          rw [(hf (.string (bts s)) trivial).1, litS_str _ hs]
          unfold gF
          rw [if_neg e]
          rfl
        rw [this]
        simp)
    have HF := Lib.hid hf
    have HR0 := Lib.hid hrel0
    clear hf hrel0 hsz
    go_wp2_with (first | (at_range; refine wpList_range_own _ rfl _ 66 rfl 9 47 keyed_text Tryz.underlying66 hvR m n D0 rfl hown ?_; intro w3 hrg0 hg0 hs0) | go_in)
    go_frame
    have HB3 : Hid (Below w2.heap.size w2 w3) := Lib.hid ((Below.refl _ w2).grown hg0 (Nat.le_refl _) (fun k e => by cases e))
    have HRG := Lib.hid hrg0
    clear hrg0 hg0 hs0 hown c1'
    go_loopw [4] (fun _ wr => ∃ D left c, wr.ranges Tryz.prog 9 hvR m w2.heap.size n D left c ∧ MvRel D (gL F val R' left) ∧ Mv (fun j => j = m ∨ j = w2.heap.size) w3 wr) (fun _ wr => wr.rangeLeft m w2.heap.size)
    case atStart => exact ⟨_, _, _, HRG.out, HR0.out, Mv.refl _ _⟩
    case round =>
      obtain ⟨D, left, c, q1, q2, q3⟩ := hrel
      have HQ1 := Lib.hid q1
      have HQ2 := Lib.hid q2
      have HQ3 := Lib.hid q3
      clear q1 q2 q3
      go_wp2_with (first | (at_next; refine wpList_next_ranges _ rfl _ rfl 9 keyed_text hvR Value.string id (fun key kl hkey => by obtain ⟨x, ex, _⟩ := Maps.keyOf_str Tryz.underlying9 hkey; exact ⟨_, ex⟩) (fun v _ _ => ⟨v, rfl⟩) m w2.heap.size n _ _ _ rfl HQ1.out ?_ ?_) | go_in)
      · intro _ hl0
        obtain ⟨n', hz⟩ := MapZ.of_rel (g := gF (cutF F (ownsK R')) val) HQ1.out.owns (HQ2.out.congr (fun s _ => by
          unfold gL gF cutF
          rw [hl0]
          by_cases e : F s = []
          · rw [if_pos e]
            by_cases o : ownsK R' s = true
            · rw [if_pos o, if_pos e]
            · rw [if_neg o, if_pos rfl]
          · rw [if_neg e]
            by_cases o : ownsK R' s = true
            · rw [if_pos o, if_neg e, o]
              rfl
            · rw [if_neg o, if_pos rfl]
              simp at o
              rw [o]
              rfl))
        have hmm : Mv (fun j => j = m) w2 wr := by
          have h3 := HB3.out
          have h4 := HQ3.out
          exact ⟨h4.os.trans h3.os, h4.tape.trans h3.tape, h4.output.trans h3.output, Nat.le_trans h3.size h4.size, fun k hk hne => (h4.block k (Nat.lt_of_lt_of_le hk h3.size) (fun e => by rcases e with e | e; exact hne e; omega)).trans (h3.block k hk)⟩
        have HPO : Hid (MovPost w S b R' (L.filter (ownsK R')) (cutF F (ownsK R')) wr) := Lib.hid ⟨⟨_, ⟨_, _, _, _, HH2.out.moved hmm (ownsK R') hz⟩, HS.out⟩, HMV.out.trans ⟨hmm.os, hmm.tape, hmm.output, hmm.size, fun k hk hne => by
          by_cases e : k = m
          · subst e
            exact absurd (HH.out.sm k rfl).1 hne
          · exact hmm.block k hk e⟩⟩
        clear hz hmm
        go_wp2
        go_end0
        exact ⟨rfl, HPO.out⟩
      · intro x cv kl yd yp w4 cnt1 hkey hlx hv hat hrg1 hlt hg1 hs1 hen
        obtain ⟨xl, ex, rfl, hxl⟩ := Maps.keyOf_str Tryz.underlying9 hkey
        have hxb : bts x = xl := by
          unfold Go.Proofs.encStr at ex
          injection ex with ex
          rw [ex]
        subst hxb
        have hxs : x.size ≤ maxLen := by simpa using hxl
        have HXS := Lib.hid hxs
        have hg4 : Mv (fun j => j = m ∨ j = w2.heap.size) wr w4 := ⟨hg1.os, hg1.tape, hg1.output, hg1.size, fun k hk hne => hg1.block k hk (fun e => hne (.inr (by cases e; rfl)))⟩
        have HG4 := Lib.hid (HQ3.out.trans hg4)
        have hbm : b ≠ m := fun e => (HH2.out.sm m rfl).2 e.symm
        have hbl : b < w2.heap.size := HH2.out.lt b HSB.out
        have hPb : ¬ (b = m ∨ b = w2.heap.size) := fun e => by rcases e with e | e; exact hbm e; omega
        have hrb : ∀ g, (Value.slice a1 R'.length c1).ownBlock = some g → ¬ (g = m ∨ g = w2.heap.size) := fun g hg e => by
          have h5 := HH2.out.ro g hg
          have h6 := HH2.out.lt g h5.1
          rcases e with e | e
          · exact h5.2.2 (by rw [e])
          · omega
        have hrr : RowAt KR w4 (.slice a1 R'.length c1) R' := RowAt.of_own kr_ok ((HH2.out.rr.below HB3.out).block (fun g hg => HG4.out.block g (by have := (HH2.out.rr.lt g hg).2; have := HB3.out.size; omega) (hrb g hg)))
        have hc0 : w4.cell? ⟨b, 0, none⟩ = some (.slice a1 R'.length c1) := HG4.out.cell hPb (kc HB3.out HH2.out.c0)
        have hc1 : w4.cell? ⟨b, 1, none⟩ = some (.map (some m)) := HG4.out.cell hPb (kc HB3.out HH2.out.c1)
        have how := sownsC_any hc0 hrr hR x
        have HRG1 := Lib.hid hrg1
        have HKEY := Lib.hid hkey
        have HLT : Hid (w4.rangeLeft m w2.heap.size < wr.rangeLeft m w2.heap.size) := Lib.hid (by rw [hrg1.left_eq, HQ1.out.left_eq]; exact hlt)
        have HNE : Hid (some m ≠ (none : Option Nat) ∧ some w2.heap.size ≠ (none : Option Nat)) := Lib.hid ⟨by simp, by simp⟩
        have HOW : Hid (∀ o, ownsK R' x = o → (o = true → MvRel D (gL F val R' (fun z => left z && !z.sameKey (.string (bts x))))) ∧ (o = false → MvRel (D.del (.string (bts x))) (gL F val R' (fun z => left z && !z.sameKey (.string (bts x)))))) := Lib.hid (fun o ho => by
          have hsame : gL F val R' (fun z => left z && !z.sameKey (.string (bts x))) x = if F x = [] then none else if o = true then some (val x) else none := by
            unfold gL
            have : (Lit.string (bts x)).sameKey (.string (bts x)) = true := WideAt.sameKey_self trivial
            simp [this, ho]
          refine ⟨fun h => HQ2.out.congr (fun s _ => ?_), fun h => HQ2.out.del hxs ?_ (fun s hs => gL_step s hs)⟩
          · by_cases e : s = x
            · subst e
              rw [hsame, h]
              unfold gL
              rw [ho, h]
              simp
            · exact (gL_step s e).symm
          · rw [hsame, h]
            simp)
        clear hrg1 hlt hg1 hs1 hat hv hlx hkey hxl hxs ex hg4 hrr hc0 hrb hPb hbm hbl
        generalize ownsK R' x = o at how HOW
        go_wp2_with fail
        refine how.mono ?_
        rintro e w5 ⟨rfl, hb5⟩
        have HB5 := Lib.hid hb5
        have hgb : w4.grownBy w5 none := ⟨hb5.os, hb5.tape, hb5.output, hb5.size, fun k hk _ => hb5.block k hk⟩
        have hrg5 := HRG1.out.kept hgb (by simp) (by simp)
        have HM5 : Hid (Mv (fun j => j = m ∨ j = w2.heap.size) w3 w5) := Lib.hid (HG4.out.step hb5)
        have HL5 : Hid (w5.rangeLeft m w2.heap.size < wr.rangeLeft m w2.heap.size) := Lib.hid (by rw [hrg5.left_eq, ← HRG1.out.left_eq]; exact HLT.out)
        have HRG5 := Lib.hid hrg5
        have hc5 := kc hb5 hc1
        clear hrg5 hgb hb5 hc1 how
        cases o with
        | true =>
          have HR5 := Lib.hid ((HOW.out true rfl).1 rfl)
          go_wp2
          go_roundw
          case rel => exact ⟨_, _, _, HRG5.out, HR5.out, HM5.out⟩
          case measure => exact HL5.out
        | false =>
          have HR5 := Lib.hid ((HOW.out false rfl).2 rfl)
          go_wp2_with (first | (at_delete; refine wpList_delete_ranges _ rfl _ _ 66 9 rfl 47 keyed_text Tryz.underlying66 hvR m w2.heap.size n _ _ _ rfl HRG5.out (.string x) (.string (bts x)) rfl (key_text HXS.out) ?_; intro w6 cnt6 hrg6 hle hturn; go_frame) | go_in)
          rw [Maps.strike_twice] at hrg6
          go_roundw
          case rel => exact ⟨_, _, _, hrg6, HR5.out, HM5.out.trans ((Mv.of_turned hturn).mono (fun j e => .inl e))⟩
          case measure => have := HL5.out; rw [HRG5.out.left_eq] at this; rw [hrg6.left_eq]; omega
set_option maxRecDepth 100000 in
/-- No shard is moved. -/
theorem smove_nil (v : Value) (w : World) (hv : ∃ a n c, v = .slice a n c) : Calls Tryz.prog 10 #[.pointer none, v] w fun e w' => e = .returned (.tuple #[]) ∧ w = w' := by
  obtain ⟨a, n, c, rfl⟩ := hv
  go_enter Tryz.func10, Tryz.ntmps10
  go_wp2
  refine bodyPost_ret (v := .tuple #[]) (by simp [results, Tryz.results10, go_sem]) rfl ⟨rfl, rfl⟩
end Go.Proofs.YtjfmgplhcinkfaaGreat
/- Move and Clean of a shard, as a law sees them. -/
namespace Go.Proofs.YtjfmgplhcinkfaaGreat
open Go.RowKit
set_option linter.unusedVariables false
set_option linter.unusedSimpArgs false

section
variable {w w' : World} {A : Nat → Prop} {N b : Nat} {R : List (ByteArray × ByteArray)} {F : Ch}
theorem lmove_any (h : ShA w A N b R F) (v : Value) (R' : List (ByteArray × ByteArray)) (hR : R'.length ≤ 100) (hr : RowAt KR w v R') :
    Calls Tryz.prog 10 #[.pointer (some ⟨b, 0, none⟩), v] w fun e w' => e = .returned (.tuple #[]) ∧ ShA w' A N b R' (cutF F (ownsK R')) ∧ Wr A w w' := by
  obtain ⟨S, L, h1, h2, h3⟩ := h
  refine (smove_any h1 v R' hR hr).mono ?_
  rintro e w' ⟨he, ⟨S', hs, hsub⟩, hm⟩
  obtain ⟨g1, g2⟩ := ShA.of_put (N := N) h3 hs (Nat.le_trans (List.length_filter_le _ _) h2) hsub hm
  exact ⟨he, g1, g2⟩
theorem lclean_any (h : ShA w A N b R F) (hN : N ≤ 100000) (hF : ∀ k, (F k).length ≤ 100000) (s : Int × Int) (v : Value) (pins : List De) (hp : pins.length ≤ 100000) (hpk : ∀ d ∈ pins, d.1.size ≤ maxLen ∧ In64 d.2) (hpr : DepAt w v pins) :
    Calls Tryz.prog 8 #[.pointer (some ⟨b, 0, none⟩), sv s, v] w fun e w' => e = .returned (.tuple #[]) ∧ ShA w' A N b R (cleanF F s pins) ∧ Wr A w w' := by
  obtain ⟨S, L, h1, h2, h3⟩ := h
  refine (sclean_any h1 (by omega) hF s v pins hp hpk hpr).mono ?_
  rintro e w' ⟨he, ⟨S', hs, hsub⟩, hm⟩
  obtain ⟨g1, g2⟩ := ShA.of_put (N := N) h3 hs h2 hsub hm
  exact ⟨he, g1, g2⟩
end
theorem cutF_len {F : Ch} {p : ByteArray → Bool} {n : Nat} (h : ∀ k, (F k).length ≤ n) (k : ByteArray) : (cutF F p k).length ≤ n := by
  unfold cutF
  split
  · exact h k
  · simp
theorem cutF_yes {F : Ch} {p : ByteArray → Bool} {k : ByteArray} (h : p k = true) : cutF F p k = F k := by unfold cutF; rw [if_pos h]
theorem cutF_no {F : Ch} {p : ByteArray → Bool} {k : ByteArray} (h : p k = false) : cutF F p k = [] := by unfold cutF; rw [if_neg (by rw [h]; simp)]
theorem cutF_bd {F : Ch} {p : ByteArray → Bool} (hF : ∀ W d, ∀ y ∈ F d, VwB W y) : ∀ W d, ∀ y ∈ cutF F p d, VwB W y := fun W d y hy => by
  unfold cutF at hy
  split at hy
  · exact hF W d y hy
  · cases hy
theorem cleanF_len {F : Ch} {s : Int × Int} {pins : List De} {n : Nat} (h : ∀ k, (F k).length ≤ n) (k : ByteArray) : (cleanF F s pins k).length ≤ n := Nat.le_trans clean_len (h k)
theorem cleanF_bd {F : Ch} {s : Int × Int} {pins : List De} (hF : ∀ W d, ∀ y ∈ F d, VwB W y) : ∀ W d, ∀ y ∈ cleanF F s pins d, VwB W y := fun W d y hy => hF W d y (cleanL_sub y hy)
/-- Where the document's Find finds a key. -/
theorem rfind_any (a : Option Addr) (cap : Nat) (R : List (ByteArray × ByteArray)) (k : ByteArray) (w : World) (hl : R.length ≤ 100) (hr : RowAt KR w (.slice a R.length cap) R) :
    Calls Tryz.prog 38 #[.slice a R.length cap, .string k] w fun e w' => ∃ z : Int, e = .returned (.int .i64 z) ∧ decide (0 ≤ z) = ownsK R k ∧ Below w.heap.size w w' := by
  obtain ⟨a', c', e', _, _, _, h⟩ := hr
  cases e'
  refine (refFind_any a cap R k w hl h.rng).mono ?_
  rintro e w' ⟨he, hb⟩
  exact ⟨_, he, rfl, hb⟩
end Go.Proofs.YtjfmgplhcinkfaaGreat
