/- What a shard's Clean does. -/
import Derived.Test.YtjfmgplhcinkfaaGO26
import Derived.Deep.DeepCutAuto
namespace Go.Proofs.Ytjfmgplhcinkfaa
open Go.RowKit
set_option linter.unusedVariables false
set_option linter.unusedSimpArgs false

/-- What Clean leaves. -/
def ClnPost (w : World) (S : Nat → Prop) (b : Nat) (R : List (ByteArray × ByteArray)) (L : List ByteArray) (F' : Ch) (w' : World) : Prop := (∃ S', SdAt w' S' b R L F' ∧ ∀ j, S' j → S j ∨ w.heap.size ≤ j) ∧ Mv S w w'
/-- On the way. -/
def ClnAt (w : World) (S : Nat → Prop) (b : Nat) (mo : Option Nat) (rv : Value) (R : List (ByteArray × ByteArray)) (L : List ByteArray) (F' : Ch) (w' : World) : Prop := ∃ S' n val, SdM w' S' b mo n rv val R L F' ∧ ∀ j, S' j → S j ∨ w.heap.size ≤ j
theorem cleanL_sub {c : List Vw} {s : Int × Int} {pins : List (Int × Int)} : ∀ x ∈ cleanL c s pins, x ∈ c := fun x hx => (List.mem_filter.1 hx).1

set_option maxRecDepth 100000 in
set_option maxHeartbeats 3200000 in
theorem sclean_any {w : World} {S : Nat → Prop} {b : Nat} {R : List (ByteArray × ByteArray)} {L : List ByteArray} {F : Ch} (h : SdAt w S b R L F) (hL : L.length ≤ 100000) (hF : ∀ k, (F k).length ≤ 100000) (s : Int × Int) (v : Value) (pins : List De) (hp : pins.length ≤ 100000) (hpk : ∀ d ∈ pins, d.1.size ≤ maxLen ∧ In64 d.2) (hpr : DepAt w v pins) :
    Calls Try.prog 13 #[.pointer (some ⟨b, 0, none⟩), sv s, v] w fun e w' => e = .returned (.tuple #[]) ∧ ClnPost w S b R L (cleanF F s pins) w' := by
  obtain ⟨mo, n, rv, val, h⟩ := h
  have hb1 : Below w.heap.size w (w.alloc (.cells #[.int .i64 s.1, .int .i64 s.2] 29)) := balloc (Below.refl _ w) _
  have q0 : (w.alloc (.cells #[.int .i64 s.1, .int .i64 s.2] 29)).cell? ⟨w.heap.size, 0, none⟩ = some (.int .i64 s.1) := by simp
  have q1 : (w.alloc (.cells #[.int .i64 s.1, .int .i64 s.2] 29)).cell? ⟨w.heap.size, 1, none⟩ = some (.int .i64 s.2) := by simp
  have HSE := Lib.hid (fun W (hb : Below w.heap.size w W) => selector_any v pins W hp (fun d hd => (hpk d hd).1) (hpr.below hb))
  have HKY := Lib.hid (fun W (hb : Below w.heap.size w W) => skeys_any (show SdAt W S b R L F from ⟨mo, n, rv, val, h.below hb⟩) hL)
  obtain ⟨va, vc, rfl, _⟩ := id hpr
  have HF := Lib.hid hF
  have HH := Lib.hid h
  have HPK := Lib.hid hpk
  have HPL := Lib.hid hp
  have HLL := Lib.hid hL
  have HSL := Lib.hid h.lt
  have HBL := Lib.hid (h.lt b h.sb)
  have HND := Lib.hid h.kl.nd
  have HKA := Lib.hid (cleanI_all (s := s) (pins := pins) h.kl)
  have HK0 := Lib.hid (cleanI_zero F s pins L)
  have HKK := Lib.hid (h.ks)
  have HKLN := Lib.hid h.kl
  have HMO := Lib.hid (h.m0)
  have HSM := Lib.hid h.sm
  generalize hcf : cleanF F s pins = CF at HKA ⊢
  clear h hpr hF hpk hp hL hcf
  obtain ⟨s0, s1⟩ := s
  dsimp only at q0 q1
  go_enter Try.func13, Try.ntmps13
  go_upto_region 1 with fail
  generalize w.alloc (.cells #[.int .i64 s0, .int .i64 s1] 29) = w1 at *
  have HB1 := Lib.hid hb1
  have HQ1 := Lib.hid (And.intro q0 q1)
  clear hb1 q0 q1
  go_wp2_with fail
  refine (HSE.out _ HB1.out).mono ?_
  rintro e w2 ⟨B, rfl, hse, hb2⟩
  have HB2 := Lib.hid (bstep HB1.out hb2)
  have HQ2 := Lib.hid (And.intro (kc hb2 HQ1.out.1) (kc hb2 HQ1.out.2))
  have HSE2 := Lib.hid hse
  have hs1 : w.heap.size ≤ w1.heap.size := HB1.out.size
  have HS1 := Lib.hid hs1
  clear hse hb2 hs1 HQ1
  go_wp2_with fail
  refine (HKY.out _ HB2.out).mono ?_
  rintro e w3 ⟨kv, rfl, hko, hb3⟩
  obtain ⟨ka, kcap, rfl⟩ := hko.shape
  have HB3 := Lib.hid (bstep HB2.out hb3)
  have HQ3 := Lib.hid (And.intro (kc hb3 HQ2.out.1) (kc hb3 HQ2.out.2))
  have HSE3 := Lib.hid (HSE2.out.below hb3)
  have HKO := Lib.hid hko
  have HS2 : Hid (w.heap.size ≤ w2.heap.size) := Lib.hid HB2.out.size
  clear hko hb3 HSE HKY HSE2 HQ2
  go_wp2
  go_loopw [15] (fun i wr => ∃ k : Nat, k ≤ L.length ∧ i = .int .i64 k ∧ ClnAt w S b mo rv R L (cleanI F (s0, s1) pins L k) wr ∧ Mv (fun j => mo = some j) w3 wr) (fun i _ => L.length - (intOf i).toNat)
  case atStart => exact ⟨0, by omega, rfl, ⟨S, n, val, by rw [HK0.out]; exact HH.out.below HB3.out, fun j hj => .inl hj⟩, Mv.refl _ _⟩
  case round =>
    obtain ⟨k, hkl, rfl, hat, hmv⟩ := hrel
    have HMV := Lib.hid hmv
    have HAT := Lib.hid hat
    clear hat hmv
    by_cases hlt : k < L.length
    · obtain ⟨S', n', val', hsd, hsub⟩ := HAT.out
      obtain ⟨mb, hmb⟩ : ∃ mb, mo = some mb := by
        cases mo with
        | none => have := HMO.out rfl; rw [this] at hlt; simp at hlt
        | some mb => exact ⟨mb, rfl⟩
      have HMB := Lib.hid hmb
      have hmlt : mb < w.heap.size := HSL.out mb (HSM.out mb hmb).1
      have HML := Lib.hid hmlt
      have hPne : ∀ j, w.heap.size ≤ j → ¬ mo = some j := fun j hj e => by rw [hmb] at e; cases e; omega
      have HPN := Lib.hid hPne
      have HKR : Hid (OwnR KS wr w2.heap.size (.slice ka L.length kcap) L) := Lib.hid (HKO.out.block (fun g hg => HMV.out.block g (HKO.out.lt g hg).2 (hPne g (by have := (HKO.out.lt g hg).1; have := HS2.out; omega))))
      obtain ⟨kb, koff, rfl, hkbl, hkc⟩ := (RowIn.of_own ks_ok HKR.out).str k hlt
      have hq := And.intro (HMV.out.cell (hPne _ (Nat.le_refl _)) HQ3.out.1) (HMV.out.cell (hPne _ (Nat.le_refl _)) HQ3.out.2)
      have HSR : Hid (SelAt wr w1.heap.size B pins) := Lib.hid (HSE3.out.mv HMV.out (fun j hj => hPne j (by have := HS1.out; omega)))
      obtain ⟨hci, hcs⟩ := cleanI_succ (F := F) (s := (s0, s1)) (pins := pins) HND.out hlt
      have hkin : F L[k] ≠ [] := (HKLN.out.2 _).1 (List.getElem_mem hlt)
      have HKS := Lib.hid (HKK.out _ (List.getElem_mem hlt))
      have hfl := HF.out L[k]
      generalize L[k] = key at hkc hci hcs hkin HKS hfl
      have HCI := Lib.hid hci
      have HSUB := Lib.hid hsub
      generalize cleanI F (s0, s1) pins L k = FI at hsd hcs HCI HAT
      obtain ⟨sa, sc, hsh⟩ := (hsd.own key).1.shape
      have hown := (hsd.own key)
      rw [hcs] at hsh
      have hlk : ∀ W, Below wr.heap.size wr W → SdM W S' b mo n' rv val' R L FI := fun W hb => hsd.below hb
      have HG : Hid (∀ W, Below wr.heap.size wr W → (W.cell? ⟨w.heap.size, 0, none⟩ = some (.int .i64 s0) ∧ W.cell? ⟨w.heap.size, 1, none⟩ = some (.int .i64 s1)) ∧ W.cell? ⟨b, 1, none⟩ = some (.map mo) ∧ (Instr.lookup 55 (.map mo) (.string key) false).run Try.prog W = .ok (.slice sa (F key).length sc) W) := Lib.hid (fun W hb => ⟨⟨kc hb hq.1, kc hb hq.2⟩, (hlk W hb).c1, by have := (hlk W hb).look HKS.out; rw [hsh] at this; exact this⟩)
      have HWR : Hid (∀ W, Below wr.heap.size wr W → WRow W (.slice sa (F key).length sc) (F key)) := Lib.hid (fun W hb => by
        have h1 := (hlk W hb).own key
        have h2 := (hlk W hb).wrow h1.1
        rw [hcs, hsh] at h2
        exact h2)
      have HCL : Hid (∀ W pv, Below wr.heap.size wr W → RowAt KT W pv (pinsOf pins key) → Calls Try.prog 30 #[.slice sa (F key).length sc, sv (s0, s1), pv] W fun e w' => ∃ v', e = .returned v' ∧ OwnR KW w' W.heap.size v' (cleanL (F key) (s0, s1) (pinsOf pins key)) ∧ Below W.heap.size W w') := Lib.hid (fun W pv hb hpr => clean_any _ pv (F key) (s0, s1) (pinsOf pins key) W hfl (by have := pinsOf_len pins key; have := HPL.out; omega) (HWR.out W hb) hpr (fun d hd => (HPK.out (key, d) (pinsOf_mem.1 hd)).2))
      have HNE : Hid (cleanL (F key) (s0, s1) (pinsOf pins key) ≠ []) := Lib.hid (fun e => hkin (clean_ne.1 e))
      have HSB : Hid (∀ x ∈ cleanL (F key) (s0, s1) (pinsOf pins key), x ∈ FI key) := Lib.hid (fun x hx => by rw [hcs]; exact cleanL_sub x hx)
      have HKN : Hid (FI key ≠ []) := Lib.hid (by rw [hcs]; exact hkin)
      have hcll : (cleanL (F key) (s0, s1) (pinsOf pins key)).length ≤ 100000 := Nat.le_trans clean_len hfl
      generalize cleanL (F key) (s0, s1) (pinsOf pins key) = CL at HCI HCL HNE HSB hcll
      generalize hxl : (F key).length = xl at HG HWR HCL
      have HBD : Hid (Below wr.heap.size wr wr.drew) := Lib.hid ((Below.refl _ wr).drew)
      have HSD := Lib.hid (HSR.out.below HBD.out)
      have HLK := Lib.hid hlk
      have g0 : (wr.drew.cell? ⟨w.heap.size, 0, none⟩ = some (.int .i64 s0) ∧ wr.drew.cell? ⟨w.heap.size, 1, none⟩ = some (.int .i64 s1)) ∧ wr.drew.cell? ⟨b, 1, none⟩ = some (.map mo) ∧ (Instr.lookup 55 (.map mo) (.string key) false).run Try.prog wr.drew = .ok (.slice sa xl sc) wr.drew := HG.out _ HBD.out
      have HCN := Lib.hid (fun W (vv : Value) (hr : RowAt KW W vv CL) => cloneW_any vv CL W hcll hr)
      have HST : Hid (∀ W5 : World, Below wr.heap.size wr W5 → ∀ (W6 : World) (v6 : Value), OwnR KW W6 W5.heap.size v6 CL → Below W5.heap.size W5 W6 → ∃ w7, (Instr.mapUpdate 55 (.map mo) (.string key) v6).run Try.prog W6 = .ok () w7 ∧ w7.cell? ⟨b, 1, none⟩ = some (.map mo) ∧ ClnAt w S b mo rv R L (updF FI key CL) w7 ∧ Mv (fun j => mo = some j) w3 w7) := Lib.hid (fun W5 hb5 W6 v6 ho6 hb6 => by
        have h6 := HLK.out W6 (bstep hb5 hb6)
        obtain ⟨w7, hrun, hm7, ht7⟩ := (h6.mp mb HMB.out).store Try.underlying55 (by have := h6.cnt HMB.out; have := HLL.out; unfold maxLen; omega) HKS.out v6
        have hwr : wr.heap.size ≤ W5.heap.size := hb5.size
        have h7 := hsd.repl HMB.out (bstep hb5 hb6) HKS.out HKN.out HNE.out ho6 hwr hm7 ht7 HSB.out
        have hw3 : w.heap.size ≤ wr.heap.size := by have := HMV.out.size; have := HB3.out.size; omega
        refine ⟨w7, by rw [HMB.out]; exact hrun, h7.c1, ⟨_, _, _, h7, fun j hj => ?_⟩, (HMV.out.trans (Mv.of_below (bstep hb5 hb6))).trans ((Mv.of_turned ht7).mono (fun j e => by rw [HMB.out, e]))⟩
        rcases hj with hj | hj
        · exact HSUB.out j hj
        · have := (ho6.lt j hj).1
          exact .inr (by omega))
      clear hq hci hkin hfl hcs hown hsh hlk hsd hsub hmb hmlt hPne hxl hcll
      have hki : (k : Int) < (L.length : Int) := by omega
      go_wp2_with fail
      refine wp_region_held_drew (S := fun w' => (w'.cell? ⟨w.heap.size, 0, none⟩ = some (.int .i64 s0) ∧ w'.cell? ⟨w.heap.size, 1, none⟩ = some (.int .i64 s1)) ∧ w'.cell? ⟨b, 1, none⟩ = some (.map mo) ∧ (Instr.lookup 55 (.map mo) (.string key) false).run Try.prog w' = .ok (.slice sa xl sc) w') (by kernel_rfl) (g0) (fun hHeld => ?_)
      refine wpAnyH_take (i := 0) (v := ?vc0) rfl (by kernel_rfl) (by kernel_rfl) (by kernel_rfl) (fun _ _ _ h => h) (Or.inl ⟨by rfl, ?yc0⟩) (by assumption) ?rc0
      case yc0 => (intro w hSw; (try dsimp only at hSw); go_simp; try with_reducible rfl)
      try simp only [Act.put, List.setIfInBounds_toArray, List.set_cons_zero, List.set_cons_succ, List.getElem_toArray, List.getElem_cons_zero, List.getElem_cons_succ]
      refine wpAnyH_take (i := 1) (v := ?vc1) rfl (by kernel_rfl) (by kernel_rfl) (by kernel_rfl) (fun _ _ _ h => h) (Or.inl ⟨by rfl, ?yc1⟩) (by assumption) ?rc1
      case yc1 => (intro w hSw; (try dsimp only at hSw); go_simp; try with_reducible rfl)
      try simp only [Act.put, List.setIfInBounds_toArray, List.set_cons_zero, List.set_cons_succ, List.getElem_toArray, List.getElem_cons_zero, List.getElem_cons_succ]
      refine wpAnyH_take (i := 2) (v := ?vc2) rfl (by kernel_rfl) (by kernel_rfl) (by kernel_rfl) (fun _ _ _ h => h) (Or.inl ⟨by rfl, ?yc2⟩) (by assumption) ?rc2
      case yc2 => (intro w hSw; (try dsimp only at hSw); go_simp; try with_reducible rfl)
      try simp only [Act.put, List.setIfInBounds_toArray, List.set_cons_zero, List.set_cons_succ, List.getElem_toArray, List.getElem_cons_zero, List.getElem_cons_succ]
      refine wpAnyH_take (i := 3) (v := ?vc3) rfl (by kernel_rfl) (by kernel_rfl) (by kernel_rfl) (fun _ _ _ h => h) (Or.inl ⟨by rfl, ?yc3⟩) (by assumption) ?rc3
      case yc3 => (intro w hSw; (try dsimp only at hSw); go_simp; try with_reducible rfl)
      try simp only [Act.put, List.setIfInBounds_toArray, List.set_cons_zero, List.set_cons_succ, List.getElem_toArray, List.getElem_cons_zero, List.getElem_cons_succ]
      refine wpAnyH_take (i := 4) (v := ?vc4) rfl (by kernel_rfl) (by kernel_rfl) (by kernel_rfl) (fun _ _ _ h => h) (Or.inl ⟨by rfl, ?yc4⟩) (by assumption) ?rc4
      case yc4 => (intro w hSw; (try dsimp only at hSw); go_simp; try with_reducible rfl)
      try simp only [Act.put, List.setIfInBounds_toArray, List.set_cons_zero, List.set_cons_succ, List.getElem_toArray, List.getElem_cons_zero, List.getElem_cons_succ]
      refine wpAnyH_take (i := 5) (v := ?vc5) rfl (by kernel_rfl) (by kernel_rfl) (by kernel_rfl) (fun _ _ _ h => h) (Or.inl ⟨by rfl, ?yc5⟩) (by assumption) ?rc5
      case yc5 => (intro w hSw; (try dsimp only at hSw); go_simp; try with_reducible rfl)
      try simp only [Act.put, List.setIfInBounds_toArray, List.set_cons_zero, List.set_cons_succ, List.getElem_toArray, List.getElem_cons_zero, List.getElem_cons_succ]
      refine wpAnyH_take (i := 6) (v := ?vc6) rfl (by kernel_rfl) (by kernel_rfl) (by kernel_rfl) (fun _ _ _ h => h) (Or.inl ⟨by rfl, ?yc6⟩) (by assumption) ?rc6
      case yc6 => (intro w hSw; (try dsimp only at hSw); go_simp; try with_reducible rfl)
      try simp only [Act.put, List.setIfInBounds_toArray, List.set_cons_zero, List.set_cons_succ, List.getElem_toArray, List.getElem_cons_zero, List.getElem_cons_succ]
      refine wpAnyH_take (i := 7) (v := ?vc7) rfl (by kernel_rfl) (by kernel_rfl) (by kernel_rfl) (fun _ _ _ h => h) (Or.inl ⟨by rfl, ?yc7⟩) (by assumption) ?rc7
      case yc7 => (intro w hSw; (try dsimp only at hSw); go_simp; try with_reducible rfl)
      try simp only [Act.put, List.setIfInBounds_toArray, List.set_cons_zero, List.set_cons_succ, List.getElem_toArray, List.getElem_cons_zero, List.getElem_cons_succ]
      refine wpAnyH_take (i := 8) (v := ?vc8) rfl (by kernel_rfl) (by kernel_rfl) (by kernel_rfl) (fun _ _ _ h => h) (Or.inl ⟨by rfl, ?yc8⟩) (by assumption) ?rc8
      case yc8 => (intro w hSw; (try dsimp only at hSw); go_simp; try with_reducible rfl)
      try simp only [Act.put, List.setIfInBounds_toArray, List.set_cons_zero, List.set_cons_succ, List.getElem_toArray, List.getElem_cons_zero, List.getElem_cons_succ]
      refine wpAnyH_ready (rs := [9]) (by kernel_rfl) (by simp) ?_
      refine AllReadyH.cons rfl (fun K hK => ?_) AllReadyH.nil
      go_simp
      go_at_call 40
      refine (selC_any _ _ B pins HSD.out key HKS.out).mono ?_
      rintro e w4 ⟨rfl, pv, rfl, hpr⟩
      obtain ⟨pa, pcap, rfl, _⟩ := id hpr
      have hcl := HCL.out _ _ HBD.out hpr
      clear hpr
      go_wp2_with fail
      refine hK.out _ _ (g0) (fun hHeld => ?_)
      clear hK K
      try simp only [Act.put, List.setIfInBounds_toArray, List.set_cons_zero, List.set_cons_succ, List.getElem_toArray, List.getElem_cons_zero, List.getElem_cons_succ]
      refine wpAnyH_ready (rs := [10]) (by kernel_rfl) (by simp) ?_
      refine AllReadyH.cons rfl (fun K hK => ?_) AllReadyH.nil
      go_simp
      go_at_call 30
      refine (hcl).mono ?_
      rintro e w5 ⟨v5, rfl, ho5, hb5⟩
      obtain ⟨ca, cc, rfl⟩ := ho5.shape
      have g1 : (w5.cell? ⟨w.heap.size, 0, none⟩ = some (.int .i64 s0) ∧ w5.cell? ⟨w.heap.size, 1, none⟩ = some (.int .i64 s1)) ∧ w5.cell? ⟨b, 1, none⟩ = some (.map mo) ∧ (Instr.lookup 55 (.map mo) (.string key) false).run Try.prog w5 = .ok (.slice sa xl sc) w5 := HG.out _ (bstep HBD.out hb5)
      have HO5 := Lib.hid ho5
      have HB5 := Lib.hid (bstep HBD.out hb5)
      clear ho5 hb5 hcl
      go_wp2_with fail
      refine hK.out _ _ (g1) (fun hHeld => ?_)
      clear hK K
      try simp only [Act.put, List.setIfInBounds_toArray, List.set_cons_zero, List.set_cons_succ, List.getElem_toArray, List.getElem_cons_zero, List.getElem_cons_succ]
      refine wpAnyH_take (i := 11) (v := ?vc11) rfl (by kernel_rfl) (by kernel_rfl) (by kernel_rfl) (fun _ _ _ h => h) (Or.inl ⟨by rfl, ?yc11⟩) (by assumption) ?rc11
      case yc11 => (intro w hSw; (try dsimp only at hSw); go_simp; try with_reducible rfl)
      try simp only [Act.put, List.setIfInBounds_toArray, List.set_cons_zero, List.set_cons_succ, List.getElem_toArray, List.getElem_cons_zero, List.getElem_cons_succ]
      refine wpAnyH_done (by kernel_rfl) ?_ _
      clear g0
      have h5c := g1.2.1
      clear g1
      have h5d : RowAt KW w5.drew (.slice ca CL.length cc) CL := (RowAt.of_own kw_ok HO5.out).below ((Below.refl _ w5).drew)
      have h5b : Below wr.heap.size wr w5.drew := HB5.out.drew
      have h5c : w5.drew.cell? ⟨b, 1, none⟩ = some (.map mo) := h5c
      go_wp2_with fail
      refine wp_region_held_drew (S := fun w' => w'.cell? ⟨b, 1, none⟩ = some (.map mo)) (by kernel_rfl) (h5c) (fun hHeld => ?_)
      refine wpAnyH_take (i := 0) (v := ?vd0) rfl (by kernel_rfl) (by kernel_rfl) (by kernel_rfl) (fun _ _ _ h => h) (Or.inl ⟨by rfl, ?yd0⟩) (by assumption) ?rd0
      case yd0 => (intro w hSw; (try dsimp only at hSw); go_simp; try with_reducible rfl)
      try simp only [Act.put, List.setIfInBounds_toArray, List.set_cons_zero, List.set_cons_succ, List.getElem_toArray, List.getElem_cons_zero, List.getElem_cons_succ]
      refine wpAnyH_take (i := 1) (v := ?vd1) rfl (by kernel_rfl) (by kernel_rfl) (by kernel_rfl) (fun _ _ _ h => h) (Or.inl ⟨by rfl, ?yd1⟩) (by assumption) ?rd1
      case yd1 => (intro w hSw; (try dsimp only at hSw); go_simp; try with_reducible rfl)
      try simp only [Act.put, List.setIfInBounds_toArray, List.set_cons_zero, List.set_cons_succ, List.getElem_toArray, List.getElem_cons_zero, List.getElem_cons_succ]
      refine wpAnyH_take (i := 2) (v := ?vd2) rfl (by kernel_rfl) (by kernel_rfl) (by kernel_rfl) (fun _ _ _ h => h) (Or.inl ⟨by rfl, ?yd2⟩) (by assumption) ?rd2
      case yd2 => (intro w hSw; (try dsimp only at hSw); go_simp; try with_reducible rfl)
      try simp only [Act.put, List.setIfInBounds_toArray, List.set_cons_zero, List.set_cons_succ, List.getElem_toArray, List.getElem_cons_zero, List.getElem_cons_succ]
      refine wpAnyH_take (i := 3) (v := ?vd3) rfl (by kernel_rfl) (by kernel_rfl) (by kernel_rfl) (fun _ _ _ h => h) (Or.inl ⟨by rfl, ?yd3⟩) (by assumption) ?rd3
      case yd3 => (intro w hSw; (try dsimp only at hSw); go_simp; try with_reducible rfl)
      try simp only [Act.put, List.setIfInBounds_toArray, List.set_cons_zero, List.set_cons_succ, List.getElem_toArray, List.getElem_cons_zero, List.getElem_cons_succ]
      refine wpAnyH_take (i := 4) (v := ?vd4) rfl (by kernel_rfl) (by kernel_rfl) (by kernel_rfl) (fun _ _ _ h => h) (Or.inl ⟨by rfl, ?yd4⟩) (by assumption) ?rd4
      case yd4 => (intro w hSw; (try dsimp only at hSw); go_simp; try with_reducible rfl)
      try simp only [Act.put, List.setIfInBounds_toArray, List.set_cons_zero, List.set_cons_succ, List.getElem_toArray, List.getElem_cons_zero, List.getElem_cons_succ]
      refine wpAnyH_take (i := 5) (v := ?vd5) rfl (by kernel_rfl) (by kernel_rfl) (by kernel_rfl) (fun _ _ _ h => h) (Or.inl ⟨by rfl, ?yd5⟩) (by assumption) ?rd5
      case yd5 => (intro w hSw; (try dsimp only at hSw); go_simp; try with_reducible rfl)
      try simp only [Act.put, List.setIfInBounds_toArray, List.set_cons_zero, List.set_cons_succ, List.getElem_toArray, List.getElem_cons_zero, List.getElem_cons_succ]
      refine wpAnyH_ready (rs := [6]) (by kernel_rfl) (by simp) ?_
      refine AllReadyH.cons rfl (fun K hK => ?_) AllReadyH.nil
      go_simp
      go_at_call 31
      refine (HCN.out _ _ h5d).mono ?_
      rintro e w6 ⟨v6, rfl, ho6, hb6⟩
      obtain ⟨da, dc, rfl⟩ := ho6.shape
      obtain ⟨w7, hrun7, hc7, hs7⟩ := HST.out w5.drew h5b w6 _ ho6 hb6
      have h6c : w6.cell? ⟨b, 1, none⟩ = some (.map mo) := kc hb6 h5c
      have HS7 := Lib.hid hs7
      clear ho6 hb6 hs7
      go_wp2_with fail
      refine hK.out _ _ (h6c) (fun hHeld => ?_)
      clear hK K
      try simp only [Act.put, List.setIfInBounds_toArray, List.set_cons_zero, List.set_cons_succ, List.getElem_toArray, List.getElem_cons_zero, List.getElem_cons_succ]
      refine wpAnyH_ready (rs := [7]) (by kernel_rfl) (by simp) ?_
      refine AllReadyH.cons rfl (fun K hK => ?_) AllReadyH.nil
      go_simp
      refine hK.out _ _ (hc7) (fun hHeld => ?_)
      clear hK K
      try simp only [Act.put, List.setIfInBounds_toArray, List.set_cons_zero, List.set_cons_succ, List.getElem_toArray, List.getElem_cons_zero, List.getElem_cons_succ]
      refine wpAnyH_done (by kernel_rfl) ?_ _
      have hL1 : L.length ≤ 100000 := HLL.out
      go_wp2
      go_roundw
      case rel => exact ⟨k + 1, by omega, by go_num, by rw [HCI.out]; exact HS7.out.1, HS7.out.2⟩
      case measure => simp [intOf]; omega
    · obtain rfl : k = L.length := by omega
      have hki : ¬ (L.length : Int) < (L.length : Int) := by omega
      obtain ⟨S', n', val', hsd, hsub⟩ := HAT.out
      rw [HKA.out] at hsd
      have HPO : Hid (ClnPost w S b R L CF wr) := Lib.hid ⟨⟨S', ⟨_, _, _, _, hsd⟩, hsub⟩, (Mv.of_below HB3.out).trans (HMV.out.mono (fun j e => (HSM.out j e).1))⟩
      clear hsd hsub
      go_wp2
      go_end0
      exact ⟨rfl, HPO.out⟩
end Go.Proofs.Ytjfmgplhcinkfaa
