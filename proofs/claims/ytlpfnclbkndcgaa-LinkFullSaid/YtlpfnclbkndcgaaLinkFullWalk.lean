/- The walk of the law LinkFull. -/
import Derived.Test.YtlpfnclbkndcgaaLinkAwake
namespace Go.Proofs.Ytlpfnclbkndcgaa
open Go.RowKit
set_option linter.unusedVariables false
set_option linter.unusedSimpArgs false

set_option maxRecDepth 100000 in
set_option maxHeartbeats 6400000 in
theorem walkLinkFull (w : World) (n : Int) (wn : (Lit.int .i64 n).wf = true) (m : Int) (wm : (Lit.int .i64 m).wf = true) :
    Calls Try.prog 7 #[.int .i64 n, .int .i64 m] w fun e w' => e = .returned (.bool true) ∧ Below w.heap.size w w' := by
  obtain ⟨hn1, hn2⟩ := bounds_i64 wn
  clear wn wm
  go_enter Try.func7, Try.ntmps7
  go_wp2_with fail
  refine (awake10_any w).mono ?_
  rintro e w2 ⟨rfl, hb2⟩
  have HB2 := Lib.hid hb2
  clear hb2
  go_wp2_with fail
  refine (newSender_any w2).mono ?_
  rintro e w3 ⟨rfl, hs3, hb3⟩
  have HB3 := Lib.hid (bstep HB2.out hb3)
  have HS3 := Lib.hid hs3
  have HZ : Hid (w.heap.size ≤ w2.heap.size) := Lib.hid HB2.out.size
  clear hs3 hb3 HB2
  generalize w2.heap.size = B at *
  obtain ⟨y1, y2⟩ := tmod_bdT n 21 (by decide)
  generalize hy : n.tmod 21 = y at y1 y2
  go_upto_region 6 with fail
  have ho1 := Int.emod_nonneg (y + 21) (b := 21) (by decide)
  have ho2 := Int.emod_lt_of_pos (y + 21) (b := 21) (by decide)
  generalize (y + 21) % 21 = o at *
  obtain ⟨x, rfl⟩ : ∃ x : Nat, o = (x : Int) := ⟨o.toNat, by omega⟩
  have hx : x < 21 := by omega
  clear hy y1 y2 ho1 ho2 hn1 hn2
  go_wp2_with fail
  go_loopw [8] (fun i wr => ∃ k : Nat, k ≤ x ∧ i = .int .i64 k ∧ Hid (SnAt wr B 0 (List.replicate (min k 8) (⟨#[120]⟩ : ByteArray))) ∧ Below w.heap.size w wr) (fun i _ => x - (intOf i).toNat)
  case atStart => exact ⟨0, by omega, rfl, HS3, HB3.out⟩
  case round =>
    clear HS3 HB3
    obtain ⟨k, hk, rfl, HS, hbel⟩ := hrel
    have HB := Lib.hid hbel
    clear hbel
    by_cases hlt : k < x
    · have hki : (k : Int) < (x : Int) := by omega
      by_cases h8 : k < 8
      · have hk8 : (k : Int) < 8 := by omega
        have hS := HS.out
        rw [Nat.min_eq_left (by omega)] at hS
        have hcall := send_rep B k wr hS h8
        clear hS
        go_wp2_with fail
        refine hcall.mono ?_
        rintro e w4 ⟨rfl, hs4, hm4⟩
        have hba := balloc (Below.refl _ w4) (.cells #[.int .i64 (k : Int), .string ⟨#[120]⟩] 39)
        have HS4 : Hid (SnAt (w4.alloc (.cells #[.int .i64 (k : Int), .string ⟨#[120]⟩] 39)) B 0 (List.replicate (min (k + 1) 8) (⟨#[120]⟩ : ByteArray))) := Lib.hid (by rw [Nat.min_eq_left (by omega)]; exact hs4.keep hba)
        have HB4 := Lib.hid (bstep (HB.out.trans (hm4.below (n := w.heap.size) (fun k hk e => by have := HZ.out; omega) HB.out.size)) hba)
        have HQ := Lib.hid (PkV.new w4 (k : Int) ⟨#[120]⟩ 39)
        clear hcall hs4 hm4 HS HB hba
        obtain ⟨v0, v1, _, _⟩ := HQ.out
        go_upto_region 10 with fail
        generalize w4.alloc (.cells #[.int .i64 (k : Int), .string ⟨#[120]⟩] 39) = w5 at *
        go_wp2
        go_roundw
        case rel => exact ⟨k + 1, by omega, by go_num, HS4, HB4.out⟩
        case measure => simp [intOf]; omega
      · have q8 : decide ((k : Int) < 8) = false := by simp; omega
        have q8n : decide (k < 8) = false := by simp; omega
        have hcall := send_full B 0 _ ⟨#[120]⟩ wr HS.out (by rw [List.length_replicate]; omega)
        unfold FullAt at hcall
        go_wp2_with fail
        refine hcall.mono ?_
        rintro e w4 ⟨rfl, hs4, hm4⟩
        have hba := balloc (Below.refl _ w4) (.cells #[.int .i64 0, .string ⟨#[]⟩] 39)
        have HS4 : Hid (SnAt (w4.alloc (.cells #[.int .i64 0, .string ⟨#[]⟩] 39)) B 0 (List.replicate (min (k + 1) 8) (⟨#[120]⟩ : ByteArray))) := Lib.hid (by rw [show min (k + 1) 8 = min k 8 by omega]; exact hs4.keep hba)
        have HB4 := Lib.hid (bstep (HB.out.trans (hm4.below (n := w.heap.size) (fun k hk e => by have := HZ.out; omega) HB.out.size)) hba)
        clear hcall hs4 hm4 HS HB hba h8
        go_upto_region 10 with fail
        generalize w4.alloc (.cells #[.int .i64 0, .string ⟨#[]⟩] 39) = w5 at *
        go_wp2
        go_roundw
        case rel => exact ⟨k + 1, by omega, by go_num, HS4, HB4.out⟩
        case measure => simp [intOf]; omega
    · obtain rfl : k = x := by omega
      obtain ⟨z1, z2⟩ := tmod_bdT m 9 (by decide)
      generalize hz : m.tmod 9 = z at z1 z2
      obtain ⟨o, HO⟩ : ∃ o, Hid (min k 8 = o) := ⟨_, Lib.hid rfl⟩
      rw [HO.out] at HS
      have ho8 : o ≤ 8 := by have := HO.out; omega
      rcases (show (k ≤ 8 ∧ k = o) ∨ (8 < k ∧ o = 8) by have := HO.out; omega) with ⟨h8, rfl⟩ | ⟨h8, rfl⟩
      · have q8 : decide ((8 : Int) < (k : Int)) = false := by simp; omega
        have q8n : decide (8 < k) = false := by simp; omega
        clear h8 HO
        go_upto_region 16 with fail
        have ho1 := Int.emod_nonneg (z + 9) (b := 9) (by decide)
        have ho2 := Int.emod_lt_of_pos (z + 9) (b := 9) (by decide)
        generalize (z + 9) % 9 = zz at *
        obtain ⟨c, rfl⟩ : ∃ c : Nat, zz = (c : Int) := ⟨zz.toNat, by omega⟩
        have hc9 : c < 9 := by omega
        clear hz z1 z2 ho1 ho2
        have hcall := answer_at B 0 _ (c : Int) wr HS.out
        unfold AnsAt at hcall
        rw [List.length_replicate] at hcall
        have HK1 : Hid (c ≤ k → Lk.ak 0 k (c : Int) = c) := Lib.hid (fun h => by have := Lk.ak_yes (ans := 0) (n := k) (seq := (c : Int)) (by omega) (by omega); omega)
        have HK2 : Hid (¬ c ≤ k → Lk.ak 0 k (c : Int) = 0) := Lib.hid (fun h => Lk.ak_no (by omega))
        have HK3 : Hid (Lk.ak 0 k (c : Int) ≤ k) := Lib.hid (Lk.ak_le _ _ _)
        generalize Lk.ak 0 k (c : Int) = K at hcall HK1 HK2 HK3
        go_wp2_with fail
        refine hcall.mono ?_
        rintro e w4 ⟨rfl, hs4, hm4⟩
        rw [Nat.zero_add] at hs4
        have HS4 := Lib.hid hs4
        have HB4 := Lib.hid (HB.out.trans (hm4.below (n := w.heap.size) (fun k hk e => by have := HZ.out; omega) HB.out.size))
        have hL : ((List.replicate k (⟨#[120]⟩ : ByteArray)).drop K).length = k - K := by rw [List.length_drop, List.length_replicate]
        have HO4 := Lib.hid (fun W (h : SnAt W B K ((List.replicate k (⟨#[120]⟩ : ByteArray)).drop K)) => open_at B K _ W h)
        have HN4 := Lib.hid (fun W (h : SnAt W B K ((List.replicate k (⟨#[120]⟩ : ByteArray)).drop K)) => next_at B K _ W h)
        generalize (List.replicate k (⟨#[120]⟩ : ByteArray)).drop K = L at hL HS4 HO4 HN4
        clear hcall hs4 hm4 HS HB
        have HL := Lib.hid hL
        have hopen := HO4.out w4 HS4.out
        rcases (show (c ≤ k ∧ K = c) ∨ (¬ c ≤ k ∧ K = 0) from (Nat.decEq 0 0).rec (fun h => absurd rfl h) (fun _ => if h : c ≤ k then .inl ⟨h, HK1.out h⟩ else .inr ⟨h, HK2.out h⟩)) with ⟨hco, rfl⟩ | ⟨hco, rfl⟩
        · have hco2 : decide (((k : Int) : Int) < (K : Int)) = false := by simp; omega
          have hco3 : decide (k < K) = false := by simp; omega
          clear HK1 HK2 hco hL
          go_wp2_with fail
          refine hopen.mono ?_
          rintro e w5 ⟨g, rfl, hg, hri, hb5⟩
          have HB5 := Lib.hid (bstep HB4.out hb5)
          have HS5 := Lib.hid (HS4.out.keep hb5)
          have hnext := HN4.out w5 HS5.out
          have HRI := Lib.hid hri
          have hcell := fun h => HRI.out.pk0 h
          have e1 : ((K + L.length : Nat) : Int) = ((k : Int) : Int) := by have := HL.out; have := HK3.out; omega
          rw [e1] at hnext
          clear e1 hri hb5 hopen HO4 HN4 hg HB4 HS4
          rcases (show (L.length = 0 ∧ K = k) ∨ (0 < L.length ∧ L.length = k - K ∧ K < k) by have := HL.out; have := HK3.out; omega) with ⟨hl0, hko⟩ | ⟨hl0, hl1, hko⟩
          · obtain rfl : K = k := hko
            rw [hl0]
            clear hcell HL HK3
            go_wp2_with fail
            refine hnext.mono ?_
            rintro e w6 ⟨rfl, rfl⟩
            go_wp2
            go_ret
            exact ⟨rfl, HB5.out⟩
          · have hcell := hcell hl0
            have hli : (L.length : Int) = ((k : Int) : Int) - ((K : Int) : Int) := by omega
            have q0 : decide (L.length = 0) = false := decide_eq_false (by omega)
            have q0i : decide ((L.length : Int) = 0) = false := decide_eq_false (by omega)
            have q0p : (0 : Int) < (L.length : Int) := by omega
            generalize hLL : L.length = ll at *
            clear HL HK3 hl1 hLL
            go_wp2_with fail
            refine hnext.mono ?_
            rintro e w6 ⟨rfl, rfl⟩
            go_wp2
            go_ret
            exact ⟨rfl, HB5.out⟩
        · have hco2 : decide (((k : Int) : Int) < (c : Int)) = true := by simp; omega
          have hco3 : decide (k < c) = true := by simp; omega
          clear HK1 HK2 hco hL
          go_wp2_with fail
          refine hopen.mono ?_
          rintro e w5 ⟨g, rfl, hg, hri, hb5⟩
          have HB5 := Lib.hid (bstep HB4.out hb5)
          have HS5 := Lib.hid (HS4.out.keep hb5)
          have hnext := HN4.out w5 HS5.out
          have HRI := Lib.hid hri
          have hcell := fun h => HRI.out.pk0 h
          have e1 : ((0 + L.length : Nat) : Int) = ((k : Int) : Int) := by have := HL.out; have := HK3.out; omega
          rw [e1] at hnext
          clear e1 hri hb5 hopen HO4 HN4 hg HB4 HS4
          rcases (show (L.length = 0 ∧ 0 = k) ∨ (0 < L.length ∧ L.length = k - 0 ∧ 0 < k) by have := HL.out; have := HK3.out; omega) with ⟨hl0, hko⟩ | ⟨hl0, hl1, hko⟩
          · obtain rfl : k = 0 := hko.symm
            rw [hl0]
            clear hcell HL HK3
            go_wp2_with fail
            refine hnext.mono ?_
            rintro e w6 ⟨rfl, rfl⟩
            go_wp2
            go_ret
            exact ⟨rfl, HB5.out⟩
          · have hcell := hcell hl0
            have hli : (L.length : Int) = ((k : Int) : Int) - (0 : Int) := by omega
            have q0 : decide (L.length = 0) = false := decide_eq_false (by omega)
            have q0i : decide ((L.length : Int) = 0) = false := decide_eq_false (by omega)
            have q0p : (0 : Int) < (L.length : Int) := by omega
            generalize hLL : L.length = ll at *
            clear HL HK3 hl1 hLL
            go_wp2_with fail
            refine hnext.mono ?_
            rintro e w6 ⟨rfl, rfl⟩
            go_wp2
            go_ret
            exact ⟨rfl, HB5.out⟩
      · have q8 : (8 : Int) < (k : Int) := by omega
        have HO2 := Lib.hid q8
        clear HO ho8
        go_upto_region 16 with fail
        have ho1 := Int.emod_nonneg (z + 9) (b := 9) (by decide)
        have ho2 := Int.emod_lt_of_pos (z + 9) (b := 9) (by decide)
        generalize (z + 9) % 9 = zz at *
        obtain ⟨c, rfl⟩ : ∃ c : Nat, zz = (c : Int) := ⟨zz.toNat, by omega⟩
        have hc9 : c < 9 := by omega
        clear hz z1 z2 ho1 ho2
        have hcall := answer_at B 0 _ (c : Int) wr HS.out
        unfold AnsAt at hcall
        rw [List.length_replicate] at hcall
        have HK1 : Hid (c ≤ 8 → Lk.ak 0 8 (c : Int) = c) := Lib.hid (fun h => by have := Lk.ak_yes (ans := 0) (n := 8) (seq := (c : Int)) (by omega) (by omega); omega)
        have HK2 : Hid (¬ c ≤ 8 → Lk.ak 0 8 (c : Int) = 0) := Lib.hid (fun h => Lk.ak_no (by omega))
        have HK3 : Hid (Lk.ak 0 8 (c : Int) ≤ 8) := Lib.hid (Lk.ak_le _ _ _)
        generalize Lk.ak 0 8 (c : Int) = K at hcall HK1 HK2 HK3
        go_wp2_with fail
        refine hcall.mono ?_
        rintro e w4 ⟨rfl, hs4, hm4⟩
        rw [Nat.zero_add] at hs4
        have HS4 := Lib.hid hs4
        have HB4 := Lib.hid (HB.out.trans (hm4.below (n := w.heap.size) (fun k hk e => by have := HZ.out; omega) HB.out.size))
        have hL : ((List.replicate 8 (⟨#[120]⟩ : ByteArray)).drop K).length = 8 - K := by rw [List.length_drop, List.length_replicate]
        have HO4 := Lib.hid (fun W (h : SnAt W B K ((List.replicate 8 (⟨#[120]⟩ : ByteArray)).drop K)) => open_at B K _ W h)
        have HN4 := Lib.hid (fun W (h : SnAt W B K ((List.replicate 8 (⟨#[120]⟩ : ByteArray)).drop K)) => next_at B K _ W h)
        generalize (List.replicate 8 (⟨#[120]⟩ : ByteArray)).drop K = L at hL HS4 HO4 HN4
        clear hcall hs4 hm4 HS HB
        have HL := Lib.hid hL
        have hopen := HO4.out w4 HS4.out
        rcases (show (c ≤ 8 ∧ K = c) ∨ (¬ c ≤ 8 ∧ K = 0) from (Nat.decEq 0 0).rec (fun h => absurd rfl h) (fun _ => if h : c ≤ 8 then .inl ⟨h, HK1.out h⟩ else .inr ⟨h, HK2.out h⟩)) with ⟨hco, rfl⟩ | ⟨hco, rfl⟩
        · have hco2 : decide ((8 : Int) < (K : Int)) = false := by simp; omega
          have hco3 : decide (8 < K) = false := by simp; omega
          clear HK1 HK2 hco hL
          go_wp2_with fail
          refine hopen.mono ?_
          rintro e w5 ⟨g, rfl, hg, hri, hb5⟩
          have HB5 := Lib.hid (bstep HB4.out hb5)
          have HS5 := Lib.hid (HS4.out.keep hb5)
          have hnext := HN4.out w5 HS5.out
          have HRI := Lib.hid hri
          have hcell := fun h => HRI.out.pk0 h
          have e1 : ((K + L.length : Nat) : Int) = (8 : Int) := by have := HL.out; have := HK3.out; omega
          rw [e1] at hnext
          clear e1 hri hb5 hopen HO4 HN4 hg HB4 HS4
          rcases (show (L.length = 0 ∧ K = 8) ∨ (0 < L.length ∧ L.length = 8 - K ∧ K < 8) by have := HL.out; have := HK3.out; omega) with ⟨hl0, hko⟩ | ⟨hl0, hl1, hko⟩
          · obtain rfl : K = 8 := hko
            rw [hl0]
            clear hcell HL HK3
            go_wp2_with fail
            refine hnext.mono ?_
            rintro e w6 ⟨rfl, rfl⟩
            go_wp2
            go_ret
            exact ⟨rfl, HB5.out⟩
          · have hcell := hcell hl0
            have hli : (L.length : Int) = (8 : Int) - ((K : Int) : Int) := by omega
            have q0 : decide (L.length = 0) = false := decide_eq_false (by omega)
            have q0i : decide ((L.length : Int) = 0) = false := decide_eq_false (by omega)
            have q0p : (0 : Int) < (L.length : Int) := by omega
            generalize hLL : L.length = ll at *
            clear HL HK3 hl1 hLL
            go_wp2_with fail
            refine hnext.mono ?_
            rintro e w6 ⟨rfl, rfl⟩
            go_wp2
            go_ret
            exact ⟨rfl, HB5.out⟩
        · have hco2 : decide ((8 : Int) < (c : Int)) = true := by simp; omega
          have hco3 : decide (8 < c) = true := by simp; omega
          clear HK1 HK2 hco hL
          go_wp2_with fail
          refine hopen.mono ?_
          rintro e w5 ⟨g, rfl, hg, hri, hb5⟩
          have HB5 := Lib.hid (bstep HB4.out hb5)
          have HS5 := Lib.hid (HS4.out.keep hb5)
          have hnext := HN4.out w5 HS5.out
          have HRI := Lib.hid hri
          have hcell := fun h => HRI.out.pk0 h
          have e1 : ((0 + L.length : Nat) : Int) = (8 : Int) := by have := HL.out; have := HK3.out; omega
          rw [e1] at hnext
          clear e1 hri hb5 hopen HO4 HN4 hg HB4 HS4
          rcases (show (L.length = 0 ∧ 0 = 8) ∨ (0 < L.length ∧ L.length = 8 - 0 ∧ 0 < 8) by have := HL.out; have := HK3.out; omega) with ⟨hl0, hko⟩ | ⟨hl0, hl1, hko⟩
          · exact absurd hko (by decide)
          · have hcell := hcell hl0
            have hli : (L.length : Int) = (8 : Int) - (0 : Int) := by omega
            have q0 : decide (L.length = 0) = false := decide_eq_false (by omega)
            have q0i : decide ((L.length : Int) = 0) = false := decide_eq_false (by omega)
            have q0p : (0 : Int) < (L.length : Int) := by omega
            generalize hLL : L.length = ll at *
            clear HL HK3 hl1 hLL
            go_wp2_with fail
            refine hnext.mono ?_
            rintro e w6 ⟨rfl, rfl⟩
            go_wp2
            go_ret
            exact ⟨rfl, HB5.out⟩
end Go.Proofs.Ytlpfnclbkndcgaa
