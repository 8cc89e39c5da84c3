/- What table.Owners, Owns and First answer, and the document's. -/
import Derived.Test.YtllagelopdedfaaTabCheck
import Derived.Test.YtllagelopdedfaaKeysFind
import Derived.Deep.RegionHeld3
namespace Go.Proofs.Ytllagelopdedfaa
open Go.RowKit
set_option linter.unusedVariables false
set_option linter.unusedSimpArgs false

theorem own3 {W w' : World} {b0 o0 o1 b o : Nat} {x0 x1 x2 : Value} (hb : Below W.heap.size W w') (h0 : b0 < W.heap.size) (h1 : b < W.heap.size)
    (h : W.cell? ⟨b0, o0, none⟩ = some x0 ∧ W.cell? ⟨b0, o1, none⟩ = some x1 ∧ W.cell? ⟨b, o, none⟩ = some x2) :
    w'.cell? ⟨b0, o0, none⟩ = some x0 ∧ w'.cell? ⟨b0, o1, none⟩ = some x1 ∧ w'.cell? ⟨b, o, none⟩ = some x2 :=
  ⟨kcell hb h0 h.1, kcell hb h0 h.2.1, kcell hb h1 h.2.2⟩

set_option maxRecDepth 100000 in
set_option maxHeartbeats 1600000 in
theorem owners7_any (c : Rw) (u0 u1 u2 : Value) (key : ByteArray) (w : World) (h : RwAt w u0 u1 u2 c) :
    Calls Try.prog 20 #[.agg #[u0, u1, u2], .string key] w fun e w' => e = .returned (.int .i64 (ownN c key.data.toList : Int)) ∧ Below w.heap.size w w' := by
  have HW := Lib.hid h
  have hV := VrP.new w u0 u1 u2 25
  have hb0 : Below w.heap.size w (w.alloc (.cells #[u0, u1, u2] 25)) := balloc (Below.refl _ w) _
  clear h
  have hck := check7_any c u0 u1 u2 _ (HW.out.below hb0)
  cases hok : tOk c with
  | false =>
    rw [ownN_no hok]
    rw [hok] at hck
    clear hok
    go_enter Try.func20, Try.ntmps20
    go_wp2_with fail
    refine hck.mono ?_
    rintro e w1 ⟨rfl, hb1⟩
    go_wp2
    go_ret
    exact ⟨rfl, bstep hb0 hb1⟩
  | true =>
    rw [hok] at hck
    have hT := (tOk_iff c).1 hok
    obtain ⟨k, hk, hf⟩ := hT.find key.data.toList
    obtain ⟨ho, _, _⟩ := ownN_at hT hk hf
    have hol := hT.ol
    have hr8 := hT.r8
    obtain ⟨a0, cp0, hu0, hq0, hm0, _, hri0⟩ := HW.out.rs
    obtain ⟨a1, cp1, hu1, hq1, hm1, _, hri1⟩ := HW.out.ow
    unfold maxLen at hm0 hm1
    subst hu0 hu1
    obtain ⟨b, off, rfl, hbl, cc⟩ := hri1.int k (by omega)
    rw [← ho] at cc
    have HF := Lib.hid hf
    clear ho hf hT hok
    have hkl : k < c.ow.length := by omega
    have hll : c.ow.length ≤ 8 := by omega
    clear hol
    generalize ownN c key.data.toList = r at cc ⊢
    have HRI := Lib.hid hri0
    clear hri0 hri1
    generalize c.ow.length = n1 at *
    have hkn : k < 8 := by omega
    have hki : (k : Int) < (n1 : Int) := by omega
    go_enter Try.func20, Try.ntmps20
    go_wp2_with fail
    refine hck.mono ?_
    rintro e w1 ⟨rfl, hb1⟩
    have hbw := bstep hb0 hb1
    have hV1 := hV.keep hb1
    have cc1 := kcell hbw hbl cc
    have find7 : ∀ W, Below w.heap.size w W → Calls Try.prog 46 #[.slice a0 c.rs.length cp0, .string key] W fun e w' => e = .returned (.int .i64 (k : Int)) ∧ Below W.heap.size W w' := fun W hW => by
      have := find_any a0 cp0 c.rs key W (by omega) (RowIn.rng (HRI.out.below hW))
      rwa [HF.out] at this
    have hbd : Below w.heap.size w w1.drew := hbw.drew
    have HBW := Lib.hid hbw
    have hVl := hV1.lt
    obtain ⟨c0, c1, c2, _⟩ := hV1
    have hbl1 : b < w1.heap.size := by have := hbw.size; omega
    clear hb0 hb1 hbw cc hV hck
    have hg : w1.cell? ⟨w.heap.size, 0, none⟩ = some (.slice a0 c.rs.length cp0) ∧ w1.cell? ⟨w.heap.size, 1, none⟩ = some (.slice (some ⟨b, off, none⟩) n1 cp1) ∧ w1.cell? ⟨b, off + k, none⟩ = some (.int .i64 (r : Int)) := ⟨c0, c1, cc1⟩
    go_wp2_with fail
    go_region_held3 (fun w' => w'.cell? ⟨w.heap.size, 0, none⟩ = some (.slice a0 c.rs.length cp0) ∧ w'.cell? ⟨w.heap.size, 1, none⟩ = some (.slice (some ⟨b, off, none⟩) n1 cp1) ∧ w'.cell? ⟨b, off + k, none⟩ = some (.int .i64 (r : Int)))
      (first | exact hg | exact hg2)
      (first | (go_at_call 46; ((with_reducible refine (find7 _ hbd).mono ?_); rintro e w2 ⟨rfl, hb2⟩; have hg2 := own3 hb2 hVl hbl1 hg)))
    go_wp2
    go_ret
    exact ⟨rfl, bstep hbd hb2⟩

set_option maxRecDepth 100000 in
set_option maxHeartbeats 1600000 in
theorem refOwners7_any (c : Rw) (u0 u1 u2 : Value) (key : ByteArray) (w : World) (h : RwAt w u0 u1 u2 c) (hl : c.rs.length ≤ 100) :
    Calls Try.prog 21 #[.agg #[u0, u1, u2], .string key] w fun e w' => e = .returned (.int .i64 (ownN c key.data.toList : Int)) ∧ Below w.heap.size w w' := by
  have HW := Lib.hid h
  have hV := VrP.new w u0 u1 u2 25
  have hb0 : Below w.heap.size w (w.alloc (.cells #[u0, u1, u2] 25)) := balloc (Below.refl _ w) _
  clear h
  have hck := refCheck7_any c u0 u1 u2 _ (HW.out.below hb0) hl
  cases hok : tOk c with
  | false =>
    rw [ownN_no hok]
    rw [hok] at hck
    clear hok
    go_enter Try.func21, Try.ntmps21
    go_wp2_with fail
    refine hck.mono ?_
    rintro e w1 ⟨rfl, hb1⟩
    go_wp2
    go_ret
    exact ⟨rfl, bstep hb0 hb1⟩
  | true =>
    rw [hok] at hck
    have hT := (tOk_iff c).1 hok
    obtain ⟨k, hk, hf⟩ := hT.find key.data.toList
    obtain ⟨ho, _, _⟩ := ownN_at hT hk hf
    have hol := hT.ol
    have hr8 := hT.r8
    obtain ⟨a0, cp0, hu0, hq0, hm0, _, hri0⟩ := HW.out.rs
    obtain ⟨a1, cp1, hu1, hq1, hm1, _, hri1⟩ := HW.out.ow
    unfold maxLen at hm0 hm1
    subst hu0 hu1
    obtain ⟨b, off, rfl, hbl, cc⟩ := hri1.int k (by omega)
    rw [← ho] at cc
    have HF := Lib.hid hf
    clear ho hf hT hok
    have HOL := Lib.hid hol
    have hkl : k < c.ow.length := by omega
    have hll : c.ow.length ≤ 8 := by omega
    clear hol
    generalize ownN c key.data.toList = r at cc ⊢
    have HRI := Lib.hid hri0
    clear hri0 hri1
    generalize c.ow.length = n1 at *
    have hkn : k < 8 := by omega
    have hki : (k : Int) < (n1 : Int) := by omega
    go_enter Try.func21, Try.ntmps21
    go_wp2_with fail
    refine hck.mono ?_
    rintro e w1 ⟨rfl, hb1⟩
    have hbw := bstep hb0 hb1
    have hV1 := hV.keep hb1
    have cc1 := kcell hbw hbl cc
    have find7 : ∀ W, Below w.heap.size w W → Calls Try.prog 31 #[.slice a0 c.rs.length cp0, .string key] W fun e w' => e = .returned (.int .i64 (k : Int)) ∧ Below W.heap.size W w' := fun W hW => by
      have := refFind_any a0 cp0 c.rs key W (by omega) (RowIn.rng (HRI.out.below hW))
      rwa [HF.out] at this
    have HBW := Lib.hid hbw
    have hVl := hV1.lt
    obtain ⟨c0, c1, c2, _⟩ := hV1
    have hbl1 : b < w1.heap.size := by have := hbw.size; omega
    clear hb0 hb1 hbw cc hV hck
    go_wp2_with fail
    refine (find7 _ HBW.out).mono ?_
    rintro e w2 ⟨rfl, hb2⟩
    obtain ⟨d0, d1, d2⟩ := own3 hb2 hVl hbl1 ⟨c0, c1, cc1⟩
    have hbw2 := bstep HBW.out hb2
    clear c0 c1 c2 cc1 hb2
    go_wp2
    go_ret
    exact ⟨rfl, hbw2⟩

set_option maxRecDepth 100000 in
theorem owns7_any (c : Rw) (u0 u1 u2 : Value) (s : Int) (key : ByteArray) (w : World) (h : RwAt w u0 u1 u2 c) (hs : -9223372036854775808 ≤ s ∧ s ≤ 9223372036854775807) :
    Calls Try.prog 22 #[.agg #[u0, u1, u2], .int .i64 s, .string key] w fun e w' => e = .returned (.bool (bitN (ownN c key.data.toList) s)) ∧ Below w.heap.size w w' := by
  have hb0 : Below w.heap.size w (w.alloc (.cells #[u0, u1, u2] 25)) := balloc (Below.refl _ w) _
  have how := owners7_any c u0 u1 u2 key _ (h.below hb0)
  have hlt := ownN_lt c key.data.toList
  have HH := fun W => has7_any (ownN c key.data.toList) s W hlt hs
  clear h
  generalize ownN c key.data.toList = r at how hlt HH ⊢
  generalize bitN r s = b at HH ⊢
  obtain ⟨hs1, hs2⟩ := hs
  go_enter Try.func22, Try.ntmps22
  go_wp2_with fail
  refine how.mono ?_
  rintro e w1 ⟨rfl, hb1⟩
  go_wp2_with fail
  refine (HH _).mono ?_
  rintro e w2 ⟨rfl, rfl⟩
  go_wp2
  go_ret
  exact ⟨rfl, bstep hb0 hb1⟩

set_option maxRecDepth 100000 in
theorem refOwns7_any (c : Rw) (u0 u1 u2 : Value) (s : Int) (key : ByteArray) (w : World) (h : RwAt w u0 u1 u2 c) (hl : c.rs.length ≤ 100) (hs : -9223372036854775808 ≤ s ∧ s ≤ 9223372036854775807) :
    Calls Try.prog 23 #[.agg #[u0, u1, u2], .int .i64 s, .string key] w fun e w' => e = .returned (.bool (bitN (ownN c key.data.toList) s)) ∧ Below w.heap.size w w' := by
  have hb0 : Below w.heap.size w (w.alloc (.cells #[u0, u1, u2] 25)) := balloc (Below.refl _ w) _
  have how := refOwners7_any c u0 u1 u2 key _ (h.below hb0) hl
  have hlt := ownN_lt c key.data.toList
  clear h
  generalize ownN c key.data.toList = r at how hlt ⊢
  obtain ⟨hs1, hs2⟩ := hs
  by_cases h0 : s < 0
  · rw [bitN_neg h0]
    go_enter Try.func23, Try.ntmps23
    go_wp2
    go_ret
    exact ⟨rfl, hb0⟩
  · by_cases h6 : 6 ≤ s
    · rw [bitN_far hlt h6]
      have h6' : ¬ s < 6 := by omega
      go_enter Try.func23, Try.ntmps23
      go_wp2
      go_ret
      exact ⟨rfl, hb0⟩
    · obtain ⟨k, rfl⟩ : ∃ k : Nat, s = (k : Int) := ⟨s.toNat, by omega⟩
      have HH := fun W => bit7_any r k W hlt (by omega)
      generalize bitN r k = b at HH ⊢
      have h6' : (k : Int) < 6 := by omega
      go_enter Try.func23, Try.ntmps23
      go_wp2_with fail
      refine how.mono ?_
      rintro e w1 ⟨rfl, hb1⟩
      go_wp2_with fail
      refine (HH _).mono ?_
      rintro e w2 ⟨rfl, rfl⟩
      go_wp2
      go_ret
      exact ⟨rfl, bstep hb0 hb1⟩

set_option maxRecDepth 100000 in
theorem first7_any (c : Rw) (u0 u1 u2 : Value) (key : ByteArray) (w : World) (h : RwAt w u0 u1 u2 c) :
    Calls Try.prog 24 #[.agg #[u0, u1, u2], .string key] w fun e w' => e = .returned (.int .i64 (firstN (ownN c key.data.toList))) ∧ Below w.heap.size w w' := by
  have hb0 : Below w.heap.size w (w.alloc (.cells #[u0, u1, u2] 25)) := balloc (Below.refl _ w) _
  have how := owners7_any c u0 u1 u2 key _ (h.below hb0)
  have hlt := ownN_lt c key.data.toList
  clear h
  generalize ownN c key.data.toList = r at how hlt ⊢
  have HHIT : Hid (∀ k : Nat, k < 6 → (∀ j, j < k → r.testBit j = false) → bitN r k = true → firstN r = (k : Int)) := Lib.hid (fun k hk h1 h2 => firstN_hit hk h1 (by
    unfold bitN at h2
    simpa using h2))
  have HNO : Hid (∀ k : Nat, (∀ j, j < k → r.testBit j = false) → bitN r k = false → ∀ j, j < k + 1 → r.testBit j = false) := Lib.hid (fun k h1 h2 j hj => by
    by_cases e : j = k
    · subst e
      unfold bitN at h2
      simpa using h2
    · exact h1 j (by omega))
  have HNONE : Hid ((∀ j, j < 6 → r.testBit j = false) → firstN r = -1) := Lib.hid firstN_none
  generalize firstN r = F at HHIT HNONE ⊢
  go_enter Try.func24, Try.ntmps24
  go_wp2_with fail
  refine how.mono ?_
  rintro e w1 ⟨rfl, hb1⟩
  go_wp2_with fail
  go_loop [10] (fun i => ∃ k : Nat, k ≤ 6 ∧ i = .int .i64 k ∧ ∀ j, j < k → r.testBit j = false) (fun i => 6 - (intOf i).toNat)
  case atStart => exact ⟨0, by omega, rfl, fun j hj => by omega⟩
  case round =>
    obtain ⟨k, hk, rfl, hall⟩ := hrel
    have HA := Lib.hid hall
    clear hall
    by_cases hk6 : k < 6
    · have HH := fun W => has7_any r k W hlt (by omega)
      have HHIT2 := Lib.hid (HHIT.out k hk6 HA.out)
      have HNO2 := Lib.hid (HNO.out k HA.out)
      generalize bitN r k = b at HH HHIT2 HNO2
      have h6' : (k : Int) < 6 := by omega
      cases b with
      | true =>
        go_wp2_with fail
        refine (HH _).mono ?_
        rintro e w2 ⟨rfl, rfl⟩
        go_wp2
        go_ret
        exact ⟨ret_int (HHIT2.out (by simp)).symm, bstep hb0 hb1⟩
      | false =>
        go_wp2_with fail
        refine (HH _).mono ?_
        rintro e w2 ⟨rfl, rfl⟩
        go_wp2
        go_round
        case rel => exact ⟨k + 1, by omega, by go_num, HNO2.out (by simp)⟩
        case measure => simp [intOf]; omega
    · obtain rfl : k = 6 := by omega
      go_wp2
      go_ret
      exact ⟨ret_int (HNONE.out HA.out).symm, bstep hb0 hb1⟩

set_option maxRecDepth 100000 in
set_option maxHeartbeats 800000 in
theorem refFirst7_any (c : Rw) (u0 u1 u2 : Value) (key : ByteArray) (w : World) (h : RwAt w u0 u1 u2 c) (hl : c.rs.length ≤ 100) :
    Calls Try.prog 25 #[.agg #[u0, u1, u2], .string key] w fun e w' => e = .returned (.int .i64 (firstN (ownN c key.data.toList))) ∧ Below w.heap.size w w' := by
  have hb0 : Below w.heap.size w (w.alloc (.cells #[u0, u1, u2] 25)) := balloc (Below.refl _ w) _
  have hV := VrP.new w u0 u1 u2 25
  have how := fun W s (hb : Below w.heap.size w W) (hs : -9223372036854775808 ≤ s ∧ s ≤ 9223372036854775807) => refOwns7_any c u0 u1 u2 s key W (h.below hb) hl hs
  have hlt := ownN_lt c key.data.toList
  clear h
  generalize ownN c key.data.toList = r at how hlt ⊢
  have HHIT : Hid (∀ k : Nat, k < 6 → (∀ j, j < k → r.testBit j = false) → bitN r k = true → firstN r = (k : Int)) := Lib.hid (fun k hk h1 h2 => firstN_hit hk h1 (by
    unfold bitN at h2
    simpa using h2))
  have HNO : Hid (∀ k : Nat, (∀ j, j < k → r.testBit j = false) → bitN r k = false → ∀ j, j < k + 1 → r.testBit j = false) := Lib.hid (fun k h1 h2 j hj => by
    by_cases e : j = k
    · subst e
      unfold bitN at h2
      simpa using h2
    · exact h1 j (by omega))
  have HNONE : Hid ((∀ j, j < 6 → r.testBit j = false) → firstN r = -1) := Lib.hid firstN_none
  generalize firstN r = F at HHIT HNONE ⊢
  have HV := Lib.hid hV
  have HB0 := Lib.hid hb0
  clear hV hb0
  go_enter Try.func25, Try.ntmps25
  go_wp2_with fail
  generalize w.alloc (.cells #[u0, u1, u2] 25) = w0 at *
  go_loopw [5] (fun i wr => ∃ k : Nat, k ≤ 6 ∧ i = .int .i64 k ∧ (∀ j, j < k → r.testBit j = false) ∧ Below w0.heap.size w0 wr) (fun i _ => 6 - (intOf i).toNat)
  case atStart => exact ⟨0, by omega, rfl, (fun j hj => by omega), Below.refl _ _⟩
  case round =>
    obtain ⟨k, hk, rfl, hall, hbel⟩ := hrel
    have HA := Lib.hid hall
    have HBR := Lib.hid (bstep HB0.out hbel)
    have HBL := Lib.hid hbel
    obtain ⟨c0, c1, c2, _⟩ := HV.out.keep hbel
    clear hall hbel
    by_cases hk6 : k < 6
    · have HH := how wr k HBR.out (by omega)
      have HHIT2 := Lib.hid (HHIT.out k hk6 HA.out)
      have HNO2 := Lib.hid (HNO.out k HA.out)
      generalize bitN r k = b at HH HHIT2 HNO2
      have h6' : (k : Int) < 6 := by omega
      cases b with
      | true =>
        go_wp2_with fail
        refine HH.mono ?_
        rintro e w2 ⟨rfl, hb2⟩
        go_wp2
        go_ret
        exact ⟨ret_int (HHIT2.out (by simp)).symm, bstep HBR.out hb2⟩
      | false =>
        go_wp2_with fail
        refine HH.mono ?_
        rintro e w2 ⟨rfl, hb2⟩
        go_wp2
        go_roundw
        case rel => exact ⟨k + 1, by omega, by go_num, HNO2.out (by simp), bstep HBL.out hb2⟩
        case measure => simp [intOf]; omega
    · obtain rfl : k = 6 := by omega
      go_wp2
      go_ret
      exact ⟨ret_int (HNONE.out HA.out).symm, HBR.out⟩
end Go.Proofs.Ytllagelopdedfaa
