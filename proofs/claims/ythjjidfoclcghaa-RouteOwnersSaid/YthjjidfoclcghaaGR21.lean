/- Texts of this proof, one behind the other: TabRngR, RouteHelp, RouteAwake, RouteBool, RouteServ. -/
import Derived.Test.YthjjidfoclcghaaGR20
import Derived.Deep.DeepCutAuto
/- What the document's Ranges answers, and whether two rows of ranges are the same. -/
namespace Go.Proofs.Ythjjidfoclcghaa
open Go.RowKit
set_option linter.unusedVariables false
set_option linter.unusedSimpArgs false

set_option maxRecDepth 100000 in
set_option maxHeartbeats 800000 in
theorem sameRanges7_any (u v : Value) (l : List (ByteArray × ByteArray)) (w : World) (hl : l.length ≤ 100) (h : RowAt KR w u l) (h' : RowAt KR w v l) :
    Calls Try.prog 14 #[u, v] w fun e w' => e = .returned (.bool true) ∧ Below w.heap.size w w' := by
  obtain ⟨a0, p0, hu0, hq0, hm0, _, hi0⟩ := h
  obtain ⟨b0, r0, hv0, _, _, _, hj0⟩ := h'
  subst hu0 hv0
  have HI0 := Lib.hid hi0
  have HJ0 := Lib.hid hj0
  clear hi0 hj0
  go_enter Try.func14, Try.ntmps14
  go_wp2
  go_loopw [5] (fun i wr => ∃ k n : Nat, k ≤ l.length ∧ i = .int .i64 k ∧ wr = w.drewN n) (fun i _ => l.length - (intOf i).toNat)
  case atStart => exact ⟨0, 0, by omega, rfl, rfl⟩
  case round =>
    obtain ⟨k, n, hk, rfl, rfl⟩ := hrel
    by_cases hlt : k < l.length
    · obtain ⟨g, o, rfl, _, c0, c1⟩ := RowIn.rng HI0.out k hlt
      obtain ⟨g', o', rfl, _, d0, d1⟩ := RowIn.rng HJ0.out k hlt
      generalize l[k] = d at c0 c1 d0 d1
      obtain ⟨p, q⟩ := d
      dsimp only at c0 c1 d0 d1
      have hne : ∀ w', (binOp .neq 52 (.agg #[.string p, .string q]) (.agg #[.string p, .string q])).run Try.prog w' = .ok (.bool false) w' := fun w' => by rw [ne_rng]; simp
      have k0 : (0 : Int) ≤ (k : Int) := by omega
      have k1 : (k : Int) < (l.length : Int) := by omega
      go_wp2_with fail
      go_quiet (fail)
      go_wp2
      go_roundw
      case rel => exact ⟨k + 1, _, by omega, by go_num, rfl⟩
      case measure => simp [intOf]; omega
    · have k1 : ¬ (k : Int) < (l.length : Int) := by omega
      go_wp2
      go_ret
      exact ⟨rfl, below_drewN (Below.refl _ _) _⟩
end Go.Proofs.Ythjjidfoclcghaa
/- What archipelagoref09's Same and Reach, and law09's awake answer. -/
namespace Go.Proofs.Ythjjidfoclcghaa
open Go.RowKit
set_option linter.unusedVariables false
set_option linter.unusedSimpArgs false

set_option maxRecDepth 100000 in
set_option maxHeartbeats 800000 in
theorem refSame9_any (u v : Value) (l : List (Int × Int)) (w : World) (hl : l.length ≤ 100) (h : RowAt KP w u l) (h' : RowAt KP w v l) :
    Calls Try.prog 18 #[u, v] w fun e w' => e = .returned (.bool true) ∧ Below w.heap.size w w' := by
  obtain ⟨a0, p0, hu0, hq0, hm0, _, hi0⟩ := h
  obtain ⟨b0, r0, hv0, _, _, _, hj0⟩ := h'
  subst hu0 hv0
  have HI0 := Lib.hid hi0
  have HJ0 := Lib.hid hj0
  clear hi0 hj0
  go_enter Try.func18, Try.ntmps18
  go_wp2
  go_loopw [5] (fun i wr => ∃ k n : Nat, k ≤ l.length ∧ i = .int .i64 k ∧ wr = w.drewN n) (fun i _ => l.length - (intOf i).toNat)
  case atStart => exact ⟨0, 0, by omega, rfl, rfl⟩
  case round =>
    obtain ⟨k, n, hk, rfl, rfl⟩ := hrel
    by_cases hlt : k < l.length
    · obtain ⟨g, o, rfl, _, c0, c1⟩ := RowIn.pair HI0.out k hlt
      obtain ⟨g', o', rfl, _, d0, d1⟩ := RowIn.pair HJ0.out k hlt
      generalize l[k] = d at c0 c1 d0 d1
      obtain ⟨p, q⟩ := d
      dsimp only at c0 c1 d0 d1
      have hne : ∀ w', (binOp .neq 43 (.agg #[.int .i64 p, .int .i64 q]) (.agg #[.int .i64 p, .int .i64 q])).run Try.prog w' = .ok (.bool false) w' := fun w' => by rw [ne_pair]; simp
      have k0 : (0 : Int) ≤ (k : Int) := by omega
      have k1 : (k : Int) < (l.length : Int) := by omega
      go_wp2_with fail
      go_quiet (fail)
      go_wp2
      go_roundw
      case rel => exact ⟨k + 1, _, by omega, by go_num, rfl⟩
      case measure => simp [intOf]; omega
    · have k1 : ¬ (k : Int) < (l.length : Int) := by omega
      go_wp2
      go_ret
      exact ⟨rfl, below_drewN (Below.refl _ _) _⟩

def ex9 : Rw := ⟨[(⟨#[]⟩, ⟨#[]⟩)], [4], [-1, 0, 1]⟩
theorem ex9_ok : tOk ex9 = true := made_ok Ends.nil (by simp) rfl (by simp [ex9]) rfl (by
  intro o ho
  simp [ex9] at ho
  subst ho
  simp [ex9])
theorem ex9_chk : chk9 ex9 = true := by
  unfold chk9
  rw [ex9_ok]
  decide +kernel
theorem ex9_own : ownN ex9 [107] = 4 := by
  unfold ownN
  rw [if_pos ex9_ok]
  decide
theorem ex9_own9 : own9 ex9 [107] = fun s => (4 : Nat).testBit s := by
  funext s
  unfold own9
  rw [ex9_own]
theorem ex9_ways : ways9 ex9 [107] 0 = [(0, 1), (1, 2)] := by
  rw [ways9_eq ex9_chk, ex9_own9]
  decide +kernel
theorem ex9_reach : reach9 ex9 [107] 0 = 7 := by
  unfold reach9
  rw [if_pos ex9_chk, ex9_own9]
  decide +kernel
theorem kp_two (w : World) (a b c d : Int) : RowAt KP (w.alloc (.cells #[.int .i64 a, .int .i64 b, .int .i64 c, .int .i64 d] 43)) (.slice (some ⟨w.heap.size, 0, none⟩) 2 2) [(a, b), (c, d)] :=
  RowAt.of_own kp_ok (own_lit9 kp_ok w w.heap.size 2 [(a, b), (c, d)] #[.int .i64 a, .int .i64 b, .int .i64 c, .int .i64 d] rfl rfl (Nat.le_refl _) (by omega))
end Go.Proofs.Ythjjidfoclcghaa
/- What law09's awake answers. -/
namespace Go.Proofs.Ythjjidfoclcghaa
open Go.RowKit
set_option linter.unusedVariables false
set_option linter.unusedSimpArgs false

set_option maxRecDepth 100000 in
set_option maxHeartbeats 1600000 in
theorem awake9_any (w : World) :
    Calls Try.prog 9 #[] w fun e w' => e = .returned (.bool true) ∧ Below w.heap.size w w' := by
  obtain ⟨w1, hw1⟩ : ∃ w1, w1 = w.alloc (.cells #[.string ⟨#[]⟩, .string ⟨#[]⟩] 52) := ⟨_, rfl⟩
  obtain ⟨w2, hw2⟩ : ∃ w2, w2 = w1.alloc (.cells #[.int .i64 4] 3) := ⟨_, rfl⟩
  obtain ⟨w3, hw3⟩ : ∃ w3, w3 = w2.alloc (.cells #[.int .i64 (-1), .int .i64 0, .int .i64 1] 3) := ⟨_, rfl⟩
  have z1 : w1.heap.size = w.heap.size + 1 := by rw [hw1]; simp
  have z2 : w2.heap.size = w1.heap.size + 1 := by rw [hw2]; simp
  have z3 : w3.heap.size = w2.heap.size + 1 := by rw [hw3]; simp
  have h0 : RowAt KR w1 (.slice (some ⟨w.heap.size, 0, none⟩) 1 1) ex9.rs := by rw [hw1]; exact RowAt.of_own kr_ok (own_lit9 kr_ok w w.heap.size 1 ex9.rs #[.string ⟨#[]⟩, .string ⟨#[]⟩] rfl rfl (Nat.le_refl _) (by omega))
  have h1 : RowAt KI w2 (.slice (some ⟨w1.heap.size, 0, none⟩) 1 1) ex9.ow := by rw [hw2]; exact RowAt.of_own ki_ok (own_lit9 ki_ok w1 w1.heap.size 1 [4] #[.int .i64 4] rfl rfl (Nat.le_refl _) (by omega))
  have h2 : RowAt KI w3 (.slice (some ⟨w2.heap.size, 0, none⟩) 3 3) ex9.pa := by rw [hw3]; exact RowAt.of_own ki_ok (own_lit9 ki_ok w2 w2.heap.size 3 [-1, 0, 1] #[.int .i64 (-1), .int .i64 0, .int .i64 1] rfl rfl (Nat.le_refl _) (by omega))
  have b1 : Below w.heap.size w w1 := by rw [hw1]; exact balloc (Below.refl _ _) _
  have b2 : Below w1.heap.size w1 w2 := by rw [hw2]; exact balloc (Below.refl _ _) _
  have b3 : Below w2.heap.size w2 w3 := by rw [hw3]; exact balloc (Below.refl _ _) _
  have hR : RwAt w3 (.slice (some ⟨w.heap.size, 0, none⟩) 1 1) (.slice (some ⟨w1.heap.size, 0, none⟩) 1 1) (.slice (some ⟨w2.heap.size, 0, none⟩) 3 3) ex9 := ⟨(h0.below b2).below b3, h1.below b3, h2, by
    intro r hr
    simp [ex9] at hr
    subst hr
    exact ⟨by decide, by decide⟩⟩
  rw [z2, z1] at hR
  have HR := Lib.hid hR
  have HBW := Lib.hid (bstep (bstep b1 b2) b3)
  have HSZ : Hid (w3.heap.size = w.heap.size + 1 + 1 + 1) := Lib.hid (by omega)
  have hW3 : w3 = ((w.alloc (.cells #[.string ⟨#[]⟩, .string ⟨#[]⟩] 52)).alloc (.cells #[.int .i64 4] 3)).alloc (.cells #[.int .i64 (-1), .int .i64 0, .int .i64 1] 3) := by rw [hw3, hw2, hw1]
  clear h0 h1 h2 b1 b2 b3 hR z1 z2 z3 hw3 hw2 hw1
  go_enter Try.func9, Try.ntmps9
  go_wp2_with fail
  rw [← hW3]
  clear hW3
  generalize Value.slice (some ⟨w.heap.size, 0, none⟩) 1 1 = u0 at *
  generalize Value.slice (some ⟨w.heap.size + 1, 0, none⟩) 1 1 = u1 at *
  generalize Value.slice (some ⟨w.heap.size + 1 + 1, 0, none⟩) 3 3 = u2 at *
  have hV := VrP.new w3 u0 u1 u2 29
  rw [HSZ.out] at hV
  have hbv := balloc (Below.refl _ w3) (.cells #[u0, u1, u2] 29)
  have HR2 := Lib.hid (HR.out.below hbv)
  have HB2 := Lib.hid (bstep HBW.out hbv)
  have HV := Lib.hid hV
  generalize w3.alloc (.cells #[u0, u1, u2] 29) = wv at *
  have HWY := Lib.hid (rways_any ex9 u0 u1 u2 0 ⟨#[107]⟩ wv HR2.out)
  rw [show (⟨#[107]⟩ : ByteArray).data.toList = [107] from rfl, ex9_ways] at HWY
  have HCK := Lib.hid (fun W hb => rcheck_any ex9 u0 u1 u2 W (HR2.out.below (w' := W) hb))
  rw [ex9_chk] at HCK
  have HRE := Lib.hid (fun W hb => rreach_any ex9 u0 u1 u2 0 ⟨#[107]⟩ W (HR2.out.below (w' := W) hb))
  rw [show (⟨#[107]⟩ : ByteArray).data.toList = [107] from rfl, ex9_reach] at HRE
  obtain ⟨c0, c1, c2, _⟩ := HV.out
  clear hV hbv HSZ
  go_wp2_with fail
  refine HWY.out.mono ?_
  rintro e w4 ⟨v4, rfl, hr4, hb4⟩
  have hS := refSame9_any v4 (.slice (some ⟨w4.heap.size, 0, none⟩) 2 2) [(0, 1), (1, 2)] (w4.alloc (.cells #[.int .i64 0, .int .i64 1, .int .i64 1, .int .i64 2] 43)) (by simp) (hr4.below (balloc (Below.refl _ _) _)) (kp_two w4 0 1 1 2)
  have HB4 := Lib.hid (bstep hb4 (balloc (Below.refl _ w4) (.cells #[.int .i64 0, .int .i64 1, .int .i64 1, .int .i64 2] 43)))
  clear hb4 hr4 HWY c0 c1 c2
  go_wp2_with fail
  refine hS.mono ?_
  rintro e w5 ⟨rfl, hb5⟩
  have HB5 := Lib.hid (bstep HB4.out hb5)
  obtain ⟨c0, c1, c2, _⟩ := HV.out.keep HB5.out
  clear hb5 hS
  go_wp2_with fail
  refine (HCK.out w5 HB5.out).mono ?_
  rintro e w6 ⟨rfl, hb6⟩
  have HB6 := Lib.hid (bstep HB5.out hb6)
  clear c0 c1 c2 hb6
  obtain ⟨c0, c1, c2, _⟩ := HV.out.keep HB6.out
  go_wp2_with fail
  refine (HRE.out w6 HB6.out).mono ?_
  rintro e w7 ⟨rfl, hb7⟩
  go_wp2
  go_ret
  exact ⟨rfl, bstep HB2.out (bstep HB6.out hb7)⟩
end Go.Proofs.Ythjjidfoclcghaa
/- Six bools in memory. -/
namespace Go.Proofs.Ythjjidfoclcghaa
open Go.RowKit
set_option linter.unusedVariables false
set_option linter.unusedSimpArgs false

/-- Six bools. -/
structure BoolIn (w : World) (B : Nat) (f : Nat → Bool) : Prop where
  lt : B < w.heap.size
  c : ∀ k, k < 6 → w.cell? ⟨B, k, none⟩ = some (.bool (f k))
  f : ∀ k, k < 6 → w.frozen? ⟨B, k, none⟩ = false
theorem BoolIn.below {w w' : World} {B : Nat} {f : Nat → Bool} (h : BoolIn w B f) (hb : Below w.heap.size w w') : BoolIn w' B f :=
  ⟨by have := h.lt; have := hb.size; omega, fun k hk => kc hb (h.c k hk), fun k hk => by rw [hb.frozen (p := ⟨B, k, none⟩) h.lt]; exact h.f k hk⟩
theorem BoolIn.set {w : World} {B : Nat} {f : Nat → Bool} (h : BoolIn w B f) {k : Nat} (hk : k < 6) (m : Bool) : BoolIn (w.setCell ⟨B, k, none⟩ (.bool m)) B (fun x => if x = k then m else f x) := by
  refine ⟨by simpa using h.lt, fun x hx => ?_, fun x hx => by rw [World.frozen?_setCell]; exact h.f x hx⟩
  by_cases e : x = k
  · subst e
    rw [World.cell?_setCell_same _ _ _ (h.c x hx), if_pos rfl]
  · rw [World.cell?_setCell_other _ _ _ _ (by intro h2; cases h2; exact e rfl), if_neg e]
    exact h.c x hx
theorem BoolIn.cong {w : World} {B : Nat} {f g : Nat → Bool} (h : BoolIn w B f) (e : ∀ k, k < 6 → f k = g k) : BoolIn w B g :=
  ⟨h.lt, fun k hk => by rw [← e k hk]; exact h.c k hk, h.f⟩
theorem BoolIn.new (w : World) : BoolIn (w.alloc (.cells #[.bool false, .bool false, .bool false, .bool false, .bool false, .bool false] 49)) w.heap.size (fun _ => false) := by
  refine ⟨by simp, fun k hk => ?_, fun k hk => ?_⟩
  · rw [Lib.cell_of_heap (heap_alloc_new w _)]
    rcases (show k = 0 ∨ k = 1 ∨ k = 2 ∨ k = 3 ∨ k = 4 ∨ k = 5 by omega) with rfl | rfl | rfl | rfl | rfl | rfl <;> rfl
  · rcases (show k = 0 ∨ k = 1 ∨ k = 2 ∨ k = 3 ∨ k = 4 ∨ k = 5 by omega) with rfl | rfl | rfl | rfl | rfl | rfl <;> simp

set_option maxRecDepth 100000 in
set_option maxHeartbeats 1600000 in
theorem refReach9_any (c : Rw) (u0 u1 u2 : Value) (fr : Int) (key : ByteArray) (w : World) (h : RwAt w u0 u1 u2 c) (hl : c.rs.length ≤ 100) :
    Calls Try.prog 23 #[.agg #[u0, u1, u2], .int .i64 fr, .string key] w fun e w' => e = .returned (.int .i64 (reach9 c key.data.toList fr : Int)) ∧ Below w.heap.size w w' := by
  have HW := Lib.hid h
  have HV := Lib.hid (VrP.new w u0 u1 u2 29)
  have hb0 : Below w.heap.size w (w.alloc (.cells #[u0, u1, u2] 29)) := balloc (Below.refl _ w) _
  have HB0 := Lib.hid hb0
  have hck := refChk9_any c u0 u1 u2 _ (HW.out.below hb0) hl
  clear h hb0
  cases hok : chk9 c with
  | false =>
    have hx : Hid (reach9 c key.data.toList fr = 0) := Lib.hid (reach9_no _ (.inl hok))
    generalize reach9 c key.data.toList fr = R at hx ⊢
    rw [hok] at hck
    clear hok
    go_enter Try.func23, Try.ntmps23
    go_wp2_with fail
    refine hck.mono ?_
    rintro e w1 ⟨rfl, hb1⟩
    go_wp2
    go_ret
    exact ⟨by rw [hx.out]; rfl, bstep HB0.out hb1⟩
  | true =>
    rw [hok] at hck
    have h6 := ((Tm.chkT_iff c.pa).1 (chk9_parts hok).2).n6
    have HNO : Hid (Tm.isS c.pa fr = false → reach9 c key.data.toList fr = 0) := Lib.hid (fun h => reach9_no _ (.inr h))
    have HYE : Hid (Tm.isS c.pa fr = true → reach9 c key.data.toList fr = Tm.sumB (came9 c key.data.toList fr (ways9 c key.data.toList fr).length) 6) := Lib.hid (fun h => reach9_eq hok _ h)
    generalize reach9 c key.data.toList fr = R at HNO HYE ⊢
    have HWY := Lib.hid (fun W hW => refWays9_any c u0 u1 u2 fr key W hW hl)
    obtain ⟨a2, cp2, hu2, hq2, hm2, _, hri2⟩ := HW.out.pa
    unfold maxLen at hm2
    subst hu2
    clear hri2 hl
    by_cases h0 : fr < 0
    · have HR : Hid (R = 0) := Lib.hid (HNO.out (Tm.isS_not.2 (by omega)))
      clear hok HNO HYE
      go_enter Try.func23, Try.ntmps23
      go_wp2_with fail
      refine hck.mono ?_
      rintro e w1 ⟨rfl, hb1⟩
      go_wp2
      go_ret
      exact ⟨by rw [HR.out]; rfl, bstep HB0.out hb1⟩
    · by_cases h1 : fr < (c.pa.length : Int)
      rotate_left
      · have HR : Hid (R = 0) := Lib.hid (HNO.out (Tm.isS_not.2 (by omega)))
        clear hok HNO HYE
        go_enter Try.func23, Try.ntmps23
        go_wp2_with fail
        refine hck.mono ?_
        rintro e w1 ⟨rfl, hb1⟩
        have HB1 := Lib.hid (bstep HB0.out hb1)
        obtain ⟨c0, c1, c2, _⟩ := HV.out.keep hb1
        go_wp2
        go_ret
        exact ⟨by rw [HR.out]; rfl, HB1.out⟩
      · obtain ⟨x, rfl⟩ : ∃ x : Nat, fr = (x : Int) := ⟨fr.toNat, by omega⟩
        have hx : x < c.pa.length := by omega
        have hx6 : x < 6 := by omega
        have HR : Hid (R = Tm.sumB (came9 c key.data.toList (x : Int) (ways9 c key.data.toList (x : Int)).length) 6) := Lib.hid (HYE.out (Tm.isS_iff.2 ⟨by omega, h1⟩))
        have HZ : Hid (∀ s, (if s = x then true else false) = came9 c key.data.toList (x : Int) 0 s) := Lib.hid (fun s => by
          unfold came9
          rw [List.take_zero, List.any_nil, Bool.or_false]
          by_cases e : s = x
          · rw [if_pos e, decide_eq_true (by omega)]
          · rw [if_neg e, decide_eq_false (by omega)])
        have HSN : Hid (∀ k s (hk : k < (ways9 c key.data.toList (x : Int)).length) (z : Nat), (ways9 c key.data.toList (x : Int))[k].2 = (z : Int) → (if s = z then true else came9 c key.data.toList (x : Int) k s) = came9 c key.data.toList (x : Int) (k + 1) s) := Lib.hid (fun k s hk z hz => by
          rw [came9_snoc hk, hz]
          by_cases e : s = z
          · subst e
            rw [if_pos rfl, decide_eq_true rfl, Bool.or_true]
          · rw [if_neg e, decide_eq_false (by omega), Bool.or_false])
        have HSI := Lib.hid (fun e he => @ways9_site c key.data.toList (x : Int) e he)
        have hwl := ways9_len c key.data.toList (x : Int)
        generalize ways9 c key.data.toList (x : Int) = WL at *
        generalize came9 c key.data.toList (x : Int) = CM at *
        clear hok HNO HYE
        go_enter Try.func23, Try.ntmps23
        go_wp2_with fail
        refine hck.mono ?_
        rintro e w1 ⟨rfl, hb1⟩
        have HB1 := Lib.hid (bstep HB0.out hb1)
        have HV1 := Lib.hid (HV.out.keep hb1)
        obtain ⟨c0, c1, c2, _⟩ := HV1.out
        have HN := Lib.hid (BoolIn.new w1)
        have HBA := Lib.hid (balloc (Below.refl _ w1) (.cells #[.bool false, .bool false, .bool false, .bool false, .bool false, .bool false] 49))
        clear hb1 hck
        go_upto_region 5 with fail
        generalize w1.alloc (.cells #[.bool false, .bool false, .bool false, .bool false, .bool false, .bool false] 49) = wS at *
        have hfz := HN.out.f x hx6
        have hcz := HN.out.c x hx6
        have HS1 := Lib.hid ((HN.out.set hx6 true).cong (fun s _ => HZ.out s))
        have HB2 := Lib.hid (HBA.out.setCell (p := ⟨w1.heap.size, x, none⟩) (Nat.le_refl _) (.bool true))
        have HV2 := Lib.hid (HV1.out.keep HB2.out)
        have hszT : w1.heap.size < (wS.setCell ⟨w1.heap.size, x, none⟩ (.bool true)).heap.size := HS1.out.lt
        clear c0 c1 c2 HZ HN HBA HV1
        go_upto_region 6 with fail
        generalize wS.setCell ⟨w1.heap.size, x, none⟩ (.bool true) = wT at *
        clear hfz hcz
        obtain ⟨c0, c1, c2, _⟩ := HV2.out
        have HBT := Lib.hid (bstep HB1.out HB2.out)
        have hwy := HWY.out wT (HW.out.below HBT.out)
        clear HWY HB2 HV HV2
        go_wp2_with fail
        refine hwy.mono ?_
        rintro e w3 ⟨v3, rfl, ho3, hb3⟩
        obtain ⟨va, vc, rfl⟩ := ho3.shape
        have HO3 := Lib.hid ho3
        have HS3 := Lib.hid (HS1.out.below hb3)
        have HB3 := Lib.hid (bstep HBT.out hb3)
        have HWS := Lib.hid HB1.out.size
        clear hwy ho3 hb3 c0 c1 c2 HS1 HBT
        go_wp2_with fail
        go_loopw [10] (fun i wr => ∃ k : Nat, k ≤ WL.length ∧ i = .int .i64 k ∧ BoolIn wr w1.heap.size (CM k) ∧ Below w.heap.size w wr ∧ OwnR KP wr wT.heap.size (.slice va WL.length vc) WL) (fun i _ => WL.length - (intOf i).toNat)
        case atStart => exact ⟨0, by omega, rfl, HS3.out, HB3.out, HO3.out⟩
        case round =>
          clear HS3 HB3 HO3
          obtain ⟨k, hk, rfl, hS, hbel, ho⟩ := hrel
          by_cases hlt : k < WL.length
          · obtain ⟨s, hs, hsl, hs6⟩ := HSI.out _ (List.getElem_mem hlt)
            have HO := Lib.hid (ho.put7 (o := s) (x := .bool true) (ho.lo hszT))
            obtain ⟨b, off, rfl, hbl, d0, d1⟩ := (RowIn.of_own kp_ok ho).pair k hlt
            have HS := Lib.hid (fun z => HSN.out k z hlt s hs)
            rw [hs] at d1
            have hfz := hS.f s hs6
            have hcz := hS.c s hs6
            have HT := Lib.hid ((hS.set hs6 true).cong (fun z _ => HS.out z))
            have HBT2 := Lib.hid (hbel.setCell (p := ⟨w1.heap.size, s, none⟩) HWS.out (.bool true))
            have hki : (k : Int) < (WL.length : Int) := by omega
            clear hs ho hS hbel d0
            go_wp2_with fail
            go_roundw
            case rel => exact ⟨k + 1, by omega, by go_num, HT.out, HBT2.out, HO.out⟩
            case measure => simp [intOf]; omega
          · obtain rfl : k = WL.length := by omega
            have HS := Lib.hid hS
            have HBR := Lib.hid hbel
            generalize CM WL.length = g at *
            clear hS hbel ho hlt hk
            go_wp2_with fail
            go_loop [11, 12, 13] (fun n b i => ∃ j : Nat, j ≤ 6 ∧ i = .int .i64 j ∧ n = .int .i64 ((Tm.sumB g j : Nat) : Int) ∧ b = .int .i64 ((2 ^ j : Nat) : Int)) (fun _ _ i => 6 - (intOf i).toNat)
            case atStart => exact ⟨0, by omega, rfl, rfl, rfl⟩
            case round =>
              obtain ⟨j, hj, rfl, rfl, rfl⟩ := hrel
              by_cases hlt : j < 6
              · have hc := HS.out.c j hlt
                have hp := pow_lt9 hlt
                have hq : Tm.sumB g j < 64 := Nat.lt_of_lt_of_le (Tm.sumB_lt g j) (by omega)
                have HP : Hid (2 ^ (j + 1) = 2 ^ j * 2) := Lib.hid (Nat.pow_succ 2 j)
                have HQ : Hid (Tm.sumB g (j + 1) = Tm.sumB g j + if g j = true then 2 ^ j else 0) := Lib.hid rfl
                generalize g j = gb at hc HQ
                generalize Tm.sumB g j = q at *
                generalize 2 ^ j = z at *
                cases gb with
                | true =>
                  go_wp2
                  go_round
                  case rel => exact ⟨j + 1, by omega, by go_num, by rw [HQ.out, if_pos rfl]; go_num, by rw [HP.out]; go_num⟩
                  case measure => simp [intOf]; omega
                | false =>
                  go_wp2
                  go_round
                  case rel => exact ⟨j + 1, by omega, by go_num, by rw [HQ.out]; rfl, by rw [HP.out]; go_num⟩
                  case measure => simp [intOf]; omega
              · obtain rfl : j = 6 := by omega
                go_wp2
                go_ret
                exact ⟨by rw [HR.out]; rfl, HBR.out⟩
end Go.Proofs.Ythjjidfoclcghaa
/- What route.Serves answers. -/
namespace Go.Proofs.Ythjjidfoclcghaa
open Go.RowKit
set_option linter.unusedVariables false
set_option linter.unusedSimpArgs false

set_option maxRecDepth 100000 in
set_option maxHeartbeats 1600000 in
theorem serves_any (c : Rw) (u0 u1 u2 : Value) (s n : Int) (w : World) (h : RwAt w u0 u1 u2 c) :
    Calls Try.prog 15 #[.agg #[u0, u1, u2], .int .i64 s, .int .i64 n] w (RngPost w (serves9 c s n)) := by
  have HW := Lib.hid h
  have HV := Lib.hid (VrP.new w u0 u1 u2 29)
  have hb0 : Below w.heap.size w (w.alloc (.cells #[u0, u1, u2] 29)) := balloc (Below.refl _ w) _
  have HB0 := Lib.hid hb0
  have hck := rcheck_any c u0 u1 u2 _ (HW.out.below hb0)
  clear h hb0
  cases hok : chk9 c with
  | false =>
    rw [serves9_no hok]
    rw [hok] at hck
    clear hok
    go_enter Try.func15, Try.ntmps15
    go_wp2_with fail
    go_step3
    go_wp2_with fail
    refine hck.mono ?_
    rintro e w1 ⟨rfl, hb1⟩
    go_wp2
    try rw [Exit.noGoto_ret]
    go_ret
    exact ⟨_, rfl, OwnR.nil KR _ _, bstep HB0.out hb1⟩
  | true =>
    rw [hok] at hck
    have hT := (tOk_iff c).1 (chk9_parts hok).1
    have HT := Lib.hid hT
    have HALL := Lib.hid (serves9_eq hok s n)
    generalize serves9 c s n = L at HALL ⊢
    have hr8 := hT.r8
    have HBE := Lib.hid (fun W hW => beyond_any c u0 u1 u2 s n W hW)
    have hSl := sideI_lt c.pa s n
    have HG : Hid (∀ o, srvG c s n o = Tm.meetN (Tm.sideI c.pa s n) o.toNat) := Lib.hid (fun o => rfl)
    obtain ⟨a0, cp0, hu0, hq0, hm0, _, hri0⟩ := HW.out.rs
    obtain ⟨a1, cp1, hu1, hq1, hm1, _, hri1⟩ := HW.out.ow
    unfold maxLen at hm0 hm1
    subst hu0 hu1
    have HR0 := Lib.hid hri0
    have HR1 := Lib.hid hri1
    have HOL := Lib.hid hT.ol
    clear hok hT hri0 hri1
    have hol8 : c.ow.length ≤ 8 := by rw [HOL.out]; exact hr8
    generalize hn0 : c.rs.length = n0 at *
    generalize hn1 : c.ow.length = n1 at *
    have HN0 := Lib.hid hn0
    have HN1 := Lib.hid hn1
    clear hn0 hn1
    have HSN0 := Lib.hid (srvK_snoc c s n)
    have HKL := Lib.hid (srvK_len c s n)
    have HK0 : Hid (srvK c s n 0 = []) := Lib.hid (srvK_zero c s n)
    generalize Tm.sideI c.pa s n = sd at HBE hSl HG
    generalize srvK c s n = F at HALL HSN0 HKL HK0
    generalize srvG c s n = G at HSN0 HG
    go_enter Try.func15, Try.ntmps15
    go_wp2_with fail
    go_step3
    go_wp2_with fail
    refine hck.mono ?_
    rintro e w1 ⟨rfl, hb1⟩
    have HB1 := Lib.hid (bstep HB0.out hb1)
    have HV1 := Lib.hid (HV.out.keep hb1)
    obtain ⟨c0, c1, c2, _⟩ := HV1.out
    have hbe := HBE.out w1 (HW.out.below HB1.out)
    clear hb1 hck HB0 HV HBE
    go_wp2_with fail
    refine hbe.mono ?_
    rintro e w2 ⟨B, rfl, hB, cB, hb2⟩
    have HBW := Lib.hid (bstep HB1.out hb2)
    have HV2 := Lib.hid (HV1.out.keep hb2)
    have HCB := Lib.hid cB
    have hBs : B < w2.heap.size := lt_of_cellN cB
    clear c0 c1 c2 cB hb2 hbe HB1 HV1
    obtain ⟨c0, c1, c2, _⟩ := HV2.out
    go_wp2_with fail
    go_step3
    go_wp2_with fail
    go_loopw [8, 21] (fun o i wr => ∃ k : Nat, k ≤ n0 ∧ i = .int .i64 k ∧ OwnR KR wr w2.heap.size o (F k) ∧ Below w2.heap.size w2 wr) (fun _ i _ => n0 - (intOf i).toNat)
    case atStart => exact ⟨0, by omega, rfl, by rw [HK0.out]; exact OwnR.nil KR _ _, Below.refl _ _⟩
    case round =>
      obtain ⟨k, hk, rfl, ho, hbel⟩ := hrel
      have hbs : w2.heap.size ≤ wr.heap.size := hbel.size
      have hol : (F k).length ≤ 8 := Nat.le_trans (HKL.out k) (by omega)
      obtain ⟨sa, sc, rfl⟩ := ho.shape
      have HO := Lib.hid ho
      have HBR := Lib.hid (bstep HBW.out hbel)
      have HBL := Lib.hid hbel
      have hVr := HV2.out.keep hbel
      have hVl := hVr.lt
      clear c0 c1 c2 ho hbel
      obtain ⟨c0, c1, c2, _⟩ := hVr
      by_cases hlt : k < n0
      · have hlt0 : k < c.rs.length := by rw [HN0.out]; exact hlt
        have hlt1 : k < c.ow.length := by rw [HN1.out, HOL.out]; exact hlt
        have hlt1' : k < n1 := by rw [HOL.out]; exact hlt
        obtain ⟨b, off, rfl, hbl, d0, d1⟩ := (RowIn.rng (HR0.out.below HBR.out)) k hlt0
        obtain ⟨b', off', rfl, hbl', cc⟩ := (HR1.out.below HBR.out).int k hlt1
        have hob := HT.out.ob _ (List.getElem_mem hlt1)
        have hpw := HT.out.pow
        have hsn := HSN0.out k (by first | exact hlt0 | exact hlt) hlt1
        have HSN := Lib.hid hsn
        generalize F k = acc at hol HO HSN
        clear hsn
        generalize c.rs[k] = x at d0 d1 HSN
        obtain ⟨p, q⟩ := x
        dsimp only at d0 d1
        generalize c.ow[k] = o at cc hob HSN
        obtain ⟨m, rfl⟩ : ∃ m : Nat, o = (m : Int) := ⟨o.toNat, by omega⟩
        have hm : m < 64 := by omega
        have HG1 : Hid (G (m : Int) = Tm.meetN sd m) := Lib.hid (by rw [HG.out, Int.toNat_natCast])
        have HH := fun W hW => beyondC_any m sd B W hm hSl hW
        have hb2 : Below wr.heap.size wr (wr.alloc (.cells #[.string p, .string q] 52)) := balloc (Below.refl _ _) _
        have hki : (k : Int) < (n0 : Int) := by omega
        have hki1 : (k : Int) < (n1 : Int) := by omega
        have hcx := (kcell HBL.out hBs HCB.out)
        have hcy := (kcell hb2 (by omega) hcx)
        have HH2 := HH _ hcy
        clear hob hpw HH hcx hcy
        generalize Tm.meetN sd m = bb at HH2 HG1
        cases bb with
        | false =>
          go_wp2_with fail
          refine HH2.mono ?_
          rintro e w3 ⟨rfl, rfl⟩
          go_wp2
          go_roundw
          case rel => exact ⟨k + 1, by omega, by go_num, by rw [HSN.out, HG1.out]; simpa using HO.out.below hb2, bstep HBL.out hb2⟩
          case measure => simp [intOf]; omega
        | true =>
          go_wp2_with fail
          refine HH2.mono ?_
          rintro e w3 ⟨rfl, rfl⟩
          have HO2 := Lib.hid (HO.out.below hb2)
          have HBX := Lib.hid (bstep HBL.out hb2)
          have e0 : (wr.alloc (.cells #[.string p, .string q] 52)).cell? ⟨wr.heap.size, 0, none⟩ = some (.string p) := by simp
          have e1 : (wr.alloc (.cells #[.string p, .string q] 52)).cell? ⟨wr.heap.size, 1, none⟩ = some (.string q) := by simp
          have hsz : wr.heap.size < (wr.alloc (.cells #[.string p, .string q] 52)).heap.size := by simp
          have hbs2 : w2.heap.size ≤ (wr.alloc (.cells #[.string p, .string q] 52)).heap.size := by simp; omega
          clear hb2 HH2
          generalize wr.alloc (.cells #[.string p, .string q] 52) = wx at *
          go_wp2_with (at_builtin; refine wp_pushR kr_ok (wr := wx) rfl _ _ rfl w2.heap.size (.slice sa acc.length sc) acc (p, q) #[.string p, .string q] rfl rfl HO2.out rfl (by omega) hbs2 ?_; intro g4 cap4 w4 ho4 hb4 hk4 hat4 hlt4)
          go_wp2
          go_roundw
          case rel => exact ⟨k + 1, by omega, by go_num, by rw [HSN.out, HG1.out]; simpa using ho4, HBX.out.trans hb4⟩
          case measure => simp [intOf]; omega
      · obtain rfl : k = n0 := by omega
        go_wp2
        try rw [Exit.noGoto_ret]
        go_ret
        exact ⟨_, rfl, by rw [HALL.out]; exact HO.out.mono HBW.out.size, HBR.out⟩
end Go.Proofs.Ythjjidfoclcghaa
