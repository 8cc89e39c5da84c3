/- What a shard's New, owns, chain, Head, Chain, Ranges answer. -/
import Derived.Test.YtjfmgplhcinkfaaGreatGP11
import Derived.Deep.RegionHeld3
import Derived.BigQuiet
namespace Go.Proofs.YtjfmgplhcinkfaaGreat
open Go.RowKit
set_option linter.unusedVariables false
set_option linter.unusedSimpArgs false

set_option maxRecDepth 100000 in
set_option maxHeartbeats 800000 in
theorem cloneR_any (v : Value) (l : List (ByteArray × ByteArray)) (w : World) (hl : l.length ≤ 100000) (hr : RowAt KR w v l) :
    Calls Tryz.prog 31 #[v] w fun e w' => ∃ v', e = .returned v' ∧ OwnR KR w' w.heap.size v' l ∧ Below w.heap.size w w' := by
  have hq : ∀ (w : World) (a : Option Addr) (n c n' c' : Nat), (binOp .eql 26 (.slice a n c) (.slice none n' c')).run Tryz.prog w = .ok (.bool a.isNone) w := fun w a n c n' c' => Lib.run_eql_slice_nil w _ _ a n c n' c' Tryz.underlying26
  have HV := Lib.hid hr
  obtain ⟨a, cap, rfl, hcap, hmx, hnil, hr⟩ := hr
  cases a with
  | none =>
    have h0 := hnil rfl
    obtain rfl : l = [] := List.length_eq_zero_iff.1 (by omega)
    clear hr hnil
    go_enter Tryz.func31, Tryz.ntmps31
    go_wp2
    go_ret
    exact ⟨_, rfl, OwnR.nil _ _ _, Below.refl _ _⟩
  | some a =>
    have ho : OwnR KR (w.alloc (.cells #[] 63)) w.heap.size (.slice (some ⟨w.heap.size, 0, none⟩) 0 0) [] := World.ownsRow_made w #[] 0 (Nat.le_refl _) (Nat.zero_le _) (by simp)
    have HO := Lib.hid ho
    have HA := Lib.hid (HV.out.below (balloc (Below.refl _ _) (.cells #[] 63)))
    clear hr ho hnil
    go_enter Tryz.func31, Tryz.ntmps31
    go_wp2_with (at_builtin; refine wp_appR kr_ok rfl _ _ rfl w.heap.size (.slice (some ⟨w.heap.size, 0, none⟩) 0 0) (.slice (some a) l.length cap) [] l rfl HO.out rfl HA.out (by simp; omega) (by simp) ?_; intro v' w1 ho1 hb1 hk1; obtain ⟨sa, sc, rfl⟩ := ho1.shape)
    go_ret
    exact ⟨_, rfl, by simpa using ho1, (balloc (Below.refl _ w) _).trans hb1⟩

set_option maxRecDepth 100000 in
set_option maxHeartbeats 800000 in
theorem snew_any (v : Value) (R : List (ByteArray × ByteArray)) (w : World) (hl : R.length ≤ 100000) (hr : RowAt KR w v R) :
    Calls Tryz.prog 5 #[v] w fun e w' => ∃ b S, e = .returned (.pointer (some ⟨b, 0, none⟩)) ∧ SdAt w' S b R [] (fun _ => []) ∧ (∀ j, S j → w.heap.size ≤ j) ∧ Below w.heap.size w w' := by
  have hcl := cloneR_any v R w hl hr
  obtain ⟨a, cap, rfl, _⟩ := id hr
  clear hr
  go_enter Tryz.func5, Tryz.ntmps5
  go_wp2_with fail
  refine hcl.mono ?_
  rintro e w1 ⟨v1, rfl, ho, hb⟩
  obtain ⟨a1, c1, rfl⟩ := ho.shape
  go_wp2
  go_ret
  have hbA : Below w1.heap.size w1 (w1.alloc (.cells #[.slice a1 R.length c1, .map none] 68)) := balloc (Below.refl _ w1) _
  refine ⟨w1.heap.size, fun j => j = w1.heap.size ∨ (Value.slice a1 R.length c1).ownBlock = some j, rfl, ⟨none, 0, .slice a1 R.length c1, fun _ => .slice none 0 0, ?_⟩, ?_, bstep hb hbA⟩
  · refine ⟨?_, .inl rfl, (by simp), (by simp), (by simp), (by simp), (ho.below hbA).mono (Nat.zero_le _), ?_, KeyL.nil, (by simp), (by simp), (fun _ => rfl), (fun k hk => absurd rfl hk), (fun k x hx => by simp at hx)⟩
    · rintro j (rfl | hj)
      · simp
      · have := (ho.lt j hj).2
        simp
        omega
    · intro g hg
      have := (ho.lt g hg).2
      exact ⟨.inr hg, by omega, by simp⟩
  · rintro j (rfl | hj)
    · exact hb.size
    · exact (ho.lt j hj).1

section
variable {w : World} {S : Nat → Prop} {b : Nat} {mo : Option Nat} {n : Nat} {rv : Value} {val : ByteArray → Value} {R : List (ByteArray × ByteArray)} {L : List ByteArray} {F : Ch}
theorem SdM.rat (h : SdM w S b mo n rv val R L F) : RowAt KR w rv R := RowAt.of_own kr_ok h.rr

set_option maxRecDepth 100000 in
set_option maxHeartbeats 800000 in
theorem sownsC_any {w : World} {b : Nat} {rv : Value} {R : List (ByteArray × ByteArray)} (h0 : w.cell? ⟨b, 0, none⟩ = some rv) (hat : RowAt KR w rv R) (hR : R.length ≤ 100) (k : ByteArray) :
    Calls Tryz.prog 37 #[.pointer (some ⟨b, 0, none⟩), .string k] w fun e w' => e = .returned (.bool (ownsK R k)) ∧ Below w.heap.size w w' := by
  obtain ⟨a, c, rfl, _, _, _, hr⟩ := hat
  have hf := find_any a c R k w hR hr.rng
  clear hr
  have HO : Hid (ownsK R k = decide (0 ≤ Km.fidx (tls R) k.data.toList)) := Lib.hid rfl
  generalize ownsK R k = o at HO ⊢
  generalize Km.fidx (tls R) k.data.toList = z at hf HO
  go_enter Tryz.func37, Tryz.ntmps37
  go_wp2_with fail
  refine hf.mono ?_
  rintro e w1 ⟨rfl, hb⟩
  go_wp2
  go_ret
  exact ⟨ret_bool HO.out.symm, hb⟩
theorem sowns_any (h : SdM w S b mo n rv val R L F) (hR : R.length ≤ 100) (k : ByteArray) :
    Calls Tryz.prog 37 #[.pointer (some ⟨b, 0, none⟩), .string k] w fun e w' => e = .returned (.bool (ownsK R k)) ∧ Below w.heap.size w w' := sownsC_any h.c0 h.rat hR k

set_option maxRecDepth 100000 in
set_option maxHeartbeats 800000 in
theorem schainM_any (h : SdM w S b mo n rv val R L F) (k : ByteArray) (hk : k.size ≤ maxLen) :
    Calls Tryz.prog 40 #[.pointer (some ⟨b, 0, none⟩), .string k] w fun e w' => w = w' ∧ ∃ v, e = .returned v ∧ OwnR KW w 0 v (F k) ∧ Off S b mo v := by
  have hrun := h.look hk
  obtain ⟨ho, hoff⟩ := h.own k
  generalize atK F val k = v at hrun ho hoff
  have h1 := h.c1
  obtain ⟨a, c, rfl⟩ := ho.shape
  have HO := Lib.hid ho
  have HOF := Lib.hid hoff
  clear h ho hoff
  go_enter Tryz.func40, Tryz.ntmps40
  go_wp2
  go_ret
  exact ⟨rfl, _, rfl, HO.out, HOF.out⟩
end
section
variable {w : World} {S : Nat → Prop} {b : Nat} {R : List (ByteArray × ByteArray)} {L : List ByteArray} {F : Ch}
theorem schain_any (h : SdAt w S b R L F) (k : ByteArray) (hk : k.size ≤ maxLen) :
    Calls Tryz.prog 40 #[.pointer (some ⟨b, 0, none⟩), .string k] w fun e w' => w = w' ∧ ∃ v, e = .returned v ∧ WRow w v (F k) := by
  obtain ⟨mo, n, rv, val, h⟩ := h
  exact (schainM_any h k hk).mono fun e w' ⟨h1, v, h2, h3, _⟩ => ⟨h1, v, h2, h.wrow h3⟩

set_option maxRecDepth 100000 in
set_option maxHeartbeats 800000 in
/-- What Head answers of whatever chain the helper gives. -/
theorem sheadC_any (p : Value) (k : ByteArray) (xs : List Vw) (w : World) (hl : xs.length ≤ 1000000) (hp : ∃ a, p = .pointer a)
    (hc : ∀ W, Below w.heap.size w W → Calls Tryz.prog 40 #[p, .string k] W fun e w' => W = w' ∧ ∃ v, e = .returned v ∧ WRow W v xs) :
    Calls Tryz.prog 18 #[p, .string k] w fun e w' => e = .returned (.tuple #[wV (xs.getLast?.getD vw0), .bool xs.getLast?.isSome]) ∧ Below w.heap.size w w' := by
  obtain ⟨pa, rfl⟩ := hp
  obtain ⟨W1, hW1⟩ : ∃ W1, w.alloc (.cells #[.string ⟨#[]⟩, .string ⟨#[]⟩, .bool false, .int .i64 0, .int .i64 0, .slice none 0 0] 36) = W1 := ⟨_, rfl⟩
  have hb1 : Below w.heap.size w W1 := by rw [← hW1]; exact balloc (Below.refl _ w) _
  have hV : VwP W1 w.heap.size wz (.slice none 0 0) := by
    rw [← hW1]
    exact VwP.new w wz (.slice none 0 0) 36
  have hc1 := hc W1 hb1
  have hhd := fun W v h => chead_any v xs W hl h
  generalize xs.getLast?.isSome = c at hhd ⊢
  generalize xs.getLast?.getD vw0 = x at hhd ⊢
  have HPUT := Lib.hid (fun (W : World) (h : VwP W w.heap.size wz (.slice none 0 0)) => h.putw x.1 (pw x))
  have HBP := Lib.hid (fun (W : World) (h : Below w.heap.size w W) => below_putw h (Nat.le_refl _) x.1 (pw x))
  have HV := Lib.hid hV
  have HB1 := Lib.hid hb1
  obtain ⟨⟨key, val, gone, ⟨m, t⟩, past⟩, pa', pc⟩ := x
  dsimp only [wV, wcs, wvs, pw, World.putw] at *
  clear hV hb1 hc
  go_enter Tryz.func18, Tryz.ntmps18
  go_upto_region 1 with fail
  try rw [hW1]
  clear hW1
  go_wp2_with fail
  refine hc1.mono ?_
  rintro e w3 ⟨rfl, v, rfl, hrow⟩
  obtain ⟨sa, sc, rfl, _, _, _⟩ := hrow.shape
  have hh := hhd _ _ hrow
  clear hhd hrow
  go_wp2_with fail
  refine hh.mono ?_
  rintro e w4 ⟨rfl, hb4⟩
  have HV1 := Lib.hid (HV.out.keep hb4)
  obtain ⟨z0, z1, z2, z3, z4, z5, zf⟩ := HV1.out
  have zf0 := zf 0 (by decide)
  have zf1 := zf 1 (by decide)
  have zf2 := zf 2 (by decide)
  have zf3 := zf 3 (by decide)
  have zf4 := zf 4 (by decide)
  have zf5 := zf 5 (by decide)
  dsimp only [wz] at z0 z1 z2 z3 z4 z5
  have hP := HPUT.out _ HV1.out
  have HBE := Lib.hid (HBP.out _ (bstep HB1.out hb4))
  clear zf HV HV1 HB1 HPUT HBP hb4
  have HP := Lib.hid hP
  clear hP
  go_wp2
  obtain ⟨r0, r1, r2, r3, r4, r5, _⟩ := HP.out
  dsimp only at r0 r1 r2 r3 r4 r5
  refine bodyPost_ret (v := .tuple #[.agg #[.string key, .string val, .bool gone, .int .i64 m, .int .i64 t, .slice pa' past.length pc], .bool c]) (by simp [results, Tryz.results18, go_sem, r0, r1, r2, r3, r4, r5]) rfl ⟨rfl, HBE.out⟩
theorem shead_any (h : SdAt w S b R L F) (k : ByteArray) (hk : k.size ≤ maxLen) (hl : (F k).length ≤ 1000000) :
    Calls Tryz.prog 18 #[.pointer (some ⟨b, 0, none⟩), .string k] w fun e w' => e = .returned (.tuple #[wV ((F k).getLast?.getD vw0), .bool (F k).getLast?.isSome]) ∧ Below w.heap.size w w' :=
  sheadC_any _ k (F k) w hl ⟨_, rfl⟩ (fun W hb => schain_any (h.below hb) k hk)

set_option maxRecDepth 100000 in
set_option maxHeartbeats 800000 in
theorem schainC_any (p : Value) (k : ByteArray) (xs : List Vw) (w : World) (hl : xs.length ≤ 100000) (hp : ∃ a, p = .pointer a)
    (hc : Calls Tryz.prog 40 #[p, .string k] w fun e w' => w = w' ∧ ∃ v, e = .returned v ∧ WRow w v xs) :
    Calls Tryz.prog 21 #[p, .string k] w fun e w' => ∃ v, e = .returned v ∧ OwnR KW w' w.heap.size v xs ∧ Below w.heap.size w w' := by
  obtain ⟨pa, rfl⟩ := hp
  have hcl := fun v h => cloneW_any v xs w hl h
  go_enter Tryz.func21, Tryz.ntmps21
  go_wp2_with fail
  refine hc.mono ?_
  rintro e w3 ⟨rfl, v, rfl, hrow⟩
  obtain ⟨sa, sc, rfl, _, _, _⟩ := hrow.shape
  have hh := hcl _ hrow.1
  clear hcl hrow
  go_wp2_with fail
  refine hh.mono ?_
  rintro e w4 ⟨v4, rfl, ho4, hb4⟩
  obtain ⟨ta, tc, rfl⟩ := ho4.shape
  go_wp2
  go_ret
  exact ⟨_, rfl, ho4, hb4⟩
theorem sChain_any (h : SdAt w S b R L F) (k : ByteArray) (hk : k.size ≤ maxLen) (hl : (F k).length ≤ 100000) :
    Calls Tryz.prog 21 #[.pointer (some ⟨b, 0, none⟩), .string k] w fun e w' => ∃ v, e = .returned v ∧ OwnR KW w' w.heap.size v (F k) ∧ Below w.heap.size w w' :=
  schainC_any _ k (F k) w hl ⟨_, rfl⟩ (schain_any h k hk)

set_option maxRecDepth 100000 in
set_option maxHeartbeats 800000 in
theorem sranges_any (h : SdAt w S b R L F) (hR : R.length ≤ 100000) :
    Calls Tryz.prog 29 #[.pointer (some ⟨b, 0, none⟩)] w fun e w' => ∃ v, e = .returned v ∧ OwnR KR w' w.heap.size v R ∧ Below w.heap.size w w' := by
  obtain ⟨mo, n, rv, val, h⟩ := h
  have hcl := cloneR_any rv R w hR h.rat
  have h0 := h.c0
  obtain ⟨a, c, e⟩ := h.rr.shape
  rw [e] at h0 hcl
  clear h
  go_enter Tryz.func29, Tryz.ntmps29
  go_wp2_with fail
  refine hcl.mono ?_
  rintro e w4 ⟨v4, rfl, ho4, hb4⟩
  obtain ⟨ta, tc, rfl⟩ := ho4.shape
  go_wp2
  go_ret
  exact ⟨_, rfl, ho4, hb4⟩
end

/-! No shard. -/
set_option maxRecDepth 100000 in
theorem schain_nil (k : ByteArray) (w : World) :
    Calls Tryz.prog 40 #[.pointer none, .string k] w fun e w' => w = w' ∧ ∃ v, e = .returned v ∧ WRow w v [] := by
  go_enter Tryz.func40, Tryz.ntmps40
  go_wp2
  go_ret
  exact ⟨rfl, _, rfl, WRow.nil _⟩
set_option maxRecDepth 100000 in
theorem sranges_nil (w : World) :
    Calls Tryz.prog 29 #[.pointer none] w fun e w' => e = .returned (.slice none 0 0) ∧ w = w' := by
  go_enter Tryz.func29, Tryz.ntmps29
  go_wp2
  go_ret
  exact ⟨rfl, rfl⟩
end Go.Proofs.YtjfmgplhcinkfaaGreat
