/- What wire.Read answers. -/
import Derived.Test.YtllagelopdedfaaGW24
namespace Go.Proofs.Ytllagelopdedfaa
open Go.RowKit
set_option linter.unusedVariables false
set_option linter.unusedSimpArgs false

/-- A reader and the version that it fills; all else is as it was. -/
structure RS (w3 W : World) (R V : Nat) (s : ByteArray) (v : Wv) (u : Value) (m : Int) : Prop where
  rd : RdP W R s m
  vw : VwP W V v u
  mv : Mv (fun k => k = R ∨ k = V) w3 W
section
variable {w3 W wm : World} {R V : Nat} {s : ByteArray} {v : Wv} {u : Value} {a m : Int}
theorem RS.vwm (h : RS w3 W R V s v u a) (hne : V ≠ R) (hm : Mv (· = R) W wm) : VwP wm V v u := h.vw.mv hm hne
theorem RS.mvm (h : RS w3 W R V s v u a) (hm : Mv (· = R) W wm) : Mv (fun k => k = R ∨ k = V) w3 wm := h.mv.trans (hm.mono (fun k e => .inl e))
theorem RS.one0 (h : RS w3 W R V s v u a) (hne : V ≠ R) (hm : Mv (· = R) W wm) (hr : RdP wm R s m) (x : ByteArray) : RS w3 (wm.setCell ⟨V, 0, none⟩ (.string x)) R V s ⟨x, v.val, v.gone, v.st, v.past⟩ u m :=
  ⟨hr.other hne _, (h.vwm hne hm).put0 x, (h.mvm hm).set (.inr rfl) _⟩
theorem RS.one1 (h : RS w3 W R V s v u a) (hne : V ≠ R) (hm : Mv (· = R) W wm) (hr : RdP wm R s m) (x : ByteArray) : RS w3 (wm.setCell ⟨V, 1, none⟩ (.string x)) R V s ⟨v.key, x, v.gone, v.st, v.past⟩ u m :=
  ⟨hr.other hne _, (h.vwm hne hm).put1 x, (h.mvm hm).set (.inr rfl) _⟩
theorem RS.one2 (h : RS w3 W R V s v u a) (hne : V ≠ R) (hm : Mv (· = R) W wm) (hr : RdP wm R s m) (x : Bool) : RS w3 (wm.setCell ⟨V, 2, none⟩ (.bool x)) R V s ⟨v.key, v.val, x, v.st, v.past⟩ u m :=
  ⟨hr.other hne _, (h.vwm hne hm).put2 x, (h.mvm hm).set (.inr rfl) _⟩
theorem RS.one3 (h : RS w3 W R V s v u a) (hne : V ≠ R) (hm : Mv (· = R) W wm) (hr : RdP wm R s m) (x y : Int) : RS w3 ((wm.setCell ⟨V, 3, none⟩ (.int .i64 x)).setCell ⟨V, 3 + 1, none⟩ (.int .i64 y)) R V s ⟨v.key, v.val, v.gone, (x, y), v.past⟩ u m :=
  ⟨(hr.other hne _).other hne _, (h.vwm hne hm).put3 x y, ((h.mvm hm).set (.inr rfl) _).set (.inr rfl) _⟩
theorem RS.one5 (h : RS w3 W R V s v u a) (hne : V ≠ R) (hm : Mv (· = R) W wm) (hr : RdP wm R s m) (x : Value) (p : List De) : RS w3 (wm.setCell ⟨V, 5, none⟩ x) R V s ⟨v.key, v.val, v.gone, v.st, p⟩ x m :=
  ⟨hr.other hne _, (h.vwm hne hm).put5 x p, (h.mvm hm).set (.inr rfl) _⟩
end
def gotW (r : Option Wv) : Wv := match r with | none => wz | some v => v
/-- What stands behind the reading of the parts. -/
def CutW (w3 : World) (R V : Nat) (s : ByteArray) (r : Option (Wv × Nat)) (s6 : Value) (wx : World) : Prop :=
  ∃ ok : Bool, s6 = .bool ok ∧ ok = r.isSome ∧ Mv (fun k => k = R ∨ k = V) w3 wx ∧ ∀ v e, r = some (v, e) → ∃ u, RS w3 wx R V s v u e ∧ OwnD wx w3.heap.size u v.past
theorem cutW_no {w3 wx : World} {R V : Nat} {s : ByteArray} {r : Option (Wv × Nat)} (hr : r = none) (hm : Mv (fun k => k = R ∨ k = V) w3 wx) : CutW w3 R V s r (.bool false) wx :=
  ⟨false, rfl, by rw [hr]; rfl, hm, fun v e h => by rw [hr] at h; cases h⟩

theorem rdF_eq (s : List UInt8) (a : Int) : rdF s a = match rd s a with | none => none | some (g, e) => if 1 < g then none else some (decide (g = 1), e) := by
  unfold rdF rdI
  cases rd s a with
  | none => rfl
  | some x =>
    obtain ⟨g, e⟩ := x
    simp only
    by_cases c : 1 < g
    · rw [if_pos c]
      by_cases c2 : g ≤ 63
      · rw [if_pos c2]
        simp only
        rw [if_neg (by omega)]
      · rw [if_neg c2]
    · rw [if_neg c, if_pos (by omega)]
      simp only
      rw [if_pos (by omega)]
      congr 2
      rw [decide_eq_decide]
      omega
theorem rdW1_eq (s : List UInt8) (mo : Int) : rdW s mo 1 =
    match rdt s 0 mo with
    | none => none
    | some (k, e1) =>
      match rdF s (e1 : Int) with
      | none => none
      | some (b, e2) =>
        match rdt s (e2 : Int) mo with
        | none => none
        | some (x, e3) =>
          match Sm.rdS (rd s) (e3 : Int) with
          | none => none
          | some (t, e4) =>
            match prD s (e4 : Int) with
            | none => none
            | some (p, e5) => some (⟨⟨k.toArray⟩, ⟨x.toArray⟩, b, t, p⟩, e5) := by
  unfold rdW
  cases rdt s 0 mo with
  | none => rfl
  | some y =>
    obtain ⟨k, e1⟩ := y
    simp only [rdF_eq]
    cases rd s (e1 : Int) with
    | none => rfl
    | some z =>
      obtain ⟨g, e2⟩ := z
      simp only
      by_cases c : 1 < g
      · rw [if_pos c, if_pos c]
      · rw [if_neg c, if_neg c]
        rfl
theorem rdW_small {s : List UInt8} {mo : Int} {v : Wv} {e : Nat} (h : rdW s mo 1 = some (v, e)) : v.key.size ≤ s.length ∧ v.val.size ≤ s.length ∧ chkD v.past = true := by
  rw [rdW1_eq] at h
  cases h1 : rdt s 0 mo with
  | none => rw [h1] at h; cases h
  | some x1 =>
    obtain ⟨k, e1⟩ := x1
    rw [h1] at h
    simp only at h
    cases h2 : rdF s (e1 : Int) with
    | none => rw [h2] at h; cases h
    | some x2 =>
      obtain ⟨b, e2⟩ := x2
      rw [h2] at h
      simp only at h
      cases h3 : rdt s (e2 : Int) mo with
      | none => rw [h3] at h; cases h
      | some x3 =>
        obtain ⟨x, e3⟩ := x3
        rw [h3] at h
        simp only at h
        cases h4 : Sm.rdS (rd s) (e3 : Int) with
        | none => rw [h4] at h; cases h
        | some x4 =>
          obtain ⟨t, e4⟩ := x4
          rw [h4] at h
          simp only at h
          cases h5 : prD s (e4 : Int) with
          | none => rw [h5] at h; cases h
          | some x5 =>
            obtain ⟨p, e5⟩ := x5
            rw [h5] at h
            simp only [Option.some.injEq, Prod.mk.injEq] at h
            obtain ⟨rfl, rfl⟩ := h
            exact ⟨(rdt_end h1).2.2, (rdt_end h3).2.2, (prD_only h5).1⟩
/-- The six cells that a store of a version writes. -/
abbrev World.putw (w : World) (b : Nat) (v : Wv) (u : Value) : World := (((((w.setCell ⟨b, 0, none⟩ (.string v.key)).setCell ⟨b, 1, none⟩ (.string v.val)).setCell ⟨b, 2, none⟩ (.bool v.gone)).setCell ⟨b, 3, none⟩ (.int .i64 v.st.1)).setCell ⟨b, 4, none⟩ (.int .i64 v.st.2)).setCell ⟨b, 5, none⟩ u
theorem VwP.putw {w : World} {b : Nat} {y : Wv} {z : Value} (h : VwP w b y z) (v : Wv) (u : Value) : VwP (World.putw w b v u) b v u :=
  (((((h.put0 v.key).put1 v.val).put2 v.gone).put3 v.st.1 v.st.2).put5 u v.past)
theorem putw_block (w : World) (b : Nat) (v : Wv) (u : Value) (k : Nat) (h : k ≠ b) : (World.putw w b v u).heap[k]? = w.heap[k]? := by
  unfold World.putw
  rw [Below.heap_setCell _ _ _ _ h, Below.heap_setCell _ _ _ _ h, Below.heap_setCell _ _ _ _ h, Below.heap_setCell _ _ _ _ h, Below.heap_setCell _ _ _ _ h, Below.heap_setCell _ _ _ _ h]
theorem below_putw {n b : Nat} {w w' : World} (hb : Below n w w') (h : n ≤ b) (v : Wv) (u : Value) : Below n w (World.putw w' b v u) := (((((hb.setCell h _).setCell h _).setCell h _).setCell h _).setCell h _).setCell h _
theorem DepAt.blocks {w w' : World} {u : Value} {l : List De} (h : DepAt w u l) (hs : w.heap.size ≤ w'.heap.size) (hb : ∀ b, u.ownBlock = some b → w'.heap[b]? = w.heap[b]?) : DepAt w' u l := by
  obtain ⟨a, cap, rfl, h1, h2, h3, hr⟩ := h
  refine ⟨a, cap, rfl, h1, h2, h3, fun i hi => ?_⟩
  obtain ⟨b, off, rfl, hl, c0, c1, c2⟩ := hr i hi
  have hbb := hb b rfl
  exact ⟨b, off, rfl, by omega, by rw [World.cell?_of_block hbb]; exact c0, by rw [World.cell?_of_block hbb]; exact c1, by rw [World.cell?_of_block hbb]; exact c2⟩
/-- The version's way out: it is stored into the result, its past lies elsewhere. -/
theorem wread_end {w wx : World} {v : Wv} {u : Value} {n : Nat} (hb : Below w.heap.size w wx) (hlow : w.heap.size < n) (ho : OwnD wx n u v.past) : DepAt (World.putw wx w.heap.size v u) u v.past ∧ Below w.heap.size w (World.putw wx w.heap.size v u) :=
  ⟨(DepAt.of_own ho).blocks (by simp) (fun b e => putw_block _ _ _ _ _ (by have := (ho.lt b e).1; omega)), below_putw hb (Nat.le_refl _) _ _⟩
theorem wread_no {w wx : World} (hb : Below w.heap.size w wx) : DepAt (World.putw wx w.heap.size wz (.slice none 0 0)) (.slice none 0 0) wz.past ∧ Below w.heap.size w (World.putw wx w.heap.size wz (.slice none 0 0)) :=
  ⟨DepAt.nil _, below_putw hb (Nat.le_refl _) _ _⟩

set_option maxRecDepth 100000 in
set_option maxHeartbeats 400000 in
theorem wread_any (s : ByteArray) (w : World) (hs : s.size ≤ 1099511627776) :
    Calls Try.prog 48 #[.string s] w fun e w' => ∃ u, e = .returned (.tuple #[.agg (wvs (gotW (readW s.data.toList)) u), .bool (readW s.data.toList).isSome]) ∧ DepAt w' u (gotW (readW s.data.toList)).past ∧ Below w.heap.size w w' := by
  have hmf : ∀ (fn : Fn) (first cap : Array Value) (w : World), (Instr.makeFunc fn first cap).run Try.prog w = .ok (.func fn first cap) w := fun _ _ _ _ => rfl
  have hs63 : s.size ≤ 9223372036854775807 := by omega
  have hb1 : Below w.heap.size w (w.alloc (.cells (wvs wz (.slice none 0 0)) 70)) := balloc (Below.refl _ w) _
  have hv1 := VwP.new w wz (.slice none 0 0) 70
  have hz1 : (w.alloc (.cells (wvs wz (.slice none 0 0)) 70)).heap.size = w.heap.size + 1 := by simp
  dsimp only [wz, wvs] at hb1 hv1 hz1
  go_enter Try.func48, Try.ntmps48
  go_upto_region 3 with fail
  generalize w.alloc (.cells #[.string ⟨#[]⟩, .string ⟨#[]⟩, .bool false, .int .i64 0, .int .i64 0, .slice none 0 0] 70) = w1 at *
  have hR1 := RdP.new w1 s 88
  have hbA := balloc (Below.refl _ w1) (.cells #[.string s, .int .i64 0] 88)
  have hzA : (w1.alloc (.cells #[.string s, .int .i64 0] 88)).heap.size = w1.heap.size + 1 := by simp
  have hv2 := hv1.keep hbA
  generalize w1.alloc (.cells #[.string s, .int .i64 0] 88) = w2 at *
  have hV1 := VwP.new w2 wz (.slice none 0 0) 70
  have hbB := balloc (Below.refl _ w2) (.cells (wvs wz (.slice none 0 0)) 70)
  have hR2 := hR1.keep hbB
  have hv3 := hv2.keep hbB
  have hzB : (w2.alloc (.cells (wvs wz (.slice none 0 0)) 70)).heap.size = w2.heap.size + 1 := by simp
  dsimp only [wz, wvs] at hV1 hbB hR2 hv3 hzB
  generalize w2.alloc (.cells #[.string ⟨#[]⟩, .string ⟨#[]⟩, .bool false, .int .i64 0, .int .i64 0, .slice none 0 0] 70) = w3 at *
  have hbw3 : Below w.heap.size w w3 := bstep (bstep hb1 hbA) hbB
  rw [hzA] at hV1 hzB
  have hlowR : w.heap.size < w1.heap.size := by omega
  have hne : w1.heap.size + 1 ≠ w1.heap.size := by omega
  have hlowV : w.heap.size < w1.heap.size + 1 := by omega
  have hV3 : w1.heap.size + 1 < w3.heap.size := by omega
  clear hR1 hbA hzA hv2 hbB hzB hv1 hb1
  generalize w1.heap.size = q at *
  subst hz1
  generalize w.heap.size + 1 + 1 = V at *
  generalize w.heap.size + 1 = R at *
  have hS0 : RS w3 w3 R V s wz (.slice none 0 0) 0 := ⟨hR2, hV1, Mv.refl _ _⟩
  have hrest : ∀ wx, Mv (fun k => k = R ∨ k = V) w3 wx → VwP wx w.heap.size wz (.slice none 0 0) ∧ Below w.heap.size w wx := fun wx hm =>
    ⟨hv3.mv hm (by omega), hbw3.trans (hm.below (fun k hk => by omega) hbw3.size)⟩
  have HREST := Lib.hid hrest
  have HV3 := Lib.hid hV3
  have HLR := Lib.hid hlowR
  have HLV := Lib.hid hlowV
  clear hR2 hV1 hv3 hbw3 hrest hV3 hlowR hlowV w1 w2
  go_cut [6] (fun s6 wx => CutW w3 R V s (rdW s.data.toList s.size 1) s6 wx)
  case first =>
    have hc1 := one_text R V 0 s 0 _ w3 hs63 hS0.rd hne hS0.vw.c0 (hS0.vw.f 0 (by decide))
    cases r1 : rdt s.data.toList 0 (s.size : Int) with
    | none =>
      have hW : rdW s.data.toList s.size 1 = none := by rw [rdW1_eq];  rw [r1]
      rw [r1] at hc1
      dsimp only [Option.isSome] at hc1
      have HSp := Lib.hid hS0
      have HW := Lib.hid hW
      clear r1 hW hS0
      go_wp2_with fail
      refine hc1.mono ?_
      rintro e w' ⟨wm, x1, m, rfl, rfl, hr, hx, hm⟩
      have hSn := HSp.out.one0 hne hm hr x1
      have hmv := Lib.hid hSn.mv
      generalize (wm.setCell ⟨V, 0, none⟩ (.string x1)) = wx at *
      clear hSn hr hx hm hc1
      go_wp2
      go_meet
      exact cutW_no HW.out hmv.out
    | some y1 =>
      obtain ⟨k1, e1⟩ := y1
      rw [r1] at hc1
      dsimp only [Option.isSome] at hc1
      have R1 := Lib.hid r1
      have HSp := Lib.hid hS0
      clear r1 hS0
      go_wp2_with fail
      refine hc1.mono ?_
      rintro e w' ⟨wm, x1, m1, rfl, rfl, hr, hx, hm⟩
      obtain ⟨hxe, hme⟩ := hx _ _ rfl
      subst hme
      have X1 := Lib.hid hxe
      clear hxe
      have hS1 := HSp.out.one0 hne hm hr x1
      have hszw1 := Lib.hid hS1.mv.size
      clear hr hx hm hc1 HSp
      revert hS1 hszw1
      generalize wm.setCell _ _ = w4
      intro hS1 hszw1
      have hc2 := one_flag R V 2 s (m1 : Int) _ w4 hs63 hS1.rd hne hS1.vw.c2 (hS1.vw.f 2 (by decide))
      cases r2 : rdF s.data.toList (m1 : Int) with
      | none =>
        have hW : rdW s.data.toList s.size 1 = none := by rw [rdW1_eq]; rw [R1.out]; simp only; rw [r2]
        rw [r2] at hc2
        dsimp only [Option.isSome] at hc2
        have HSp := Lib.hid hS1
        have HW := Lib.hid hW
        clear r2 hW hS1
        go_wp2_with fail
        refine hc2.mono ?_
        rintro e w' ⟨wm, x2, m, rfl, rfl, hr, hx, hm⟩
        have hSn := HSp.out.one2 hne hm hr x2
        have hmv := Lib.hid hSn.mv
        generalize (wm.setCell ⟨V, 2, none⟩ (.bool x2)) = wx at *
        clear hSn hr hx hm hc2
        go_wp2
        go_meet
        exact cutW_no HW.out hmv.out
      | some y2 =>
        obtain ⟨k2, e2⟩ := y2
        rw [r2] at hc2
        dsimp only [Option.isSome] at hc2
        have R2 := Lib.hid r2
        have HSp := Lib.hid hS1
        clear r2 hS1
        go_wp2_with fail
        refine hc2.mono ?_
        rintro e w' ⟨wm, x2, m2, rfl, rfl, hr, hx, hm⟩
        obtain ⟨hxe, hme⟩ := hx _ _ rfl
        subst hme
        have X2 := Lib.hid hxe
        clear hxe
        have hS2 := HSp.out.one2 hne hm hr x2
        have hszw2 := Lib.hid hS2.mv.size
        clear hr hx hm hc2 HSp
        revert hS2 hszw2
        generalize wm.setCell _ _ = w5
        intro hS2 hszw2
        have hc3 := one_text R V 1 s (m2 : Int) _ w5 hs63 hS2.rd hne hS2.vw.c1 (hS2.vw.f 1 (by decide))
        cases r3 : rdt s.data.toList (m2 : Int) (s.size : Int) with
        | none =>
          have hW : rdW s.data.toList s.size 1 = none := by rw [rdW1_eq]; rw [R1.out]; simp only; rw [R2.out]; simp only; rw [r3]
          rw [r3] at hc3
          dsimp only [Option.isSome] at hc3
          have HSp := Lib.hid hS2
          have HW := Lib.hid hW
          clear r3 hW hS2
          go_wp2_with fail
          refine hc3.mono ?_
          rintro e w' ⟨wm, x3, m, rfl, rfl, hr, hx, hm⟩
          have hSn := HSp.out.one1 hne hm hr x3
          have hmv := Lib.hid hSn.mv
          generalize (wm.setCell ⟨V, 1, none⟩ (.string x3)) = wx at *
          clear hSn hr hx hm hc3
          go_wp2
          go_meet
          exact cutW_no HW.out hmv.out
        | some y3 =>
          obtain ⟨k3, e3⟩ := y3
          rw [r3] at hc3
          dsimp only [Option.isSome] at hc3
          have R3 := Lib.hid r3
          have HSp := Lib.hid hS2
          clear r3 hS2
          go_wp2_with fail
          refine hc3.mono ?_
          rintro e w' ⟨wm, x3, m3, rfl, rfl, hr, hx, hm⟩
          obtain ⟨hxe, hme⟩ := hx _ _ rfl
          subst hme
          have X3 := Lib.hid hxe
          clear hxe
          have hS3 := HSp.out.one1 hne hm hr x3
          have hszw3 := Lib.hid hS3.mv.size
          clear hr hx hm hc3 HSp
          revert hS3 hszw3
          generalize wm.setCell _ _ = w6
          intro hS3 hszw3
          have hc4 := one_stamp R V 3 s (m3 : Int) _ _ w6 hs63 hS3.rd hne hS3.vw.c3 (hS3.vw.f 3 (by decide)) hS3.vw.c4 (hS3.vw.f 4 (by decide))
          cases r4 : Sm.rdS (rd s.data.toList) (m3 : Int) with
          | none =>
            have hW : rdW s.data.toList s.size 1 = none := by rw [rdW1_eq]; rw [R1.out]; simp only; rw [R2.out]; simp only; rw [R3.out]; simp only; rw [r4]
            rw [r4] at hc4
            dsimp only [Option.isSome] at hc4
            have HSp := Lib.hid hS3
            have HW := Lib.hid hW
            clear r4 hW hS3
            go_wp2_with fail
            refine hc4.mono ?_
            rintro e w' ⟨wm, x4, y4, m, rfl, rfl, hr, hx, hm⟩
            have hSn := HSp.out.one3 hne hm hr x4 y4
            have hmv := Lib.hid hSn.mv
            generalize ((wm.setCell ⟨V, 3, none⟩ (.int .i64 x4)).setCell ⟨V, 3 + 1, none⟩ (.int .i64 y4)) = wx at *
            clear hSn hr hx hm hc4
            go_wp2
            go_meet
            exact cutW_no HW.out hmv.out
          | some y4 =>
            obtain ⟨k4, e4⟩ := y4
            rw [r4] at hc4
            dsimp only [Option.isSome] at hc4
            have R4 := Lib.hid r4
            have HSp := Lib.hid hS3
            clear r4 hS3
            go_wp2_with fail
            refine hc4.mono ?_
            rintro e w' ⟨wm, x4, y4, m4, rfl, rfl, hr, hx, hm⟩
            obtain ⟨hxe, hme⟩ := hx _ _ rfl
            subst hme
            have X4 := Lib.hid hxe
            clear hxe
            have hS4 := HSp.out.one3 hne hm hr x4 y4
            have hszw4 := Lib.hid hS4.mv.size
            clear hr hx hm hc4 HSp
            revert hS4 hszw4
            generalize (wm.setCell _ _).setCell _ _ = w7
            intro hS4 hszw4
            have hc5 := one_past R V 5 s (m4 : Int) _ w7 hs63 hS4.rd hne hS4.vw.c5 (hS4.vw.f 5 (by decide))
            cases r5 : prD s.data.toList (m4 : Int) with
            | none =>
              have hW : rdW s.data.toList s.size 1 = none := by rw [rdW1_eq]; rw [R1.out]; simp only; rw [R2.out]; simp only; rw [R3.out]; simp only; rw [R4.out]; simp only; rw [r5]
              rw [r5] at hc5
              dsimp only [Option.isSome] at hc5
              have HSp := Lib.hid hS4
              have HW := Lib.hid hW
              clear r5 hW hS4
              go_wp2_with fail
              refine hc5.mono ?_
              rintro e w' ⟨wm, u, m, rfl, rfl, hr, ho, hx, hm⟩
              obtain ⟨sa, sc, rfl⟩ := ho.shape
              have hSn := HSp.out.one5 hne hm hr (.slice sa (prL none).length sc) []
              have hmv := Lib.hid hSn.mv
              clear hSn hr hx hm hc5
              go_wp2
              go_meet
              exact cutW_no HW.out hmv.out
            | some y5 =>
              obtain ⟨k5, e5⟩ := y5
              rw [r5] at hc5
              dsimp only [Option.isSome] at hc5
              have R5 := Lib.hid r5
              have HSp := Lib.hid hS4
              clear r5 hS4
              go_wp2_with fail
              refine hc5.mono ?_
              rintro e w' ⟨wm, u, m5, rfl, rfl, hr, ho, hx, hm⟩
              have hme := hx _ _ rfl
              subst hme
              change OwnD wm w7.heap.size u k5 at ho
              obtain ⟨sa, sc, rfl⟩ := ho.shape
              have hS5 := HSp.out.one5 hne hm hr (.slice sa k5.length sc) k5
              have HO : Hid (OwnD (wm.setCell ⟨V, 5, none⟩ (.slice sa k5.length sc)) w3.heap.size (.slice sa k5.length sc) k5) := Lib.hid (ownsRow_setCell_other (OwnD.mono ho hszw4.out) (fun e => by have h1 := (ho.lt V e).1; have h2 := hszw4.out; have h3 := HV3.out; omega) _)
              have HS5 := Lib.hid hS5
              have HR : Hid (rdW s.data.toList s.size 1 = some (⟨x1, x3, x2, (x4, y4), k5⟩, m5)) := Lib.hid (by rw [X1.out, X2.out, X3.out, X4.out, rdW1_eq]; rw [R1.out]; simp only; rw [R2.out]; simp only; rw [R3.out]; simp only; rw [R4.out]; simp only; rw [R5.out])
              clear hr hx hm hc5 HSp ho hS5
              go_wp2
              go_meet
              refine ⟨true, rfl, by rw [HR.out]; rfl, HS5.out.mv, fun v e h => ?_⟩
              rw [HR.out] at h
              cases h
              exact ⟨_, HS5.out, HO.out⟩
  case rest =>
    obtain ⟨ok, rfl, hok, hmv, hv⟩ := hcut
    obtain ⟨hb2, hbw⟩ := HREST.out wc hmv
    have HBW := Lib.hid hbw
    have HB2 := Lib.hid hb2
    clear hS0 HREST hbw hmv
    generalize hrr : rdW s.data.toList s.size 1 = r at *
    have hrr' : readW s.data.toList = finW s.data.toList r := by rw [← hrr]; rfl
    cases r with
    | none =>
      obtain rfl := hok
      have hgz : readW s.data.toList = none := hrr'
      have HGZ := Lib.hid hgz
      obtain ⟨b0, b1, b2, b3, b4, b5, hf⟩ := hb2
      have q0 := hf 0 (by decide)
      have q1 := hf 1 (by decide)
      have q2 := hf 2 (by decide)
      have q3 := hf 3 (by decide)
      have q4 := hf 4 (by decide)
      have q5 := hf 5 (by decide)
      dsimp only [wz] at b0 b1 b2 b3 b4
      clear hf hv hrr hrr' hgz
      dsimp only [Option.isSome]
      go_wp2
      have hp := HB2.out.putw wz (.slice none 0 0)
      obtain ⟨r0, r1, r2, r3, r4, r5, _⟩ := hp
      dsimp only [wz, World.putw] at r0 r1 r2 r3 r4 r5
      obtain ⟨x1, x2⟩ := wread_no HBW.out
      refine bodyPost_ret (v := .tuple #[.agg (wvs wz (.slice none 0 0)), .bool false]) (by simp [results, Try.results48, go_sem, wvs, wz, r0, r1, r2, r3, r4, r5]) rfl (by rw [HGZ.out]; exact ⟨_, rfl, x1, x2⟩)
    | some x =>
      obtain ⟨v, e⟩ := x
      obtain ⟨u, hS, hO⟩ := hv v e rfl
      obtain ⟨kz, vz, hck⟩ := rdW_small hrr
      have hWv : readW s.data.toList = if e = s.data.toList.length ∧ okW v = true then some v else none := hrr'
      subst hok
      dsimp only [Option.isSome]
      have hdone := done_any R s e wc hS.rd
      obtain ⟨sa, sc, rfl⟩ := hO.shape
      have hsz : s.data.toList.length = s.size := rfl
      have hok5 : WvOk wc v (.slice sa v.past.length sc) := ⟨by omega, by omega, by have := (chkD_parts hck).1; omega, fun d hd => by have := srt_sizes (chkD_parts hck).2 d hd; omega, DepAt.of_own hO⟩
      have HOK := Lib.hid hok5
      have HS := Lib.hid hS
      have HO := Lib.hid hO
      have HWV := Lib.hid hWv
      clear hS hO hv hrr hrr' hck kz vz hok5 hWv hb2 hs
      by_cases he : (e : Int) = s.size
      · rw [decide_eq_true he] at hdone
        have HE : Hid (e = s.data.toList.length) := Lib.hid (by omega)
        clear he hsz
        go_wp2_with fail
        refine hdone.mono ?_
        rintro e' w4 ⟨rfl, hbd⟩
        have HOK4 := Lib.hid (HOK.out.below hbd)
        have HV4 := Lib.hid (HS.out.vw.keep hbd)
        have HB4 := Lib.hid (HB2.out.keep hbd)
        have HO4 := Lib.hid (OwnD.below HO.out hbd)
        have HBW4 := Lib.hid (bstep HBW.out hbd)
        obtain ⟨c0, c1, c2, c3, c4, c5, _⟩ := HV4.out
        clear hbd hdone HOK HS HO HBW HB2
        go_wp2_with fail
        refine (wcheck_any v (.slice sa v.past.length sc) _ HOK4.out).mono ?_
        rintro e' w5 ⟨rfl, hbc⟩
        have HV5 := Lib.hid (HV4.out.keep hbc)
        have HB5 := Lib.hid (HB4.out.keep hbc)
        have HO5 := Lib.hid (OwnD.below HO4.out hbc)
        have HBW5 := Lib.hid (bstep HBW4.out hbc)
        clear c0 c1 c2 c3 c4 c5 HV4 HB4 HO4 HBW4 hbc
        obtain ⟨b0, b1, b2, b3, b4, b5, hf⟩ := HB5.out
        have q0 := hf 0 (by decide)
        have q1 := hf 1 (by decide)
        have q2 := hf 2 (by decide)
        have q3 := hf 3 (by decide)
        have q4 := hf 4 (by decide)
        have q5 := hf 5 (by decide)
        dsimp only [wz] at b0 b1 b2 b3 b4
        cases hkk : okW v with
        | false =>
          have hgz : readW s.data.toList = none := by rw [HWV.out, hkk]; simp
          have HGZ := Lib.hid hgz
          clear hf hkk hgz
          go_wp2
          have hp := HB5.out.putw wz (.slice none 0 0)
          obtain ⟨r0, r1, r2, r3, r4, r5, _⟩ := hp
          dsimp only [wz, World.putw] at r0 r1 r2 r3 r4 r5
          obtain ⟨x1, x2⟩ := wread_no HBW5.out
          refine bodyPost_ret (v := .tuple #[.agg (wvs wz (.slice none 0 0)), .bool false]) (by simp [results, Try.results48, go_sem, wvs, wz, r0, r1, r2, r3, r4, r5]) rfl (by rw [HGZ.out]; exact ⟨_, rfl, x1, x2⟩)
        | true =>
          have hgz : readW s.data.toList = some v := by rw [HWV.out, hkk, if_pos ⟨HE.out, rfl⟩]
          have HGZ := Lib.hid hgz
          obtain ⟨c0, c1, c2, c3, c4, c5, _⟩ := HV5.out
          have hneV : V ≠ w.heap.size := by have := HLV.out; omega
          clear hf hkk hgz
          go_wp2
          have hp := HB5.out.putw v (.slice sa v.past.length sc)
          obtain ⟨r0, r1, r2, r3, r4, r5, _⟩ := hp
          dsimp only [World.putw] at r0 r1 r2 r3 r4 r5
          obtain ⟨x1, x2⟩ := wread_end (v := v) (u := .slice sa v.past.length sc) HBW5.out (by have := HLV.out; have := HV3.out; omega) HO5.out
          refine bodyPost_ret (v := .tuple #[.agg (wvs v (.slice sa v.past.length sc)), .bool true]) (by simp [results, Try.results48, go_sem, wvs, r0, r1, r2, r3, r4, r5]) rfl (by rw [HGZ.out]; exact ⟨_, rfl, x1, x2⟩)
      · rw [decide_eq_false he] at hdone
        have hgz : readW s.data.toList = none := by rw [HWV.out, if_neg (fun h => he (by have := h.1; omega))]
        have HGZ := Lib.hid hgz
        clear he hsz hgz
        go_wp2_with fail
        refine hdone.mono ?_
        rintro e' w4 ⟨rfl, hbd⟩
        have HB4 := Lib.hid (HB2.out.keep hbd)
        have HBW4 := Lib.hid (bstep HBW.out hbd)
        obtain ⟨b0, b1, b2, b3, b4, b5, hf⟩ := HB4.out
        have q0 := hf 0 (by decide)
        have q1 := hf 1 (by decide)
        have q2 := hf 2 (by decide)
        have q3 := hf 3 (by decide)
        have q4 := hf 4 (by decide)
        have q5 := hf 5 (by decide)
        dsimp only [wz] at b0 b1 b2 b3 b4
        clear hf hbd hdone HOK HS HO HBW HB2
        go_wp2
        have hp := HB4.out.putw wz (.slice none 0 0)
        obtain ⟨r0, r1, r2, r3, r4, r5, _⟩ := hp
        dsimp only [wz, World.putw] at r0 r1 r2 r3 r4 r5
        obtain ⟨x1, x2⟩ := wread_no HBW4.out
        refine bodyPost_ret (v := .tuple #[.agg (wvs wz (.slice none 0 0)), .bool false]) (by simp [results, Try.results48, go_sem, wvs, wz, r0, r1, r2, r3, r4, r5]) rfl (by rw [HGZ.out]; exact ⟨_, rfl, x1, x2⟩)
end Go.Proofs.Ytllagelopdedfaa
