/- Texts of this proof, one behind the other: ChKeepC, ChKeep. -/
import Derived.Test.YtfkeeehfpbnibaaGC19
import Derived.Deep.DeepCutAuto
/- Who is kept: what the closure of chain.keeper answers. -/
namespace Go.Proofs.Ytfkeeehfpbnibaa
open Go.RowKit Go.Shelf Go.Maps
set_option linter.unusedVariables false
set_option linter.unusedSimpArgs false

/-- What the closure has caught: the head, what is below, the pins as a map, the stable stamp. -/
structure KpIn (w : World) (B8 B7 B10 B9 B11 B4 M n : Nat) (g : Int × Int → Option Value) (hd bl : Vw) (hs fs : Bool) (s : Int × Int) : Prop where
  c8 : w.cell? ⟨B8, 0, none⟩ = some (.bool hs)
  v7 : VwP w B7 hd.1 (pw hd)
  c10 : w.cell? ⟨B10, 0, none⟩ = some (.bool fs)
  v9 : VwP w B9 bl.1 (pw bl)
  c11 : w.cell? ⟨B11, 0, none⟩ = some (.map (some M))
  s0 : w.cell? ⟨B4, 0, none⟩ = some (.int .i64 s.1)
  s1 : w.cell? ⟨B4, 1, none⟩ = some (.int .i64 s.2)
  mp : MapT w M n g
  h1 : WvB w hd.1 (pw hd)
  h2 : WvB w bl.1 (pw bl)
theorem KpIn.below {w w' : World} {B8 B7 B10 B9 B11 B4 M n : Nat} {g : Int × Int → Option Value} {hd bl : Vw} {hs fs : Bool} {s : Int × Int} (h : KpIn w B8 B7 B10 B9 B11 B4 M n g hd bl hs fs s) (hb : Below w.heap.size w w') : KpIn w' B8 B7 B10 B9 B11 B4 M n g hd bl hs fs s :=
  ⟨kc hb h.c8, h.v7.keep hb, kc hb h.c10, h.v9.keep hb, kc hb h.c11, kc hb h.s0, kc hb h.s1, h.mp.below hb, h.h1.below hb, h.h2.below hb⟩
/-- What the map of pins tells. -/
def PinG (g : Int × Int → Option Value) (pins : List (Int × Int)) : Prop := ∀ d, In64 d → (d ∈ pins → ∃ c : Int, 0 < c ∧ g d = some (.int .i64 c)) ∧ (d ∉ pins → g d = none)
theorem PinG.at {g : Int × Int → Option Value} {pins : List (Int × Int)} (h : PinG g pins) {d : Int × Int} (hd : In64 d) : ∃ c : Int, (g d).getD (.int .i64 0) = .int .i64 c ∧ decide (0 < c) = decide (d ∈ pins) := by
  by_cases hm : d ∈ pins
  · obtain ⟨c, h1, h2⟩ := (h d hd).1 hm
    exact ⟨c, by rw [h2]; rfl, by simp [h1, hm]⟩
  · exact ⟨0, by rw [(h d hd).2 hm]; rfl, by simp [hm]⟩
/-- The closure and what it has caught. -/
def KpAt (w : World) (lb : Array Value) (xs : List Vw) (s : Int × Int) (pins : List (Int × Int)) : Prop :=
  ∃ B8 B7 B10 B9 B11 B4 M n g, lb = #[.pointer (some ⟨B8, 0, none⟩), .pointer (some ⟨B7, 0, none⟩), .pointer (some ⟨B10, 0, none⟩), .pointer (some ⟨B9, 0, none⟩), .pointer (some ⟨B11, 0, none⟩), .pointer (some ⟨B4, 0, none⟩)] ∧
    KpIn w B8 B7 B10 B9 B11 B4 M n g (xs.getLast?.getD vw0) ((lastP (notA s) xs).getD vw0) xs.getLast?.isSome (lastP (notA s) xs).isSome s ∧ PinG g pins
theorem KpAt.below {w w' : World} {lb : Array Value} {xs : List Vw} {s : Int × Int} {pins : List (Int × Int)} (h : KpAt w lb xs s pins) (hb : Below w.heap.size w w') : KpAt w' lb xs s pins := by
  obtain ⟨B8, B7, B10, B9, B11, B4, M, n, g, h1, h2, h3⟩ := h
  exact ⟨B8, B7, B10, B9, B11, B4, M, n, g, h1, h2.below hb, h3⟩
theorem isW_opt (o : Option Vw) (x : Vw) : isW o x = (o.isSome && sameW x.1 (o.getD vw0).1) := by
  cases o <;> rfl

set_option maxRecDepth 100000 in
set_option maxHeartbeats 3200000 in
theorem keepC_any (x : Vw) (B8 B7 B10 B9 B11 B4 M n : Nat) (g : Int × Int → Option Value) (hd bl : Vw) (hs fs : Bool) (s : Int × Int) (pins : List (Int × Int)) (w : World) (hx : VwB w x) (hk : KpIn w B8 B7 B10 B9 B11 B4 M n g hd bl hs fs s) (hg : PinG g pins) :
    Calls Try.prog 44 #[wV x, .pointer (some ⟨B8, 0, none⟩), .pointer (some ⟨B7, 0, none⟩), .pointer (some ⟨B10, 0, none⟩), .pointer (some ⟨B9, 0, none⟩), .pointer (some ⟨B11, 0, none⟩), .pointer (some ⟨B4, 0, none⟩)] w fun e w' =>
      e = .returned (.bool ((hs && sameW x.1 hd.1) || decide (x.1.st ∈ pins) || !Sm.less x.1.st s || (fs && sameW x.1 bl.1))) ∧ Below w.heap.size w w' := by
  have hb1 : Below w.heap.size w (w.alloc (.cells (wcs x) 28)) := balloc (Below.refl _ w) _
  have hV := VwP.new w x.1 (pw x) 28
  have HK := Lib.hid (hk.below hb1)
  have HX := Lib.hid (hx.below hb1)
  obtain ⟨c, hc1, hc2⟩ := hg.at hx.2
  have HC := Lib.hid hc1
  have hsame1 := fun W (h1 : WvB W x.1 (pw x)) (h2 : WvB W hd.1 (pw hd)) => wsameB_any x.1 hd.1 (pw x) (pw hd) W h1 h2
  have hsame2 := fun W (h1 : WvB W x.1 (pw x)) (h2 : WvB W bl.1 (pw bl)) => wsameB_any x.1 bl.1 (pw x) (pw bl) W h1 h2
  have hless := fun W => less_any x.1.st.1 x.1.st.2 s.1 s.2 W
  have hi64 := hx.2
  have hzero : ∀ u : World, (zeroValue 3).run Try.prog u = .ok (.int .i64 0) u := fun u => Try.zeroValue3 u
  rw [← hc2]
  have hlook : ∀ W, MapT W M n g → (Instr.lookup 63 (.map (some M)) (.agg #[.int .i64 x.1.st.1, .int .i64 x.1.st.2]) false).run Try.prog W = .ok (.int .i64 c) W := fun W h => by
    rw [h.look Try.underlying63 (hzero W) hi64, HC.out]
  generalize sameW x.1 hd.1 = r1 at hsame1 ⊢
  generalize sameW x.1 bl.1 = r2 at hsame2 ⊢
  obtain ⟨la, hla⟩ : ∃ la : Bool, la = (hs && r1) := ⟨_, rfl⟩
  rw [← hla]
  have HLA := Lib.hid hla
  clear hla
  obtain ⟨ba, hba⟩ : ∃ ba : Bool, ba = (fs && r2) := ⟨_, rfl⟩
  rw [← hba]
  have HBA := Lib.hid hba
  clear hba
  obtain ⟨s0, s1⟩ := s
  have hst : x.1.st = (x.1.st.1, x.1.st.2) := rfl
  generalize hlq : Sm.less x.1.st (s0, s1) = lq
  rw [hst] at hlq
  dsimp only at hless hlq
  rw [hlq] at hless
  clear hx hk hg hc1 hc2 hi64 hst hlq hzero HC
  obtain ⟨⟨key, val, gone, ⟨m, t⟩, past⟩, pa, pc⟩ := x
  obtain ⟨⟨key1, val1, gone1, ⟨m1, t1⟩, past1⟩, pa1, pc1⟩ := hd
  obtain ⟨⟨key2, val2, gone2, ⟨m2, t2⟩, past2⟩, pa2, pc2⟩ := bl
  dsimp only [wV, wcs, wvs, pw] at *
  have HV := Lib.hid hV
  have HB1 := Lib.hid hb1
  clear hV hb1
  go_enter Try.func44, Try.ntmps44
  go_upto_region 1 with fail
  obtain ⟨w1, hw1⟩ : ∃ w1, w.alloc (.cells #[.string key, .string val, .bool gone, .int .i64 m, .int .i64 t, .slice pa past.length pc] 28) = w1 := ⟨_, rfl⟩
  try rw [hw1]
  rw [hw1] at HV HB1 HK HX
  clear hw1
  go_cut [9] (fun s9 wx => s9 = .bool la ∧ Below w1.heap.size w1 wx)
  case first =>
    have c8 := HK.out.c8
    obtain ⟨x0, x1, x2, x3, x4, x5, _⟩ := id HV.out
    obtain ⟨y0, y1, y2, y3, y4, y5, _⟩ := id HK.out.v7
    dsimp only [pw] at x0 x1 x2 x3 x4 x5 y0 y1 y2 y3 y4 y5
    cases hs with
    | false =>
      have hl : la = false := HLA.out
      subst hl
      go_wp2
      go_meet
      exact ⟨rfl, Below.refl _ _⟩
    | true =>
      go_wp2_with fail
      refine (hsame1 _ HX.out.1 HK.out.h1).mono ?_
      rintro e w2 ⟨rfl, hb2⟩
      have hl : la = r1 := HLA.out
      subst hl
      go_wp2
      go_meet
      exact ⟨rfl, hb2⟩
  case rest =>
    obtain ⟨rfl, hb2⟩ := hcut
    obtain ⟨w2, hw2⟩ : ∃ w2, w2 = wc := ⟨_, rfl⟩
    subst hw2
    have HK2 := Lib.hid (HK.out.below hb2)
    have HX2 := Lib.hid (HX.out.below hb2)
    have HV2 := Lib.hid (HV.out.keep hb2)
    have HB2 := Lib.hid (bstep HB1.out hb2)
    clear hb2 HK HX HV HB1 hsame1
    go_upto_region 2 with fail
    go_cut [10] (fun s10 wx => s10 = .bool ba ∧ Below w2.heap.size w2 wx)
    case first =>
      have c10 := HK2.out.c10
      obtain ⟨x0, x1, x2, x3, x4, x5, _⟩ := id HV2.out
      obtain ⟨y0, y1, y2, y3, y4, y5, _⟩ := id HK2.out.v9
      dsimp only [pw] at x0 x1 x2 x3 x4 x5 y0 y1 y2 y3 y4 y5
      cases fs with
      | false =>
        have hl : ba = false := HBA.out
        subst hl
        go_wp2
        go_meet
        exact ⟨rfl, Below.refl _ _⟩
      | true =>
        go_wp2_with fail
        refine (hsame2 _ HX2.out.1 HK2.out.h2).mono ?_
        rintro e w3 ⟨rfl, hb3⟩
        have hl : ba = r2 := HBA.out
        subst hl
        go_wp2
        go_meet
        exact ⟨rfl, hb3⟩
    case rest =>
      obtain ⟨rfl, hb3⟩ := hcut
      obtain ⟨w3, hw3⟩ : ∃ w3, w3 = wc := ⟨_, rfl⟩
      subst hw3
      have HK3 := Lib.hid (HK2.out.below hb3)
      have HV3 := Lib.hid (HV2.out.keep hb3)
      have HB3 := Lib.hid (bstep HB2.out hb3)
      clear hb3 HK2 HX2 HV2 HB2 hsame2 HLA HBA
      have c11 := HK3.out.c11
      have s0' := HK3.out.s0
      have s1' := HK3.out.s1
      have x3 := HV3.out.c3
      have x4 := HV3.out.c4
      dsimp only at s0' s1' x3 x4
      have hlk := hlook w3 HK3.out.mp
      cases la with
      | true =>
        go_wp2
        go_ret
        exact ⟨ret_bool (by simp), HB3.out⟩
      | false =>
        by_cases hc0 : 0 < c
        · go_wp2
          go_ret
          exact ⟨ret_bool (by simp [hc0]), HB3.out⟩
        · go_wp2_with fail
          refine (hless _).mono ?_
          rintro e w4 ⟨rfl, hb4⟩
          cases lq with
          | false =>
            go_wp2
            go_ret
            exact ⟨ret_bool (by simp [hc0]), bstep HB3.out hb4⟩
          | true =>
            go_wp2
            go_ret
            exact ⟨ret_bool (by simp; intro h; omega), bstep HB3.out hb4⟩
end Go.Proofs.Ytfkeeehfpbnibaa
/- What chain.keeper answers. -/
namespace Go.Proofs.Ytfkeeehfpbnibaa
open Go.RowKit Go.Shelf Go.Maps
set_option linter.unusedVariables false
set_option linter.unusedSimpArgs false

/-- Stamps. -/
def KT : RK (Int × Int) where
  T := 25
  S := 30
  sz := 2
  bt := 16
  z := .agg #[.int .i64 0, .int .i64 0]
  enc x := [.int .i64 x.1, .int .i64 x.2]
theorem kt_ok : KT.Ok where
  len _ := rfl
  pos := by decide
  one x u hu := by
    simp [KT] at hu
    rcases hu with rfl | rfl <;> rfl
  und := Try.underlying30
  inf := by kernel_rfl
  zc := rfl
  bb := by decide
theorem RowIn.st {w : World} {a : Option Addr} {l : List (Int × Int)} (h : RowIn KT w a l) (i : Nat) (hi : i < l.length) : ∃ b off, a = some ⟨b, off, none⟩ ∧ b < w.heap.size ∧ w.cell? ⟨b, off + i * 2, none⟩ = some (.int .i64 l[i].1) ∧ w.cell? ⟨b, off + i * 2 + 1, none⟩ = some (.int .i64 l[i].2) := by
  obtain ⟨b, off, e, hlt, hc⟩ := h i hi
  exact ⟨b, off, e, hlt, hc 0 _ rfl, hc 1 _ rfl⟩
theorem Mv.of_turned {w w' : World} {b : Nat} (h : w.mapTurned w' b) : Mv (fun k => k = b) w w' := by
  have hs := turned_size h
  have hb := turned_below (base := 0) h (Nat.zero_le _) (Nat.zero_le _)
  exact ⟨hb.os, hb.tape, hb.output, by omega, fun k hk hne => turned_block h k hne⟩
/-- The map of the first pins. -/
structure PinN (w : World) (M k : Nat) (pins : List (Int × Int)) : Prop where
  m : ∃ n g, n ≤ k ∧ MapT w M n g ∧ ∀ d, In64 d → (d ∈ pins.take k → ∃ c : Nat, 0 < c ∧ c ≤ k ∧ g d = some (.int .i64 c)) ∧ (d ∉ pins.take k → g d = none)
theorem PinN.below {w w' : World} {M k : Nat} {pins : List (Int × Int)} (h : PinN w M k pins) (hb : Below w.heap.size w w') : PinN w' M k pins := by
  obtain ⟨⟨n, g, h1, h2, h3⟩⟩ := h
  exact ⟨⟨n, g, h1, h2.below hb, h3⟩⟩
theorem pinG_of {pins : List (Int × Int)} {g : Int × Int → Option Value} {k : Nat} (h : ∀ d, In64 d → (d ∈ pins.take k → ∃ c : Nat, 0 < c ∧ c ≤ k ∧ g d = some (.int .i64 c)) ∧ (d ∉ pins.take k → g d = none)) (hk : pins.length ≤ k) : PinG g pins := by
  rw [List.take_of_length_le hk] at h
  intro d hd
  refine ⟨fun hm => ?_, (h d hd).2⟩
  obtain ⟨c, h1, h2, h3⟩ := (h d hd).1 hm
  exact ⟨(c : Int), by omega, h3⟩

set_option maxRecDepth 100000 in
set_option maxHeartbeats 3200000 in
theorem keeper_any (v pv : Value) (xs : List Vw) (s : Int × Int) (pins : List (Int × Int)) (w : World) (hl : xs.length ≤ 1000000) (hp : pins.length ≤ 1000000) (hr : WRow w v xs) (hpr : RowAt KT w pv pins) (hp64 : ∀ d ∈ pins, In64 d) :
    Calls Try.prog 30 #[v, sv s, pv] w fun e w' => ∃ lb, e = .returned (.func (.func 44) #[] lb) ∧ KpAt w' lb xs s pins ∧ Below w.heap.size w w' := by
  have hmm : ∀ (n : Int) (w : World), (Instr.makeMap 63 (some (.int .i64 n))).run Try.prog w = .ok (.map (some w.heap.size)) (w.alloc (.map #[] 0)) := fun n w => by
    simp [Instr.makeMap, run_underlying Try.underlying63, asInt, asIntOf]
  have hmf : ∀ (fn : Fn) (first cap : Array Value) (w : World), (Instr.makeFunc fn first cap).run Try.prog w = .ok (.func fn first cap) w := fun _ _ _ _ => rfl
  have HR := Lib.hid hr
  have HP := Lib.hid hpr
  obtain ⟨a, cap, rfl, _, _, _⟩ := hr.shape
  obtain ⟨pa, pcap, rfl, _, _, _, _⟩ := id hpr
  have hvb : ∀ W, Below w.heap.size w W → WvB W (xs.getLast?.getD vw0).1 (pw (xs.getLast?.getD vw0)) := fun W hb => by
    cases hgl : xs.getLast? with
    | none => exact ⟨by decide, by decide, by simp [vw0, wz], (fun d hd => by simp [vw0, wz] at hd), DepAt.nil _⟩
    | some y => exact ((hr.2 y (List.mem_of_getLast? hgl)).1).below hb
  have hvb2 : ∀ W, Below w.heap.size w W → WvB W ((lastP (notA s) xs).getD vw0).1 (pw ((lastP (notA s) xs).getD vw0)) := fun W hb => by
    cases hgl : lastP (notA s) xs with
    | none => exact ⟨by decide, by decide, by simp [vw0, wz], (fun d hd => by simp [vw0, wz] at hd), DepAt.nil _⟩
    | some y => exact ((hr.2 y (lastP_some hgl).1).1).below hb
  have HVB := Lib.hid hvb
  have HVB2 := Lib.hid hvb2
  have hhd := fun W (h : Below w.heap.size w W) => chead_any (.slice a xs.length cap) xs W hl (hr.below h)
  have hbe := fun W (h : Below w.heap.size w W) => cbelow_any (.slice a xs.length cap) xs s W hl (hr.below h)
  have HKP : Hid (∀ W lb, KpAt W lb xs s pins ↔ ∃ B8 B7 B10 B9 B11 B4 M n g, lb = #[.pointer (some ⟨B8, 0, none⟩), .pointer (some ⟨B7, 0, none⟩), .pointer (some ⟨B10, 0, none⟩), .pointer (some ⟨B9, 0, none⟩), .pointer (some ⟨B11, 0, none⟩), .pointer (some ⟨B4, 0, none⟩)] ∧
    KpIn W B8 B7 B10 B9 B11 B4 M n g (xs.getLast?.getD vw0) ((lastP (notA s) xs).getD vw0) xs.getLast?.isSome (lastP (notA s) xs).isSome s ∧ PinG g pins) := Lib.hid (fun _ _ => Iff.rfl)
  generalize xs.getLast?.getD vw0 = hd at hhd HVB HKP
  generalize (lastP (notA s) xs).getD vw0 = bl at hbe HVB2 HKP
  generalize xs.getLast?.isSome = hs at hhd HKP
  generalize (lastP (notA s) xs).isSome = fs at hbe HKP
  have hb1 : Below w.heap.size w (w.alloc (.cells #[.int .i64 s.1, .int .i64 s.2] 25)) := balloc (Below.refl _ w) _
  have q0 : (w.alloc (.cells #[.int .i64 s.1, .int .i64 s.2] 25)).cell? ⟨w.heap.size, 0, none⟩ = some (.int .i64 s.1) := by simp
  have q1 : (w.alloc (.cells #[.int .i64 s.1, .int .i64 s.2] 25)).cell? ⟨w.heap.size, 1, none⟩ = some (.int .i64 s.2) := by simp
  obtain ⟨s0, s1⟩ := s
  obtain ⟨⟨key1, val1, gone1, ⟨m1, t1⟩, past1⟩, pa1, pc1⟩ := hd
  obtain ⟨⟨key2, val2, gone2, ⟨m2, t2⟩, past2⟩, pa2, pc2⟩ := bl
  dsimp only [wV, wcs, wvs, pw] at *
  clear hr hpr hvb hvb2
  go_enter Try.func30, Try.ntmps30
  go_upto_region 1 with fail
  generalize w.alloc (.cells #[.int .i64 s0, .int .i64 s1] 25) = w1 at *
  have HB1 := Lib.hid hb1
  clear hb1
  go_wp2_with fail
  refine (hhd _ HB1.out).mono ?_
  rintro e w2 ⟨rfl, hb2⟩
  have HB2 := Lib.hid (bstep HB1.out hb2)
  have q0 := kc hb2 q0
  have q1 := kc hb2 q1
  clear hb2 HB1
  go_upto_region 2 with fail
  obtain ⟨w3, hw3⟩ : ∃ w3, (w2.alloc (.cells #[.string key1, .string val1, .bool gone1, .int .i64 m1, .int .i64 t1, .slice pa1 past1.length pc1] 28)).alloc (.cells #[.bool hs] 4) = w3 := ⟨_, rfl⟩
  have hv3 : VwP w3 w2.heap.size ⟨key1, val1, gone1, (m1, t1), past1⟩ (.slice pa1 past1.length pc1) := by
    rw [← hw3]
    exact (VwP.new w2 ⟨key1, val1, gone1, (m1, t1), past1⟩ (.slice pa1 past1.length pc1) 28).keep (balloc (Below.refl _ _) _)
  have hc3 : w3.cell? ⟨w2.heap.size + 1, 0, none⟩ = some (.bool hs) := by rw [← hw3]; simp
  have hb3 : Below w2.heap.size w2 w3 := by rw [← hw3]; exact balloc (balloc (Below.refl _ w2) _) _
  try rw [hw3]
  clear hw3
  have HV3 := Lib.hid hv3
  have HC3 := Lib.hid hc3
  have HB3 := Lib.hid (bstep HB2.out hb3)
  have q0 := kc hb3 q0
  have q1 := kc hb3 q1
  clear hv3 hc3 hb3 HB2
  go_wp2_with fail
  refine (hbe _ HB3.out).mono ?_
  rintro e w4 ⟨rfl, hb4⟩
  have HV4 := Lib.hid (HV3.out.keep hb4)
  have HC4 := Lib.hid (kc hb4 HC3.out)
  have HB4 := Lib.hid (bstep HB3.out hb4)
  have q0 := kc hb4 q0
  have q1 := kc hb4 q1
  clear hb4 HV3 HC3 HB3
  go_upto_region 3 with fail
  obtain ⟨w5, hw5⟩ : ∃ w5, (w4.alloc (.cells #[.string key2, .string val2, .bool gone2, .int .i64 m2, .int .i64 t2, .slice pa2 past2.length pc2] 28)).alloc (.cells #[.bool fs] 4) = w5 := ⟨_, rfl⟩
  have hv5 : VwP w5 w4.heap.size ⟨key2, val2, gone2, (m2, t2), past2⟩ (.slice pa2 past2.length pc2) := by
    rw [← hw5]
    exact (VwP.new w4 ⟨key2, val2, gone2, (m2, t2), past2⟩ (.slice pa2 past2.length pc2) 28).keep (balloc (Below.refl _ _) _)
  have hc5 : w5.cell? ⟨w4.heap.size + 1, 0, none⟩ = some (.bool fs) := by rw [← hw5]; simp
  have hb5 : Below w4.heap.size w4 w5 := by rw [← hw5]; exact balloc (balloc (Below.refl _ w4) _) _
  try rw [hw5]
  clear hw5
  have HV5 := Lib.hid hv5
  have HC5 := Lib.hid hc5
  have HV45 := Lib.hid (HV4.out.keep hb5)
  have HC45 := Lib.hid (kc hb5 HC4.out)
  have HB5 := Lib.hid (bstep HB4.out hb5)
  have q0 := kc hb5 q0
  have q1 := kc hb5 q1
  have hz24 : w2.heap.size + 1 < w4.heap.size := lt_of_cellN HC4.out
  clear hv5 hc5 hb5 HB4 HV4 HC4
  go_upto_region 4 with fail
  obtain ⟨w7, hw7⟩ : ∃ w7, (w5.alloc (.map #[] 0)).alloc (.cells #[.map (some w5.heap.size)] 63) = w7 := ⟨_, rfl⟩
  have hm7 : PinN w7 w5.heap.size 0 pins := by
    rw [← hw7]
    exact ⟨⟨0, fun _ => none, Nat.le_refl _, (MapT.made w5).below (balloc (Below.refl _ _) _), fun d hd => ⟨fun h => by simp at h, fun _ => rfl⟩⟩⟩
  have hc7 : w7.cell? ⟨w5.heap.size + 1, 0, none⟩ = some (.map (some w5.heap.size)) := by rw [← hw7]; simp
  have hb7 : Below w5.heap.size w5 w7 := by rw [← hw7]; exact balloc (balloc (Below.refl _ w5) _) _
  have hz7 : w7.heap.size = w5.heap.size + 2 := by rw [← hw7]; simp
  try rw [hw7]
  clear hw7
  obtain ⟨M, hM⟩ : ∃ M, M = w5.heap.size := ⟨_, rfl⟩
  have hz45 : w4.heap.size + 1 < M := by rw [hM]; exact lt_of_cellN HC5.out
  have hz02 : w.heap.size < w2.heap.size := lt_of_cellN (by assumption : w2.cell? ⟨w.heap.size, 0, none⟩ = some (.int .i64 s0))
  have HM7 := Lib.hid hm7
  have HV7 := Lib.hid (HV5.out.keep hb7)
  have HC7 := Lib.hid (kc hb7 HC5.out)
  have HV47 := Lib.hid (HV45.out.keep hb7)
  have HC47 := Lib.hid (kc hb7 HC45.out)
  have HB7 := Lib.hid (bstep HB5.out hb7)
  have q0 := kc hb7 q0
  have q1 := kc hb7 q1
  rw [← hM] at HM7 hc7 hz7 ⊢
  clear hM hm7 hb7 HB5 HV5 HC5 HV45 HC45
  have hMn : M < w7.heap.size := by omega
  go_wp2
  go_loopw [30] (fun i wr => ∃ k : Nat, k ≤ pins.length ∧ i = .int .i64 k ∧ PinN wr M k pins ∧ Mv (fun b => b = M) w7 wr) (fun i _ => pins.length - (intOf i).toNat)
  case atStart => exact ⟨0, by omega, rfl, HM7.out, Mv.refl _ _⟩
  case round =>
    obtain ⟨k, hk, rfl, hm, hmv⟩ := hrel
    have hbel : Below w.heap.size w wr := HB7.out.trans (hmv.below (fun j hj e => by omega) HB7.out.size)
    have hcM : wr.cell? ⟨M + 1, 0, none⟩ = some (.map (some M)) := by rw [World.cell?_of_block (hmv.block (M + 1) (by omega) (by omega))]; exact hc7
    have HMV := Lib.hid hmv
    have HBL := Lib.hid hbel
    have HM := Lib.hid hm
    clear hmv hm
    by_cases hlt : k < pins.length
    · obtain ⟨b, off, rfl, hbl, d0, d1⟩ := (RowIn.st (w := wr) (a := pa) (l := pins) (by obtain ⟨a', c', e, _, _, _, h⟩ := HP.out.below hbel; cases e; exact h) k hlt)
      have hi64 := hp64 _ (List.getElem_mem hlt)
      have HTK : Hid (pins.take (k + 1) = pins.take k ++ [pins[k]]) := Lib.hid (List.take_succ_eq_append_getElem hlt)
      generalize pins[k] = d at d0 d1 hi64 HTK
      obtain ⟨y, z⟩ := d
      dsimp only at d0 d1
      obtain ⟨⟨n, g, hn, hmt, hgd⟩⟩ := HM.out
      have hb8 : Below wr.heap.size wr (wr.alloc (.cells #[.int .i64 y, .int .i64 z] 25)) := balloc (Below.refl _ wr) _
      have hmt8 : MapT (wr.alloc (.cells #[.int .i64 y, .int .i64 z] 25)).drew M n g := hmt.below hb8.drew
      obtain ⟨c, hcv, hck⟩ : ∃ c : Nat, (g (y, z)).getD (.int .i64 0) = .int .i64 (c : Int) ∧ c ≤ k := by
        by_cases hm : (y, z) ∈ pins.take k
        · obtain ⟨c, h1, h2, h3⟩ := (hgd _ hi64).1 hm
          exact ⟨c, by rw [h3]; rfl, h2⟩
        · exact ⟨0, by rw [(hgd _ hi64).2 hm]; rfl, by omega⟩
      obtain ⟨v0, st, W1, W2, hv0, e1, hlk, hlk1, e2, hm2, ht1, ht2⟩ := hmt8.bump Try.underlying63 (fun u => Try.zeroValue3 u) (by unfold maxLen; omega) hi64 (.int .i64 ((c : Int) + 1))
      rw [hcv] at hv0
      subst hv0
      have hnew : PinN W2 M (k + 1) pins := by
        refine ⟨⟨_, _, ?_, hm2, fun d hd => ?_⟩⟩
        · split <;> omega
        · rw [HTK.out]
          by_cases e : d = (y, z)
          · rw [if_pos e]
            exact ⟨fun _ => ⟨c + 1, by omega, by omega, by simp⟩, fun h => absurd (by rw [e]; simp) h⟩
          · rw [if_neg e]
            have hmem : d ∈ pins.take k ++ [(y, z)] ↔ d ∈ pins.take k := by simp [e]
            rw [hmem]
            refine ⟨fun h => ?_, (hgd d hd).2⟩
            obtain ⟨c', h1, h2, h3⟩ := (hgd d hd).1 h
            exact ⟨c', h1, by omega, h3⟩
      have hmv2 : Mv (fun b => b = M) w7 W2 := (HMV.out.step hb8.drew).trans (Mv.of_turned ht2)
      have HNEW := Lib.hid hnew
      have HMV2 := Lib.hid hmv2
      have hw1 : IntKind.i64.wrap ((c : Int) + 1) = (c : Int) + 1 := IntWalk.i64_in _ (by omega)
      have e2' : (Instr.entryStore 63 (.map (some M)) (.int .i64 (st : Int)) (.int .i64 ((c : Int) + 1))).run Try.prog W1 = .ok () W2 := e2
      have e1' : (Instr.mapEntry 63 (.map (some M)) (.agg #[.int .i64 y, .int .i64 z])).run Try.prog (wr.alloc (.cells #[.int .i64 y, .int .i64 z] 25)).drew = .ok (.tuple #[.int .i64 (c : Int), .int .i64 (st : Int)]) W1 := e1
      have hcM8 := kc hb8.drew hcM
      clear hnew hmv2 hm2 ht1 ht2 e1 e2 hmt8 hmt hgd hcv hn hi64
      go_upto_region 7 with fail
      go_region
      go_wp2
      go_roundw
      case rel => exact ⟨k + 1, by omega, by go_num, HNEW.out, HMV2.out⟩
      case measure => simp [intOf]; omega
    · obtain rfl : k = pins.length := by omega
      go_wp2
      go_ret
      refine ⟨_, rfl, ?_, hbel⟩
      obtain ⟨⟨n, g, h1, h2, h3⟩⟩ := HM.out
      have hcc : ∀ {b o : Nat} {u : Value}, b ≠ M → w7.cell? ⟨b, o, none⟩ = some u → wr.cell? ⟨b, o, none⟩ = some u := fun hne h => by rw [World.cell?_of_block (HMV.out.block _ (lt_of_cellN h) hne)]; exact h
      refine (HKP.out _ _).2 ⟨_, _, _, _, _, _, M, n, g, rfl, ⟨hcc (by omega) HC47.out, HV47.out.mv HMV.out (by omega), hcc (by omega) HC7.out, HV7.out.mv HMV.out (by omega), hcM, hcc (by omega) q0, hcc (by omega) q1, h2, HVB.out _ hbel, HVB2.out _ hbel⟩, pinG_of h3 (Nat.le_refl _)⟩
end Go.Proofs.Ytfkeeehfpbnibaa
