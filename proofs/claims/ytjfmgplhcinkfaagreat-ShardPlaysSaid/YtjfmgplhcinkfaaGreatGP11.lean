/- Texts of this proof, one behind the other: ChKeep, Kinds, ShAt, Shelf, ChConc. -/
import Derived.Test.YtjfmgplhcinkfaaGreatGP10
import Derived.Shelf.Spec.SlicesGrow
import Derived.Shelf.SlIter.Nil
import Derived.Shelf.SortM.Plain
import Derived.Shelf.SortM.SortNone
import Derived.Test.YtjfmgplhcinkfaaGreatProg
/- What chain.keeper answers. -/
namespace Go.Proofs.YtjfmgplhcinkfaaGreat
open Go.RowKit Go.Shelf Go.Maps
set_option linter.unusedVariables false
set_option linter.unusedSimpArgs false

/-- Stamps. -/
def KT : RK (Int × Int) where
  T := 33
  S := 74
  sz := 2
  bt := 16
  z := .agg #[.int .i64 0, .int .i64 0]
  enc x := [.int .i64 x.1, .int .i64 x.2]
theorem kt_ok : KT.Ok where
  len _ := rfl
  pos := by decide
  one x u hu := by
    simp [KT] at hu
    rcases hu with rfl | rfl <;> rfl
  und := Tryz.underlying74
  inf := by kernel_rfl
  zc := rfl
  bb := by decide
theorem RowIn.st {w : World} {a : Option Addr} {l : List (Int × Int)} (h : RowIn KT w a l) (i : Nat) (hi : i < l.length) : ∃ b off, a = some ⟨b, off, none⟩ ∧ b < w.heap.size ∧ w.cell? ⟨b, off + i * 2, none⟩ = some (.int .i64 l[i].1) ∧ w.cell? ⟨b, off + i * 2 + 1, none⟩ = some (.int .i64 l[i].2) := by
  obtain ⟨b, off, e, hlt, hc⟩ := h i hi
  exact ⟨b, off, e, hlt, hc 0 _ rfl, hc 1 _ rfl⟩
theorem Mv.of_turned {w w' : World} {b : Nat} (h : w.mapTurned w' b) : Mv (fun k => k = b) w w' := by
  have hs := turned_size h
  have hb := turned_below (base := 0) h (Nat.zero_le _) (Nat.zero_le _)
  exact ⟨hb.os, hb.tape, hb.output, by omega, fun k hk hne => turned_block h k hne⟩
/-- The map of the first pins. -/
structure PinN (w : World) (M k : Nat) (pins : List (Int × Int)) : Prop where
  m : ∃ n g, n ≤ k ∧ MapT w M n g ∧ ∀ d, In64 d → (d ∈ pins.take k → ∃ c : Nat, 0 < c ∧ c ≤ k ∧ g d = some (.int .i64 c)) ∧ (d ∉ pins.take k → g d = none)
theorem PinN.below {w w' : World} {M k : Nat} {pins : List (Int × Int)} (h : PinN w M k pins) (hb : Below w.heap.size w w') : PinN w' M k pins := by
  obtain ⟨⟨n, g, h1, h2, h3⟩⟩ := h
  exact ⟨⟨n, g, h1, h2.below hb, h3⟩⟩
theorem pinG_of {pins : List (Int × Int)} {g : Int × Int → Option Value} {k : Nat} (h : ∀ d, In64 d → (d ∈ pins.take k → ∃ c : Nat, 0 < c ∧ c ≤ k ∧ g d = some (.int .i64 c)) ∧ (d ∉ pins.take k → g d = none)) (hk : pins.length ≤ k) : PinG g pins := by
  rw [List.take_of_length_le hk] at h
  intro d hd
  refine ⟨fun hm => ?_, (h d hd).2⟩
  obtain ⟨c, h1, h2, h3⟩ := (h d hd).1 hm
  exact ⟨(c : Int), by omega, h3⟩

set_option maxRecDepth 100000 in
set_option maxHeartbeats 3200000 in
theorem keeper_any (v pv : Value) (xs : List Vw) (s : Int × Int) (pins : List (Int × Int)) (w : World) (hl : xs.length ≤ 1000000) (hp : pins.length ≤ 1000000) (hr : WRow w v xs) (hpr : RowAt KT w pv pins) (hp64 : ∀ d ∈ pins, In64 d) :
    Calls Tryz.prog 48 #[v, sv s, pv] w fun e w' => ∃ lb, e = .returned (.func (.func 65) #[] lb) ∧ KpAt w' lb xs s pins ∧ Below w.heap.size w w' := by
  have hmm : ∀ (n : Int) (w : World), (Instr.makeMap 96 (some (.int .i64 n))).run Tryz.prog w = .ok (.map (some w.heap.size)) (w.alloc (.map #[] 0)) := fun n w => by
    simp [Instr.makeMap, run_underlying Tryz.underlying96, asInt, asIntOf]
  have hmf : ∀ (fn : Fn) (first cap : Array Value) (w : World), (Instr.makeFunc fn first cap).run Tryz.prog w = .ok (.func fn first cap) w := fun _ _ _ _ => rfl
  have HR := Lib.hid hr
  have HP := Lib.hid hpr
  obtain ⟨a, cap, rfl, _, _, _⟩ := hr.shape
  obtain ⟨pa, pcap, rfl, _, _, _, _⟩ := id hpr
  have hvb : ∀ W, Below w.heap.size w W → WvB W (xs.getLast?.getD vw0).1 (pw (xs.getLast?.getD vw0)) := fun W hb => by
    cases hgl : xs.getLast? with
    | none => exact ⟨by decide, by decide, by simp [vw0, wz], (fun d hd => by simp [vw0, wz] at hd), DepAt.nil _⟩
    | some y => exact ((hr.2 y (List.mem_of_getLast? hgl)).1).below hb
  have hvb2 : ∀ W, Below w.heap.size w W → WvB W ((lastP (notA s) xs).getD vw0).1 (pw ((lastP (notA s) xs).getD vw0)) := fun W hb => by
    cases hgl : lastP (notA s) xs with
    | none => exact ⟨by decide, by decide, by simp [vw0, wz], (fun d hd => by simp [vw0, wz] at hd), DepAt.nil _⟩
    | some y => exact ((hr.2 y (lastP_some hgl).1).1).below hb
  have HVB := Lib.hid hvb
  have HVB2 := Lib.hid hvb2
  have hhd := fun W (h : Below w.heap.size w W) => chead_any (.slice a xs.length cap) xs W hl (hr.below h)
  have hbe := fun W (h : Below w.heap.size w W) => cbelow_any (.slice a xs.length cap) xs s W hl (hr.below h)
  have HKP : Hid (∀ W lb, KpAt W lb xs s pins ↔ ∃ B8 B7 B10 B9 B11 B4 M n g, lb = #[.pointer (some ⟨B8, 0, none⟩), .pointer (some ⟨B7, 0, none⟩), .pointer (some ⟨B10, 0, none⟩), .pointer (some ⟨B9, 0, none⟩), .pointer (some ⟨B11, 0, none⟩), .pointer (some ⟨B4, 0, none⟩)] ∧
    KpIn W B8 B7 B10 B9 B11 B4 M n g (xs.getLast?.getD vw0) ((lastP (notA s) xs).getD vw0) xs.getLast?.isSome (lastP (notA s) xs).isSome s ∧ PinG g pins) := Lib.hid (fun _ _ => Iff.rfl)
  generalize xs.getLast?.getD vw0 = hd at hhd HVB HKP
  generalize (lastP (notA s) xs).getD vw0 = bl at hbe HVB2 HKP
  generalize xs.getLast?.isSome = hs at hhd HKP
  generalize (lastP (notA s) xs).isSome = fs at hbe HKP
  have hb1 : Below w.heap.size w (w.alloc (.cells #[.int .i64 s.1, .int .i64 s.2] 33)) := balloc (Below.refl _ w) _
  have q0 : (w.alloc (.cells #[.int .i64 s.1, .int .i64 s.2] 33)).cell? ⟨w.heap.size, 0, none⟩ = some (.int .i64 s.1) := by simp
  have q1 : (w.alloc (.cells #[.int .i64 s.1, .int .i64 s.2] 33)).cell? ⟨w.heap.size, 1, none⟩ = some (.int .i64 s.2) := by simp
  obtain ⟨s0, s1⟩ := s
  obtain ⟨⟨key1, val1, gone1, ⟨m1, t1⟩, past1⟩, pa1, pc1⟩ := hd
  obtain ⟨⟨key2, val2, gone2, ⟨m2, t2⟩, past2⟩, pa2, pc2⟩ := bl
  dsimp only [wV, wcs, wvs, pw] at *
  clear hr hpr hvb hvb2
  go_enter Tryz.func48, Tryz.ntmps48
  go_upto_region 1 with fail
  generalize w.alloc (.cells #[.int .i64 s0, .int .i64 s1] 33) = w1 at *
  have HB1 := Lib.hid hb1
  clear hb1
  go_wp2_with fail
  refine (hhd _ HB1.out).mono ?_
  rintro e w2 ⟨rfl, hb2⟩
  have HB2 := Lib.hid (bstep HB1.out hb2)
  have q0 := kc hb2 q0
  have q1 := kc hb2 q1
  clear hb2 HB1
  go_upto_region 2 with fail
  obtain ⟨w3, hw3⟩ : ∃ w3, (w2.alloc (.cells #[.string key1, .string val1, .bool gone1, .int .i64 m1, .int .i64 t1, .slice pa1 past1.length pc1] 36)).alloc (.cells #[.bool hs] 4) = w3 := ⟨_, rfl⟩
  have hv3 : VwP w3 w2.heap.size ⟨key1, val1, gone1, (m1, t1), past1⟩ (.slice pa1 past1.length pc1) := by
    rw [← hw3]
    exact (VwP.new w2 ⟨key1, val1, gone1, (m1, t1), past1⟩ (.slice pa1 past1.length pc1) 36).keep (balloc (Below.refl _ _) _)
  have hc3 : w3.cell? ⟨w2.heap.size + 1, 0, none⟩ = some (.bool hs) := by rw [← hw3]; simp
  have hb3 : Below w2.heap.size w2 w3 := by rw [← hw3]; exact balloc (balloc (Below.refl _ w2) _) _
  try rw [hw3]
  clear hw3
  have HV3 := Lib.hid hv3
  have HC3 := Lib.hid hc3
  have HB3 := Lib.hid (bstep HB2.out hb3)
  have q0 := kc hb3 q0
  have q1 := kc hb3 q1
  clear hv3 hc3 hb3 HB2
  go_wp2_with fail
  refine (hbe _ HB3.out).mono ?_
  rintro e w4 ⟨rfl, hb4⟩
  have HV4 := Lib.hid (HV3.out.keep hb4)
  have HC4 := Lib.hid (kc hb4 HC3.out)
  have HB4 := Lib.hid (bstep HB3.out hb4)
  have q0 := kc hb4 q0
  have q1 := kc hb4 q1
  clear hb4 HV3 HC3 HB3
  go_upto_region 3 with fail
  obtain ⟨w5, hw5⟩ : ∃ w5, (w4.alloc (.cells #[.string key2, .string val2, .bool gone2, .int .i64 m2, .int .i64 t2, .slice pa2 past2.length pc2] 36)).alloc (.cells #[.bool fs] 4) = w5 := ⟨_, rfl⟩
  have hv5 : VwP w5 w4.heap.size ⟨key2, val2, gone2, (m2, t2), past2⟩ (.slice pa2 past2.length pc2) := by
    rw [← hw5]
    exact (VwP.new w4 ⟨key2, val2, gone2, (m2, t2), past2⟩ (.slice pa2 past2.length pc2) 36).keep (balloc (Below.refl _ _) _)
  have hc5 : w5.cell? ⟨w4.heap.size + 1, 0, none⟩ = some (.bool fs) := by rw [← hw5]; simp
  have hb5 : Below w4.heap.size w4 w5 := by rw [← hw5]; exact balloc (balloc (Below.refl _ w4) _) _
  try rw [hw5]
  clear hw5
  have HV5 := Lib.hid hv5
  have HC5 := Lib.hid hc5
  have HV45 := Lib.hid (HV4.out.keep hb5)
  have HC45 := Lib.hid (kc hb5 HC4.out)
  have HB5 := Lib.hid (bstep HB4.out hb5)
  have q0 := kc hb5 q0
  have q1 := kc hb5 q1
  have hz24 : w2.heap.size + 1 < w4.heap.size := lt_of_cellN HC4.out
  clear hv5 hc5 hb5 HB4 HV4 HC4
  go_upto_region 4 with fail
  obtain ⟨w7, hw7⟩ : ∃ w7, (w5.alloc (.map #[] 0)).alloc (.cells #[.map (some w5.heap.size)] 96) = w7 := ⟨_, rfl⟩
  have hm7 : PinN w7 w5.heap.size 0 pins := by
    rw [← hw7]
    exact ⟨⟨0, fun _ => none, Nat.le_refl _, (MapT.made w5).below (balloc (Below.refl _ _) _), fun d hd => ⟨fun h => by simp at h, fun _ => rfl⟩⟩⟩
  have hc7 : w7.cell? ⟨w5.heap.size + 1, 0, none⟩ = some (.map (some w5.heap.size)) := by rw [← hw7]; simp
  have hb7 : Below w5.heap.size w5 w7 := by rw [← hw7]; exact balloc (balloc (Below.refl _ w5) _) _
  have hz7 : w7.heap.size = w5.heap.size + 2 := by rw [← hw7]; simp
  try rw [hw7]
  clear hw7
  obtain ⟨M, hM⟩ : ∃ M, M = w5.heap.size := ⟨_, rfl⟩
  have hz45 : w4.heap.size + 1 < M := by rw [hM]; exact lt_of_cellN HC5.out
  have hz02 : w.heap.size < w2.heap.size := lt_of_cellN (by assumption : w2.cell? ⟨w.heap.size, 0, none⟩ = some (.int .i64 s0))
  have HM7 := Lib.hid hm7
  have HV7 := Lib.hid (HV5.out.keep hb7)
  have HC7 := Lib.hid (kc hb7 HC5.out)
  have HV47 := Lib.hid (HV45.out.keep hb7)
  have HC47 := Lib.hid (kc hb7 HC45.out)
  have HB7 := Lib.hid (bstep HB5.out hb7)
  have q0 := kc hb7 q0
  have q1 := kc hb7 q1
  rw [← hM] at HM7 hc7 hz7 ⊢
  clear hM hm7 hb7 HB5 HV5 HC5 HV45 HC45
  have hMn : M < w7.heap.size := by omega
  go_wp2
  go_loopw [30] (fun i wr => ∃ k : Nat, k ≤ pins.length ∧ i = .int .i64 k ∧ PinN wr M k pins ∧ Mv (fun b => b = M) w7 wr) (fun i _ => pins.length - (intOf i).toNat)
  case atStart => exact ⟨0, by omega, rfl, HM7.out, Mv.refl _ _⟩
  case round =>
    obtain ⟨k, hk, rfl, hm, hmv⟩ := hrel
    have hbel : Below w.heap.size w wr := HB7.out.trans (hmv.below (fun j hj e => by omega) HB7.out.size)
    have hcM : wr.cell? ⟨M + 1, 0, none⟩ = some (.map (some M)) := by rw [World.cell?_of_block (hmv.block (M + 1) (by omega) (by omega))]; exact hc7
    have HMV := Lib.hid hmv
    have HBL := Lib.hid hbel
    have HM := Lib.hid hm
    clear hmv hm
    by_cases hlt : k < pins.length
    · obtain ⟨b, off, rfl, hbl, d0, d1⟩ := (RowIn.st (w := wr) (a := pa) (l := pins) (by obtain ⟨a', c', e, _, _, _, h⟩ := HP.out.below hbel; cases e; exact h) k hlt)
      have hi64 := hp64 _ (List.getElem_mem hlt)
      have HTK : Hid (pins.take (k + 1) = pins.take k ++ [pins[k]]) := Lib.hid (List.take_succ_eq_append_getElem hlt)
      generalize pins[k] = d at d0 d1 hi64 HTK
      obtain ⟨y, z⟩ := d
      dsimp only at d0 d1
      obtain ⟨⟨n, g, hn, hmt, hgd⟩⟩ := HM.out
      have hb8 : Below wr.heap.size wr (wr.alloc (.cells #[.int .i64 y, .int .i64 z] 33)) := balloc (Below.refl _ wr) _
      have hmt8 : MapT (wr.alloc (.cells #[.int .i64 y, .int .i64 z] 33)).drew M n g := hmt.below hb8.drew
      obtain ⟨c, hcv, hck⟩ : ∃ c : Nat, (g (y, z)).getD (.int .i64 0) = .int .i64 (c : Int) ∧ c ≤ k := by
        by_cases hm : (y, z) ∈ pins.take k
        · obtain ⟨c, h1, h2, h3⟩ := (hgd _ hi64).1 hm
          exact ⟨c, by rw [h3]; rfl, h2⟩
        · exact ⟨0, by rw [(hgd _ hi64).2 hm]; rfl, by omega⟩
      obtain ⟨v0, st, W1, W2, hv0, e1, hlk, hlk1, e2, hm2, ht1, ht2⟩ := hmt8.bump Tryz.underlying96 (fun u => Tryz.zeroValue3 u) (by unfold maxLen; omega) hi64 (.int .i64 ((c : Int) + 1))
      rw [hcv] at hv0
      subst hv0
      have hnew : PinN W2 M (k + 1) pins := by
        refine ⟨⟨_, _, ?_, hm2, fun d hd => ?_⟩⟩
        · split <;> omega
        · rw [HTK.out]
          by_cases e : d = (y, z)
          · rw [if_pos e]
            exact ⟨fun _ => ⟨c + 1, by omega, by omega, by simp⟩, fun h => absurd (by rw [e]; simp) h⟩
          · rw [if_neg e]
            have hmem : d ∈ pins.take k ++ [(y, z)] ↔ d ∈ pins.take k := by simp [e]
            rw [hmem]
            refine ⟨fun h => ?_, (hgd d hd).2⟩
            obtain ⟨c', h1, h2, h3⟩ := (hgd d hd).1 h
            exact ⟨c', h1, by omega, h3⟩
      have hmv2 : Mv (fun b => b = M) w7 W2 := (HMV.out.step hb8.drew).trans (Mv.of_turned ht2)
      have HNEW := Lib.hid hnew
      have HMV2 := Lib.hid hmv2
      have hw1 : IntKind.i64.wrap ((c : Int) + 1) = (c : Int) + 1 := IntWalk.i64_in _ (by omega)
      have e2' : (Instr.entryStore 96 (.map (some M)) (.int .i64 (st : Int)) (.int .i64 ((c : Int) + 1))).run Tryz.prog W1 = .ok () W2 := e2
      have e1' : (Instr.mapEntry 96 (.map (some M)) (.agg #[.int .i64 y, .int .i64 z])).run Tryz.prog (wr.alloc (.cells #[.int .i64 y, .int .i64 z] 33)).drew = .ok (.tuple #[.int .i64 (c : Int), .int .i64 (st : Int)]) W1 := e1
      have hcM8 := kc hb8.drew hcM
      clear hnew hmv2 hm2 ht1 ht2 e1 e2 hmt8 hmt hgd hcv hn hi64
      go_upto_region 7 with fail
      go_region
      go_wp2
      go_roundw
      case rel => exact ⟨k + 1, by omega, by go_num, HNEW.out, HMV2.out⟩
      case measure => simp [intOf]; omega
    · obtain rfl : k = pins.length := by omega
      go_wp2
      go_ret
      refine ⟨_, rfl, ?_, hbel⟩
      obtain ⟨⟨n, g, h1, h2, h3⟩⟩ := HM.out
      have hcc : ∀ {b o : Nat} {u : Value}, b ≠ M → w7.cell? ⟨b, o, none⟩ = some u → wr.cell? ⟨b, o, none⟩ = some u := fun hne h => by rw [World.cell?_of_block (HMV.out.block _ (lt_of_cellN h) hne)]; exact h
      refine (HKP.out _ _).2 ⟨_, _, _, _, _, _, M, n, g, rfl, ⟨hcc (by omega) HC47.out, HV47.out.mv HMV.out (by omega), hcc (by omega) HC7.out, HV7.out.mv HMV.out (by omega), hcM, hcc (by omega) q0, hcc (by omega) q1, h2, HVB.out _ hbel, HVB2.out _ hbel⟩, pinG_of h3 (Nat.le_refl _)⟩
end Go.Proofs.YtjfmgplhcinkfaaGreat
/- Rows of ints, texts, ranges, uint64s: their kinds. -/
namespace Go.Proofs.YtjfmgplhcinkfaaGreat
open Go.RowKit
set_option linter.unusedVariables false
set_option linter.unusedSimpArgs false

def KS : RK ByteArray where
  T := 9
  S := 57
  sz := 1
  bt := 16
  z := .string ⟨#[]⟩
  enc x := [.string x]
theorem ks_ok : KS.Ok where
  len _ := rfl
  pos := by decide
  one x u hu := by simp [KS] at hu; subst hu; rfl
  und := Tryz.underlying57
  inf := by kernel_rfl
  zc := rfl
  bb := by decide
def KR : RK (ByteArray × ByteArray) where
  T := 63
  S := 26
  sz := 2
  bt := 32
  z := .agg #[.string ⟨#[]⟩, .string ⟨#[]⟩]
  enc x := [.string x.1, .string x.2]
theorem kr_ok : KR.Ok where
  len _ := rfl
  pos := by decide
  one x u hu := by
    simp [KR] at hu
    rcases hu with rfl | rfl <;> rfl
  und := Tryz.underlying26
  inf := by kernel_rfl
  zc := rfl
  bb := by decide
theorem RowIn.str {w : World} {a : Option Addr} {l : List ByteArray} (h : RowIn KS w a l) (i : Nat) (hi : i < l.length) : ∃ b off, a = some ⟨b, off, none⟩ ∧ b < w.heap.size ∧ w.cell? ⟨b, off + i, none⟩ = some (.string l[i]) := by
  obtain ⟨b, off, e, hl, hc⟩ := h i hi
  have := hc 0 _ rfl
  rw [show KS.sz = 1 from rfl, Nat.mul_one, Nat.add_zero] at this
  exact ⟨b, off, e, hl, this⟩
theorem RowIn.rng {w : World} {a : Option Addr} {l : List (ByteArray × ByteArray)} (h : RowIn KR w a l) : RngIn w a l := by
  intro i hi
  obtain ⟨b, off, e, hl, hc⟩ := h i hi
  exact ⟨b, off, e, hl, hc 0 _ rfl, hc 1 _ rfl⟩
theorem RowAt.drew {α : Type} {K : RK α} {w : World} {v : Value} {l : List α} (h : RowAt K w v l) : RowAt K w.drew v l := h
end Go.Proofs.YtjfmgplhcinkfaaGreat
/- A shard in memory. -/
namespace Go.Proofs.YtjfmgplhcinkfaaGreat
open Go.RowKit
set_option linter.unusedVariables false
set_option linter.unusedSimpArgs false

/-- Where the past of a version lies. -/
def PastIn (P : Nat → Prop) (x : Vw) : Prop := x.1.past ≠ [] → ∀ a, x.2.1 = some a → P a.block
theorem VwB.block {w w' : World} {x : Vw} (h : VwB w x) (hs : w.heap.size ≤ w'.heap.size) (hb : PastIn (fun j => w'.heap[j]? = w.heap[j]?) x) : VwB w' x := by
  obtain ⟨⟨k, v, l, z, a, c, e, h1, h2, h3, hd⟩, h64⟩ := h
  refine ⟨⟨k, v, l, z, a, c, e, h1, h2, h3, fun i hi => ?_⟩, h64⟩
  obtain ⟨b, off, rfl, hlt, c0, c1, c2⟩ := hd i hi
  have hne : x.1.past ≠ [] := fun e => by rw [e] at hi; simp at hi
  have hbb : w'.heap[b]? = w.heap[b]? := hb hne _ (by injection e)
  exact ⟨b, off, rfl, by omega, by rw [World.cell?_of_block hbb]; exact c0, by rw [World.cell?_of_block hbb]; exact c1, by rw [World.cell?_of_block hbb]; exact c2⟩
theorem VwB.pastLt {w : World} {x : Vw} (h : VwB w x) : PastIn (fun j => j < w.heap.size) x := by
  obtain ⟨⟨k, v, l, z, a, c, e, h1, h2, h3, hd⟩, h64⟩ := h
  intro hne q hq
  have hi : 0 < x.1.past.length := List.length_pos_iff.2 hne
  obtain ⟨b, off, rfl, hlt, _⟩ := hd 0 hi
  have hqa : x.2.1 = some ⟨b, off, none⟩ := by injection e
  rw [hqa] at hq
  cases hq
  exact hlt
theorem PastIn.mono {P Q : Nat → Prop} {x : Vw} (h : PastIn P x) (k : ∀ j, P j → Q j) : PastIn Q x := fun a b c => k _ (h a b c)
theorem PastIn.of_nil {P : Nat → Prop} {x : Vw} (h : x.1.past = []) : PastIn P x := fun k => absurd h k

/-- What lies at a key of a shard's map. -/
def gF (F : Ch) (val : ByteArray → Value) (k : ByteArray) : Option Value := if F k = [] then none else some (val k)
/-- A row that lies in a shard's own blocks. -/
def Off (S : Nat → Prop) (b : Nat) (mo : Option Nat) (v : Value) : Prop := ∀ g, v.ownBlock = some g → S g ∧ g ≠ b ∧ mo ≠ some g
/-- A shard: b is its block, mo its map's; S: all blocks that are its own. -/
structure SdM (w : World) (S : Nat → Prop) (b : Nat) (mo : Option Nat) (n : Nat) (rv : Value) (val : ByteArray → Value) (R : List (ByteArray × ByteArray)) (L : List ByteArray) (F : Ch) : Prop where
  lt : ∀ j, S j → j < w.heap.size
  sb : S b
  sm : ∀ m, mo = some m → S m ∧ m ≠ b
  c0 : w.cell? ⟨b, 0, none⟩ = some rv
  c1 : w.cell? ⟨b, 1, none⟩ = some (.map mo)
  fr : ∀ i, w.frozen? ⟨b, i, none⟩ = false
  rr : OwnR KR w 0 rv R
  ro : Off S b mo rv
  kl : KeyL F L
  ks : ∀ k ∈ L, k.size ≤ maxLen
  mp : ∀ m, mo = some m → MapZ w m n (gF F val)
  m0 : mo = none → L = []
  rows : ∀ k, F k ≠ [] → OwnR KW w 0 (val k) (F k) ∧ Off S b mo (val k)
  vb : ∀ k, ∀ x ∈ F k, VwB w x ∧ PastIn (fun j => ¬ S j) x
def SdAt (w : World) (S : Nat → Prop) (b : Nat) (R : List (ByteArray × ByteArray)) (L : List ByteArray) (F : Ch) : Prop := ∃ mo n rv val, SdM w S b mo n rv val R L F
theorem SdM.block {w w' : World} {S : Nat → Prop} {b : Nat} {mo : Option Nat} {n : Nat} {rv : Value} {val : ByteArray → Value} {R : List (ByteArray × ByteArray)} {L : List ByteArray} {F : Ch} (h : SdM w S b mo n rv val R L F)
    (hs : w.heap.size ≤ w'.heap.size) (hb : ∀ j, S j → w'.heap[j]? = w.heap[j]?) (hp : ∀ k, ∀ x ∈ F k, PastIn (fun j => w'.heap[j]? = w.heap[j]?) x) : SdM w' S b mo n rv val R L F :=
  ⟨fun j hj => by have := h.lt j hj; omega, h.sb, h.sm, by rw [World.cell?_of_block (hb b h.sb)]; exact h.c0, by rw [World.cell?_of_block (hb b h.sb)]; exact h.c1,
    fun i => by rw [World.frozen?_of_block (hb b h.sb)]; exact h.fr i,
    h.rr.block (fun g e => hb g (h.ro g e).1), h.ro, h.kl, h.ks, fun m e => (h.mp m e).block (hb m (h.sm m e).1), h.m0,
    fun k hk => ⟨(h.rows k hk).1.block (fun g e => hb g ((h.rows k hk).2 g e).1), (h.rows k hk).2⟩,
    fun k x hx => ⟨(h.vb k x hx).1.block hs (hp k x hx), (h.vb k x hx).2⟩⟩
theorem SdM.below {w w' : World} {S : Nat → Prop} {b : Nat} {mo : Option Nat} {n : Nat} {rv : Value} {val : ByteArray → Value} {R : List (ByteArray × ByteArray)} {L : List ByteArray} {F : Ch} (h : SdM w S b mo n rv val R L F) (hb : Below w.heap.size w w') : SdM w' S b mo n rv val R L F :=
  h.block hb.size (fun j hj => hb.block j (h.lt j hj)) (fun k x hx => (h.vb k x hx).1.pastLt.mono fun j hj => hb.block j hj)
theorem SdAt.below {w w' : World} {S : Nat → Prop} {b : Nat} {R : List (ByteArray × ByteArray)} {L : List ByteArray} {F : Ch} (h : SdAt w S b R L F) (hb : Below w.heap.size w w') : SdAt w' S b R L F := by
  obtain ⟨mo, n, rv, val, h⟩ := h
  exact ⟨mo, n, rv, val, h.below hb⟩
/-- What is written elsewhere. -/
theorem SdAt.mv {P : Nat → Prop} {w w' : World} {S : Nat → Prop} {b : Nat} {R : List (ByteArray × ByteArray)} {L : List ByteArray} {F : Ch} (h : SdAt w S b R L F) (hm : Mv P w w') (hP : ∀ j, S j → ¬ P j) (hq : ∀ k, ∀ x ∈ F k, PastIn (fun j => ¬ P j) x) : SdAt w' S b R L F := by
  obtain ⟨mo, n, rv, val, h⟩ := h
  exact ⟨mo, n, rv, val, h.block hm.size (fun j hj => hm.block j (h.lt j hj) (hP j hj)) (fun k x hx he a ha => hm.block _ ((h.vb k x hx).1.pastLt he a ha) (hq k x hx he a ha))⟩
section
variable {w : World} {S : Nat → Prop} {b : Nat} {R : List (ByteArray × ByteArray)} {L : List ByteArray} {F : Ch}
theorem SdAt.lt (h : SdAt w S b R L F) : ∀ j, S j → j < w.heap.size := by
  obtain ⟨mo, n, rv, val, h⟩ := h
  exact h.lt
theorem SdAt.sb (h : SdAt w S b R L F) : S b := by
  obtain ⟨mo, n, rv, val, h⟩ := h
  exact h.sb
theorem SdAt.kl (h : SdAt w S b R L F) : KeyL F L := by
  obtain ⟨mo, n, rv, val, h⟩ := h
  exact h.kl
theorem SdAt.vb (h : SdAt w S b R L F) : ∀ k, ∀ x ∈ F k, VwB w x := by
  obtain ⟨mo, n, rv, val, h⟩ := h
  exact fun k x hx => (h.vb k x hx).1
theorem SdAt.ks (h : SdAt w S b R L F) : ∀ k ∈ L, k.size ≤ maxLen := by
  obtain ⟨mo, n, rv, val, h⟩ := h
  exact h.ks
end
theorem row_none {w : World} {xs : List Vw} (h : xs = []) : OwnR KW w 0 (.slice none 0 0) xs := by
  subst h
  exact OwnR.nil _ _ _
/-- The look-up of a key's chain. -/
def atK (F : Ch) (val : ByteArray → Value) (k : ByteArray) : Value := (gF F val k).getD (.slice none 0 0)
theorem SdM.look {w : World} {S : Nat → Prop} {b : Nat} {mo : Option Nat} {n : Nat} {rv : Value} {val : ByteArray → Value} {R : List (ByteArray × ByteArray)} {L : List ByteArray} {F : Ch} (h : SdM w S b mo n rv val R L F) {k : ByteArray} (hk : k.size ≤ maxLen) :
    (Instr.lookup 66 (.map mo) (.string k) false).run Tryz.prog w = .ok (atK F val k) w := by
  have hz : ∀ w : World, (zeroValue 47).run Tryz.prog w = .ok (.slice none 0 0) w := Tryz.zeroValue47
  cases mo with
  | none =>
    have h0 : F k = [] := by
      by_cases e : F k = []
      · exact e
      · have := (h.kl.2 k).2 e
        rw [h.m0 rfl] at this
        cases this
    have : atK F val k = .slice none 0 0 := by unfold atK gF; rw [if_pos h0]; rfl
    rw [this]
    exact Maps.look_nil false keyed_text Tryz.underlying66 (hz w) (key_text hk)
  | some m => exact (h.mp m rfl).look Tryz.underlying66 (hz w) hk
theorem SdM.own {w : World} {S : Nat → Prop} {b : Nat} {mo : Option Nat} {n : Nat} {rv : Value} {val : ByteArray → Value} {R : List (ByteArray × ByteArray)} {L : List ByteArray} {F : Ch} (h : SdM w S b mo n rv val R L F) (k : ByteArray) :
    OwnR KW w 0 (atK F val k) (F k) ∧ Off S b mo (atK F val k) := by
  unfold atK gF
  by_cases e : F k = []
  · rw [if_pos e]
    exact ⟨row_none e, by intro g e; cases e⟩
  · rw [if_neg e]
    exact h.rows k e
theorem SdM.wrow {w : World} {S : Nat → Prop} {b : Nat} {mo : Option Nat} {n : Nat} {rv : Value} {val : ByteArray → Value} {R : List (ByteArray × ByteArray)} {L : List ByteArray} {F : Ch} (h : SdM w S b mo n rv val R L F) {k : ByteArray} {v : Value} (ho : OwnR KW w 0 v (F k)) : WRow w v (F k) :=
  WRow.of_own ho (fun x hx => (h.vb k x hx).1)
end Go.Proofs.YtjfmgplhcinkfaaGreat
/- Contracts of the library's own functions at this program, laid by the kit's own tool. -/
namespace Go.Proofs
open Go.Shelf
def Tryz.growV_ren : Go.Shelf.Ren := ⟨fun | 4 => 78 | n => n, fun | 22 => 47 | 25 => 36 | 3 => 3 | 4 => 4 | 9 => 9 | 20 => 20 | 0 => 0 | n => n, fun | n => n⟩
theorem Tryz.growV : Go.Proofs.Lays8.n4 Tryz.prog Tryz.growV_ren := {
  mixed := by kernel_rfl
  f4 := ⟨Tryz.f78.name, by decide, Tryz.func78.trans (congrArg some (by kernel_rfl))⟩
  t0 := Tryz.underlying0
  a0 := Tryz.isAgg0
  z0 := Tryz.sizeOf0
  v0 := Tryz.zeroValue0
  t3 := Tryz.underlying3
  a3 := Tryz.isAgg3
  z3 := Tryz.sizeOf3
  v3 := Tryz.zeroValue3
  t4 := Tryz.underlying4
  a4 := Tryz.isAgg4
  z4 := Tryz.sizeOf4
  v4 := Tryz.zeroValue4
  t9 := Tryz.underlying9
  a9 := Tryz.isAgg9
  z9 := Tryz.sizeOf9
  v9 := Tryz.zeroValue9
  t20 := Tryz.underlying20
  a20 := Tryz.isAgg20
  z20 := Tryz.sizeOf20
  v20 := Tryz.zeroValue20
  t22 := Tryz.underlying47
  a22 := Tryz.isAgg47
  z22 := Tryz.sizeOf47
  v22 := Tryz.zeroValue47 }
def Tryz.keysM_ren : Go.Shelf.Ren := ⟨fun | 7 => 46 | 10 => 63 | n => n, fun | 23 => 66 | 26 => 9 | 3 => 47 | 28 => 85 | 0 => 0 | 27 => 84 | 33 => 78 | 4 => 4 | n => n, fun | n => n⟩
theorem Tryz.keysM : Go.Proofs.SlLaysZ.n7 Tryz.prog Tryz.keysM_ren := {
  mixed := by kernel_rfl
  f7 := ⟨Tryz.f46.name, by decide, Tryz.func46.trans (congrArg some (by kernel_rfl))⟩
  f10 := ⟨Tryz.f63.name, by decide, Tryz.func63.trans (congrArg some (by kernel_rfl))⟩
  t0 := Tryz.underlying0
  a0 := Tryz.isAgg0
  z0 := Tryz.sizeOf0
  v0 := Tryz.zeroValue0
  t4 := Tryz.underlying4
  a4 := Tryz.isAgg4
  z4 := Tryz.sizeOf4
  v4 := Tryz.zeroValue4
  t23 := Tryz.underlying66
  a23 := Tryz.isAgg66
  z23 := Tryz.sizeOf66
  v23 := Tryz.zeroValue66
  t26 := Tryz.underlying9
  a26 := Tryz.isAgg9
  z26 := Tryz.sizeOf9
  v26 := Tryz.zeroValue9
  t27 := Tryz.underlying84
  a27 := Tryz.isAgg84
  z27 := Tryz.sizeOf84
  v27 := Tryz.zeroValue84
  t28 := Tryz.underlying85
  a28 := Tryz.isAgg85
  z28 := Tryz.sizeOf85
  v28 := Tryz.zeroValue85
  t33 := Tryz.underlying78
  a33 := Tryz.isAgg78
  z33 := Tryz.sizeOf78
  v33 := Tryz.zeroValue78 }
def Tryz.sortedM_ren : Go.Shelf.Ren := ⟨fun | 6 => 45 | 8 => 61 | 9 => 62 | 11 => 82 | 13 => 84 | 12 => 83 | 23 => 101 | 24 => 102 | 14 => 92 | 15 => 93 | 16 => 94 | 17 => 95 | 18 => 96 | 19 => 97 | 20 => 98 | 21 => 99 | 22 => 100 | 25 => 107 | 26 => 108 | 27 => 109 | 28 => 110 | 29 => 111 | 30 => 112 | 31 => 114 | n => n, fun | 26 => 9 | 28 => 85 | 24 => 57 | 0 => 0 | 3 => 3 | 37 => 110 | 48 => 126 | 50 => 128 | 4 => 4 | 40 => 118 | 39 => 117 | 45 => 123 | 5 => 5 | 9 => 9 | 51 => 131 | 55 => 135 | 57 => 137 | 58 => 138 | 33 => 78 | n => n, fun | n => n⟩
theorem Tryz.sortedM : Go.Proofs.SlLaysZ.n6 Tryz.prog Tryz.sortedM_ren := {
  mixed := by kernel_rfl
  f6 := ⟨Tryz.f45.name, by decide, Tryz.func45.trans (congrArg some (by kernel_rfl))⟩
  f8 := ⟨Tryz.f61.name, by decide, Tryz.func61.trans (congrArg some (by kernel_rfl))⟩
  f11 := ⟨Tryz.f82.name, by decide, Tryz.func82.trans (congrArg some (by kernel_rfl))⟩
  t0 := Tryz.underlying0
  a0 := Tryz.isAgg0
  z0 := Tryz.sizeOf0
  v0 := Tryz.zeroValue0
  t24 := Tryz.underlying57
  a24 := Tryz.isAgg57
  z24 := Tryz.sizeOf57
  v24 := Tryz.zeroValue57
  t26 := Tryz.underlying9
  a26 := Tryz.isAgg9
  z26 := Tryz.sizeOf9
  v26 := Tryz.zeroValue9
  t28 := Tryz.underlying85
  a28 := Tryz.isAgg85
  z28 := Tryz.sizeOf85
  v28 := Tryz.zeroValue85
  i26 := by kernel_rfl }
def Tryz.sortM_ren : Go.Shelf.Ren := ⟨fun | 6 => 62 | 8 => 84 | 9 => 83 | 19 => 101 | 20 => 102 | 21 => 92 | 22 => 93 | 23 => 94 | 24 => 95 | 25 => 96 | 26 => 97 | 27 => 98 | 28 => 99 | 29 => 100 | 36 => 107 | 31 => 108 | 32 => 109 | 37 => 110 | 38 => 111 | 39 => 112 | 41 => 114 | n => n, fun | 27 => 57 | 29 => 9 | 3 => 3 | 32 => 110 | 26 => 57 | 0 => 0 | 44 => 126 | 46 => 128 | 4 => 4 | 36 => 118 | 35 => 117 | 41 => 123 | 5 => 5 | 9 => 9 | 53 => 131 | 57 => 135 | 63 => 137 | 64 => 138 | n => n, fun | n => n⟩
theorem Tryz.sortM : Go.Proofs.SlLaysM.n6 Tryz.prog Tryz.sortM_ren := {
  mixed := by kernel_rfl
  f6 := ⟨Tryz.f62.name, by decide, Tryz.func62.trans (congrArg some (by kernel_rfl))⟩
  f8 := Tryz.func84.trans (congrArg some (by kernel_rfl))
  f9 := ⟨Tryz.f83.name, by decide, Tryz.func83.trans (congrArg some (by kernel_rfl))⟩
  f19 := Tryz.func101.trans (congrArg some (by kernel_rfl))
  f20 := Tryz.func102.trans (congrArg some (by kernel_rfl))
  f21 := ⟨Tryz.f92.name, by decide, Tryz.func92.trans (congrArg some (by kernel_rfl))⟩
  f22 := ⟨Tryz.f93.name, by decide, Tryz.func93.trans (congrArg some (by kernel_rfl))⟩
  f23 := ⟨Tryz.f94.name, by decide, Tryz.func94.trans (congrArg some (by kernel_rfl))⟩
  f24 := ⟨Tryz.f95.name, by decide, Tryz.func95.trans (congrArg some (by kernel_rfl))⟩
  f25 := ⟨Tryz.f96.name, by decide, Tryz.func96.trans (congrArg some (by kernel_rfl))⟩
  f26 := ⟨Tryz.f97.name, by decide, Tryz.func97.trans (congrArg some (by kernel_rfl))⟩
  f27 := ⟨Tryz.f98.name, by decide, Tryz.func98.trans (congrArg some (by kernel_rfl))⟩
  f28 := ⟨Tryz.f99.name, by decide, Tryz.func99.trans (congrArg some (by kernel_rfl))⟩
  f29 := ⟨Tryz.f100.name, by decide, Tryz.func100.trans (congrArg some (by kernel_rfl))⟩
  f31 := Tryz.func108.trans (congrArg some (by kernel_rfl))
  f32 := Tryz.func109.trans (congrArg some (by kernel_rfl))
  f36 := ⟨Tryz.f107.name, by decide, Tryz.func107.trans (congrArg some (by kernel_rfl))⟩
  f37 := ⟨Tryz.f110.name, by decide, Tryz.func110.trans (congrArg some (by kernel_rfl))⟩
  f38 := ⟨Tryz.f111.name, by decide, Tryz.func111.trans (congrArg some (by kernel_rfl))⟩
  f39 := ⟨Tryz.f112.name, by decide, Tryz.func112.trans (congrArg some (by kernel_rfl))⟩
  f41 := ⟨Tryz.f114.name, by decide, Tryz.func114.trans (congrArg some (by kernel_rfl))⟩
  t0 := Tryz.underlying0
  a0 := Tryz.isAgg0
  z0 := Tryz.sizeOf0
  v0 := Tryz.zeroValue0
  t3 := Tryz.underlying3
  a3 := Tryz.isAgg3
  z3 := Tryz.sizeOf3
  v3 := Tryz.zeroValue3
  t4 := Tryz.underlying4
  a4 := Tryz.isAgg4
  z4 := Tryz.sizeOf4
  v4 := Tryz.zeroValue4
  t5 := Tryz.underlying5
  a5 := Tryz.isAgg5
  z5 := Tryz.sizeOf5
  v5 := Tryz.zeroValue5
  t9 := Tryz.underlying9
  a9 := Tryz.isAgg9
  z9 := Tryz.sizeOf9
  v9 := Tryz.zeroValue9
  t26 := Tryz.underlying57
  a26 := Tryz.isAgg57
  z26 := Tryz.sizeOf57
  v26 := Tryz.zeroValue57
  t27 := Tryz.underlying57
  a27 := Tryz.isAgg57
  z27 := Tryz.sizeOf57
  v27 := Tryz.zeroValue57
  t29 := Tryz.underlying9
  a29 := Tryz.isAgg9
  z29 := Tryz.sizeOf9
  v29 := Tryz.zeroValue9
  t32 := Tryz.underlying110
  a32 := Tryz.isAgg110
  z32 := Tryz.sizeOf110
  v32 := Tryz.zeroValue110
  t35 := Tryz.underlying117
  a35 := Tryz.isAgg117
  z35 := Tryz.sizeOf117
  v35 := Tryz.zeroValue117
  t36 := Tryz.underlying118
  a36 := Tryz.isAgg118
  z36 := Tryz.sizeOf118
  v36 := Tryz.zeroValue118
  t41 := Tryz.underlying123
  a41 := Tryz.isAgg123
  z41 := Tryz.sizeOf123
  v41 := Tryz.zeroValue123
  t44 := Tryz.underlying126
  a44 := Tryz.isAgg126
  z44 := Tryz.sizeOf126
  v44 := Tryz.zeroValue126
  t46 := Tryz.underlying128
  a46 := Tryz.isAgg128
  z46 := Tryz.sizeOf128
  v46 := Tryz.zeroValue128
  t53 := Tryz.underlying131
  a53 := Tryz.isAgg131
  z53 := Tryz.sizeOf131
  v53 := Tryz.zeroValue131
  t57 := Tryz.underlying135
  a57 := Tryz.isAgg135
  z57 := Tryz.sizeOf135
  v57 := Tryz.zeroValue135
  t63 := Tryz.underlying137
  a63 := Tryz.isAgg137
  z63 := Tryz.sizeOf137
  v63 := Tryz.zeroValue137
  t64 := Tryz.underlying138
  a64 := Tryz.isAgg138
  z64 := Tryz.sizeOf138
  v64 := Tryz.zeroValue138 }
end Go.Proofs
/- What slices.Clone and slices.Concat answer of versions. -/
namespace Go.Proofs.YtjfmgplhcinkfaaGreat
open Go.RowKit
set_option linter.unusedVariables false
set_option linter.unusedSimpArgs false

set_option maxRecDepth 100000 in
set_option maxHeartbeats 1600000 in
theorem cloneW_any (v : Value) (l : List Vw) (w : World) (hl : l.length ≤ 100000) (hr : RowAt KW w v l) :
    Calls Tryz.prog 35 #[v] w fun e w' => ∃ v', e = .returned v' ∧ OwnR KW w' w.heap.size v' l ∧ Below w.heap.size w w' := by
  have hq : ∀ (w : World) (a : Option Addr) (n c n' c' : Nat), (binOp .eql 47 (.slice a n c) (.slice none n' c')).run Tryz.prog w = .ok (.bool a.isNone) w := fun w a n c n' c' => Lib.run_eql_slice_nil w _ _ a n c n' c' Tryz.underlying47
  have HV := Lib.hid hr
  obtain ⟨a, cap, rfl, hcap, hmx, hnil, hr⟩ := hr
  cases a with
  | none =>
    have h0 := hnil rfl
    obtain rfl : l = [] := List.length_eq_zero_iff.1 (by omega)
    clear hr hnil
    go_enter Tryz.func35, Tryz.ntmps35
    go_wp2
    go_ret
    exact ⟨_, rfl, OwnR.nil _ _ _, Below.refl _ _⟩
  | some a =>
    have ho : OwnR KW (w.alloc (.cells #[] 36)) w.heap.size (.slice (some ⟨w.heap.size, 0, none⟩) 0 0) [] := World.ownsRow_made w #[] 0 (Nat.le_refl _) (Nat.zero_le _) (by simp)
    have HO := Lib.hid ho
    have HA := Lib.hid (HV.out.below (balloc (Below.refl _ _) (.cells #[] 36)))
    clear hr ho hnil
    go_enter Tryz.func35, Tryz.ntmps35
    go_wp2_with (at_builtin; refine wp_appR kw_ok rfl _ _ rfl w.heap.size (.slice (some ⟨w.heap.size, 0, none⟩) 0 0) (.slice (some a) l.length cap) [] l rfl HO.out rfl HA.out (by simp; omega) (by simp) ?_; intro v' w1 ho1 hb1 hk1; obtain ⟨sa, sc, rfl⟩ := ho1.shape)
    go_ret
    exact ⟨_, rfl, by simpa using ho1, (balloc (Below.refl _ w) _).trans hb1⟩

/-- A row of slices in memory. -/
def RowsInW (w : World) (a : Option Addr) (vs : List Value) : Prop := ∀ i (h : i < vs.length), ∃ b off, a = some ⟨b, off, none⟩ ∧ b < w.heap.size ∧ w.cell? ⟨b, off + i, none⟩ = some vs[i]
theorem RowsInW.below {w w' : World} {a : Option Addr} {vs : List Value} (h : RowsInW w a vs) (hb : Below w.heap.size w w') : RowsInW w' a vs := by
  intro i hi
  obtain ⟨b, off, rfl, hlt, h0⟩ := h i hi
  exact ⟨b, off, rfl, by have := hb.size; omega, kcell hb hlt h0⟩
/-- They read as these pasts. -/
def RowsAtW (w : World) (a : Option Addr) (ls : List (List Vw)) : Prop := ∃ vs : List Value, vs.length = ls.length ∧ RowsInW w a vs ∧ ∀ i (h : i < vs.length) (h' : i < ls.length), RowAt KW w vs[i] ls[i]
theorem RowsAtW.below {w w' : World} {a : Option Addr} {ls : List (List Vw)} (h : RowsAtW w a ls) (hb : Below w.heap.size w w') : RowsAtW w' a ls := by
  obtain ⟨vs, h1, h2, h3⟩ := h
  exact ⟨vs, h1, h2.below hb, fun i hi hi' => (h3 i hi hi').below hb⟩
theorem RowsAtW.get {w : World} {a : Option Addr} {ls : List (List Vw)} (h : RowsAtW w a ls) (i : Nat) (hi : i < ls.length) : ∃ b off u, a = some ⟨b, off, none⟩ ∧ b < w.heap.size ∧ w.cell? ⟨b, off + i, none⟩ = some u ∧ RowAt KW w u ls[i] := by
  obtain ⟨vs, h1, h2, h3⟩ := h
  obtain ⟨b, off, e, hlt, hc⟩ := h2 i (by omega)
  exact ⟨b, off, vs[i]'(by omega), e, hlt, hc, h3 i (by omega) hi⟩
def totW (ls : List (List Vw)) : Nat := (ls.map List.length).sum
theorem totW_take (ls : List (List Vw)) (k : Nat) (h : k < ls.length) : totW (ls.take (k + 1)) = totW (ls.take k) + ls[k].length := by
  unfold totW
  rw [List.take_succ_eq_append_getElem h, List.map_append, List.sum_append, List.map_singleton, List.sum_singleton]
theorem totW_flat (ls : List (List Vw)) : ls.flatten.length = totW ls := by simp [totW, List.length_flatten]
theorem flatW_take (ls : List (List Vw)) (k : Nat) (h : k < ls.length) : (ls.take (k + 1)).flatten = (ls.take k).flatten ++ ls[k] := by
  rw [List.take_succ_eq_append_getElem h, List.flatten_append]
  simp only [List.flatten_cons, List.flatten_nil, List.append_nil]
theorem totW_mono (ls : List (List Vw)) (k : Nat) : totW (ls.take k) ≤ totW ls := by
  unfold totW
  have h : (ls.map List.length).sum = ((ls.take k).map List.length).sum + ((ls.drop k).map List.length).sum := by
    rw [← List.sum_append, ← List.map_append, List.take_append_drop]
  omega

/-- slices.Grow of nil. -/
theorem growW_any (n : Nat) (w : World) (hn : n ≤ 1000000) :
    Calls Tryz.prog 78 #[.slice none 0 0, .int .i64 n] w fun e w' => ∃ v', e = .returned v' ∧ OwnR KW w' w.heap.size v' [] ∧ Below w.heap.size w w' := by
  obtain ⟨i0, hi, hz0, hz1, hz2⟩ := info_parts kw_ok.inf
  replace hz1 : i0.size = 6 := hz1
  replace hz2 : i0.bytes = 80 := hz2
  replace hz0 : i0.zero = some (.agg #[.string ⟨#[]⟩, .string ⟨#[]⟩, .bool false, .int .i64 0, .int .i64 0, .slice none 0 0]) := hz0
  by_cases h0 : n = 0
  · subst h0
    have h := Any8.slices_Grow_room Tryz.growV none 0 0 0 w (by omega) (by omega) (by omega) (by omega)
    exact h.mono fun e w' ⟨he, hw⟩ => ⟨_, he, OwnR.nil _ _ _, by rw [hw]; exact Below.refl _ _⟩
  · have h := Any8.slices_Grow_grow Tryz.growV i0 _ hi hz0 (by rw [hz1]; omega) none 0 0 n [] w (by omega) (by omega) (by rw [hz2]; omega) (by omega) (by simp) (by simp) (by simp)
    refine h.mono fun e w' ⟨he, hw⟩ => ⟨_, he, ?_, ?_⟩
    · rw [hw]
      have hcap := grownCap_le_maxLen w (0 + n) 0 36 (by unfold maxLen; omega)
      have hge := grownCap_ge w (0 + n) 0 36
      refine ⟨rfl, .inr ⟨_, _, _, rfl, Nat.le_refl _, heap_alloc_new _ _, by simp, hcap, ?_, by simp [rV]⟩⟩
      simp only [Builtin.zeroCells, Value.cells, Array.size_append, Array.size_map, Array.size_range, List.size_toArray, List.length_nil, List.length_cons]
      have e : Go.Shelf.Ren.t Tryz.growV_ren 25 = 36 := rfl
      rw [e]
      have e6 : KW.sz = 6 := rfl
      rw [e6]
      omega
    · rw [hw]
      exact ((Below.refl _ w).drew).alloc (Nat.le_refl _) _

set_option maxRecDepth 100000 in
set_option maxHeartbeats 1600000 in
theorem concatW_any (a : Option Addr) (cap : Nat) (ls : List (List Vw)) (w : World) (hn : ls.length ≤ 1000) (ht : totW ls ≤ 1000000) (hr : RowsAtW w a ls) :
    Calls Tryz.prog 58 #[.slice a ls.length cap] w fun e w' => ∃ v', e = .returned v' ∧ OwnR KW w' w.heap.size v' ls.flatten ∧ Below w.heap.size w w' := by
  have HR := Lib.hid hr
  clear hr
  go_enter Tryz.func58, Tryz.ntmps58
  go_wp2
  go_loopw [3, 11] (fun s3 i wr => ∃ k : Nat, k ≤ ls.length ∧ i = .int .i64 k ∧ s3 = .int .i64 (totW (ls.take k)) ∧ w = wr) (fun _ i _ => ls.length - (intOf i).toNat)
  case atStart => exact ⟨0, by omega, rfl, rfl, rfl⟩
  case round =>
    obtain ⟨k, hk, rfl, rfl, rfl⟩ := hrel
    by_cases hlt : k < ls.length
    · obtain ⟨b, off, u, rfl, hbl, hc, hd⟩ := HR.out.get k hlt
      have HT := Lib.hid (totW_take ls k hlt)
      have hm1 := totW_mono ls (k + 1)
      rw [HT.out] at hm1
      generalize ls[k] = m at hd HT hm1
      obtain ⟨ma, mc, rfl, _, _, _, _⟩ := hd
      generalize htk : totW (ls.take k) = q at HT hm1
      have HQ := Lib.hid htk
      clear htk
      have hw : IntKind.i64.wrap ((q : Int) + (m.length : Int)) = (q : Int) + (m.length : Int) := IntWalk.i64_in _ (by omega)
      have hw3 : ¬ (q : Int) + (m.length : Int) < 0 := by omega
      go_wp2
      go_roundw
      case rel => exact ⟨k + 1, by omega, by go_num, by rw [HT.out]; simp, (by first | rfl | trivial)⟩
      case measure => simp [intOf]; omega
    · obtain rfl : k = ls.length := by omega
      rw [List.take_length]
      go_wp2_with fail
      refine (growW_any (totW ls) _ ht).mono ?_
      rintro e w1 ⟨v1, rfl, ho1, hb1⟩
      obtain ⟨sa, sc, rfl⟩ := ho1.shape
      have HO1 := Lib.hid ho1
      clear ho1
      go_wp2
      go_loopw [6, 27] (fun o i wr => ∃ k : Nat, k ≤ ls.length ∧ i = .int .i64 k ∧ OwnR KW wr w.heap.size o (ls.take k).flatten ∧ Below w.heap.size w wr) (fun _ i _ => ls.length - (intOf i).toNat)
      case atStart => exact ⟨0, by omega, rfl, HO1.out, hb1⟩
      case round =>
        obtain ⟨k, hk, rfl, ho, hbel⟩ := hrel
        obtain ⟨va, vc, rfl⟩ := ho.shape
        have HO := Lib.hid ho
        clear ho
        by_cases hlt : k < ls.length
        · obtain ⟨b, off, u, rfl, hbl, hc, hd⟩ := (HR.out.below hbel).get k hlt
          have HF := Lib.hid (flatW_take ls k hlt)
          have hm1 := totW_mono ls (k + 1)
          rw [← totW_flat, HF.out, List.length_append] at hm1
          generalize ls[k] = m at hd HF hm1
          obtain ⟨ma, mc, rfl, _, _, _, _⟩ := id hd
          have HD := Lib.hid hd
          have hbs : w.heap.size ≤ wr.heap.size := hbel.size
          clear hd
          go_wp2_with (at_builtin; refine wp_appR kw_ok rfl _ _ rfl w.heap.size (.slice va (ls.take k).flatten.length vc) (.slice ma m.length mc) (ls.take k).flatten m rfl HO.out rfl HD.out (by omega) hbs ?_; intro v' w2 ho2 hb2 hk2; obtain ⟨sa2, sc2, rfl⟩ := ho2.shape)
          go_roundw
          case rel => exact ⟨k + 1, by omega, by go_num, by rw [HF.out]; simpa using ho2, hbel.trans hb2⟩
          case measure => simp [intOf]; omega
        · obtain rfl : k = ls.length := by omega
          go_wp2
          go_ret
          exact ⟨.slice va (List.take ls.length ls).flatten.length vc, rfl, by have h := HO.out; rw [List.take_length] at h ⊢; exact h, hbel⟩
end Go.Proofs.YtjfmgplhcinkfaaGreat
