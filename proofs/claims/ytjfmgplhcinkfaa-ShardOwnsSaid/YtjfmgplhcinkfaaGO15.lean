/- Texts of this proof, one behind the other: ChKeep, Kinds, ShAt, Shelf. -/
import Derived.Test.YtjfmgplhcinkfaaGO14
import Derived.Shelf.Spec.SlicesGrow
import Derived.Shelf.SlIter.Nil
import Derived.Shelf.SortM.Plain
import Derived.Shelf.SortM.SortNone
import Derived.Test.YtjfmgplhcinkfaaProg
/- What chain.keeper answers. -/
namespace Go.Proofs.Ytjfmgplhcinkfaa
open Go.RowKit Go.Shelf Go.Maps
set_option linter.unusedVariables false
set_option linter.unusedSimpArgs false

/-- Stamps. -/
def KT : RK (Int × Int) where
  T := 29
  S := 75
  sz := 2
  bt := 16
  z := .agg #[.int .i64 0, .int .i64 0]
  enc x := [.int .i64 x.1, .int .i64 x.2]
theorem kt_ok : KT.Ok where
  len _ := rfl
  pos := by decide
  one x u hu := by
    simp [KT] at hu
    rcases hu with rfl | rfl <;> rfl
  und := Try.underlying75
  inf := by kernel_rfl
  zc := rfl
  bb := by decide
theorem RowIn.st {w : World} {a : Option Addr} {l : List (Int × Int)} (h : RowIn KT w a l) (i : Nat) (hi : i < l.length) : ∃ b off, a = some ⟨b, off, none⟩ ∧ b < w.heap.size ∧ w.cell? ⟨b, off + i * 2, none⟩ = some (.int .i64 l[i].1) ∧ w.cell? ⟨b, off + i * 2 + 1, none⟩ = some (.int .i64 l[i].2) := by
  obtain ⟨b, off, e, hlt, hc⟩ := h i hi
  exact ⟨b, off, e, hlt, hc 0 _ rfl, hc 1 _ rfl⟩
theorem Mv.of_turned {w w' : World} {b : Nat} (h : w.mapTurned w' b) : Mv (fun k => k = b) w w' := by
  have hs := turned_size h
  have hb := turned_below (base := 0) h (Nat.zero_le _) (Nat.zero_le _)
  exact ⟨hb.os, hb.tape, hb.output, by omega, fun k hk hne => turned_block h k hne⟩
/-- The map of the first pins. -/
structure PinN (w : World) (M k : Nat) (pins : List (Int × Int)) : Prop where
  m : ∃ n g, n ≤ k ∧ MapT w M n g ∧ ∀ d, In64 d → (d ∈ pins.take k → ∃ c : Nat, 0 < c ∧ c ≤ k ∧ g d = some (.int .i64 c)) ∧ (d ∉ pins.take k → g d = none)
theorem PinN.below {w w' : World} {M k : Nat} {pins : List (Int × Int)} (h : PinN w M k pins) (hb : Below w.heap.size w w') : PinN w' M k pins := by
  obtain ⟨⟨n, g, h1, h2, h3⟩⟩ := h
  exact ⟨⟨n, g, h1, h2.below hb, h3⟩⟩
theorem pinG_of {pins : List (Int × Int)} {g : Int × Int → Option Value} {k : Nat} (h : ∀ d, In64 d → (d ∈ pins.take k → ∃ c : Nat, 0 < c ∧ c ≤ k ∧ g d = some (.int .i64 c)) ∧ (d ∉ pins.take k → g d = none)) (hk : pins.length ≤ k) : PinG g pins := by
  rw [List.take_of_length_le hk] at h
  intro d hd
  refine ⟨fun hm => ?_, (h d hd).2⟩
  obtain ⟨c, h1, h2, h3⟩ := (h d hd).1 hm
  exact ⟨(c : Int), by omega, h3⟩

set_option maxRecDepth 100000 in
set_option maxHeartbeats 3200000 in
theorem keeper_any (v pv : Value) (xs : List Vw) (s : Int × Int) (pins : List (Int × Int)) (w : World) (hl : xs.length ≤ 1000000) (hp : pins.length ≤ 1000000) (hr : WRow w v xs) (hpr : RowAt KT w pv pins) (hp64 : ∀ d ∈ pins, In64 d) :
    Calls Try.prog 41 #[v, sv s, pv] w fun e w' => ∃ lb, e = .returned (.func (.func 54) #[] lb) ∧ KpAt w' lb xs s pins ∧ Below w.heap.size w w' := by
  have hmm : ∀ (n : Int) (w : World), (Instr.makeMap 92 (some (.int .i64 n))).run Try.prog w = .ok (.map (some w.heap.size)) (w.alloc (.map #[] 0)) := fun n w => by
    simp [Instr.makeMap, run_underlying Try.underlying92, asInt, asIntOf]
  have hmf : ∀ (fn : Fn) (first cap : Array Value) (w : World), (Instr.makeFunc fn first cap).run Try.prog w = .ok (.func fn first cap) w := fun _ _ _ _ => rfl
  have HR := Lib.hid hr
  have HP := Lib.hid hpr
  obtain ⟨a, cap, rfl, _, _, _⟩ := hr.shape
  obtain ⟨pa, pcap, rfl, _, _, _, _⟩ := id hpr
  have hvb : ∀ W, Below w.heap.size w W → WvB W (xs.getLast?.getD vw0).1 (pw (xs.getLast?.getD vw0)) := fun W hb => by
    cases hgl : xs.getLast? with
    | none => exact ⟨by decide, by decide, by simp [vw0, wz], (fun d hd => by simp [vw0, wz] at hd), DepAt.nil _⟩
    | some y => exact ((hr.2 y (List.mem_of_getLast? hgl)).1).below hb
  have hvb2 : ∀ W, Below w.heap.size w W → WvB W ((lastP (notA s) xs).getD vw0).1 (pw ((lastP (notA s) xs).getD vw0)) := fun W hb => by
    cases hgl : lastP (notA s) xs with
    | none => exact ⟨by decide, by decide, by simp [vw0, wz], (fun d hd => by simp [vw0, wz] at hd), DepAt.nil _⟩
    | some y => exact ((hr.2 y (lastP_some hgl).1).1).below hb
  have HVB := Lib.hid hvb
  have HVB2 := Lib.hid hvb2
  have hhd := fun W (h : Below w.heap.size w W) => chead_any (.slice a xs.length cap) xs W hl (hr.below h)
  have hbe := fun W (h : Below w.heap.size w W) => cbelow_any (.slice a xs.length cap) xs s W hl (hr.below h)
  have HKP : Hid (∀ W lb, KpAt W lb xs s pins ↔ ∃ B8 B7 B10 B9 B11 B4 M n g, lb = #[.pointer (some ⟨B8, 0, none⟩), .pointer (some ⟨B7, 0, none⟩), .pointer (some ⟨B10, 0, none⟩), .pointer (some ⟨B9, 0, none⟩), .pointer (some ⟨B11, 0, none⟩), .pointer (some ⟨B4, 0, none⟩)] ∧
    KpIn W B8 B7 B10 B9 B11 B4 M n g (xs.getLast?.getD vw0) ((lastP (notA s) xs).getD vw0) xs.getLast?.isSome (lastP (notA s) xs).isSome s ∧ PinG g pins) := Lib.hid (fun _ _ => Iff.rfl)
  generalize xs.getLast?.getD vw0 = hd at hhd HVB HKP
  generalize (lastP (notA s) xs).getD vw0 = bl at hbe HVB2 HKP
  generalize xs.getLast?.isSome = hs at hhd HKP
  generalize (lastP (notA s) xs).isSome = fs at hbe HKP
  have hb1 : Below w.heap.size w (w.alloc (.cells #[.int .i64 s.1, .int .i64 s.2] 29)) := balloc (Below.refl _ w) _
  have q0 : (w.alloc (.cells #[.int .i64 s.1, .int .i64 s.2] 29)).cell? ⟨w.heap.size, 0, none⟩ = some (.int .i64 s.1) := by simp
  have q1 : (w.alloc (.cells #[.int .i64 s.1, .int .i64 s.2] 29)).cell? ⟨w.heap.size, 1, none⟩ = some (.int .i64 s.2) := by simp
  obtain ⟨s0, s1⟩ := s
  obtain ⟨⟨key1, val1, gone1, ⟨m1, t1⟩, past1⟩, pa1, pc1⟩ := hd
  obtain ⟨⟨key2, val2, gone2, ⟨m2, t2⟩, past2⟩, pa2, pc2⟩ := bl
  dsimp only [wV, wcs, wvs, pw] at *
  clear hr hpr hvb hvb2
  go_enter Try.func41, Try.ntmps41
  go_upto_region 1 with fail
  generalize w.alloc (.cells #[.int .i64 s0, .int .i64 s1] 29) = w1 at *
  have HB1 := Lib.hid hb1
  clear hb1
  go_wp2_with fail
  refine (hhd _ HB1.out).mono ?_
  rintro e w2 ⟨rfl, hb2⟩
  have HB2 := Lib.hid (bstep HB1.out hb2)
  have q0 := kc hb2 q0
  have q1 := kc hb2 q1
  clear hb2 HB1
  go_upto_region 2 with fail
  obtain ⟨w3, hw3⟩ : ∃ w3, (w2.alloc (.cells #[.string key1, .string val1, .bool gone1, .int .i64 m1, .int .i64 t1, .slice pa1 past1.length pc1] 32)).alloc (.cells #[.bool hs] 4) = w3 := ⟨_, rfl⟩
  have hv3 : VwP w3 w2.heap.size ⟨key1, val1, gone1, (m1, t1), past1⟩ (.slice pa1 past1.length pc1) := by
    rw [← hw3]
    exact (VwP.new w2 ⟨key1, val1, gone1, (m1, t1), past1⟩ (.slice pa1 past1.length pc1) 32).keep (balloc (Below.refl _ _) _)
  have hc3 : w3.cell? ⟨w2.heap.size + 1, 0, none⟩ = some (.bool hs) := by rw [← hw3]; simp
  have hb3 : Below w2.heap.size w2 w3 := by rw [← hw3]; exact balloc (balloc (Below.refl _ w2) _) _
  try rw [hw3]
  clear hw3
  have HV3 := Lib.hid hv3
  have HC3 := Lib.hid hc3
  have HB3 := Lib.hid (bstep HB2.out hb3)
  have q0 := kc hb3 q0
  have q1 := kc hb3 q1
  clear hv3 hc3 hb3 HB2
  go_wp2_with fail
  refine (hbe _ HB3.out).mono ?_
  rintro e w4 ⟨rfl, hb4⟩
  have HV4 := Lib.hid (HV3.out.keep hb4)
  have HC4 := Lib.hid (kc hb4 HC3.out)
  have HB4 := Lib.hid (bstep HB3.out hb4)
  have q0 := kc hb4 q0
  have q1 := kc hb4 q1
  clear hb4 HV3 HC3 HB3
  go_upto_region 3 with fail
  obtain ⟨w5, hw5⟩ : ∃ w5, (w4.alloc (.cells #[.string key2, .string val2, .bool gone2, .int .i64 m2, .int .i64 t2, .slice pa2 past2.length pc2] 32)).alloc (.cells #[.bool fs] 4) = w5 := ⟨_, rfl⟩
  have hv5 : VwP w5 w4.heap.size ⟨key2, val2, gone2, (m2, t2), past2⟩ (.slice pa2 past2.length pc2) := by
    rw [← hw5]
    exact (VwP.new w4 ⟨key2, val2, gone2, (m2, t2), past2⟩ (.slice pa2 past2.length pc2) 32).keep (balloc (Below.refl _ _) _)
  have hc5 : w5.cell? ⟨w4.heap.size + 1, 0, none⟩ = some (.bool fs) := by rw [← hw5]; simp
  have hb5 : Below w4.heap.size w4 w5 := by rw [← hw5]; exact balloc (balloc (Below.refl _ w4) _) _
  try rw [hw5]
  clear hw5
  have HV5 := Lib.hid hv5
  have HC5 := Lib.hid hc5
  have HV45 := Lib.hid (HV4.out.keep hb5)
  have HC45 := Lib.hid (kc hb5 HC4.out)
  have HB5 := Lib.hid (bstep HB4.out hb5)
  have q0 := kc hb5 q0
  have q1 := kc hb5 q1
  have hz24 : w2.heap.size + 1 < w4.heap.size := lt_of_cellN HC4.out
  clear hv5 hc5 hb5 HB4 HV4 HC4
  go_upto_region 4 with fail
  obtain ⟨w7, hw7⟩ : ∃ w7, (w5.alloc (.map #[] 0)).alloc (.cells #[.map (some w5.heap.size)] 92) = w7 := ⟨_, rfl⟩
  have hm7 : PinN w7 w5.heap.size 0 pins := by
    rw [← hw7]
    exact ⟨⟨0, fun _ => none, Nat.le_refl _, (MapT.made w5).below (balloc (Below.refl _ _) _), fun d hd => ⟨fun h => by simp at h, fun _ => rfl⟩⟩⟩
  have hc7 : w7.cell? ⟨w5.heap.size + 1, 0, none⟩ = some (.map (some w5.heap.size)) := by rw [← hw7]; simp
  have hb7 : Below w5.heap.size w5 w7 := by rw [← hw7]; exact balloc (balloc (Below.refl _ w5) _) _
  have hz7 : w7.heap.size = w5.heap.size + 2 := by rw [← hw7]; simp
  try rw [hw7]
  clear hw7
  obtain ⟨M, hM⟩ : ∃ M, M = w5.heap.size := ⟨_, rfl⟩
  have hz45 : w4.heap.size + 1 < M := by rw [hM]; exact lt_of_cellN HC5.out
  have hz02 : w.heap.size < w2.heap.size := lt_of_cellN (by assumption : w2.cell? ⟨w.heap.size, 0, none⟩ = some (.int .i64 s0))
  have HM7 := Lib.hid hm7
  have HV7 := Lib.hid (HV5.out.keep hb7)
  have HC7 := Lib.hid (kc hb7 HC5.out)
  have HV47 := Lib.hid (HV45.out.keep hb7)
  have HC47 := Lib.hid (kc hb7 HC45.out)
  have HB7 := Lib.hid (bstep HB5.out hb7)
  have q0 := kc hb7 q0
  have q1 := kc hb7 q1
  rw [← hM] at HM7 hc7 hz7 ⊢
  clear hM hm7 hb7 HB5 HV5 HC5 HV45 HC45
  have hMn : M < w7.heap.size := by omega
  go_wp2
  go_loopw [30] (fun i wr => ∃ k : Nat, k ≤ pins.length ∧ i = .int .i64 k ∧ PinN wr M k pins ∧ Mv (fun b => b = M) w7 wr) (fun i _ => pins.length - (intOf i).toNat)
  case atStart => exact ⟨0, by omega, rfl, HM7.out, Mv.refl _ _⟩
  case round =>
    obtain ⟨k, hk, rfl, hm, hmv⟩ := hrel
    have hbel : Below w.heap.size w wr := HB7.out.trans (hmv.below (fun j hj e => by omega) HB7.out.size)
    have hcM : wr.cell? ⟨M + 1, 0, none⟩ = some (.map (some M)) := by rw [World.cell?_of_block (hmv.block (M + 1) (by omega) (by omega))]; exact hc7
    have HMV := Lib.hid hmv
    have HBL := Lib.hid hbel
    have HM := Lib.hid hm
    clear hmv hm
    by_cases hlt : k < pins.length
    · obtain ⟨b, off, rfl, hbl, d0, d1⟩ := (RowIn.st (w := wr) (a := pa) (l := pins) (by obtain ⟨a', c', e, _, _, _, h⟩ := HP.out.below hbel; cases e; exact h) k hlt)
      have hi64 := hp64 _ (List.getElem_mem hlt)
      have HTK : Hid (pins.take (k + 1) = pins.take k ++ [pins[k]]) := Lib.hid (List.take_succ_eq_append_getElem hlt)
      generalize pins[k] = d at d0 d1 hi64 HTK
      obtain ⟨y, z⟩ := d
      dsimp only at d0 d1
      obtain ⟨⟨n, g, hn, hmt, hgd⟩⟩ := HM.out
      have hb8 : Below wr.heap.size wr (wr.alloc (.cells #[.int .i64 y, .int .i64 z] 29)) := balloc (Below.refl _ wr) _
      have hmt8 : MapT (wr.alloc (.cells #[.int .i64 y, .int .i64 z] 29)).drew M n g := hmt.below hb8.drew
      obtain ⟨c, hcv, hck⟩ : ∃ c : Nat, (g (y, z)).getD (.int .i64 0) = .int .i64 (c : Int) ∧ c ≤ k := by
        by_cases hm : (y, z) ∈ pins.take k
        · obtain ⟨c, h1, h2, h3⟩ := (hgd _ hi64).1 hm
          exact ⟨c, by rw [h3]; rfl, h2⟩
        · exact ⟨0, by rw [(hgd _ hi64).2 hm]; rfl, by omega⟩
      obtain ⟨v0, st, W1, W2, hv0, e1, hlk, hlk1, e2, hm2, ht1, ht2⟩ := hmt8.bump Try.underlying92 (fun u => Try.zeroValue3 u) (by unfold maxLen; omega) hi64 (.int .i64 ((c : Int) + 1))
      rw [hcv] at hv0
      subst hv0
      have hnew : PinN W2 M (k + 1) pins := by
        refine ⟨⟨_, _, ?_, hm2, fun d hd => ?_⟩⟩
        · split <;> omega
        · rw [HTK.out]
          by_cases e : d = (y, z)
          · rw [if_pos e]
            exact ⟨fun _ => ⟨c + 1, by omega, by omega, by simp⟩, fun h => absurd (by rw [e]; simp) h⟩
          · rw [if_neg e]
            have hmem : d ∈ pins.take k ++ [(y, z)] ↔ d ∈ pins.take k := by simp [e]
            rw [hmem]
            refine ⟨fun h => ?_, (hgd d hd).2⟩
            obtain ⟨c', h1, h2, h3⟩ := (hgd d hd).1 h
            exact ⟨c', h1, by omega, h3⟩
      have hmv2 : Mv (fun b => b = M) w7 W2 := (HMV.out.step hb8.drew).trans (Mv.of_turned ht2)
      have HNEW := Lib.hid hnew
      have HMV2 := Lib.hid hmv2
      have hw1 : IntKind.i64.wrap ((c : Int) + 1) = (c : Int) + 1 := IntWalk.i64_in _ (by omega)
      have e2' : (Instr.entryStore 92 (.map (some M)) (.int .i64 (st : Int)) (.int .i64 ((c : Int) + 1))).run Try.prog W1 = .ok () W2 := e2
      have e1' : (Instr.mapEntry 92 (.map (some M)) (.agg #[.int .i64 y, .int .i64 z])).run Try.prog (wr.alloc (.cells #[.int .i64 y, .int .i64 z] 29)).drew = .ok (.tuple #[.int .i64 (c : Int), .int .i64 (st : Int)]) W1 := e1
      have hcM8 := kc hb8.drew hcM
      clear hnew hmv2 hm2 ht1 ht2 e1 e2 hmt8 hmt hgd hcv hn hi64
      go_upto_region 7 with fail
      go_region
      go_wp2
      go_roundw
      case rel => exact ⟨k + 1, by omega, by go_num, HNEW.out, HMV2.out⟩
      case measure => simp [intOf]; omega
    · obtain rfl : k = pins.length := by omega
      go_wp2
      go_ret
      refine ⟨_, rfl, ?_, hbel⟩
      obtain ⟨⟨n, g, h1, h2, h3⟩⟩ := HM.out
      have hcc : ∀ {b o : Nat} {u : Value}, b ≠ M → w7.cell? ⟨b, o, none⟩ = some u → wr.cell? ⟨b, o, none⟩ = some u := fun hne h => by rw [World.cell?_of_block (HMV.out.block _ (lt_of_cellN h) hne)]; exact h
      refine (HKP.out _ _).2 ⟨_, _, _, _, _, _, M, n, g, rfl, ⟨hcc (by omega) HC47.out, HV47.out.mv HMV.out (by omega), hcc (by omega) HC7.out, HV7.out.mv HMV.out (by omega), hcM, hcc (by omega) q0, hcc (by omega) q1, h2, HVB.out _ hbel, HVB2.out _ hbel⟩, pinG_of h3 (Nat.le_refl _)⟩
end Go.Proofs.Ytjfmgplhcinkfaa
/- Rows of ints, texts, ranges, uint64s: their kinds. -/
namespace Go.Proofs.Ytjfmgplhcinkfaa
open Go.RowKit
set_option linter.unusedVariables false
set_option linter.unusedSimpArgs false

def KI : RK Int where
  T := 3
  S := 65
  sz := 1
  bt := 8
  z := .int .i64 0
  enc x := [.int .i64 x]
theorem ki_ok : KI.Ok where
  len _ := rfl
  pos := by decide
  one x u hu := by simp [KI] at hu; subst hu; rfl
  und := Try.underlying65
  inf := by kernel_rfl
  zc := rfl
  bb := by decide
def KS : RK ByteArray where
  T := 9
  S := 44
  sz := 1
  bt := 16
  z := .string ⟨#[]⟩
  enc x := [.string x]
theorem ks_ok : KS.Ok where
  len _ := rfl
  pos := by decide
  one x u hu := by simp [KS] at hu; subst hu; rfl
  und := Try.underlying44
  inf := by kernel_rfl
  zc := rfl
  bb := by decide
def KR : RK (ByteArray × ByteArray) where
  T := 69
  S := 26
  sz := 2
  bt := 32
  z := .agg #[.string ⟨#[]⟩, .string ⟨#[]⟩]
  enc x := [.string x.1, .string x.2]
theorem kr_ok : KR.Ok where
  len _ := rfl
  pos := by decide
  one x u hu := by
    simp [KR] at hu
    rcases hu with rfl | rfl <;> rfl
  und := Try.underlying26
  inf := by kernel_rfl
  zc := rfl
  bb := by decide
/-- An int of a row. -/
theorem RowIn.int {w : World} {a : Option Addr} {l : List Int} (h : RowIn KI w a l) (i : Nat) (hi : i < l.length) : ∃ b off, a = some ⟨b, off, none⟩ ∧ b < w.heap.size ∧ w.cell? ⟨b, off + i, none⟩ = some (.int .i64 l[i]) := by
  obtain ⟨b, off, e, hl, hc⟩ := h i hi
  have := hc 0 _ rfl
  rw [show KI.sz = 1 from rfl, Nat.mul_one, Nat.add_zero] at this
  exact ⟨b, off, e, hl, this⟩
theorem RowIn.str {w : World} {a : Option Addr} {l : List ByteArray} (h : RowIn KS w a l) (i : Nat) (hi : i < l.length) : ∃ b off, a = some ⟨b, off, none⟩ ∧ b < w.heap.size ∧ w.cell? ⟨b, off + i, none⟩ = some (.string l[i]) := by
  obtain ⟨b, off, e, hl, hc⟩ := h i hi
  have := hc 0 _ rfl
  rw [show KS.sz = 1 from rfl, Nat.mul_one, Nat.add_zero] at this
  exact ⟨b, off, e, hl, this⟩
theorem RowIn.rng {w : World} {a : Option Addr} {l : List (ByteArray × ByteArray)} (h : RowIn KR w a l) : RngIn w a l := by
  intro i hi
  obtain ⟨b, off, e, hl, hc⟩ := h i hi
  exact ⟨b, off, e, hl, hc 0 _ rfl, hc 1 _ rfl⟩
theorem RowAt.drew {α : Type} {K : RK α} {w : World} {v : Value} {l : List α} (h : RowAt K w v l) : RowAt K w.drew v l := h
end Go.Proofs.Ytjfmgplhcinkfaa
/- A shard in memory. -/
namespace Go.Proofs.Ytjfmgplhcinkfaa
open Go.RowKit
set_option linter.unusedVariables false
set_option linter.unusedSimpArgs false

/-- Where the past of a version lies. -/
def PastIn (P : Nat → Prop) (x : Vw) : Prop := x.1.past ≠ [] → ∀ a, x.2.1 = some a → P a.block
theorem VwB.block {w w' : World} {x : Vw} (h : VwB w x) (hs : w.heap.size ≤ w'.heap.size) (hb : PastIn (fun j => w'.heap[j]? = w.heap[j]?) x) : VwB w' x := by
  obtain ⟨⟨k, v, l, z, a, c, e, h1, h2, h3, hd⟩, h64⟩ := h
  refine ⟨⟨k, v, l, z, a, c, e, h1, h2, h3, fun i hi => ?_⟩, h64⟩
  obtain ⟨b, off, rfl, hlt, c0, c1, c2⟩ := hd i hi
  have hne : x.1.past ≠ [] := fun e => by rw [e] at hi; simp at hi
  have hbb : w'.heap[b]? = w.heap[b]? := hb hne _ (by injection e)
  exact ⟨b, off, rfl, by omega, by rw [World.cell?_of_block hbb]; exact c0, by rw [World.cell?_of_block hbb]; exact c1, by rw [World.cell?_of_block hbb]; exact c2⟩
theorem VwB.pastLt {w : World} {x : Vw} (h : VwB w x) : PastIn (fun j => j < w.heap.size) x := by
  obtain ⟨⟨k, v, l, z, a, c, e, h1, h2, h3, hd⟩, h64⟩ := h
  intro hne q hq
  have hi : 0 < x.1.past.length := List.length_pos_iff.2 hne
  obtain ⟨b, off, rfl, hlt, _⟩ := hd 0 hi
  have hqa : x.2.1 = some ⟨b, off, none⟩ := by injection e
  rw [hqa] at hq
  cases hq
  exact hlt
theorem PastIn.mono {P Q : Nat → Prop} {x : Vw} (h : PastIn P x) (k : ∀ j, P j → Q j) : PastIn Q x := fun a b c => k _ (h a b c)
theorem PastIn.of_nil {P : Nat → Prop} {x : Vw} (h : x.1.past = []) : PastIn P x := fun k => absurd h k

/-- What lies at a key of a shard's map. -/
def gF (F : Ch) (val : ByteArray → Value) (k : ByteArray) : Option Value := if F k = [] then none else some (val k)
/-- A row that lies in a shard's own blocks. -/
def Off (S : Nat → Prop) (b : Nat) (mo : Option Nat) (v : Value) : Prop := ∀ g, v.ownBlock = some g → S g ∧ g ≠ b ∧ mo ≠ some g
/-- A shard: b is its block, mo its map's; S: all blocks that are its own. -/
structure SdM (w : World) (S : Nat → Prop) (b : Nat) (mo : Option Nat) (n : Nat) (rv : Value) (val : ByteArray → Value) (R : List (ByteArray × ByteArray)) (L : List ByteArray) (F : Ch) : Prop where
  lt : ∀ j, S j → j < w.heap.size
  sb : S b
  sm : ∀ m, mo = some m → S m ∧ m ≠ b
  c0 : w.cell? ⟨b, 0, none⟩ = some rv
  c1 : w.cell? ⟨b, 1, none⟩ = some (.map mo)
  fr : ∀ i, w.frozen? ⟨b, i, none⟩ = false
  rr : OwnR KR w 0 rv R
  ro : Off S b mo rv
  kl : KeyL F L
  ks : ∀ k ∈ L, k.size ≤ maxLen
  mp : ∀ m, mo = some m → MapZ w m n (gF F val)
  m0 : mo = none → L = []
  rows : ∀ k, F k ≠ [] → OwnR KW w 0 (val k) (F k) ∧ Off S b mo (val k)
  vb : ∀ k, ∀ x ∈ F k, VwB w x ∧ PastIn (fun j => ¬ S j) x
def SdAt (w : World) (S : Nat → Prop) (b : Nat) (R : List (ByteArray × ByteArray)) (L : List ByteArray) (F : Ch) : Prop := ∃ mo n rv val, SdM w S b mo n rv val R L F
theorem SdM.block {w w' : World} {S : Nat → Prop} {b : Nat} {mo : Option Nat} {n : Nat} {rv : Value} {val : ByteArray → Value} {R : List (ByteArray × ByteArray)} {L : List ByteArray} {F : Ch} (h : SdM w S b mo n rv val R L F)
    (hs : w.heap.size ≤ w'.heap.size) (hb : ∀ j, S j → w'.heap[j]? = w.heap[j]?) (hp : ∀ k, ∀ x ∈ F k, PastIn (fun j => w'.heap[j]? = w.heap[j]?) x) : SdM w' S b mo n rv val R L F :=
  ⟨fun j hj => by have := h.lt j hj; omega, h.sb, h.sm, by rw [World.cell?_of_block (hb b h.sb)]; exact h.c0, by rw [World.cell?_of_block (hb b h.sb)]; exact h.c1,
    fun i => by rw [World.frozen?_of_block (hb b h.sb)]; exact h.fr i,
    h.rr.block (fun g e => hb g (h.ro g e).1), h.ro, h.kl, h.ks, fun m e => (h.mp m e).block (hb m (h.sm m e).1), h.m0,
    fun k hk => ⟨(h.rows k hk).1.block (fun g e => hb g ((h.rows k hk).2 g e).1), (h.rows k hk).2⟩,
    fun k x hx => ⟨(h.vb k x hx).1.block hs (hp k x hx), (h.vb k x hx).2⟩⟩
theorem SdM.below {w w' : World} {S : Nat → Prop} {b : Nat} {mo : Option Nat} {n : Nat} {rv : Value} {val : ByteArray → Value} {R : List (ByteArray × ByteArray)} {L : List ByteArray} {F : Ch} (h : SdM w S b mo n rv val R L F) (hb : Below w.heap.size w w') : SdM w' S b mo n rv val R L F :=
  h.block hb.size (fun j hj => hb.block j (h.lt j hj)) (fun k x hx => (h.vb k x hx).1.pastLt.mono fun j hj => hb.block j hj)
theorem SdAt.below {w w' : World} {S : Nat → Prop} {b : Nat} {R : List (ByteArray × ByteArray)} {L : List ByteArray} {F : Ch} (h : SdAt w S b R L F) (hb : Below w.heap.size w w') : SdAt w' S b R L F := by
  obtain ⟨mo, n, rv, val, h⟩ := h
  exact ⟨mo, n, rv, val, h.below hb⟩
/-- What is written elsewhere. -/
theorem SdAt.mv {P : Nat → Prop} {w w' : World} {S : Nat → Prop} {b : Nat} {R : List (ByteArray × ByteArray)} {L : List ByteArray} {F : Ch} (h : SdAt w S b R L F) (hm : Mv P w w') (hP : ∀ j, S j → ¬ P j) (hq : ∀ k, ∀ x ∈ F k, PastIn (fun j => ¬ P j) x) : SdAt w' S b R L F := by
  obtain ⟨mo, n, rv, val, h⟩ := h
  exact ⟨mo, n, rv, val, h.block hm.size (fun j hj => hm.block j (h.lt j hj) (hP j hj)) (fun k x hx he a ha => hm.block _ ((h.vb k x hx).1.pastLt he a ha) (hq k x hx he a ha))⟩
section
variable {w : World} {S : Nat → Prop} {b : Nat} {R : List (ByteArray × ByteArray)} {L : List ByteArray} {F : Ch}
theorem SdAt.lt (h : SdAt w S b R L F) : ∀ j, S j → j < w.heap.size := by
  obtain ⟨mo, n, rv, val, h⟩ := h
  exact h.lt
theorem SdAt.sb (h : SdAt w S b R L F) : S b := by
  obtain ⟨mo, n, rv, val, h⟩ := h
  exact h.sb
theorem SdAt.kl (h : SdAt w S b R L F) : KeyL F L := by
  obtain ⟨mo, n, rv, val, h⟩ := h
  exact h.kl
theorem SdAt.vb (h : SdAt w S b R L F) : ∀ k, ∀ x ∈ F k, VwB w x := by
  obtain ⟨mo, n, rv, val, h⟩ := h
  exact fun k x hx => (h.vb k x hx).1
theorem SdAt.ks (h : SdAt w S b R L F) : ∀ k ∈ L, k.size ≤ maxLen := by
  obtain ⟨mo, n, rv, val, h⟩ := h
  exact h.ks
end
theorem row_none {w : World} {xs : List Vw} (h : xs = []) : OwnR KW w 0 (.slice none 0 0) xs := by
  subst h
  exact OwnR.nil _ _ _
/-- The look-up of a key's chain. -/
def atK (F : Ch) (val : ByteArray → Value) (k : ByteArray) : Value := (gF F val k).getD (.slice none 0 0)
theorem SdM.look {w : World} {S : Nat → Prop} {b : Nat} {mo : Option Nat} {n : Nat} {rv : Value} {val : ByteArray → Value} {R : List (ByteArray × ByteArray)} {L : List ByteArray} {F : Ch} (h : SdM w S b mo n rv val R L F) {k : ByteArray} (hk : k.size ≤ maxLen) :
    (Instr.lookup 55 (.map mo) (.string k) false).run Try.prog w = .ok (atK F val k) w := by
  have hz : ∀ w : World, (zeroValue 51).run Try.prog w = .ok (.slice none 0 0) w := Try.zeroValue51
  cases mo with
  | none =>
    have h0 : F k = [] := by
      by_cases e : F k = []
      · exact e
      · have := (h.kl.2 k).2 e
        rw [h.m0 rfl] at this
        cases this
    have : atK F val k = .slice none 0 0 := by unfold atK gF; rw [if_pos h0]; rfl
    rw [this]
    exact Maps.look_nil false keyed_text Try.underlying55 (hz w) (key_text hk)
  | some m => exact (h.mp m rfl).look Try.underlying55 (hz w) hk
theorem SdM.own {w : World} {S : Nat → Prop} {b : Nat} {mo : Option Nat} {n : Nat} {rv : Value} {val : ByteArray → Value} {R : List (ByteArray × ByteArray)} {L : List ByteArray} {F : Ch} (h : SdM w S b mo n rv val R L F) (k : ByteArray) :
    OwnR KW w 0 (atK F val k) (F k) ∧ Off S b mo (atK F val k) := by
  unfold atK gF
  by_cases e : F k = []
  · rw [if_pos e]
    exact ⟨row_none e, by intro g e; cases e⟩
  · rw [if_neg e]
    exact h.rows k e
theorem SdM.wrow {w : World} {S : Nat → Prop} {b : Nat} {mo : Option Nat} {n : Nat} {rv : Value} {val : ByteArray → Value} {R : List (ByteArray × ByteArray)} {L : List ByteArray} {F : Ch} (h : SdM w S b mo n rv val R L F) {k : ByteArray} {v : Value} (ho : OwnR KW w 0 v (F k)) : WRow w v (F k) :=
  WRow.of_own ho (fun x hx => (h.vb k x hx).1)
end Go.Proofs.Ytjfmgplhcinkfaa
/- Contracts of the library's own functions at this program, laid by the kit's own tool. -/
namespace Go.Proofs
open Go.Shelf
def Try.growV_ren : Go.Shelf.Ren := ⟨fun | 4 => 66 | n => n, fun | 22 => 51 | 25 => 32 | 3 => 3 | 4 => 4 | 9 => 9 | 20 => 20 | 0 => 0 | n => n, fun | n => n⟩
theorem Try.growV : Go.Proofs.Lays8.n4 Try.prog Try.growV_ren := {
  mixed := by kernel_rfl
  f4 := ⟨Try.f66.name, by decide, Try.func66.trans (congrArg some (by kernel_rfl))⟩
  t0 := Try.underlying0
  a0 := Try.isAgg0
  z0 := Try.sizeOf0
  v0 := Try.zeroValue0
  t3 := Try.underlying3
  a3 := Try.isAgg3
  z3 := Try.sizeOf3
  v3 := Try.zeroValue3
  t4 := Try.underlying4
  a4 := Try.isAgg4
  z4 := Try.sizeOf4
  v4 := Try.zeroValue4
  t9 := Try.underlying9
  a9 := Try.isAgg9
  z9 := Try.sizeOf9
  v9 := Try.zeroValue9
  t20 := Try.underlying20
  a20 := Try.isAgg20
  z20 := Try.sizeOf20
  v20 := Try.zeroValue20
  t22 := Try.underlying51
  a22 := Try.isAgg51
  z22 := Try.sizeOf51
  v22 := Try.zeroValue51 }
def Try.keysM_ren : Go.Shelf.Ren := ⟨fun | 7 => 37 | 10 => 52 | n => n, fun | 23 => 55 | 26 => 9 | 3 => 51 | 28 => 82 | 0 => 0 | 27 => 81 | 33 => 60 | 4 => 4 | n => n, fun | n => n⟩
theorem Try.keysM : Go.Proofs.SlLaysZ.n7 Try.prog Try.keysM_ren := {
  mixed := by kernel_rfl
  f7 := ⟨Try.f37.name, by decide, Try.func37.trans (congrArg some (by kernel_rfl))⟩
  f10 := ⟨Try.f52.name, by decide, Try.func52.trans (congrArg some (by kernel_rfl))⟩
  t0 := Try.underlying0
  a0 := Try.isAgg0
  z0 := Try.sizeOf0
  v0 := Try.zeroValue0
  t4 := Try.underlying4
  a4 := Try.isAgg4
  z4 := Try.sizeOf4
  v4 := Try.zeroValue4
  t23 := Try.underlying55
  a23 := Try.isAgg55
  z23 := Try.sizeOf55
  v23 := Try.zeroValue55
  t26 := Try.underlying9
  a26 := Try.isAgg9
  z26 := Try.sizeOf9
  v26 := Try.zeroValue9
  t27 := Try.underlying81
  a27 := Try.isAgg81
  z27 := Try.sizeOf81
  v27 := Try.zeroValue81
  t28 := Try.underlying82
  a28 := Try.isAgg82
  z28 := Try.sizeOf82
  v28 := Try.zeroValue82
  t33 := Try.underlying60
  a33 := Try.isAgg60
  z33 := Try.sizeOf60
  v33 := Try.zeroValue60 }
def Try.sortedM_ren : Go.Shelf.Ren := ⟨fun | 6 => 36 | 8 => 50 | 9 => 51 | 11 => 67 | 13 => 69 | 12 => 68 | 23 => 85 | 24 => 86 | 14 => 76 | 15 => 77 | 16 => 78 | 17 => 79 | 18 => 80 | 19 => 81 | 20 => 82 | 21 => 83 | 22 => 84 | 25 => 90 | 26 => 91 | 27 => 92 | 28 => 93 | 29 => 94 | 30 => 95 | 31 => 97 | n => n, fun | 26 => 9 | 28 => 82 | 24 => 44 | 0 => 0 | 3 => 3 | 37 => 107 | 48 => 123 | 50 => 125 | 4 => 4 | 40 => 115 | 39 => 114 | 45 => 120 | 5 => 5 | 9 => 9 | 51 => 127 | 55 => 131 | 57 => 133 | 58 => 134 | 33 => 60 | n => n, fun | n => n⟩
theorem Try.sortedM : Go.Proofs.SlLaysZ.n6 Try.prog Try.sortedM_ren := {
  mixed := by kernel_rfl
  f6 := ⟨Try.f36.name, by decide, Try.func36.trans (congrArg some (by kernel_rfl))⟩
  f8 := ⟨Try.f50.name, by decide, Try.func50.trans (congrArg some (by kernel_rfl))⟩
  f11 := ⟨Try.f67.name, by decide, Try.func67.trans (congrArg some (by kernel_rfl))⟩
  t0 := Try.underlying0
  a0 := Try.isAgg0
  z0 := Try.sizeOf0
  v0 := Try.zeroValue0
  t24 := Try.underlying44
  a24 := Try.isAgg44
  z24 := Try.sizeOf44
  v24 := Try.zeroValue44
  t26 := Try.underlying9
  a26 := Try.isAgg9
  z26 := Try.sizeOf9
  v26 := Try.zeroValue9
  t28 := Try.underlying82
  a28 := Try.isAgg82
  z28 := Try.sizeOf82
  v28 := Try.zeroValue82
  i26 := by kernel_rfl }
def Try.sortM_ren : Go.Shelf.Ren := ⟨fun | 6 => 51 | 8 => 69 | 9 => 68 | 19 => 85 | 20 => 86 | 21 => 76 | 22 => 77 | 23 => 78 | 24 => 79 | 25 => 80 | 26 => 81 | 27 => 82 | 28 => 83 | 29 => 84 | 36 => 90 | 31 => 91 | 32 => 92 | 37 => 93 | 38 => 94 | 39 => 95 | 41 => 97 | n => n, fun | 27 => 44 | 29 => 9 | 3 => 3 | 32 => 107 | 26 => 44 | 0 => 0 | 44 => 123 | 46 => 125 | 4 => 4 | 36 => 115 | 35 => 114 | 41 => 120 | 5 => 5 | 9 => 9 | 53 => 127 | 57 => 131 | 63 => 133 | 64 => 134 | n => n, fun | n => n⟩
theorem Try.sortM : Go.Proofs.SlLaysM.n6 Try.prog Try.sortM_ren := {
  mixed := by kernel_rfl
  f6 := ⟨Try.f51.name, by decide, Try.func51.trans (congrArg some (by kernel_rfl))⟩
  f8 := Try.func69.trans (congrArg some (by kernel_rfl))
  f9 := ⟨Try.f68.name, by decide, Try.func68.trans (congrArg some (by kernel_rfl))⟩
  f19 := Try.func85.trans (congrArg some (by kernel_rfl))
  f20 := Try.func86.trans (congrArg some (by kernel_rfl))
  f21 := ⟨Try.f76.name, by decide, Try.func76.trans (congrArg some (by kernel_rfl))⟩
  f22 := ⟨Try.f77.name, by decide, Try.func77.trans (congrArg some (by kernel_rfl))⟩
  f23 := ⟨Try.f78.name, by decide, Try.func78.trans (congrArg some (by kernel_rfl))⟩
  f24 := ⟨Try.f79.name, by decide, Try.func79.trans (congrArg some (by kernel_rfl))⟩
  f25 := ⟨Try.f80.name, by decide, Try.func80.trans (congrArg some (by kernel_rfl))⟩
  f26 := ⟨Try.f81.name, by decide, Try.func81.trans (congrArg some (by kernel_rfl))⟩
  f27 := ⟨Try.f82.name, by decide, Try.func82.trans (congrArg some (by kernel_rfl))⟩
  f28 := ⟨Try.f83.name, by decide, Try.func83.trans (congrArg some (by kernel_rfl))⟩
  f29 := ⟨Try.f84.name, by decide, Try.func84.trans (congrArg some (by kernel_rfl))⟩
  f31 := Try.func91.trans (congrArg some (by kernel_rfl))
  f32 := Try.func92.trans (congrArg some (by kernel_rfl))
  f36 := ⟨Try.f90.name, by decide, Try.func90.trans (congrArg some (by kernel_rfl))⟩
  f37 := ⟨Try.f93.name, by decide, Try.func93.trans (congrArg some (by kernel_rfl))⟩
  f38 := ⟨Try.f94.name, by decide, Try.func94.trans (congrArg some (by kernel_rfl))⟩
  f39 := ⟨Try.f95.name, by decide, Try.func95.trans (congrArg some (by kernel_rfl))⟩
  f41 := ⟨Try.f97.name, by decide, Try.func97.trans (congrArg some (by kernel_rfl))⟩
  t0 := Try.underlying0
  a0 := Try.isAgg0
  z0 := Try.sizeOf0
  v0 := Try.zeroValue0
  t3 := Try.underlying3
  a3 := Try.isAgg3
  z3 := Try.sizeOf3
  v3 := Try.zeroValue3
  t4 := Try.underlying4
  a4 := Try.isAgg4
  z4 := Try.sizeOf4
  v4 := Try.zeroValue4
  t5 := Try.underlying5
  a5 := Try.isAgg5
  z5 := Try.sizeOf5
  v5 := Try.zeroValue5
  t9 := Try.underlying9
  a9 := Try.isAgg9
  z9 := Try.sizeOf9
  v9 := Try.zeroValue9
  t26 := Try.underlying44
  a26 := Try.isAgg44
  z26 := Try.sizeOf44
  v26 := Try.zeroValue44
  t27 := Try.underlying44
  a27 := Try.isAgg44
  z27 := Try.sizeOf44
  v27 := Try.zeroValue44
  t29 := Try.underlying9
  a29 := Try.isAgg9
  z29 := Try.sizeOf9
  v29 := Try.zeroValue9
  t32 := Try.underlying107
  a32 := Try.isAgg107
  z32 := Try.sizeOf107
  v32 := Try.zeroValue107
  t35 := Try.underlying114
  a35 := Try.isAgg114
  z35 := Try.sizeOf114
  v35 := Try.zeroValue114
  t36 := Try.underlying115
  a36 := Try.isAgg115
  z36 := Try.sizeOf115
  v36 := Try.zeroValue115
  t41 := Try.underlying120
  a41 := Try.isAgg120
  z41 := Try.sizeOf120
  v41 := Try.zeroValue120
  t44 := Try.underlying123
  a44 := Try.isAgg123
  z44 := Try.sizeOf123
  v44 := Try.zeroValue123
  t46 := Try.underlying125
  a46 := Try.isAgg125
  z46 := Try.sizeOf125
  v46 := Try.zeroValue125
  t53 := Try.underlying127
  a53 := Try.isAgg127
  z53 := Try.sizeOf127
  v53 := Try.zeroValue127
  t57 := Try.underlying131
  a57 := Try.isAgg131
  z57 := Try.sizeOf131
  v57 := Try.zeroValue131
  t63 := Try.underlying133
  a63 := Try.isAgg133
  z63 := Try.sizeOf133
  v63 := Try.zeroValue133
  t64 := Try.underlying134
  a64 := Try.isAgg134
  z64 := Try.sizeOf134
  v64 := Try.zeroValue134 }
end Go.Proofs
