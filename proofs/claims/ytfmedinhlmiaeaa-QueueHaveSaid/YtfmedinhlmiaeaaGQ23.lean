/- Texts of this proof, one behind the other: QuLaw, DepNew, QuAwake. -/
import Derived.Test.YtfmedinhlmiaeaaGQ22
import Derived.Lib.ConvBytes
import Derived.Laws.IdiomStrings
import Derived.Lib.SlBytesRow
import Derived.Lib.RabinKarpLaws
/- What the laws' own helpers answer: word, ver, ranges. -/
namespace Go.Proofs.Ytfmedinhlmiaeaa
open Go.RowKit Go.Shelf
set_option linter.unusedVariables false
set_option linter.unusedSimpArgs false

theorem and_pow (n : Int) (k : Nat) (c : Int) (hc : (BitVec.ofInt 64 c).toNat = 2 ^ k - 1) (hk : k ≤ 10) : bits .and .i64 n c = n % (2 ^ k : Nat) := by
  have e : bits .and .i64 n c = IntKind.i64.wrap ((BitVec.ofInt 64 n &&& BitVec.ofInt 64 c).toNat : Nat) := rfl
  have h : (BitVec.ofInt 64 n).toNat = _ := BitVec.toNat_ofInt n
  have l : (BitVec.ofInt 64 n &&& BitVec.ofInt 64 c).toNat = (BitVec.ofInt 64 n).toNat % 2 ^ k := by
    rw [BitVec.toNat_and, hc, Nat.and_two_pow_sub_one_eq_mod]
  rw [e, l, IntKind.wrap_i64]
  rcases (show k = 0 ∨ k = 1 ∨ k = 2 ∨ k = 3 ∨ k = 4 ∨ k = 5 ∨ k = 6 ∨ k = 7 ∨ k = 8 ∨ k = 9 ∨ k = 10 by omega) with rfl | rfl | rfl | rfl | rfl | rfl | rfl | rfl | rfl | rfl | rfl <;> simp <;> omega
theorem and3S (n : Int) : bits .and .i64 n 3 = n % 4 := and_pow n 2 3 (by decide) (by omega)
theorem and7S (n : Int) : bits .and .i64 n 7 = n % 8 := and_pow n 3 7 (by decide) (by omega)
theorem and15S (n : Int) : bits .and .i64 n 15 = n % 16 := and_pow n 4 15 (by decide) (by omega)
theorem and31S (n : Int) : bits .and .i64 n 31 = n % 32 := and_pow n 5 31 (by decide) (by omega)

theorem kconv14 (w : World) (b off : Nat) (c : UInt8) (x : Int) (hx : x = (c.toNat : Int)) (h : w.cell? ⟨b, off, none⟩ = some (.int .u8 x)) :
    (convert 82 9 (.slice (some ⟨b, off, none⟩) 1 1)).run Try.prog w = .ok (.string ⟨#[c]⟩) w := by
  subst hx
  exact run_convert_bytes_back (P := Try.prog) w 82 9 5 ⟨b, off, none⟩ 1 [c] Try.underlying82 Try.underlying5 Try.underlying9 (by
    intro j hj
    obtain rfl : j = 0 := by simpa using hj
    rw [Addr.add_lit]
    simp [h])

/-- A letter. -/
def lett (q : Nat) : ByteArray := ⟨#[UInt8.ofNat (97 + q)]⟩
/-- A key by a number. -/
def wordK (n : Int) : ByteArray := lett (3 * (n % 8).toNat)
theorem lett_size (q : Nat) : (lett q).size = 1 := rfl
theorem wordK_size (n : Int) : (wordK n).size = 1 := rfl

set_option maxRecDepth 100000 in
set_option maxHeartbeats 800000 in
theorem word14_any (n : Int) (w : World) :
    Calls Try.prog 32 #[.int .i64 n] w fun e w' => e = .returned (.string (wordK n)) ∧ Below w.heap.size w w' := by
  obtain ⟨q, hq, hq8⟩ : ∃ q : Nat, n % 8 = (q : Int) ∧ q < 8 := ⟨(n % 8).toNat, by omega, by omega⟩
  have hb : bits .and .i64 n 7 = (q : Int) := by rw [and7S, hq]
  have hwd : wordK n = ⟨#[UInt8.ofNat (97 + 3 * q)]⟩ := by
    unfold wordK lett
    rw [hq]
    rfl
  rw [hwd]
  have hw1 : IntKind.i64.wrap (3 * (q : Int)) = 3 * (q : Int) := IntWalk.i64_in _ (by omega)
  have hw2 : IntKind.i64.wrap (97 + 3 * (q : Int)) = 97 + 3 * (q : Int) := IntWalk.i64_in _ (by omega)
  have hw3 : IntKind.u8.wrap (97 + 3 * (q : Int)) = 97 + 3 * (q : Int) := IntWalk.u8_in _ (by omega)
  obtain ⟨c, hc⟩ : ∃ c : UInt8, c.toNat = 97 + 3 * q ∧ UInt8.ofNat (97 + 3 * q) = c := ⟨UInt8.ofNat (97 + 3 * q), by rw [UInt8.toNat_ofNat']; omega, rfl⟩
  rw [hc.2]
  have hcv : ∀ (w' : World) (b off : Nat), w'.cell? ⟨b, off, none⟩ = some (.int .u8 (97 + 3 * (q : Int))) → _ := fun w' b off h => kconv14 w' b off c _ (by have := hc.1; omega) h
  have HC := Lib.hid hc
  have HQ := Lib.hid hq8
  clear hc hwd hq hq8
  go_enter Try.func32, Try.ntmps32
  go_wp2
  go_ret
  exact ⟨rfl, balloc (Below.refl _ w) _⟩

/-- A version of a key, of a number, with a past. -/
def verQ (k : ByteArray) (n : Int) (p : List De) (a : Option Addr) (c : Nat) : Vw := (⟨k, ⟨#[]⟩, false, (n, 0), p⟩, a, c)
set_option maxRecDepth 100000 in
theorem ver14_any (k : ByteArray) (n : Int) (p : List De) (a : Option Addr) (c : Nat) (w : World) :
    Calls Try.prog 31 #[.string k, .int .i64 n, .slice a p.length c] w fun e w' => e = .returned (wV (verQ k n p a c)) ∧ Below w.heap.size w w' := by
  unfold verQ
  dsimp only [wV, wcs, wvs, pw]
  go_enter Try.func31, Try.ntmps31
  go_wp2
  refine bodyPost_ret (v := .agg #[.string k, .string ⟨#[]⟩, .bool false, .int .i64 n, .int .i64 0, .slice a p.length c]) (by simp [results, Try.results31, go_sem]) rfl ⟨rfl, balloc (Below.refl _ w) _⟩

theorem own_litS {α : Type} {K : RK α} (hK : K.Ok) (w : World) (base n : Nat) (l : List α) (cs : Array Value) (hcs : cs.toList = rV K l) (hn : l.length = n) (hb : base ≤ w.heap.size) (hm : n ≤ 1000) : OwnR K (w.alloc (.cells cs K.T)) base (.slice (some ⟨w.heap.size, 0, none⟩) n n) l := by
  have hl : (rV K l).length = l.length * K.sz := rV_len hK l
  have hcz : cs.size = n * K.sz := by rw [← hn, ← hl, ← hcs]; simp
  refine ⟨hl, .inr ⟨w.heap.size, n, cs, by rw [hn], hb, heap_alloc_new _ _, by omega, by unfold maxLen; omega, hcz, ?_⟩⟩
  rw [hcs, List.take_of_length_le (by rw [hl]; exact Nat.le_refl _)]
/-- Ranges by a number. -/
def rngsOf (n : Int) : List (ByteArray × ByteArray) :=
  if n % 4 = 0 then [(⟨#[]⟩, ⟨#[]⟩)] else if n % 4 = 1 then [(⟨#[]⟩, ⟨#[106]⟩)] else if n % 4 = 2 then [(⟨#[100]⟩, ⟨#[109]⟩), (⟨#[115]⟩, ⟨#[]⟩)] else []
theorem rngsOf_len (n : Int) : (rngsOf n).length ≤ 2 := by
  unfold rngsOf
  by_cases h0 : n % 4 = 0
  · rw [if_pos h0]; simp
  · rw [if_neg h0]
    by_cases h1 : n % 4 = 1
    · rw [if_pos h1]; simp
    · rw [if_neg h1]
      by_cases h2 : n % 4 = 2
      · rw [if_pos h2]; simp
      · rw [if_neg h2]; simp
set_option maxRecDepth 100000 in
set_option maxHeartbeats 800000 in
theorem ranges14_any (n : Int) (w : World) :
    Calls Try.prog 12 #[.int .i64 n] w fun e w' => ∃ v, e = .returned v ∧ OwnR KR w' w.heap.size v (rngsOf n) ∧ Below w.heap.size w w' := by
  obtain ⟨q, hq, hq4⟩ : ∃ q : Nat, n % 4 = (q : Int) ∧ q < 4 := ⟨(n % 4).toNat, by omega, by omega⟩
  have hb : bits .and .i64 n 3 = (q : Int) := by rw [and3S, hq]
  unfold rngsOf
  rw [hq]
  clear hq
  rcases (show q = 0 ∨ q = 1 ∨ q = 2 ∨ q = 3 by omega) with rfl | rfl | rfl | rfl
  · have ho := own_litS kr_ok w w.heap.size 1 [(⟨#[]⟩, ⟨#[]⟩)] #[.string ⟨#[]⟩, .string ⟨#[]⟩] rfl rfl (Nat.le_refl _) (by omega)
    have HO := Lib.hid ho
    clear ho hq4
    go_enter Try.func12, Try.ntmps12
    go_wp2
    go_ret
    exact ⟨_, rfl, HO.out, balloc (Below.refl _ w) _⟩
  · have ho := own_litS kr_ok w w.heap.size 1 [(⟨#[]⟩, ⟨#[106]⟩)] #[.string ⟨#[]⟩, .string ⟨#[106]⟩] rfl rfl (Nat.le_refl _) (by omega)
    have HO := Lib.hid ho
    clear ho hq4
    go_enter Try.func12, Try.ntmps12
    go_wp2
    go_ret
    exact ⟨_, rfl, HO.out, balloc (Below.refl _ w) _⟩
  · have ho := own_litS kr_ok w w.heap.size 2 [(⟨#[100]⟩, ⟨#[109]⟩), (⟨#[115]⟩, ⟨#[]⟩)] #[.string ⟨#[100]⟩, .string ⟨#[109]⟩, .string ⟨#[115]⟩, .string ⟨#[]⟩] rfl rfl (Nat.le_refl _) (by omega)
    have HO := Lib.hid ho
    clear ho hq4
    go_enter Try.func12, Try.ntmps12
    go_wp2
    go_ret
    exact ⟨_, rfl, HO.out, balloc (Below.refl _ w) _⟩
  · clear hq4
    go_enter Try.func12, Try.ntmps12
    go_wp2
    go_ret
    exact ⟨_, rfl, OwnR.nil _ _ _, Below.refl _ _⟩
end Go.Proofs.Ytfmedinhlmiaeaa
/- A row of dependencies that was just laid. -/
namespace Go.Proofs.Ytfmedinhlmiaeaa
open Go.RowKit
set_option linter.unusedVariables false

/-- A row that was just laid. -/
theorem DepAt.new (w : World) (l : List De) (T : TypeId) (hl : l.length ≤ 1000000) : DepAt (w.alloc (.cells (dV l).toArray T)) (.slice (some ⟨w.heap.size, 0, none⟩) l.length l.length) l := by
  refine ⟨_, _, rfl, Nat.le_refl _, by unfold maxLen; omega, by simp, fun i hi => ?_⟩
  have hc : ∀ j, (w.alloc (.cells (dV l).toArray T)).cell? ⟨w.heap.size, j, none⟩ = (dV l)[j]? := by
    intro j
    rw [Lib.cell_of_heap (heap_alloc_new w _)]
    simp
  obtain ⟨k0, k1, k2⟩ := dV_get l i hi
  refine ⟨w.heap.size, 0, rfl, by simp, ?_, ?_, ?_⟩
  · rw [hc, Nat.zero_add]; exact k0
  · rw [hc, Nat.zero_add]; exact k1
  · rw [hc, Nat.zero_add]; exact k2
end Go.Proofs.Ytfmedinhlmiaeaa
/- The chapter's example, in archipelagolaw14's own words. -/
namespace Go.Proofs.Ytfmedinhlmiaeaa
open Go.RowKit Go.Shelf
set_option linter.unusedVariables false
set_option linter.unusedSimpArgs false

abbrev exR : List (ByteArray × ByteArray) := [(⟨#[]⟩, ⟨#[]⟩)]
abbrev exP : List De := [(⟨#[97]⟩, 1, 0)]
def exB (B : Nat) : Vw := verQ ⟨#[98]⟩ 2 exP (some ⟨B, 0, none⟩) 1
def exA : Vw := verQ ⟨#[97]⟩ 1 [] none 0
theorem ex_miss : (missD exR [] exP).isEmpty = false := by decide +kernel
theorem ex_have : (missD exR exP exP).isEmpty = true := by decide +kernel
theorem ex_none (hs : List De) : (missD exR hs []).isEmpty = true := rfl
theorem ex_one (B : Nat) : nxI exR [] [exB B, exA] = some 1 := by
  unfold nxI
  rw [List.findIdx?_cons, show readyB exR [] (exB B) = false from ex_miss, List.findIdx?_cons, show readyB exR [] exA = true from ex_none []]
  rfl
theorem ex_two (B : Nat) : nxI exR exP [exB B] = some 0 := by
  unfold nxI
  rw [List.findIdx?_cons, show readyB exR exP (exB B) = true from ex_have]
  rfl
theorem ex_one' (B : Nat) : nxV exR [] [exB B, exA] = exA ∧ nxL exR [] [exB B, exA] = [exB B] ∧ (nxI exR [] [exB B, exA]).isSome = true := by
  unfold nxV nxL
  rw [ex_one]
  exact ⟨rfl, rfl, rfl⟩
theorem ex_two' (B : Nat) : nxV exR exP [exB B] = exB B ∧ nxL exR exP [exB B] = [] ∧ (nxI exR exP [exB B]).isSome = true := by
  unfold nxV nxL
  rw [ex_two]
  exact ⟨rfl, rfl, rfl⟩
theorem ex_szd : Szd exP := by
  intro d hd
  simp at hd
  subst hd
  show (⟨#[97]⟩ : ByteArray).size ≤ _
  decide
theorem exA_bd (w : World) : VwB w exA := ⟨⟨by decide, by decide, by simp [exA, verQ], by intro d hd; simp [exA, verQ] at hd, DepAt.nil _⟩, by unfold In64; simp [exA, verQ]⟩
theorem exB_bd {w : World} {B : Nat} (h : DepAt w (.slice (some ⟨B, 0, none⟩) 1 1) exP) : VwB w (exB B) := ⟨⟨by show (⟨#[98]⟩ : ByteArray).size ≤ _; decide, by show (⟨#[]⟩ : ByteArray).size ≤ _; decide, by simp [exB, verQ], ex_szd, h⟩, by unfold In64; simp [exB, verQ]⟩
theorem Ctx.made {w : World} {hv : Value} {hs : List De} {a : Option Addr} {n c base : Nat} {rs : List (ByteArray × ByteArray)} (hl : hs.length ≤ 100000) (hz : Szd hs) (hd : DepAt w hv hs) (hr : rs.length ≤ 100) (ho : OwnR KR w base (.slice a n c) rs) : Ctx w hv hs a rs := ⟨hl, hz, hd, hr, (RowIn.of_own kr_ok ho).rng⟩

set_option maxRecDepth 100000 in
set_option maxHeartbeats 3200000 in
theorem awake14_any (w : World) : Calls Try.prog 9 #[] w fun e w' => e = .returned (.bool true) ∧ Below w.heap.size w w' := by
  have hvA : ∀ W : World, Calls Try.prog 31 #[.string ⟨#[97]⟩, .int .i64 1, .slice none 0 0] W fun e w' => e = .returned (.agg #[.string ⟨#[97]⟩, .string ⟨#[]⟩, .bool false, .int .i64 1, .int .i64 0, .slice none 0 0]) ∧ Below W.heap.size W w' := fun W => ver14_any ⟨#[97]⟩ 1 [] none 0 W
  have hvB : ∀ (B : Nat) (W : World), Calls Try.prog 31 #[.string ⟨#[98]⟩, .int .i64 2, .slice (some ⟨B, 0, none⟩) 1 1] W fun e w' => e = .returned (.agg #[.string ⟨#[98]⟩, .string ⟨#[]⟩, .bool false, .int .i64 2, .int .i64 0, .slice (some ⟨B, 0, none⟩) 1 1]) ∧ Below W.heap.size W w' := fun B W => ver14_any ⟨#[98]⟩ 2 exP (some ⟨B, 0, none⟩) 1 W
  go_enter Try.func9, Try.ntmps9
  go_wp2_with fail
  refine (hvA _).mono ?_
  rintro e w1 ⟨rfl, hb1⟩
  have HB1 := Lib.hid hb1
  clear hb1 hvA
  go_upto_region 2 with fail
  obtain ⟨w2, hw2⟩ : ∃ w2, w1.alloc (.cells #[.string ⟨#[97]⟩, .string ⟨#[]⟩, .bool false, .int .i64 1, .int .i64 0, .slice none 0 0] 27) = w2 := ⟨_, rfl⟩
  have HVA := Lib.hid (VwP.new w1 exA.1 (.slice none 0 0) 27)
  have HB2 := Lib.hid (bstep HB1.out (balloc (Below.refl _ w1) (.cells #[.string ⟨#[97]⟩, .string ⟨#[]⟩, .bool false, .int .i64 1, .int .i64 0, .slice none 0 0] 27)))
  obtain ⟨PA, hPA⟩ : ∃ PA, PA = w1.heap.size := ⟨_, rfl⟩
  dsimp only [wvs, exA, verQ] at HVA
  rw [hw2] at HVA HB2
  rw [← hPA] at HVA
  try rw [hw2]
  try rw [← hPA]
  clear hw2 hPA
  obtain ⟨a0, a1, a2, a3, a4, a5, _⟩ := id HVA.out
  have HD3 := Lib.hid (DepAt.new w2 exP 34 (by simp))
  have HB3 := Lib.hid (balloc (Below.refl _ w2) (.cells #[.string ⟨#[97]⟩, .int .i64 1, .int .i64 0] 34))
  go_wp2_with fail
  refine (hvB _ _).mono ?_
  rintro e w4 ⟨rfl, hb4⟩
  have HD4 : Hid (DepAt w4 (.slice (some ⟨w2.heap.size, 0, none⟩) 1 1) exP) := Lib.hid (HD3.out.below hb4)
  have HB4 := Lib.hid (bstep HB2.out (bstep HB3.out hb4))
  have HVA4 := Lib.hid (HVA.out.keep (bstep HB3.out hb4))
  clear hb4 hvB HD3 HB3 HVA HB1 a0 a1 a2 a3 a4 a5
  go_upto_region 3 with fail
  have HVB := Lib.hid (VwP.new w4 (exB w2.heap.size).1 (.slice (some ⟨w2.heap.size, 0, none⟩) 1 1) 27)
  have HB5 := Lib.hid (balloc (Below.refl _ w4) (.cells #[.string ⟨#[98]⟩, .string ⟨#[]⟩, .bool false, .int .i64 2, .int .i64 0, .slice (some ⟨w2.heap.size, 0, none⟩) 1 1] 27))
  obtain ⟨PB, hPB⟩ : ∃ PB, PB = w4.heap.size := ⟨_, rfl⟩
  obtain ⟨w5, hw5⟩ : ∃ w5, w4.alloc (.cells #[.string ⟨#[98]⟩, .string ⟨#[]⟩, .bool false, .int .i64 2, .int .i64 0, .slice (some ⟨w2.heap.size, 0, none⟩) 1 1] 27) = w5 := ⟨_, rfl⟩
  dsimp only [wvs, exB, verQ] at HVB
  rw [hw5] at HVB HB5
  rw [← hPB] at HVB
  try rw [hw5]
  try rw [← hPB]
  clear hw5 hPB
  have HD5 := Lib.hid (HD4.out.below HB5.out)
  have HVA5 := Lib.hid (HVA4.out.keep HB5.out)
  have HB05 := Lib.hid (bstep HB4.out HB5.out)
  clear HD4 HVA4 HB4 HB5
  go_upto_region 4 with fail
  have HR6 := Lib.hid (own_litS kr_ok w5 w5.heap.size 1 exR #[.string ⟨#[]⟩, .string ⟨#[]⟩] rfl rfl (Nat.le_refl _) (by omega))
  have HB6 := Lib.hid (balloc (Below.refl _ w5) (.cells #[.string ⟨#[]⟩, .string ⟨#[]⟩] 67))
  obtain ⟨PR, hPR⟩ : ∃ PR, PR = w5.heap.size := ⟨_, rfl⟩
  obtain ⟨w6, hw6⟩ : ∃ w6, w5.alloc (.cells #[.string ⟨#[]⟩, .string ⟨#[]⟩] 67) = w6 := ⟨_, rfl⟩
  change Hid (OwnR KR (w5.alloc (.cells #[.string ⟨#[]⟩, .string ⟨#[]⟩] 67)) w5.heap.size _ _) at HR6
  rw [hw6] at HR6 HB6
  rw [← hPR] at HR6
  try rw [hw6]
  try rw [← hPR]
  clear hw6 hPR
  have HD6 := Lib.hid (HD5.out.below HB6.out)
  have HVA6 := Lib.hid (HVA5.out.keep HB6.out)
  have HVB6 := Lib.hid (HVB.out.keep HB6.out)
  have HB06 := Lib.hid (bstep HB05.out HB6.out)
  clear HD5 HVA5 HVB HB05 HB6
  obtain ⟨a0, a1, a2, a3, a4, a5, _⟩ := id HVA6.out
  obtain ⟨b0, b1, b2, b3, b4, b5, _⟩ := id HVB6.out
  dsimp only at a0 a1 a2 a3 a4 b0 b1 b2 b3 b4
  have HL7 := Lib.hid (own_litS kw_ok w6 w6.heap.size 2 [exB w2.heap.size, exA] #[.string ⟨#[98]⟩, .string ⟨#[]⟩, .bool false, .int .i64 2, .int .i64 0, .slice (some ⟨w2.heap.size, 0, none⟩) 1 1, .string ⟨#[97]⟩, .string ⟨#[]⟩, .bool false, .int .i64 1, .int .i64 0, .slice none 0 0] rfl rfl (Nat.le_refl _) (by omega))
  have HB7 := Lib.hid (balloc (Below.refl _ w6) (.cells #[.string ⟨#[98]⟩, .string ⟨#[]⟩, .bool false, .int .i64 2, .int .i64 0, .slice (some ⟨w2.heap.size, 0, none⟩) 1 1, .string ⟨#[97]⟩, .string ⟨#[]⟩, .bool false, .int .i64 1, .int .i64 0, .slice none 0 0] 27))
  have hn1 := next_any (.slice (some ⟨w6.heap.size, 0, none⟩) 2 2) (.slice none 0 0) [exB w2.heap.size, exA] [] (some ⟨PR, 0, none⟩) 1 exR (w6.alloc (.cells #[.string ⟨#[98]⟩, .string ⟨#[]⟩, .bool false, .int .i64 2, .int .i64 0, .slice (some ⟨w2.heap.size, 0, none⟩) 1 1, .string ⟨#[97]⟩, .string ⟨#[]⟩, .bool false, .int .i64 1, .int .i64 0, .slice none 0 0] 27)) (by simp) (WRow.of_own HL7.out (by
    intro x hx
    simp at hx
    rcases hx with rfl | rfl
    · exact exB_bd (HD6.out.below HB7.out)
    · exact exA_bd _)) (by
    intro x hx
    simp at hx
    rcases hx with rfl | rfl <;> simp [exA, exB, verQ]) (Ctx.made (by simp) (by intro d hd; simp at hd) (DepAt.nil _) (by simp) (HR6.out.below HB7.out))
  obtain ⟨e1, e2, e3⟩ := ex_one' w2.heap.size
  rw [e1, e2, e3] at hn1
  dsimp only [exA, verQ, wV, wcs, wvs, pw, List.length_nil] at hn1
  clear e1 e2 e3
  go_wp2_with fail
  refine hn1.mono ?_
  rintro e w8 ⟨u8, rfl, ho8, hb8⟩
  obtain ⟨sa8, sc8, rfl⟩ := ho8.shape
  have HB8 := Lib.hid (bstep HB7.out hb8)
  have HO8 := Lib.hid ho8
  clear hb8 ho8 hn1 HB7 HL7 a0 a1 a2 a3 a4 a5 b0 b1 b2 b3 b4 b5
  go_upto_region 5 with fail
  have HB9 := Lib.hid (balloc (Below.refl _ w8) (.cells #[.string ⟨#[97]⟩, .string ⟨#[]⟩, .bool false, .int .i64 1, .int .i64 0, .slice none 0 0] 27))
  have HVV := Lib.hid (VwP.new w8 exA.1 (.slice none 0 0) 27)
  obtain ⟨PV, hPV⟩ : ∃ PV, PV = w8.heap.size := ⟨_, rfl⟩
  obtain ⟨w9, hw9⟩ : ∃ w9, w8.alloc (.cells #[.string ⟨#[97]⟩, .string ⟨#[]⟩, .bool false, .int .i64 1, .int .i64 0, .slice none 0 0] 27) = w9 := ⟨_, rfl⟩
  dsimp only [wvs, exA, verQ] at HVV
  rw [hw9] at HVV HB9
  rw [← hPV] at HVV
  try rw [hw9]
  try rw [← hPV]
  clear hw9 hPV
  have HB69 := Lib.hid (bstep HB8.out HB9.out)
  have HO9 := Lib.hid (HO8.out.below HB9.out)
  clear HO8 HB8 HB9
  obtain ⟨a0, a1, a2, a3, a4, a5, _⟩ := HVA6.out.keep HB69.out
  dsimp only at a0 a1 a2 a3 a4
  have HD10 := Lib.hid (DepAt.new w9 exP 34 (by simp))
  have HB10 := Lib.hid (balloc (Below.refl _ w9) (.cells #[.string ⟨#[97]⟩, .int .i64 1, .int .i64 0] 34))
  have HB610 := Lib.hid (bstep HB69.out HB10.out)
  have hn2 := next_any (.slice sa8 1 sc8) (.slice (some ⟨w9.heap.size, 0, none⟩) 1 1) [exB w2.heap.size] exP (some ⟨PR, 0, none⟩) 1 exR (w9.alloc (.cells #[.string ⟨#[97]⟩, .int .i64 1, .int .i64 0] 34)) (by simp) (WRow.of_own (HO9.out.below HB10.out) (by
    intro x hx
    simp at hx
    subst hx
    exact exB_bd (HD6.out.below HB610.out))) (by
    intro x hx
    simp at hx
    subst hx
    simp [exB, verQ]) (Ctx.made (by simp) ex_szd HD10.out (by simp) (HR6.out.below HB610.out))
  obtain ⟨e1, e2, e3⟩ := ex_two' w2.heap.size
  rw [e1, e2, e3] at hn2
  dsimp only [exB, verQ, wV, wcs, wvs, pw, List.length_nil, List.length_cons] at hn2
  clear e1 e2 e3
  go_wp2_with fail
  refine hn2.mono ?_
  rintro e w11 ⟨u11, rfl, ho11, hb11⟩
  obtain ⟨sa11, sc11, rfl⟩ := ho11.shape
  have HB611 := Lib.hid (bstep HB610.out hb11)
  have HB1011 := Lib.hid hb11
  clear hn2 ho11 hb11
  go_upto_region 6 with fail
  have HB12 := Lib.hid (balloc (Below.refl _ w11) (.cells #[.string ⟨#[98]⟩, .string ⟨#[]⟩, .bool false, .int .i64 2, .int .i64 0, .slice (some ⟨w2.heap.size, 0, none⟩) 1 1] 27))
  have HVW := Lib.hid (VwP.new w11 (exB w2.heap.size).1 (.slice (some ⟨w2.heap.size, 0, none⟩) 1 1) 27)
  obtain ⟨PW, hPW⟩ : ∃ PW, PW = w11.heap.size := ⟨_, rfl⟩
  obtain ⟨w12, hw12⟩ : ∃ w12, w11.alloc (.cells #[.string ⟨#[98]⟩, .string ⟨#[]⟩, .bool false, .int .i64 2, .int .i64 0, .slice (some ⟨w2.heap.size, 0, none⟩) 1 1] 27) = w12 := ⟨_, rfl⟩
  dsimp only [wvs, exB, verQ] at HVW
  rw [hw12] at HVW HB12
  rw [← hPW] at HVW
  try rw [hw12]
  try rw [← hPW]
  clear hw12 hPW
  have HB612 := Lib.hid (bstep HB611.out HB12.out)
  obtain ⟨b0, b1, b2, b3, b4, b5, _⟩ := HVB6.out.keep HB612.out
  obtain ⟨v0, _⟩ := HVV.out.keep (bstep (bstep HB10.out HB1011.out) HB12.out)
  obtain ⟨x0, _⟩ := id HVW.out
  dsimp only at b0 b1 b2 b3 b4 v0 x0
  have hck := qcheck_any (exB w2.heap.size).1 (.slice (some ⟨w2.heap.size, 0, none⟩) 1 1) (.slice none 0 0) [] (some ⟨PR, 0, none⟩) 1 exR w12 (exB_bd (HD6.out.below HB612.out)).1 (by simp [exB, verQ]) (Ctx.made (by simp) (by intro d hd; simp at hd) (DepAt.nil _) (by simp) (HR6.out.below HB612.out))
  rw [show (missD exR [] (exB w2.heap.size).1.past).isEmpty = false from ex_miss] at hck
  dsimp only [exB, verQ, wvs] at hck
  have HBE := Lib.hid (bstep HB06.out HB612.out)
  go_wp2_with fail
  refine hck.mono ?_
  rintro e w13 ⟨rfl, hb13⟩
  go_wp2
  go_ret
  exact ⟨rfl, bstep HBE.out hb13⟩
end Go.Proofs.Ytfmedinhlmiaeaa
