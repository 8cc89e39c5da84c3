/- What the laws' own helpers answer: word, ver, ranges. -/
import Derived.Test.YtjfmgplhcinkfaaGO20
import Derived.Lib.ConvBytes
import Derived.Laws.IdiomStrings
import Derived.Lib.SlBytesRow
import Derived.Lib.RabinKarpLaws
namespace Go.Proofs.Ytjfmgplhcinkfaa
open Go.RowKit Go.Shelf
set_option linter.unusedVariables false
set_option linter.unusedSimpArgs false

theorem and_pow (n : Int) (k : Nat) (c : Int) (hc : (BitVec.ofInt 64 c).toNat = 2 ^ k - 1) (hk : k ≤ 10) : bits .and .i64 n c = n % (2 ^ k : Nat) := by
  have e : bits .and .i64 n c = IntKind.i64.wrap ((BitVec.ofInt 64 n &&& BitVec.ofInt 64 c).toNat : Nat) := rfl
  have h : (BitVec.ofInt 64 n).toNat = _ := BitVec.toNat_ofInt n
  have l : (BitVec.ofInt 64 n &&& BitVec.ofInt 64 c).toNat = (BitVec.ofInt 64 n).toNat % 2 ^ k := by
    rw [BitVec.toNat_and, hc, Nat.and_two_pow_sub_one_eq_mod]
  rw [e, l, IntKind.wrap_i64]
  rcases (show k = 0 ∨ k = 1 ∨ k = 2 ∨ k = 3 ∨ k = 4 ∨ k = 5 ∨ k = 6 ∨ k = 7 ∨ k = 8 ∨ k = 9 ∨ k = 10 by omega) with rfl | rfl | rfl | rfl | rfl | rfl | rfl | rfl | rfl | rfl | rfl <;> simp <;> omega
theorem and3S (n : Int) : bits .and .i64 n 3 = n % 4 := and_pow n 2 3 (by decide) (by omega)
theorem and7S (n : Int) : bits .and .i64 n 7 = n % 8 := and_pow n 3 7 (by decide) (by omega)
theorem and15S (n : Int) : bits .and .i64 n 15 = n % 16 := and_pow n 4 15 (by decide) (by omega)
theorem and31S (n : Int) : bits .and .i64 n 31 = n % 32 := and_pow n 5 31 (by decide) (by omega)

theorem kconv13 (w : World) (b off : Nat) (c : UInt8) (x : Int) (hx : x = (c.toNat : Int)) (h : w.cell? ⟨b, off, none⟩ = some (.int .u8 x)) :
    (convert 71 9 (.slice (some ⟨b, off, none⟩) 1 1)).run Try.prog w = .ok (.string ⟨#[c]⟩) w := by
  subst hx
  exact run_convert_bytes_back (P := Try.prog) w 71 9 5 ⟨b, off, none⟩ 1 [c] Try.underlying71 Try.underlying5 Try.underlying9 (by
    intro j hj
    obtain rfl : j = 0 := by simpa using hj
    rw [Addr.add_lit]
    simp [h])

/-- A letter. -/
def lett (q : Nat) : ByteArray := ⟨#[UInt8.ofNat (97 + q)]⟩
/-- A key by a number. -/
def wordK (n : Int) : ByteArray := lett (3 * (n % 8).toNat)
theorem lett_size (q : Nat) : (lett q).size = 1 := rfl
theorem wordK_size (n : Int) : (wordK n).size = 1 := rfl

set_option maxRecDepth 100000 in
set_option maxHeartbeats 800000 in
theorem word13_any (n : Int) (w : World) :
    Calls Try.prog 26 #[.int .i64 n] w fun e w' => e = .returned (.string (wordK n)) ∧ Below w.heap.size w w' := by
  obtain ⟨q, hq, hq8⟩ : ∃ q : Nat, n % 8 = (q : Int) ∧ q < 8 := ⟨(n % 8).toNat, by omega, by omega⟩
  have hb : bits .and .i64 n 7 = (q : Int) := by rw [and7S, hq]
  have hwd : wordK n = ⟨#[UInt8.ofNat (97 + 3 * q)]⟩ := by
    unfold wordK lett
    rw [hq]
    rfl
  rw [hwd]
  have hw1 : IntKind.i64.wrap (3 * (q : Int)) = 3 * (q : Int) := IntWalk.i64_in _ (by omega)
  have hw2 : IntKind.i64.wrap (97 + 3 * (q : Int)) = 97 + 3 * (q : Int) := IntWalk.i64_in _ (by omega)
  have hw3 : IntKind.u8.wrap (97 + 3 * (q : Int)) = 97 + 3 * (q : Int) := IntWalk.u8_in _ (by omega)
  obtain ⟨c, hc⟩ : ∃ c : UInt8, c.toNat = 97 + 3 * q ∧ UInt8.ofNat (97 + 3 * q) = c := ⟨UInt8.ofNat (97 + 3 * q), by rw [UInt8.toNat_ofNat']; omega, rfl⟩
  rw [hc.2]
  have hcv : ∀ (w' : World) (b off : Nat), w'.cell? ⟨b, off, none⟩ = some (.int .u8 (97 + 3 * (q : Int))) → _ := fun w' b off h => kconv13 w' b off c _ (by have := hc.1; omega) h
  have HC := Lib.hid hc
  have HQ := Lib.hid hq8
  clear hc hwd hq hq8
  go_enter Try.func26, Try.ntmps26
  go_wp2
  go_ret
  exact ⟨rfl, balloc (Below.refl _ w) _⟩

/-- A version of a key, of a stamp, of a value. -/
def verK (k : ByteArray) (s : Int × Int) (v : ByteArray) : Vw := (⟨k, v, false, s, []⟩, none, 0)
set_option maxRecDepth 100000 in
theorem ver13_any (k : ByteArray) (n s : Int) (w : World) :
    Calls Try.prog 24 #[.string k, .int .i64 n, .int .i64 s] w fun e w' => e = .returned (wV (verK k (n, s) ⟨#[]⟩)) ∧ Below w.heap.size w w' := by
  unfold verK
  dsimp only [wV, wcs, wvs, pw, List.length_nil]
  go_enter Try.func24, Try.ntmps24
  go_wp2
  refine bodyPost_ret (v := .agg #[.string k, .string ⟨#[]⟩, .bool false, .int .i64 n, .int .i64 s, .slice none 0 0]) (by simp [results, Try.results24, go_sem]) rfl ⟨rfl, balloc (Below.refl _ w) _⟩

theorem own_litS {α : Type} {K : RK α} (hK : K.Ok) (w : World) (base n : Nat) (l : List α) (cs : Array Value) (hcs : cs.toList = rV K l) (hn : l.length = n) (hb : base ≤ w.heap.size) (hm : n ≤ 1000) : OwnR K (w.alloc (.cells cs K.T)) base (.slice (some ⟨w.heap.size, 0, none⟩) n n) l := by
  have hl : (rV K l).length = l.length * K.sz := rV_len hK l
  have hcz : cs.size = n * K.sz := by rw [← hn, ← hl, ← hcs]; simp
  refine ⟨hl, .inr ⟨w.heap.size, n, cs, by rw [hn], hb, heap_alloc_new _ _, by omega, by unfold maxLen; omega, hcz, ?_⟩⟩
  rw [hcs, List.take_of_length_le (by rw [hl]; exact Nat.le_refl _)]
/-- Ranges by a number. -/
def rngsOf (n : Int) : List (ByteArray × ByteArray) :=
  if n % 4 = 0 then [(⟨#[]⟩, ⟨#[]⟩)] else if n % 4 = 1 then [(⟨#[]⟩, ⟨#[106]⟩)] else if n % 4 = 2 then [(⟨#[100]⟩, ⟨#[109]⟩), (⟨#[115]⟩, ⟨#[]⟩)] else []
theorem rngsOf_len (n : Int) : (rngsOf n).length ≤ 2 := by
  unfold rngsOf
  by_cases h0 : n % 4 = 0
  · rw [if_pos h0]; simp
  · rw [if_neg h0]
    by_cases h1 : n % 4 = 1
    · rw [if_pos h1]; simp
    · rw [if_neg h1]
      by_cases h2 : n % 4 = 2
      · rw [if_pos h2]; simp
      · rw [if_neg h2]; simp
set_option maxRecDepth 100000 in
set_option maxHeartbeats 800000 in
theorem ranges13_any (n : Int) (w : World) :
    Calls Try.prog 11 #[.int .i64 n] w fun e w' => ∃ v, e = .returned v ∧ OwnR KR w' w.heap.size v (rngsOf n) ∧ Below w.heap.size w w' := by
  obtain ⟨q, hq, hq4⟩ : ∃ q : Nat, n % 4 = (q : Int) ∧ q < 4 := ⟨(n % 4).toNat, by omega, by omega⟩
  have hb : bits .and .i64 n 3 = (q : Int) := by rw [and3S, hq]
  unfold rngsOf
  rw [hq]
  clear hq
  rcases (show q = 0 ∨ q = 1 ∨ q = 2 ∨ q = 3 by omega) with rfl | rfl | rfl | rfl
  · have ho := own_litS kr_ok w w.heap.size 1 [(⟨#[]⟩, ⟨#[]⟩)] #[.string ⟨#[]⟩, .string ⟨#[]⟩] rfl rfl (Nat.le_refl _) (by omega)
    have HO := Lib.hid ho
    clear ho hq4
    go_enter Try.func11, Try.ntmps11
    go_wp2
    go_ret
    exact ⟨_, rfl, HO.out, balloc (Below.refl _ w) _⟩
  · have ho := own_litS kr_ok w w.heap.size 1 [(⟨#[]⟩, ⟨#[106]⟩)] #[.string ⟨#[]⟩, .string ⟨#[106]⟩] rfl rfl (Nat.le_refl _) (by omega)
    have HO := Lib.hid ho
    clear ho hq4
    go_enter Try.func11, Try.ntmps11
    go_wp2
    go_ret
    exact ⟨_, rfl, HO.out, balloc (Below.refl _ w) _⟩
  · have ho := own_litS kr_ok w w.heap.size 2 [(⟨#[100]⟩, ⟨#[109]⟩), (⟨#[115]⟩, ⟨#[]⟩)] #[.string ⟨#[100]⟩, .string ⟨#[109]⟩, .string ⟨#[115]⟩, .string ⟨#[]⟩] rfl rfl (Nat.le_refl _) (by omega)
    have HO := Lib.hid ho
    clear ho hq4
    go_enter Try.func11, Try.ntmps11
    go_wp2
    go_ret
    exact ⟨_, rfl, HO.out, balloc (Below.refl _ w) _⟩
  · clear hq4
    go_enter Try.func11, Try.ntmps11
    go_wp2
    go_ret
    exact ⟨_, rfl, OwnR.nil _ _ _, Below.refl _ _⟩
end Go.Proofs.Ytjfmgplhcinkfaa
