/- Texts of this proof, one behind the other: ShLaw, ShVer. -/
import Derived.Test.YtjfmgplhcinkfaaGreatGP15
import Derived.Lib.ConvBytes
import Derived.Laws.IdiomStrings
import Derived.Lib.SlBytesRow
import Derived.Lib.RabinKarpLaws
import Derived.Deep.RegionHeld3
import Derived.Deep.DeepCutAuto
/- What the laws' own helpers answer: word, ver, ranges. -/
namespace Go.Proofs.YtjfmgplhcinkfaaGreat
open Go.RowKit Go.Shelf
set_option linter.unusedVariables false
set_option linter.unusedSimpArgs false

theorem and_pow (n : Int) (k : Nat) (c : Int) (hc : (BitVec.ofInt 64 c).toNat = 2 ^ k - 1) (hk : k ≤ 10) : bits .and .i64 n c = n % (2 ^ k : Nat) := by
  have e : bits .and .i64 n c = IntKind.i64.wrap ((BitVec.ofInt 64 n &&& BitVec.ofInt 64 c).toNat : Nat) := rfl
  have h : (BitVec.ofInt 64 n).toNat = _ := BitVec.toNat_ofInt n
  have l : (BitVec.ofInt 64 n &&& BitVec.ofInt 64 c).toNat = (BitVec.ofInt 64 n).toNat % 2 ^ k := by
    rw [BitVec.toNat_and, hc, Nat.and_two_pow_sub_one_eq_mod]
  rw [e, l, IntKind.wrap_i64]
  rcases (show k = 0 ∨ k = 1 ∨ k = 2 ∨ k = 3 ∨ k = 4 ∨ k = 5 ∨ k = 6 ∨ k = 7 ∨ k = 8 ∨ k = 9 ∨ k = 10 by omega) with rfl | rfl | rfl | rfl | rfl | rfl | rfl | rfl | rfl | rfl | rfl <;> simp <;> omega
theorem and3S (n : Int) : bits .and .i64 n 3 = n % 4 := and_pow n 2 3 (by decide) (by omega)
theorem and7S (n : Int) : bits .and .i64 n 7 = n % 8 := and_pow n 3 7 (by decide) (by omega)
theorem and15S (n : Int) : bits .and .i64 n 15 = n % 16 := and_pow n 4 15 (by decide) (by omega)
theorem and31S (n : Int) : bits .and .i64 n 31 = n % 32 := and_pow n 5 31 (by decide) (by omega)

theorem kconv13 (w : World) (b off : Nat) (c : UInt8) (x : Int) (hx : x = (c.toNat : Int)) (h : w.cell? ⟨b, off, none⟩ = some (.int .u8 x)) :
    (convert 70 9 (.slice (some ⟨b, off, none⟩) 1 1)).run Tryz.prog w = .ok (.string ⟨#[c]⟩) w := by
  subst hx
  exact run_convert_bytes_back (P := Tryz.prog) w 70 9 5 ⟨b, off, none⟩ 1 [c] Tryz.underlying70 Tryz.underlying5 Tryz.underlying9 (by
    intro j hj
    obtain rfl : j = 0 := by simpa using hj
    rw [Addr.add_lit]
    simp [h])

/-- A letter. -/
def lett (q : Nat) : ByteArray := ⟨#[UInt8.ofNat (97 + q)]⟩
/-- A key by a number. -/
def wordK (n : Int) : ByteArray := lett (3 * (n % 8).toNat)
theorem lett_size (q : Nat) : (lett q).size = 1 := rfl
theorem wordK_size (n : Int) : (wordK n).size = 1 := rfl

set_option maxRecDepth 100000 in
set_option maxHeartbeats 800000 in
theorem word13_any (n : Int) (w : World) :
    Calls Tryz.prog 32 #[.int .i64 n] w fun e w' => e = .returned (.string (wordK n)) ∧ Below w.heap.size w w' := by
  obtain ⟨q, hq, hq8⟩ : ∃ q : Nat, n % 8 = (q : Int) ∧ q < 8 := ⟨(n % 8).toNat, by omega, by omega⟩
  have hb : bits .and .i64 n 7 = (q : Int) := by rw [and7S, hq]
  have hwd : wordK n = ⟨#[UInt8.ofNat (97 + 3 * q)]⟩ := by
    unfold wordK lett
    rw [hq]
    rfl
  rw [hwd]
  have hw1 : IntKind.i64.wrap (3 * (q : Int)) = 3 * (q : Int) := IntWalk.i64_in _ (by omega)
  have hw2 : IntKind.i64.wrap (97 + 3 * (q : Int)) = 97 + 3 * (q : Int) := IntWalk.i64_in _ (by omega)
  have hw3 : IntKind.u8.wrap (97 + 3 * (q : Int)) = 97 + 3 * (q : Int) := IntWalk.u8_in _ (by omega)
  obtain ⟨c, hc⟩ : ∃ c : UInt8, c.toNat = 97 + 3 * q ∧ UInt8.ofNat (97 + 3 * q) = c := ⟨UInt8.ofNat (97 + 3 * q), by rw [UInt8.toNat_ofNat']; omega, rfl⟩
  rw [hc.2]
  have hcv : ∀ (w' : World) (b off : Nat), w'.cell? ⟨b, off, none⟩ = some (.int .u8 (97 + 3 * (q : Int))) → _ := fun w' b off h => kconv13 w' b off c _ (by have := hc.1; omega) h
  have HC := Lib.hid hc
  have HQ := Lib.hid hq8
  clear hc hwd hq hq8
  go_enter Tryz.func32, Tryz.ntmps32
  go_wp2
  go_ret
  exact ⟨rfl, balloc (Below.refl _ w) _⟩

/-- A version of a key, of a stamp, of a value. -/
def verK (k : ByteArray) (s : Int × Int) (v : ByteArray) : Vw := (⟨k, v, false, s, []⟩, none, 0)
set_option maxRecDepth 100000 in
theorem ver13_any (k : ByteArray) (n s : Int) (w : World) :
    Calls Tryz.prog 30 #[.string k, .int .i64 n, .int .i64 s] w fun e w' => e = .returned (wV (verK k (n, s) ⟨#[]⟩)) ∧ Below w.heap.size w w' := by
  unfold verK
  dsimp only [wV, wcs, wvs, pw, List.length_nil]
  go_enter Tryz.func30, Tryz.ntmps30
  go_wp2
  refine bodyPost_ret (v := .agg #[.string k, .string ⟨#[]⟩, .bool false, .int .i64 n, .int .i64 s, .slice none 0 0]) (by simp [results, Tryz.results30, go_sem]) rfl ⟨rfl, balloc (Below.refl _ w) _⟩

theorem own_litS {α : Type} {K : RK α} (hK : K.Ok) (w : World) (base n : Nat) (l : List α) (cs : Array Value) (hcs : cs.toList = rV K l) (hn : l.length = n) (hb : base ≤ w.heap.size) (hm : n ≤ 1000) : OwnR K (w.alloc (.cells cs K.T)) base (.slice (some ⟨w.heap.size, 0, none⟩) n n) l := by
  have hl : (rV K l).length = l.length * K.sz := rV_len hK l
  have hcz : cs.size = n * K.sz := by rw [← hn, ← hl, ← hcs]; simp
  refine ⟨hl, .inr ⟨w.heap.size, n, cs, by rw [hn], hb, heap_alloc_new _ _, by omega, by unfold maxLen; omega, hcz, ?_⟩⟩
  rw [hcs, List.take_of_length_le (by rw [hl]; exact Nat.le_refl _)]
/-- Ranges by a number. -/
def rngsOf (n : Int) : List (ByteArray × ByteArray) :=
  if n % 4 = 0 then [(⟨#[]⟩, ⟨#[]⟩)] else if n % 4 = 1 then [(⟨#[]⟩, ⟨#[106]⟩)] else if n % 4 = 2 then [(⟨#[100]⟩, ⟨#[109]⟩), (⟨#[115]⟩, ⟨#[]⟩)] else []
theorem rngsOf_len (n : Int) : (rngsOf n).length ≤ 2 := by
  unfold rngsOf
  by_cases h0 : n % 4 = 0
  · rw [if_pos h0]; simp
  · rw [if_neg h0]
    by_cases h1 : n % 4 = 1
    · rw [if_pos h1]; simp
    · rw [if_neg h1]
      by_cases h2 : n % 4 = 2
      · rw [if_pos h2]; simp
      · rw [if_neg h2]; simp
set_option maxRecDepth 100000 in
set_option maxHeartbeats 800000 in
theorem ranges13_any (n : Int) (w : World) :
    Calls Tryz.prog 6 #[.int .i64 n] w fun e w' => ∃ v, e = .returned v ∧ OwnR KR w' w.heap.size v (rngsOf n) ∧ Below w.heap.size w w' := by
  obtain ⟨q, hq, hq4⟩ : ∃ q : Nat, n % 4 = (q : Int) ∧ q < 4 := ⟨(n % 4).toNat, by omega, by omega⟩
  have hb : bits .and .i64 n 3 = (q : Int) := by rw [and3S, hq]
  unfold rngsOf
  rw [hq]
  clear hq
  rcases (show q = 0 ∨ q = 1 ∨ q = 2 ∨ q = 3 by omega) with rfl | rfl | rfl | rfl
  · have ho := own_litS kr_ok w w.heap.size 1 [(⟨#[]⟩, ⟨#[]⟩)] #[.string ⟨#[]⟩, .string ⟨#[]⟩] rfl rfl (Nat.le_refl _) (by omega)
    have HO := Lib.hid ho
    clear ho hq4
    go_enter Tryz.func6, Tryz.ntmps6
    go_wp2
    go_ret
    exact ⟨_, rfl, HO.out, balloc (Below.refl _ w) _⟩
  · have ho := own_litS kr_ok w w.heap.size 1 [(⟨#[]⟩, ⟨#[106]⟩)] #[.string ⟨#[]⟩, .string ⟨#[106]⟩] rfl rfl (Nat.le_refl _) (by omega)
    have HO := Lib.hid ho
    clear ho hq4
    go_enter Tryz.func6, Tryz.ntmps6
    go_wp2
    go_ret
    exact ⟨_, rfl, HO.out, balloc (Below.refl _ w) _⟩
  · have ho := own_litS kr_ok w w.heap.size 2 [(⟨#[100]⟩, ⟨#[109]⟩), (⟨#[115]⟩, ⟨#[]⟩)] #[.string ⟨#[100]⟩, .string ⟨#[109]⟩, .string ⟨#[115]⟩, .string ⟨#[]⟩] rfl rfl (Nat.le_refl _) (by omega)
    have HO := Lib.hid ho
    clear ho hq4
    go_enter Tryz.func6, Tryz.ntmps6
    go_wp2
    go_ret
    exact ⟨_, rfl, HO.out, balloc (Below.refl _ w) _⟩
  · clear hq4
    go_enter Tryz.func6, Tryz.ntmps6
    go_wp2
    go_ret
    exact ⟨_, rfl, OwnR.nil _ _ _, Below.refl _ _⟩
end Go.Proofs.YtjfmgplhcinkfaaGreat
/- The version that a step means. -/
namespace Go.Proofs.YtjfmgplhcinkfaaGreat
open Go.RowKit Go.Shelf
set_option linter.unusedVariables false
set_option linter.unusedSimpArgs false

def cut40 (v : ByteArray) : ByteArray := if 40 < v.size then v.extract 0 40 else v
theorem cut40_size (v : ByteArray) : (cut40 v).size ≤ 40 := by
  unfold cut40
  by_cases h : 40 < v.size
  · rw [if_pos h, ByteArray.size_extract]
    omega
  · rw [if_neg h]
    omega
def verO (o : O13) : Vw := if o.raw then (⟨o.vk, cut40 o.vv, o.vg, o.vs, []⟩, none, 0) else verK (wordK o.key) (1 + o.n % 16, o.s % 4) (lett (o.n % 16).toNat)

theorem keep13 {w w1 : World} {b : Nat} {x y z : Value} (hb : Below w.heap.size w w1) (h : w.cell? ⟨b, 1, none⟩ = some x ∧ w.cell? ⟨b, 2, none⟩ = some y ∧ w.cell? ⟨b, 3, none⟩ = some z) : w1.cell? ⟨b, 1, none⟩ = some x ∧ w1.cell? ⟨b, 2, none⟩ = some y ∧ w1.cell? ⟨b, 3, none⟩ = some z := ⟨kc hb h.1, kc hb h.2.1, kc hb h.2.2⟩
theorem alloc13 {w : World} {b : Nat} {x y z : Value} (h : w.cell? ⟨b, 1, none⟩ = some x ∧ w.cell? ⟨b, 2, none⟩ = some y ∧ w.cell? ⟨b, 3, none⟩ = some z) (o : Obj) : (w.alloc o).cell? ⟨b, 1, none⟩ = some x ∧ (w.alloc o).cell? ⟨b, 2, none⟩ = some y ∧ (w.alloc o).cell? ⟨b, 3, none⟩ = some z := keep13 (balloc (Below.refl _ w) o) h

theorem put13 {w : World} {b BB : Nat} {x y z : Value} (hne : b ≠ BB) (h : w.cell? ⟨b, 1, none⟩ = some x ∧ w.cell? ⟨b, 2, none⟩ = some y ∧ w.cell? ⟨b, 3, none⟩ = some z) (v : Wv) (u : Value) : (World.putw w BB v u).cell? ⟨b, 1, none⟩ = some x ∧ (World.putw w BB v u).cell? ⟨b, 2, none⟩ = some y ∧ (World.putw w BB v u).cell? ⟨b, 3, none⟩ = some z := by
  have hb := putw_block w BB v u b hne
  generalize World.putw w BB v u = W at hb ⊢
  exact ⟨(World.cell?_of_block hb).trans h.1, (World.cell?_of_block hb).trans h.2.1, (World.cell?_of_block hb).trans h.2.2⟩

set_option maxRecDepth 100000 in
set_option maxHeartbeats 3200000 in
theorem version13_any (o : O13) (ho : o.In) (w : World) :
    Calls Tryz.prog 7 #[.agg (cs13 o).toArray] w fun e w' => e = .returned (wV (verO o)) ∧ Below w.heap.size w w' := by
  obtain ⟨k, key, n, s, raw, vk, vv, vg, ⟨s0, s1⟩, ⟨pa, pn, pc⟩, pk, p0, p1⟩ := o
  have hvv := ho.vv
  dsimp only [cs13] at *
  obtain ⟨w1, hw1⟩ : ∃ w1, w.alloc (.cells #[.int .i64 k, .int .i64 key, .int .i64 n, .int .i64 s, .bool raw, .string vk, .string vv, .bool vg, .int .i64 s0, .int .i64 s1, .slice pa pn pc, .string pk, .int .i64 p0, .int .i64 p1] 40) = w1 := ⟨_, rfl⟩
  have hb1 : Below w.heap.size w w1 := by rw [← hw1]; exact balloc (Below.refl _ _) _
  cases raw with
  | true =>
    have hv : verO ⟨k, key, n, s, true, vk, vv, vg, (s0, s1), (pa, pn, pc), pk, (p0, p1)⟩ = (⟨vk, cut40 vv, vg, (s0, s1), []⟩, none, 0) := rfl
    rw [hv]
    unfold cut40
    dsimp only [wV, wcs, wvs, pw, List.length_nil]
    clear ho hv hb1 hw1
    unfold maxLen at hvv
    by_cases h40 : 40 < vv.size
    · rw [if_pos h40]
      have h40i : (40 : Int) < (vv.size : Int) := by omega
      go_enter Tryz.func7, Tryz.ntmps7
      go_wp2
      refine bodyPost_ret (v := .agg #[.string vk, .string (vv.extract 0 40), .bool vg, .int .i64 s0, .int .i64 s1, .slice none 0 0]) (by simp [results, Tryz.results7, go_sem]) rfl ⟨rfl, ?_⟩
      exact balloc (balloc (balloc (Below.refl _ w) _) _) _
    · rw [if_neg h40]
      have h40i : ¬ (40 : Int) < (vv.size : Int) := by omega
      go_enter Tryz.func7, Tryz.ntmps7
      go_wp2
      refine bodyPost_ret (v := .agg #[.string vk, .string vv, .bool vg, .int .i64 s0, .int .i64 s1, .slice none 0 0]) (by simp [results, Tryz.results7, go_sem]) rfl ⟨rfl, ?_⟩
      exact balloc (balloc (balloc (Below.refl _ w) _) _) _
  | false =>
    obtain ⟨q, hq, hq16⟩ : ∃ q : Nat, n % 16 = (q : Int) ∧ q < 16 := ⟨(n % 16).toNat, by omega, by omega⟩
    obtain ⟨r, hr, hr4⟩ : ∃ r : Nat, s % 4 = (r : Int) ∧ r < 4 := ⟨(s % 4).toNat, by omega, by omega⟩
    have hbq : bits .and .i64 n 15 = (q : Int) := by rw [and15S, hq]
    have hbr : bits .and .i64 s 3 = (r : Int) := by rw [and3S, hr]
    have hv : verO ⟨k, key, n, s, false, vk, vv, vg, (s0, s1), (pa, pn, pc), pk, (p0, p1)⟩ = verK (wordK key) (1 + (q : Int), (r : Int)) ⟨#[UInt8.ofNat (97 + q)]⟩ := by
      unfold verO lett
      dsimp only
      rw [if_neg (by simp), hq, hr]
      rfl
    rw [hv]
    have hw1' : IntKind.i64.wrap (97 + (q : Int)) = 97 + (q : Int) := IntWalk.i64_in _ (by omega)
    have hw2' : IntKind.u8.wrap (97 + (q : Int)) = 97 + (q : Int) := IntWalk.u8_in _ (by omega)
    have hw3' : IntKind.i64.wrap (1 + (q : Int)) = 1 + (q : Int) := IntWalk.i64_in _ (by omega)
    obtain ⟨c, hc⟩ : ∃ c : UInt8, c.toNat = 97 + q ∧ UInt8.ofNat (97 + q) = c := ⟨UInt8.ofNat (97 + q), by rw [UInt8.toNat_ofNat']; omega, rfl⟩
    rw [hc.2]
    have hcv : ∀ (w' : World) (b off : Nat), w'.cell? ⟨b, off, none⟩ = some (.int .u8 (97 + (q : Int))) → _ := fun w' b off h => kconv13 w' b off c _ (by have := hc.1; omega) h
    have HC := Lib.hid hc
    have HQ := Lib.hid hq16
    have HR := Lib.hid hr4
    obtain ⟨w2, hw2⟩ : ∃ w2, w1.alloc (.cells #[.string ⟨#[]⟩, .string ⟨#[]⟩, .bool false, .int .i64 0, .int .i64 0, .slice none 0 0] 36) = w2 := ⟨_, rfl⟩
    have hs1 : w1.heap.size = w.heap.size + 1 := by rw [← hw1]; simp
    have hbA : Below w1.heap.size w1 w2 := by rw [← hw2]; exact balloc (Below.refl _ _) _
    have e1 : w2.cell? ⟨w.heap.size, 1, none⟩ = some (.int .i64 key) := kc hbA (by rw [← hw1]; simp)
    have e2 : w2.cell? ⟨w.heap.size, 2, none⟩ = some (.int .i64 n) := kc hbA (by rw [← hw1]; simp)
    have e3 : w2.cell? ⟨w.heap.size, 3, none⟩ = some (.int .i64 s) := kc hbA (by rw [← hw1]; simp)
    have e4 : w2.cell? ⟨w.heap.size, 4, none⟩ = some (.bool false) := kc hbA (by rw [← hw1]; simp)
    have hV : VwP w2 (w.heap.size + 1) wz (.slice none 0 0) := by
      have := VwP.new w1 wz (.slice none 0 0) 36
      rw [hs1] at this
      rw [← hw2]
      exact this
    have HB2 := Lib.hid (bstep hb1 hbA)
    have HV := Lib.hid hV
    have hwd := fun W => word13_any key W
    have hvr := fun W => ver13_any (wordK key) (1 + (q : Int)) (r : Int) W
    unfold verK at hvr ⊢
    generalize wordK key = kw at hwd hvr ⊢
    dsimp only [wV, wcs, wvs, pw, List.length_nil] at hvr ⊢
    clear ho hv hb1 hbA hV hc hq hr hq16 hr4
    go_enter Tryz.func7, Tryz.ntmps7
    go_upto_region 1 with fail
    try rw [hw1]
    try rw [hw2]
    try rw [hs1]
    clear hw1 hw2 hs1
    go_upto_region 7 with fail
    go_cut [4] (fun s4 wx => ∃ B, s4 = .pointer (some ⟨B, 0, none⟩) ∧ w2.heap.size ≤ B ∧ VwP wx B ⟨kw, ⟨#[]⟩, false, (1 + (q : Int), (r : Int)), []⟩ (.slice none 0 0) ∧ Below w2.heap.size w2 wx)
    case first =>
      have g0 : w2.drew.cell? ⟨w.heap.size, 1, none⟩ = some (.int .i64 key) ∧ w2.drew.cell? ⟨w.heap.size, 2, none⟩ = some (.int .i64 n) ∧ w2.drew.cell? ⟨w.heap.size, 3, none⟩ = some (.int .i64 s) := ⟨e1, e2, e3⟩
      refine wp_region_held_drew (S := fun w' => w'.cell? ⟨w.heap.size, 1, none⟩ = some (.int .i64 key) ∧ w'.cell? ⟨w.heap.size, 2, none⟩ = some (.int .i64 n) ∧ w'.cell? ⟨w.heap.size, 3, none⟩ = some (.int .i64 s)) (by kernel_rfl) (g0) (fun hHeld => ?_)
      refine wpAnyH_take (i := 0) (v := ?v0) rfl (by kernel_rfl) (by kernel_rfl) (by kernel_rfl) (fun _ _ _ h => h) (Or.inl ⟨by rfl, ?y0⟩) (by assumption) ?r0
      case y0 => (intro w hSw; (try dsimp only at hSw); go_simp; try with_reducible rfl)
      try simp only [Act.put, List.setIfInBounds_toArray, List.set_cons_zero, List.set_cons_succ, List.getElem_toArray, List.getElem_cons_zero, List.getElem_cons_succ]
      refine wpAnyH_take (i := 1) (v := ?v1) rfl (by kernel_rfl) (by kernel_rfl) (by kernel_rfl) (fun _ _ _ h => h) (Or.inl ⟨by rfl, ?y1⟩) (by assumption) ?r1
      case y1 => (intro w hSw; (try dsimp only at hSw); go_simp; try with_reducible rfl)
      try simp only [Act.put, List.setIfInBounds_toArray, List.set_cons_zero, List.set_cons_succ, List.getElem_toArray, List.getElem_cons_zero, List.getElem_cons_succ]
      refine wpAnyH_take (i := 3) (v := ?v3) rfl (by kernel_rfl) (by kernel_rfl) (by kernel_rfl) (fun _ _ _ h => h) (Or.inl ⟨by rfl, ?y3⟩) (by assumption) ?r3
      case y3 => (intro w hSw; (try dsimp only at hSw); go_simp; try with_reducible rfl)
      try simp only [Act.put, List.setIfInBounds_toArray, List.set_cons_zero, List.set_cons_succ, List.getElem_toArray, List.getElem_cons_zero, List.getElem_cons_succ]
      refine wpAnyH_take (i := 4) (v := ?v4) rfl (by kernel_rfl) (by kernel_rfl) (by kernel_rfl) (fun _ _ _ h => h) (Or.inl ⟨by rfl, ?y4⟩) (by assumption) ?r4
      case y4 => (intro w hSw; (try dsimp only at hSw); go_simp; try with_reducible rfl)
      try simp only [Act.put, List.setIfInBounds_toArray, List.set_cons_zero, List.set_cons_succ, List.getElem_toArray, List.getElem_cons_zero, List.getElem_cons_succ]
      refine wpAnyH_take (i := 5) (v := ?v5) rfl (by kernel_rfl) (by kernel_rfl) (by kernel_rfl) (fun _ _ _ h => h) (Or.inl ⟨by rfl, ?y5⟩) (by assumption) ?r5
      case y5 => (intro w hSw; (try dsimp only at hSw); go_simp; try with_reducible rfl)
      try simp only [Act.put, List.setIfInBounds_toArray, List.set_cons_zero, List.set_cons_succ, List.getElem_toArray, List.getElem_cons_zero, List.getElem_cons_succ]
      refine wpAnyH_take (i := 6) (v := ?v6) rfl (by kernel_rfl) (by kernel_rfl) (by kernel_rfl) (fun _ _ _ h => h) (Or.inl ⟨by rfl, ?y6⟩) (by assumption) ?r6
      case y6 => (intro w hSw; (try dsimp only at hSw); go_simp; try with_reducible rfl)
      try simp only [Act.put, List.setIfInBounds_toArray, List.set_cons_zero, List.set_cons_succ, List.getElem_toArray, List.getElem_cons_zero, List.getElem_cons_succ]
      refine wpAnyH_take (i := 7) (v := ?v7) rfl (by kernel_rfl) (by kernel_rfl) (by kernel_rfl) (fun _ _ _ h => h) (Or.inl ⟨by rfl, ?y7⟩) (by assumption) ?r7
      case y7 => (intro w hSw; (try dsimp only at hSw); go_simp; try with_reducible rfl)
      try simp only [Act.put, List.setIfInBounds_toArray, List.set_cons_zero, List.set_cons_succ, List.getElem_toArray, List.getElem_cons_zero, List.getElem_cons_succ]
      refine wpAnyH_take (i := 8) (v := ?v8) rfl (by kernel_rfl) (by kernel_rfl) (by kernel_rfl) (fun _ _ _ h => h) (Or.inl ⟨by rfl, ?y8⟩) (by assumption) ?r8
      case y8 => (intro w hSw; (try dsimp only at hSw); go_simp; try with_reducible rfl)
      try simp only [Act.put, List.setIfInBounds_toArray, List.set_cons_zero, List.set_cons_succ, List.getElem_toArray, List.getElem_cons_zero, List.getElem_cons_succ]
      refine wpAnyH_take (i := 9) (v := ?v9) rfl (by kernel_rfl) (by kernel_rfl) (by kernel_rfl) (fun _ _ _ h => h) (Or.inl ⟨by rfl, ?y9⟩) (by assumption) ?r9
      case y9 => (intro w hSw; (try dsimp only at hSw); go_simp; try with_reducible rfl)
      try simp only [Act.put, List.setIfInBounds_toArray, List.set_cons_zero, List.set_cons_succ, List.getElem_toArray, List.getElem_cons_zero, List.getElem_cons_succ]
      have HBW : Hid (Below w2.heap.size w2 w2.drew) := Lib.hid ((Below.refl _ w2).drew)
      have HLT : Hid (w.heap.size < w2.heap.size) := Lib.hid (lt_of_cellN e1)
      refine wpAnyH_ready (rs := [2, 11]) (by kernel_rfl) (by simp) ?_
      refine AllReadyH.cons rfl (fun K hK => ?_) (AllReadyH.cons rfl (fun K hK => ?_) AllReadyH.nil)
      · skip
        go_simp
        go_at_call 32
        refine (hwd _).mono ?_
        rintro e w3 ⟨rfl, hb3⟩
        have g3 := keep13 hb3 g0
        have HBW := Lib.hid (bstep HBW.out hb3)
        clear hb3
        go_wp2_with fail
        refine hK.out _ _ (g3) (fun hHeld => ?_)
        clear hK K
        try simp only [Act.put, List.setIfInBounds_toArray, List.set_cons_zero, List.set_cons_succ, List.getElem_toArray, List.getElem_cons_zero, List.getElem_cons_succ]
        refine wpAnyH_ready (rs := [10, 11]) (by kernel_rfl) (by simp) ?_
        refine AllReadyH.cons rfl (fun K hK => ?_) (AllReadyH.cons rfl (fun K hK => ?_) AllReadyH.nil)
        · skip
          go_simp
          go_at_call 30
          refine (hvr _).mono ?_
          rintro e w4 ⟨rfl, hb4⟩
          have g4 := keep13 hb4 g3
          have HBW := Lib.hid (bstep HBW.out hb4)
          clear hb4
          go_wp2_with fail
          refine hK.out _ _ (g4) (fun hHeld => ?_)
          clear hK K
          try simp only [Act.put, List.setIfInBounds_toArray, List.set_cons_zero, List.set_cons_succ, List.getElem_toArray, List.getElem_cons_zero, List.getElem_cons_succ]
          refine wpAnyH_ready (rs := [11]) (by kernel_rfl) (by simp) ?_
          refine AllReadyH.cons rfl (fun K hK => ?_) AllReadyH.nil
          have g5 := alloc13 g4 (.cells (wvs wz (.slice none 0 0)) 36)
          have HVB : Hid (VwP (w4.alloc (.cells (wvs wz (.slice none 0 0)) 36)) w4.heap.size wz (.slice none 0 0)) := Lib.hid (VwP.new w4 wz (.slice none 0 0) 36)
          have HBL : Hid (w2.heap.size ≤ w4.heap.size) := Lib.hid HBW.out.size
          have HBO := HBW
          have HBW := Lib.hid (bstep HBW.out (balloc (Below.refl _ w4) (.cells (wvs wz (.slice none 0 0)) 36)))
          obtain ⟨BB, hBB⟩ : ∃ BB, BB = w4.heap.size := ⟨_, rfl⟩
          have HBL2 : Hid (w2.heap.size ≤ BB) := Lib.hid (by rw [hBB]; exact HBL.out)
          clear HBL
          have HBL := HBL2
          clear HBL2
          rw [← hBB] at HVB
          go_simp
          refine hK.out _ _ (g5) (fun hHeld => ?_)
          clear hK K
          try simp only [Act.put, List.setIfInBounds_toArray, List.set_cons_zero, List.set_cons_succ, List.getElem_toArray, List.getElem_cons_zero, List.getElem_cons_succ]
          refine wpAnyH_ready (rs := [12]) (by kernel_rfl) (by simp) ?_
          refine AllReadyH.cons rfl (fun K hK => ?_) AllReadyH.nil
          have HFIN := Lib.hid (show ∃ B, Value.pointer (some ⟨w4.heap.size, 0, none⟩) = .pointer (some ⟨B, 0, none⟩) ∧ w2.heap.size ≤ B ∧ VwP (w4.alloc (.cells (wvs ⟨kw, ⟨#[]⟩, false, (1 + (q : Int), (r : Int)), []⟩ (.slice none 0 0)) 36)) B ⟨kw, ⟨#[]⟩, false, (1 + (q : Int), (r : Int)), []⟩ (.slice none 0 0) ∧ Below w2.heap.size w2 (w4.alloc (.cells (wvs ⟨kw, ⟨#[]⟩, false, (1 + (q : Int), (r : Int)), []⟩ (.slice none 0 0)) 36)) from ⟨_, rfl, HBO.out.size, VwP.new w4 ⟨kw, ⟨#[]⟩, false, (1 + (q : Int), (r : Int)), []⟩ (.slice none 0 0) 36, bstep HBO.out (balloc (Below.refl _ _) _)⟩)
          go_simp
          refine hK.out _ _ (alloc13 g4 _) (fun hHeld => ?_)
          clear hK K
          try simp only [Act.put, List.setIfInBounds_toArray, List.set_cons_zero, List.set_cons_succ, List.getElem_toArray, List.getElem_cons_zero, List.getElem_cons_succ]
          refine wpAnyH_done (by kernel_rfl) ?_ _
          go_wp2
          go_meet
          exact HFIN.out
        · skip
          have g5 := alloc13 g3 (.cells (wvs wz (.slice none 0 0)) 36)
          have HVB : Hid (VwP (w3.alloc (.cells (wvs wz (.slice none 0 0)) 36)) w3.heap.size wz (.slice none 0 0)) := Lib.hid (VwP.new w3 wz (.slice none 0 0) 36)
          have HBL : Hid (w2.heap.size ≤ w3.heap.size) := Lib.hid HBW.out.size
          have HBO := HBW
          have HBW := Lib.hid (bstep HBW.out (balloc (Below.refl _ w3) (.cells (wvs wz (.slice none 0 0)) 36)))
          obtain ⟨BB, hBB⟩ : ∃ BB, BB = w3.heap.size := ⟨_, rfl⟩
          have HBL2 : Hid (w2.heap.size ≤ BB) := Lib.hid (by rw [hBB]; exact HBL.out)
          clear HBL
          have HBL := HBL2
          clear HBL2
          rw [← hBB] at HVB
          go_simp
          refine hK.out _ _ (g5) (fun hHeld => ?_)
          clear hK K
          try simp only [Act.put, List.setIfInBounds_toArray, List.set_cons_zero, List.set_cons_succ, List.getElem_toArray, List.getElem_cons_zero, List.getElem_cons_succ]
          obtain ⟨w5, hw5⟩ : ∃ w5, w3.alloc (.cells (wvs wz (.slice none 0 0)) 36) = w5 := ⟨_, rfl⟩
          have hw6 : w3.alloc (.cells (wvs wz (.slice none 0 0)) 36) = w5 := hw5
          rw [hw6] at g5 HVB HBW
          clear hw6
          try rw [← hBB]
          try dsimp only [wvs, wz] at hw5
          try rw [hw5]
          clear hw5 hBB
          refine wpAnyH_ready (rs := [10]) (by kernel_rfl) (by simp) ?_
          refine AllReadyH.cons rfl (fun K hK => ?_) AllReadyH.nil
          go_simp
          go_at_call 30
          refine (hvr _).mono ?_
          rintro e w4 ⟨rfl, hb4⟩
          have g4 := keep13 hb4 g5
          have HBW := Lib.hid (bstep HBW.out hb4)
          have HVB := Lib.hid (HVB.out.keep hb4)
          clear hb4
          go_wp2_with fail
          refine hK.out _ _ (g4) (fun hHeld => ?_)
          clear hK K
          try simp only [Act.put, List.setIfInBounds_toArray, List.set_cons_zero, List.set_cons_succ, List.getElem_toArray, List.getElem_cons_zero, List.getElem_cons_succ]
          refine wpAnyH_ready (rs := [12]) (by kernel_rfl) (by simp) ?_
          refine AllReadyH.cons rfl (fun K hK => ?_) AllReadyH.nil
          obtain ⟨z0, z1, z2, z3, z4, z5, zf⟩ := HVB.out
          have zf0 := zf 0 (by decide)
          have zf1 := zf 1 (by decide)
          have zf2 := zf 2 (by decide)
          have zf3 := zf 3 (by decide)
          have zf4 := zf 4 (by decide)
          have zf5 := zf 5 (by decide)
          dsimp only [wz] at z0 z1 z2 z3 z4 z5
          have HFIN := Lib.hid (show ∃ B, Value.pointer (some ⟨BB, 0, none⟩) = .pointer (some ⟨B, 0, none⟩) ∧ w2.heap.size ≤ B ∧ VwP (World.putw w4 BB ⟨kw, ⟨#[]⟩, false, (1 + (q : Int), (r : Int)), []⟩ (.slice none 0 0)) B ⟨kw, ⟨#[]⟩, false, (1 + (q : Int), (r : Int)), []⟩ (.slice none 0 0) ∧ Below w2.heap.size w2 (World.putw w4 BB ⟨kw, ⟨#[]⟩, false, (1 + (q : Int), (r : Int)), []⟩ (.slice none 0 0)) from ⟨_, rfl, HBL.out, HVB.out.putw ⟨kw, ⟨#[]⟩, false, (1 + (q : Int), (r : Int)), []⟩ (.slice none 0 0), below_putw HBW.out HBL.out ⟨kw, ⟨#[]⟩, false, (1 + (q : Int), (r : Int)), []⟩ (.slice none 0 0)⟩)
          have hne6 : w.heap.size ≠ BB := by have := HBL.out; have := HLT.out; omega
          have g6 := put13 hne6 g4 ⟨kw, ⟨#[]⟩, false, (1 + (q : Int), (r : Int)), []⟩ (.slice none 0 0)
          dsimp only [World.putw, wz] at g6
          clear zf
          go_simp
          refine hK.out _ _ (g6) (fun hHeld => ?_)
          clear hK K
          try simp only [Act.put, List.setIfInBounds_toArray, List.set_cons_zero, List.set_cons_succ, List.getElem_toArray, List.getElem_cons_zero, List.getElem_cons_succ]
          refine wpAnyH_done (by kernel_rfl) ?_ _
          go_wp2
          go_meet
          exact HFIN.out
      · skip
        have g5 := alloc13 g0 (.cells (wvs wz (.slice none 0 0)) 36)
        have HVB : Hid (VwP (w2.drew.alloc (.cells (wvs wz (.slice none 0 0)) 36)) w2.heap.size wz (.slice none 0 0)) := Lib.hid (VwP.new w2.drew wz (.slice none 0 0) 36)
        have HBL : Hid (w2.heap.size ≤ w2.heap.size) := Lib.hid HBW.out.size
        have HBO := HBW
        have HBW := Lib.hid (bstep HBW.out (balloc (Below.refl _ w2.drew) (.cells (wvs wz (.slice none 0 0)) 36)))
        obtain ⟨BB, hBB⟩ : ∃ BB, BB = w2.heap.size := ⟨_, rfl⟩
        have HBL2 : Hid (w2.heap.size ≤ BB) := Lib.hid (by rw [hBB]; exact HBL.out)
        clear HBL
        have HBL := HBL2
        clear HBL2
        rw [← hBB] at HVB
        go_simp
        refine hK.out _ _ (g5) (fun hHeld => ?_)
        clear hK K
        try simp only [Act.put, List.setIfInBounds_toArray, List.set_cons_zero, List.set_cons_succ, List.getElem_toArray, List.getElem_cons_zero, List.getElem_cons_succ]
        obtain ⟨w5, hw5⟩ : ∃ w5, (w2.alloc (.cells (wvs wz (.slice none 0 0)) 36)).drew = w5 := ⟨_, rfl⟩
        have hw6 : w2.drew.alloc (.cells (wvs wz (.slice none 0 0)) 36) = w5 := hw5
        rw [hw6] at g5 HVB HBW
        clear hw6
        try rw [← hBB]
        try dsimp only [wvs, wz] at hw5
        try rw [hw5]
        clear hw5 hBB
        refine wpAnyH_ready (rs := [2]) (by kernel_rfl) (by simp) ?_
        refine AllReadyH.cons rfl (fun K hK => ?_) AllReadyH.nil
        go_simp
        go_at_call 32
        refine (hwd _).mono ?_
        rintro e w3 ⟨rfl, hb3⟩
        have g3 := keep13 hb3 g5
        have HBW := Lib.hid (bstep HBW.out hb3)
        have HVB := Lib.hid (HVB.out.keep hb3)
        clear hb3
        go_wp2_with fail
        refine hK.out _ _ (g3) (fun hHeld => ?_)
        clear hK K
        try simp only [Act.put, List.setIfInBounds_toArray, List.set_cons_zero, List.set_cons_succ, List.getElem_toArray, List.getElem_cons_zero, List.getElem_cons_succ]
        refine wpAnyH_ready (rs := [10]) (by kernel_rfl) (by simp) ?_
        refine AllReadyH.cons rfl (fun K hK => ?_) AllReadyH.nil
        go_simp
        go_at_call 30
        refine (hvr _).mono ?_
        rintro e w4 ⟨rfl, hb4⟩
        have g4 := keep13 hb4 g3
        have HBW := Lib.hid (bstep HBW.out hb4)
        have HVB := Lib.hid (HVB.out.keep hb4)
        clear hb4
        go_wp2_with fail
        refine hK.out _ _ (g4) (fun hHeld => ?_)
        clear hK K
        try simp only [Act.put, List.setIfInBounds_toArray, List.set_cons_zero, List.set_cons_succ, List.getElem_toArray, List.getElem_cons_zero, List.getElem_cons_succ]
        refine wpAnyH_ready (rs := [12]) (by kernel_rfl) (by simp) ?_
        refine AllReadyH.cons rfl (fun K hK => ?_) AllReadyH.nil
        obtain ⟨z0, z1, z2, z3, z4, z5, zf⟩ := HVB.out
        have zf0 := zf 0 (by decide)
        have zf1 := zf 1 (by decide)
        have zf2 := zf 2 (by decide)
        have zf3 := zf 3 (by decide)
        have zf4 := zf 4 (by decide)
        have zf5 := zf 5 (by decide)
        dsimp only [wz] at z0 z1 z2 z3 z4 z5
        have HFIN := Lib.hid (show ∃ B, Value.pointer (some ⟨BB, 0, none⟩) = .pointer (some ⟨B, 0, none⟩) ∧ w2.heap.size ≤ B ∧ VwP (World.putw w4 BB ⟨kw, ⟨#[]⟩, false, (1 + (q : Int), (r : Int)), []⟩ (.slice none 0 0)) B ⟨kw, ⟨#[]⟩, false, (1 + (q : Int), (r : Int)), []⟩ (.slice none 0 0) ∧ Below w2.heap.size w2 (World.putw w4 BB ⟨kw, ⟨#[]⟩, false, (1 + (q : Int), (r : Int)), []⟩ (.slice none 0 0)) from ⟨_, rfl, HBL.out, HVB.out.putw ⟨kw, ⟨#[]⟩, false, (1 + (q : Int), (r : Int)), []⟩ (.slice none 0 0), below_putw HBW.out HBL.out ⟨kw, ⟨#[]⟩, false, (1 + (q : Int), (r : Int)), []⟩ (.slice none 0 0)⟩)
        have hne6 : w.heap.size ≠ BB := by have := HBL.out; have := HLT.out; omega
        have g6 := put13 hne6 g4 ⟨kw, ⟨#[]⟩, false, (1 + (q : Int), (r : Int)), []⟩ (.slice none 0 0)
        dsimp only [World.putw, wz] at g6
        clear zf
        go_simp
        refine hK.out _ _ (g6) (fun hHeld => ?_)
        clear hK K
        try simp only [Act.put, List.setIfInBounds_toArray, List.set_cons_zero, List.set_cons_succ, List.getElem_toArray, List.getElem_cons_zero, List.getElem_cons_succ]
        refine wpAnyH_done (by kernel_rfl) ?_ _
        go_wp2
        go_meet
        exact HFIN.out
    case rest =>
      obtain ⟨B, rfl, hBl, hx, hbx⟩ := hcut
      have hlt2 : w.heap.size + 1 < w2.heap.size := HV.out.lt
      have HBE := Lib.hid (bstep HB2.out hbx)
      have HV3 := Lib.hid (HV.out.keep hbx)
      have f2 := kc hbx e2
      have HXP := Lib.hid hx
      clear hbx e1 e2 e3 e4
      obtain ⟨x0, x1, x2, x3, x4, x5, xf⟩ := hx
      have xf1 := xf 1 (by decide)
      dsimp only at x0 x1 x2 x3 x4 x5
      have hA : Below wc.heap.size wc (wc.alloc (.cells #[.int .u8 (97 + (q : Int))] 5)) := balloc (Below.refl _ _) _
      have hBlt : B < wc.heap.size := HXP.out.lt
      have y1 := kc hA x1
      have yf1 : (wc.alloc (.cells #[.int .u8 (97 + (q : Int))] 5)).frozen? ⟨B, 1, none⟩ = false := (hA.frozen (p := ⟨B, 1, none⟩) hBlt).trans xf1
      have hA' : Below (wc.setCell ⟨B, 1, none⟩ (.string ⟨#[c]⟩)).heap.size (wc.setCell ⟨B, 1, none⟩ (.string ⟨#[c]⟩)) ((wc.setCell ⟨B, 1, none⟩ (.string ⟨#[c]⟩)).alloc (.cells #[.int .u8 (97 + (q : Int))] 5)) := balloc (Below.refl _ _) _
      have HV5 : Hid (VwP ((wc.setCell ⟨B, 1, none⟩ (.string ⟨#[c]⟩)).alloc (.cells #[.int .u8 (97 + (q : Int))] 5)) (w.heap.size + 1) wz (.slice none 0 0)) := Lib.hid ((HV3.out.other (by omega) _).keep hA')
      have HX5 : Hid (VwP ((wc.setCell ⟨B, 1, none⟩ (.string ⟨#[c]⟩)).alloc (.cells #[.int .u8 (97 + (q : Int))] 5)) B ⟨kw, ⟨#[c]⟩, false, (1 + (q : Int), (r : Int)), []⟩ (.slice none 0 0)) := Lib.hid ((HXP.out.put1 ⟨#[c]⟩).keep hA')
      have HB5 : Hid (Below w.heap.size w ((wc.setCell ⟨B, 1, none⟩ (.string ⟨#[c]⟩)).alloc (.cells #[.int .u8 (97 + (q : Int))] 5))) := Lib.hid (bstep (HBE.out.setCell (show w.heap.size ≤ B by omega) _) hA')
      clear hA'
      clear xf hA x0 x1 x2 x3 x4 x5 xf1
      have HQQ := Lib.hid (And.intro HX5.out (And.intro HV5.out HB5.out))
      clear HX5 HV5 HB5
      obtain ⟨wO, hwO⟩ : ∃ wO, wO = wc := ⟨_, rfl⟩
      subst hwO
      go_upto_region 8 with fail
      go_cut [36] (fun s36 wx => VwP wx B ⟨kw, ⟨#[c]⟩, false, (1 + (q : Int), (r : Int)), []⟩ (.slice none 0 0) ∧ VwP wx (w.heap.size + 1) wz (.slice none 0 0) ∧ Below w.heap.size w wx)
      case first =>
        go_wp2
        go_meet
        exact HQQ.out
      case rest =>
      obtain ⟨hX5, hV5, hB5⟩ := hcut
      have HX5 := Lib.hid hX5
      have HV5 := Lib.hid hV5
      have HB5 := Lib.hid hB5
      obtain ⟨w5, hw5⟩ : ∃ w5, w5 = wc := ⟨_, rfl⟩
      subst hw5
      clear hX5 hV5 hB5 y1 yf1 f2 HQQ
      obtain ⟨x0, x1, x2, x3, x4, x5, _⟩ := HX5.out
      dsimp only at x0 x1 x2 x3 x4 x5
      obtain ⟨z0, z1, z2, z3, z4, z5, zf⟩ := HV5.out
      have zf0 := zf 0 (by decide)
      have zf1 := zf 1 (by decide)
      have zf2 := zf 2 (by decide)
      have zf3 := zf 3 (by decide)
      have zf4 := zf 4 (by decide)
      have zf5 := zf 5 (by decide)
      dsimp only [wz] at z0 z1 z2 z3 z4 z5
      clear zf
      have hP := HV5.out.putw ⟨kw, ⟨#[c]⟩, false, (1 + (q : Int), (r : Int)), []⟩ (.slice none 0 0)
      have HBF := Lib.hid (below_putw HB5.out (show w.heap.size ≤ w.heap.size + 1 by omega) ⟨kw, ⟨#[c]⟩, false, (1 + (q : Int), (r : Int)), []⟩ (.slice none 0 0))
      dsimp only [World.putw] at hP HBF
      have HP := Lib.hid hP
      clear hP HV HV3 HXP HX5 HV5 HB5
      go_wp2
      obtain ⟨r0, r1, r2, r3, r4, r5, _⟩ := HP.out
      dsimp only at r0 r1 r2 r3 r4 r5
      refine bodyPost_ret (v := .agg #[.string kw, .string ⟨#[c]⟩, .bool false, .int .i64 (1 + (q : Int)), .int .i64 (r : Int), .slice none 0 0]) (by simp [results, Tryz.results7, go_sem, r0, r1, r2, r3, r4, r5]) rfl ⟨rfl, HBF.out⟩
end Go.Proofs.YtjfmgplhcinkfaaGreat
