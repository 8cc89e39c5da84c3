/- Six counters in memory; how often a site lies behind those that are near. -/
import Derived.Test.YtfldaokegolhfaaTreeHelp
import Derived.Test.YtfldaokegolhfaaTreeMade
import Derived.Test.YtfldaokegolhfaaOpenT
namespace Go.Proofs.Ytfldaokegolhfaa
open Go.RowKit
set_option linter.unusedVariables false
set_option linter.unusedSimpArgs false

/-- So many counters. -/
structure SeenIn (w : World) (B n : Nat) (f : Nat → Nat) : Prop where
  lt : B < w.heap.size
  c : ∀ k, k < n → w.cell? ⟨B, k, none⟩ = some (.int .i64 (f k : Int))
  f : ∀ k, k < n → w.frozen? ⟨B, k, none⟩ = false
theorem SeenIn.below {w w' : World} {B n : Nat} {f : Nat → Nat} (h : SeenIn w B n f) (hb : Below w.heap.size w w') : SeenIn w' B n f :=
  ⟨by have := h.lt; have := hb.size; omega, fun k hk => kc hb (h.c k hk), fun k hk => by rw [hb.frozen (p := ⟨B, k, none⟩) h.lt]; exact h.f k hk⟩
theorem SeenIn.set {w : World} {B n : Nat} {f : Nat → Nat} (h : SeenIn w B n f) {k : Nat} (hk : k < n) (m : Nat) : SeenIn (w.setCell ⟨B, k, none⟩ (.int .i64 (m : Int))) B n (fun x => if x = k then m else f x) := by
  refine ⟨by simpa using h.lt, fun x hx => ?_, fun x hx => by rw [World.frozen?_setCell]; exact h.f x hx⟩
  by_cases e : x = k
  · subst e
    rw [World.cell?_setCell_same _ _ _ (h.c x hx), if_pos rfl]
  · rw [World.cell?_setCell_other _ _ _ _ (by intro h2; cases h2; exact e rfl), if_neg e]
    exact h.c x hx
theorem SeenIn.cong {w : World} {B n : Nat} {f g : Nat → Nat} (h : SeenIn w B n f) (e : ∀ k, k < n → f k = g k) : SeenIn w B n g :=
  ⟨h.lt, fun k hk => by rw [← e k hk]; exact h.c k hk, h.f⟩
theorem SeenIn.new (w : World) {n : Nat} (hn : n ≤ 6) : SeenIn (w.alloc (.cells #[.int .i64 0, .int .i64 0, .int .i64 0, .int .i64 0, .int .i64 0, .int .i64 0] 31)) w.heap.size n (fun _ => 0) := by
  refine ⟨by simp, fun k hk => ?_, fun k hk => ?_⟩
  · rw [Lib.cell_of_heap (heap_alloc_new w _)]
    rcases (show k = 0 ∨ k = 1 ∨ k = 2 ∨ k = 3 ∨ k = 4 ∨ k = 5 by omega) with rfl | rfl | rfl | rfl | rfl | rfl <;> rfl
  · rcases (show k = 0 ∨ k = 1 ∨ k = 2 ∨ k = 3 ∨ k = 4 ∨ k = 5 by omega) with rfl | rfl | rfl | rfl | rfl | rfl <;> simp
namespace Tm
theorem via_same {p : List Int} {a b c k : Nat} (h1 : via p a b k = true) (h2 : via p a c k = true) : b = c := by
  rw [via_iff] at h1 h2
  rw [h1] at h2
  simpa using h2
/-- How often it was seen behind the first so many. -/
def seenK (p : List Int) (a i k : Nat) : Nat := ((nearL p a).take i).countP fun c => via p a c k
theorem seenK_zero (p : List Int) (a k : Nat) : seenK p a 0 k = 0 := rfl
theorem seenK_succ {p : List Int} {a i : Nat} (h : i < (nearL p a).length) (k : Nat) : seenK p a (i + 1) k = seenK p a i k + if via p a (nearL p a)[i] k = true then 1 else 0 := by
  unfold seenK
  rw [List.take_succ_eq_append_getElem h, List.countP_append, List.countP_singleton]
theorem seenK_le (p : List Int) (a i k : Nat) : seenK p a i k ≤ i := by
  unfold seenK
  have h1 := List.countP_le_length (p := fun c => via p a c k) (l := (nearL p a).take i)
  rw [List.length_take] at h1
  omega
theorem countP_zero {f : Nat → Bool} : ∀ l : List Nat, (∀ x ∈ l, f x = false) → l.countP f = 0
  | [], _ => rfl
  | x :: l, h => by
    rw [List.countP_cons_of_neg (by rw [h x List.mem_cons_self]; simp)]
    exact countP_zero l fun y hy => h y (List.mem_cons_of_mem _ hy)
theorem countP_one {f : Nat → Bool} : ∀ {l : List Nat} {b : Nat}, l.Nodup → b ∈ l → f b = true → (∀ x, f x = true → x = b) → l.countP f = 1
  | x :: l, b, hn, hb, hf, hu => by
    rw [List.nodup_cons] at hn
    rcases List.mem_cons.1 hb with rfl | hb
    · rw [List.countP_cons_of_pos hf, countP_zero l fun y hy => by
        cases hy2 : f y with
        | false => rfl
        | true => have := hu y hy2; subst this; exact absurd hy hn.1]
    · have hx : f x = false := by
        cases hx : f x with
        | false => rfl
        | true => have := hu x hx; subst this; exact absurd hb hn.1
      rw [List.countP_cons_of_neg (by rw [hx]; simp)]
      exact countP_one hn.2 hb hf hu
theorem nearL_nodup (p : List Int) (a : Nat) : (nearL p a).Nodup := (nearL_rise p a).imp (fun h => by omega)
theorem Tr.seen_all {p : List Int} (h : Tr p) {a k : Nat} (ha : a < p.length) (hk : k < p.length) : seenK p a (nearL p a).length k = if k = a then 0 else 1 := by
  unfold seenK
  rw [List.take_length]
  by_cases e : k = a
  · rw [if_pos e]
    subst e
    exact countP_zero _ fun x _ => h.via_self ha
  · rw [if_neg e]
    obtain ⟨b, hb, hv, hu⟩ := h.via_one ha hk e
    exact countP_one (nearL_nodup p a) hb hv hu
theorem Tr.seen_own {p : List Int} (h : Tr p) {a i : Nat} (ha : a < p.length) (hi : i < (nearL p a).length) : seenK p a (i + 1) (nearL p a)[i] = 1 := by
  have hm := nearL_mem.1 (List.getElem_mem hi)
  have hv := h.via_near ha hm.1 hm.2
  rw [seenK_succ hi, hv, if_pos rfl]
  have : seenK p a i (nearL p a)[i] = 0 := by
    unfold seenK
    refine countP_zero _ fun x hx => ?_
    cases hx2 : via p a x (nearL p a)[i] with
    | false => rfl
    | true =>
      have e := via_same hx2 hv
      obtain ⟨j, hj, e2⟩ := List.mem_take_iff_getElem.1 hx
      have hr := List.pairwise_iff_getElem.1 (nearL_rise p a) j i (by omega) hi (by omega)
      omega
  rw [this]
theorem bit_of {S k : Nat} {f : Nat → Bool} {n : Nat} (hS : S = sumB f n) (hk : k < n) : (S / 2 ^ k % 2 = 1) ↔ f k = true := by
  have h := sumB_bit f n k
  rw [← hS] at h
  rw [Nat.testBit_eq_decide_div_mod_eq, decide_eq_true hk, Bool.true_and] at h
  rw [← h, decide_eq_true_eq]
end Tm
end Go.Proofs.Ytfldaokegolhfaa
