/- stamp.Less, with the draws counted; past.latestFirst. -/
import Derived.Test.YtplpeokmhomojaaPastSrt
import Derived.Test.YtplpeokmhomojaaShelf
import Derived.Test.YtplpeokmhomojaaStampLess
namespace Go.Proofs.Ytplpeokmhomojaa
open Go.RowKit
set_option linter.unusedVariables false
set_option linter.unusedSimpArgs false

set_option maxRecDepth 100000 in
set_option maxHeartbeats 400000 in
theorem laterG_any (n s m t : Int) (w : World) :
    Calls Try.prog 71 #[.agg #[.int .i64 n, .int .i64 s], .agg #[.int .i64 m, .int .i64 t]] w fun e w' => e = .returned (sv (Sm.later (n, s) (m, t))) ∧ Below w.heap.size w w' ∧ w.drawn ≤ w'.drawn := by
  go_enter Try.func71, Try.ntmps71
  go_wp2
  all_goals
    first
      | (have e : Sm.later (n, s) (m, t) = (n, s) := by (unfold Sm.later; rw [if_pos (by rw [Sm.less_iff]; simp; omega)]))
      | (have e : Sm.later (n, s) (m, t) = (m, t) := by (unfold Sm.later; rw [if_neg (by rw [Sm.less_iff]; simp; omega)]))
    rw [e]
    refine bodyPost_ret (v := _) (by simp [results, Try.results71, go_sem]; rfl) rfl ⟨?_, ?_, ?_⟩
    · simp [sv]
      try omega
    · exact ((((Below.refl _ w).alloc (Nat.le_refl _) _).alloc (by simp) _).alloc (by simp; omega) _)
    · exact Nat.le_refl _

set_option maxRecDepth 100000 in
set_option maxHeartbeats 1000000 in
theorem lessG_any (n s m t : Int) (c : Bool) (w : World) (hc : Sm.less (n, s) (m, t) = c) :
    Calls Try.prog 52 #[.agg #[.int .i64 n, .int .i64 s], .agg #[.int .i64 m, .int .i64 t]] w fun e w' => e = .returned (.bool c) ∧ Below w.heap.size w w' ∧ w.drawn ≤ w'.drawn := by
  rw [← hc]
  clear hc
  go_enter Try.func52, Try.ntmps52
  go_wp2_with fail
  have hne : ∀ w', (binOp .neq 24 (sv (Sm.later (n, s) (m, t))) (.agg #[.int .i64 n, .int .i64 s])).run Try.prog w' = .ok (.bool (Sm.less (n, s) (m, t))) w' := by
    intro w'
    rw [ne_stamp]
    congr 2
    have := Sm.later_ne (n, s) (m, t)
    cases h : Sm.less (n, s) (m, t) <;> simp_all
  have g0 : (((w.alloc (.cells #[.int .i64 n, .int .i64 s] 24)).alloc (.cells #[.int .i64 m, .int .i64 t] 24)).cell? ⟨w.heap.size, 0, none⟩ = some (.int .i64 n) ∧ ((w.alloc (.cells #[.int .i64 n, .int .i64 s] 24)).alloc (.cells #[.int .i64 m, .int .i64 t] 24)).cell? ⟨w.heap.size, 1, none⟩ = some (.int .i64 s) ∧ ((w.alloc (.cells #[.int .i64 n, .int .i64 s] 24)).alloc (.cells #[.int .i64 m, .int .i64 t] 24)).cell? ⟨w.heap.size + 1, 0, none⟩ = some (.int .i64 m) ∧ ((w.alloc (.cells #[.int .i64 n, .int .i64 s] 24)).alloc (.cells #[.int .i64 m, .int .i64 t] 24)).cell? ⟨w.heap.size + 1, 1, none⟩ = some (.int .i64 t)) := by
    refine ⟨?_, ?_, ?_, ?_⟩ <;> simp
  go_region_held3 (fun w' => w'.cell? ⟨w.heap.size, 0, none⟩ = some (.int .i64 n) ∧ w'.cell? ⟨w.heap.size, 1, none⟩ = some (.int .i64 s) ∧ w'.cell? ⟨w.heap.size + 1, 0, none⟩ = some (.int .i64 m) ∧ w'.cell? ⟨w.heap.size + 1, 1, none⟩ = some (.int .i64 t))
    (first | exact g0 | exact g1)
    (first
      | (go_at_call 71; ((with_reducible refine (laterG_any n s m t _).mono ?_); rintro e wa ⟨rfl, ha, hd⟩; have g1 := keep22 ha g0)))
  have hd' : w.drawn + 1 ≤ wa.drawn := hd
  have HD := Lib.hid hd'
  clear hd hd'
  go_wp2
  go_ret
  exact ⟨rfl, bstep (balloc (balloc (Below.refl _ w) _) _).drew ha, by have := HD.out; omega⟩

/-- Draws, and blocks behind: nothing else. -/
theorem grn_of {w w' : World} (hb : Below w.heap.size w w') (hd : w.drawn ≤ w'.drawn) : ∃ q os', w' = Sort.grow (w.drewN q) os' := by
  refine ⟨w'.drawn - w.drawn, w'.heap.extract w.heap.size w'.heap.size, ?_⟩
  have hh : w'.heap = w.heap ++ w'.heap.extract w.heap.size w'.heap.size := by
    apply Array.ext_getElem?
    intro i
    by_cases hi : i < w.heap.size
    · rw [hb.block i hi, Array.getElem?_append_left hi]
    · rw [Array.getElem?_append_right (by omega), Array.getElem?_extract]
      have := hb.size
      by_cases h2 : i < w'.heap.size
      · rw [if_pos (by omega)]
        congr 1
        omega
      · rw [if_neg (by omega), Array.getElem?_eq_none (by omega)]
  cases w' with
  | mk heap tape drawn os output =>
    simp only at hh hd
    unfold Sort.grow World.drewN
    simp only [World.mk.injEq]
    exact ⟨hh, hb.tape, by omega, hb.os, hb.output⟩

/-- How past.latestFirst compares. -/
def cfD (x y : De) : Int := if x.1 = y.1 then (if Sm.less y.2 x.2 = true then -1 else if Sm.less x.2 y.2 = true then 1 else 0) else Lib.compareBytes x.1.data.toList y.1.data.toList

set_option maxRecDepth 100000 in
set_option maxHeartbeats 1600000 in
theorem latest_any (x : ByteArray) (y z : Int) (x' : ByteArray) (y' z' : Int) (w : World) :
    Calls Try.prog 43 #[.agg #[.string x, .int .i64 y, .int .i64 z], .agg #[.string x', .int .i64 y', .int .i64 z']] w fun e w' => e = .returned (.int .i64 (cfD (x, y, z) (x', y', z'))) ∧ Below w.heap.size w w' ∧ w.drawn ≤ w'.drawn := by
  have hb0 : Below w.heap.size w ((w.alloc (.cells #[.string x, .int .i64 y, .int .i64 z] 26)).alloc (.cells #[.string x', .int .i64 y', .int .i64 z'] 26)) := balloc (balloc (Below.refl _ w) _) _
  cases hq : (x.toList == x'.toList) with
  | false =>
    have hq' : ¬ x.toList = x'.toList := by simpa using hq
    have hne : x ≠ x' := fun h => hq' (by rw [h])
    rw [show cfD (x, y, z) (x', y', z') = Lib.compareBytes x.data.toList x'.data.toList by simp [cfD, hne]]
    clear hne
    go_enter Try.func43, Try.ntmps43
    go_wp2_with fail
    refine (Try.strings_Compare x x' _).mono ?_
    rintro e w1 ⟨rfl, rfl⟩
    go_wp2
    go_ret
    exact ⟨rfl, hb0, Nat.le_refl _⟩
  | true =>
    have hq' : x.toList = x'.toList := by simpa using hq
    obtain rfl : x = x' := ba_inj (by rw [← Lib.toList_data, ← Lib.toList_data]; exact hq')
    clear hq' hq
    have c10 : ((w.alloc (.cells #[.string x, .int .i64 y, .int .i64 z] 26)).alloc (.cells #[.string x, .int .i64 y', .int .i64 z'] 26)).cell? ⟨w.heap.size, 1, none⟩ = some (.int .i64 y) := by simp
    have c11 : ((w.alloc (.cells #[.string x, .int .i64 y, .int .i64 z] 26)).alloc (.cells #[.string x, .int .i64 y', .int .i64 z'] 26)).cell? ⟨w.heap.size, 2, none⟩ = some (.int .i64 z) := by simp
    have c12 : ((w.alloc (.cells #[.string x, .int .i64 y, .int .i64 z] 26)).alloc (.cells #[.string x, .int .i64 y', .int .i64 z'] 26)).cell? ⟨w.heap.size + 1, 1, none⟩ = some (.int .i64 y') := by simp
    have c13 : ((w.alloc (.cells #[.string x, .int .i64 y, .int .i64 z] 26)).alloc (.cells #[.string x, .int .i64 y', .int .i64 z'] 26)).cell? ⟨w.heap.size + 1, 2, none⟩ = some (.int .i64 z') := by simp
    cases h1 : Sm.less (y', z') (y, z) with
    | true =>
      rw [show cfD (x, y, z) (x, y', z') = -1 by simp [cfD, h1]]
      have H1 := Lib.hid h1
      clear h1 c10 c11 c12 c13
      go_enter Try.func43, Try.ntmps43
      go_wp2_with fail
      refine (lessG_any y' z' y z _ _ H1.out).mono ?_
      rintro e w1 ⟨rfl, hb, hd⟩
      have hd' : w.drawn ≤ w1.drawn := hd
      clear hd
      go_wp2
      go_ret
      exact ⟨rfl, bstep hb0 hb, hd'⟩
    | false =>
      have H1 := Lib.hid h1
      cases h2 : Sm.less (y, z) (y', z') with
      | true =>
        rw [show cfD (x, y, z) (x, y', z') = 1 by simp [cfD, h1, h2]]
        have H2 := Lib.hid h2
        clear h1 h2
        go_enter Try.func43, Try.ntmps43
        go_wp2_with fail
        refine (lessG_any y' z' y z _ _ H1.out).mono ?_
        rintro e w1 ⟨rfl, hb, hd⟩
        have d0 := kc hb c10
        have d1 := kc hb c11
        have d2 := kc hb c12
        have d3 := kc hb c13
        have hd' : w.drawn ≤ w1.drawn := hd
        have hb1 := bstep hb0 hb
        clear hd c10 c11 c12 c13 hb
        go_wp2_with fail
        refine (lessG_any y z y' z' _ _ H2.out).mono ?_
        rintro e w2 ⟨rfl, hb, hd⟩
        go_wp2
        go_ret
        exact ⟨rfl, bstep hb1 hb, Nat.le_trans hd' hd⟩
      | false =>
        rw [show cfD (x, y, z) (x, y', z') = 0 by simp [cfD, h1, h2]]
        have H2 := Lib.hid h2
        clear h1 h2
        go_enter Try.func43, Try.ntmps43
        go_wp2_with fail
        refine (lessG_any y' z' y z _ _ H1.out).mono ?_
        rintro e w1 ⟨rfl, hb, hd⟩
        have d0 := kc hb c10
        have d1 := kc hb c11
        have d2 := kc hb c12
        have d3 := kc hb c13
        have hd' : w.drawn ≤ w1.drawn := hd
        have hb1 := bstep hb0 hb
        clear hd c10 c11 c12 c13 hb
        go_wp2_with fail
        refine (lessG_any y z y' z' _ _ H2.out).mono ?_
        rintro e w2 ⟨rfl, hb, hd⟩
        go_wp2
        go_ret
        exact ⟨rfl, bstep hb1 hb, Nat.le_trans hd' hd⟩
end Go.Proofs.Ytplpeokmhomojaa
