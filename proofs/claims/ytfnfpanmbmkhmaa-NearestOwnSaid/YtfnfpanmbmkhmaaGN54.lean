/- Texts of this proof, one behind the other: PastSrt, Shelf, PastLess, PastPush, PastOwn, PastSort, PastFind. -/
import Derived.Test.YtfnfpanmbmkhmaaGN53
import Derived.Shelf.Small.Strs
import Derived.Shelf.SlSortCmp.WholeK
import Derived.Shelf.Spec.SlicesGrow
import Derived.Test.YtfnfpanmbmkhmaaProg
import Derived.OwnWalk
import Derived.Laws.AppendOwnNone
import Derived.Lib.SliceRun
import Derived.Shelf.SlSortCmp.NoneTotal
import Derived.Shelf.GgClosure.Gives
/- Pasts that may be: rows that rise. Plain mathematics. -/
namespace Go.Proofs.Ytfnfpanmbmkhmaa
open Go.RowKit
set_option linter.unusedVariables false

theorem ba_inj {a b : ByteArray} (h : a.data.toList = b.data.toList) : a = b := ByteArray.ext (Array.toList_inj.1 h)
theorem klt_irrefl (a : ByteArray) : klt a a = false := Km.bl_irrefl _
theorem klt_trans {a b c : ByteArray} (h : klt a b = true) (k : klt b c = true) : klt a c = true := Km.bl_trans h k
theorem klt_asymm {a b : ByteArray} (h : klt a b = true) : klt b a = false := Km.bl_asymm h
theorem klt_tri {a b : ByteArray} (h : klt a b = false) (k : klt b a = false) : a = b := ba_inj (Km.bl_tri h k)
theorem klt_ne {a b : ByteArray} (h : klt a b = true) : a ≠ b := by
  rintro rfl
  rw [klt_irrefl] at h
  cases h

/-- All may be, and the keys rise. -/
def Srt (l : List De) : Prop := (∀ d ∈ l, okD d = true) ∧ l.Pairwise (fun x y => klt x.1 y.1 = true)
instance (l : List De) : Decidable (Srt l) := inferInstanceAs (Decidable (_ ∧ _))
theorem Srt.nil : Srt [] := ⟨by simp, List.Pairwise.nil⟩
theorem Srt.take {l : List De} (h : Srt l) (k : Nat) : Srt (l.take k) := ⟨fun d hd => h.1 d (List.mem_of_mem_take hd), h.2.sublist (List.take_sublist k l)⟩
theorem Srt.tail {d : De} {l : List De} (h : Srt (d :: l)) : Srt l := ⟨fun e he => h.1 e (List.mem_cons_of_mem _ he), (List.pairwise_cons.1 h.2).2⟩
theorem Srt.sub {l m : List De} (h : Srt l) (s : m.Sublist l) : Srt m := ⟨fun d hd => h.1 d (s.subset hd), h.2.sublist s⟩

theorem srt_snoc (p : List De) (d : De) : Srt (p ++ [d]) ↔ Srt p ∧ folD p d = true := by
  unfold Srt folD
  rw [List.pairwise_append]
  constructor
  · rintro ⟨h1, h2, h3, h4⟩
    refine ⟨⟨fun e he => h1 e (by simp [he]), h2⟩, ?_⟩
    rw [h1 d (by simp), Bool.true_and]
    cases hg : p.getLast? with
    | none => rfl
    | some x =>
      have hx : x ∈ p := List.mem_of_getLast? hg
      exact h4 x hx d (by simp)
  · rintro ⟨⟨h1, h2⟩, h3⟩
    simp only [Bool.and_eq_true] at h3
    obtain ⟨h3, h4⟩ := h3
    refine ⟨fun e he => ?_, h2, List.pairwise_singleton _ _, ?_⟩
    · simp at he
      rcases he with he | rfl
      · exact h1 e he
      · exact h3
    · intro x hx y hy
      simp at hy
      subst hy
      cases hg : p.getLast? with
      | none =>
        rw [List.getLast?_eq_none_iff] at hg
        subst hg
        simp at hx
      | some z =>
        rw [hg] at h4
        simp only at h4
        obtain ⟨q, rfl⟩ := List.getLast?_eq_some_iff.1 hg
        simp at hx
        rcases hx with hx | rfl
        · exact klt_trans ((List.pairwise_append.1 h2).2.2 x hx z (by simp)) h4
        · exact h4
/-- May this past be? -/
def chkD (l : List De) : Bool := decide (l.length ≤ 24) && decide (Srt l)
theorem srt_step {l : List De} {k : Nat} (h : k < l.length) : Srt (l.take (k + 1)) ↔ Srt (l.take k) ∧ folD (l.take k) l[k] = true := by
  rw [List.take_succ_eq_append_getElem h, srt_snoc]
theorem srt_stop {l : List De} {k : Nat} (h : k < l.length) (hf : folD (l.take k) l[k] = false) : ¬ Srt l := by
  intro hs
  have := ((srt_step h).1 (hs.take (k + 1))).2
  rw [hf] at this
  cases this
theorem wid4 (l : List UInt8) : Km.wid l ≤ 4 := by
  unfold Km.wid
  split
  · omega
  · rename_i h
    exact (Km.widN_le (List.length_pos_iff.2 h)).2
theorem cnt_ge (low : Nat) (l : List UInt8) (n : Nat) (h : Km.cnt low l = some n) : l.length ≤ 4 * n := by
  induction hk : l.length using Nat.strongRecOn generalizing l n with
  | ind k ih =>
    by_cases h0 : l = []
    · subst h0
      simp at hk
      omega
    · by_cases hb : Km.wid l = 0 ∨ Km.nth l 0 < low
      · rw [Km.cnt_bad h0 hb] at h
        cases h
      · rw [Km.cnt_go h0 (by omega) (by omega)] at h
        have hp := List.length_pos_iff.2 h0
        cases hc : Km.cnt low (l.drop (Km.wid l)) with
        | none => rw [hc] at h; cases h
        | some m =>
          rw [hc] at h
          simp only [Option.map_some, Option.some.injEq] at h
          have := ih (l.drop (Km.wid l)).length (by simp; omega) (l.drop (Km.wid l)) m hc rfl
          have h4 := wid4 l
          simp at this
          omega
theorem chk_size {l : List UInt8} (h : Km.chk l = true) : l.length ≤ 32 ∧ 1 ≤ l.length := by
  unfold Km.chk Km.capV at h
  cases hc : Km.cnt 33 l with
  | none => rw [hc] at h; simp at h
  | some n =>
    rw [hc] at h
    have h1 := cnt_ge 33 l n hc
    have h2 := Km.cnt_le 33 l n hc
    simp at h
    split at h <;> simp at h
    omega
theorem okD_chk {d : De} (h : okD d = true) : Km.chk d.1.data.toList = true := by
  unfold okD at h
  simp at h
  exact h.1
theorem okD_size {d : De} (h : okD d = true) : d.1.size ≤ 32 := (chk_size (okD_chk h)).1
end Go.Proofs.Ytfnfpanmbmkhmaa
/- Contracts of the library's own functions at this program, laid by the kit's own tool. -/
namespace Go.Proofs
open Go.Shelf
def Try.lays106_ren : Go.Shelf.Ren := ⟨fun | 106 => 69 | 213 => 86 | 265 => 94 | n => n, fun | 9 => 9 | 3 => 3 | n => n, fun | n => n⟩
theorem Try.lays106 : Go.Proofs.Lays.n106 Try.prog Try.lays106_ren := {
  mixed := by kernel_rfl
  f106 := Try.func69.trans (congrArg some (by kernel_rfl))
  f213 := Try.func86.trans (congrArg some (by kernel_rfl))
  f265 := Try.func94.trans (congrArg some (by kernel_rfl))
  t3 := Try.underlying3
  a3 := Try.isAgg3
  z3 := Try.sizeOf3
  v3 := Try.zeroValue3
  t9 := Try.underlying9
  a9 := Try.isAgg9
  z9 := Try.sizeOf9
  v9 := Try.zeroValue9 }
open Go.RowKit in
theorem Try.strings_Compare (a b : ByteArray) (w : World) :
    Calls Try.prog 69 #[.string a, .string b] w fun e w' => e = .returned (.int .i64 (Lib.compareBytes a.data.toList b.data.toList)) ∧ w' = w := Any.strings_Compare Try.lays106 a b w
def Try.sortF_ren : Go.Shelf.Ren := ⟨fun | 6 => 51 | 15 => 68 | 14 => 67 | 28 => 84 | 29 => 85 | 20 => 76 | 21 => 77 | 22 => 78 | 23 => 79 | 24 => 80 | 25 => 81 | 26 => 82 | 27 => 83 | 46 => 89 | 47 => 90 | 48 => 91 | 49 => 92 | 50 => 93 | 57 => 96 | n => n, fun | 22 => 29 | 24 => 26 | 25 => 82 | 3 => 3 | 39 => 93 | 0 => 0 | 53 => 111 | 55 => 113 | 4 => 4 | 46 => 104 | 45 => 103 | 50 => 108 | 5 => 5 | 9 => 9 | 66 => 116 | 70 => 120 | 76 => 122 | 77 => 123 | n => n, fun | n => n⟩
theorem Try.sortF : Go.Proofs.SlLaysF0.n6 Try.prog Try.sortF_ren := {
  mixed := by kernel_rfl
  f6 := ⟨Try.f51.name, by decide, Try.func51.trans (congrArg some (by kernel_rfl))⟩
  f14 := ⟨Try.f67.name, by decide, Try.func67.trans (congrArg some (by kernel_rfl))⟩
  f15 := Try.func68.trans (congrArg some (by kernel_rfl))
  f20 := ⟨Try.f76.name, by decide, Try.func76.trans (congrArg some (by kernel_rfl))⟩
  f21 := ⟨Try.f77.name, by decide, Try.func77.trans (congrArg some (by kernel_rfl))⟩
  f22 := ⟨Try.f78.name, by decide, Try.func78.trans (congrArg some (by kernel_rfl))⟩
  f23 := ⟨Try.f79.name, by decide, Try.func79.trans (congrArg some (by kernel_rfl))⟩
  f24 := ⟨Try.f80.name, by decide, Try.func80.trans (congrArg some (by kernel_rfl))⟩
  f25 := ⟨Try.f81.name, by decide, Try.func81.trans (congrArg some (by kernel_rfl))⟩
  f26 := ⟨Try.f82.name, by decide, Try.func82.trans (congrArg some (by kernel_rfl))⟩
  f27 := ⟨Try.f83.name, by decide, Try.func83.trans (congrArg some (by kernel_rfl))⟩
  f28 := Try.func84.trans (congrArg some (by kernel_rfl))
  f29 := Try.func85.trans (congrArg some (by kernel_rfl))
  f46 := ⟨Try.f89.name, by decide, Try.func89.trans (congrArg some (by kernel_rfl))⟩
  f47 := Try.func90.trans (congrArg some (by kernel_rfl))
  f48 := Try.func91.trans (congrArg some (by kernel_rfl))
  f49 := ⟨Try.f92.name, by decide, Try.func92.trans (congrArg some (by kernel_rfl))⟩
  f50 := ⟨Try.f93.name, by decide, Try.func93.trans (congrArg some (by kernel_rfl))⟩
  f57 := ⟨Try.f96.name, by decide, Try.func96.trans (congrArg some (by kernel_rfl))⟩
  t0 := Try.underlying0
  a0 := Try.isAgg0
  z0 := Try.sizeOf0
  v0 := Try.zeroValue0
  t3 := Try.underlying3
  a3 := Try.isAgg3
  z3 := Try.sizeOf3
  v3 := Try.zeroValue3
  t4 := Try.underlying4
  a4 := Try.isAgg4
  z4 := Try.sizeOf4
  v4 := Try.zeroValue4
  t5 := Try.underlying5
  a5 := Try.isAgg5
  z5 := Try.sizeOf5
  v5 := Try.zeroValue5
  t9 := Try.underlying9
  a9 := Try.isAgg9
  z9 := Try.sizeOf9
  v9 := Try.zeroValue9
  t22 := Try.underlying29
  a22 := Try.isAgg29
  z22 := Try.sizeOf29
  v22 := Try.zeroValue29
  t25 := Try.underlying82
  a25 := Try.isAgg82
  z25 := Try.sizeOf82
  v25 := Try.zeroValue82
  t39 := Try.underlying93
  a39 := Try.isAgg93
  z39 := Try.sizeOf93
  v39 := Try.zeroValue93
  t45 := Try.underlying103
  a45 := Try.isAgg103
  z45 := Try.sizeOf103
  v45 := Try.zeroValue103
  t46 := Try.underlying104
  a46 := Try.isAgg104
  z46 := Try.sizeOf104
  v46 := Try.zeroValue104
  t50 := Try.underlying108
  a50 := Try.isAgg108
  z50 := Try.sizeOf108
  v50 := Try.zeroValue108
  t53 := Try.underlying111
  a53 := Try.isAgg111
  z53 := Try.sizeOf111
  v53 := Try.zeroValue111
  t55 := Try.underlying113
  a55 := Try.isAgg113
  z55 := Try.sizeOf113
  v55 := Try.zeroValue113
  t66 := Try.underlying116
  a66 := Try.isAgg116
  z66 := Try.sizeOf116
  v66 := Try.zeroValue116
  t70 := Try.underlying120
  a70 := Try.isAgg120
  z70 := Try.sizeOf120
  v70 := Try.zeroValue120
  t76 := Try.underlying122
  a76 := Try.isAgg122
  z76 := Try.sizeOf122
  v76 := Try.zeroValue122
  t77 := Try.underlying123
  a77 := Try.isAgg123
  z77 := Try.sizeOf123
  v77 := Try.zeroValue123 }
def Try.growD_ren : Go.Shelf.Ren := ⟨fun | 4 => 65 | n => n, fun | 22 => 29 | 25 => 26 | 3 => 3 | 4 => 4 | 9 => 9 | 20 => 20 | 0 => 0 | n => n, fun | n => n⟩
theorem Try.growD : Go.Proofs.Lays8.n4 Try.prog Try.growD_ren := {
  mixed := by kernel_rfl
  f4 := ⟨Try.f65.name, by decide, Try.func65.trans (congrArg some (by kernel_rfl))⟩
  t0 := Try.underlying0
  a0 := Try.isAgg0
  z0 := Try.sizeOf0
  v0 := Try.zeroValue0
  t3 := Try.underlying3
  a3 := Try.isAgg3
  z3 := Try.sizeOf3
  v3 := Try.zeroValue3
  t4 := Try.underlying4
  a4 := Try.isAgg4
  z4 := Try.sizeOf4
  v4 := Try.zeroValue4
  t9 := Try.underlying9
  a9 := Try.isAgg9
  z9 := Try.sizeOf9
  v9 := Try.zeroValue9
  t20 := Try.underlying20
  a20 := Try.isAgg20
  z20 := Try.sizeOf20
  v20 := Try.zeroValue20
  t22 := Try.underlying29
  a22 := Try.isAgg29
  z22 := Try.sizeOf29
  v22 := Try.zeroValue29 }
end Go.Proofs
/- stamp.Less, with the draws counted; past.latestFirst. -/
namespace Go.Proofs.Ytfnfpanmbmkhmaa
open Go.RowKit
set_option linter.unusedVariables false
set_option linter.unusedSimpArgs false

set_option maxRecDepth 100000 in
set_option maxHeartbeats 400000 in
theorem laterG_any (n s m t : Int) (w : World) :
    Calls Try.prog 46 #[.agg #[.int .i64 n, .int .i64 s], .agg #[.int .i64 m, .int .i64 t]] w fun e w' => e = .returned (sv (Sm.later (n, s) (m, t))) ∧ Below w.heap.size w w' ∧ w.drawn ≤ w'.drawn := by
  go_enter Try.func46, Try.ntmps46
  go_wp2
  all_goals
    first
      | (have e : Sm.later (n, s) (m, t) = (n, s) := by (unfold Sm.later; rw [if_pos (by rw [Sm.less_iff]; simp; omega)]))
      | (have e : Sm.later (n, s) (m, t) = (m, t) := by (unfold Sm.later; rw [if_neg (by rw [Sm.less_iff]; simp; omega)]))
    rw [e]
    refine bodyPost_ret (v := _) (by simp [results, Try.results46, go_sem]; rfl) rfl ⟨?_, ?_, ?_⟩
    · simp [sv]
      try omega
    · exact ((((Below.refl _ w).alloc (Nat.le_refl _) _).alloc (by simp) _).alloc (by simp; omega) _)
    · exact Nat.le_refl _

set_option maxRecDepth 100000 in
set_option maxHeartbeats 1000000 in
theorem lessG_any (n s m t : Int) (c : Bool) (w : World) (hc : Sm.less (n, s) (m, t) = c) :
    Calls Try.prog 33 #[.agg #[.int .i64 n, .int .i64 s], .agg #[.int .i64 m, .int .i64 t]] w fun e w' => e = .returned (.bool c) ∧ Below w.heap.size w w' ∧ w.drawn ≤ w'.drawn := by
  rw [← hc]
  clear hc
  go_enter Try.func33, Try.ntmps33
  go_wp2_with fail
  have hne : ∀ w', (binOp .neq 24 (sv (Sm.later (n, s) (m, t))) (.agg #[.int .i64 n, .int .i64 s])).run Try.prog w' = .ok (.bool (Sm.less (n, s) (m, t))) w' := by
    intro w'
    rw [ne_stamp]
    congr 2
    have := Sm.later_ne (n, s) (m, t)
    cases h : Sm.less (n, s) (m, t) <;> simp_all
  have g0 : (((w.alloc (.cells #[.int .i64 n, .int .i64 s] 24)).alloc (.cells #[.int .i64 m, .int .i64 t] 24)).cell? ⟨w.heap.size, 0, none⟩ = some (.int .i64 n) ∧ ((w.alloc (.cells #[.int .i64 n, .int .i64 s] 24)).alloc (.cells #[.int .i64 m, .int .i64 t] 24)).cell? ⟨w.heap.size, 1, none⟩ = some (.int .i64 s) ∧ ((w.alloc (.cells #[.int .i64 n, .int .i64 s] 24)).alloc (.cells #[.int .i64 m, .int .i64 t] 24)).cell? ⟨w.heap.size + 1, 0, none⟩ = some (.int .i64 m) ∧ ((w.alloc (.cells #[.int .i64 n, .int .i64 s] 24)).alloc (.cells #[.int .i64 m, .int .i64 t] 24)).cell? ⟨w.heap.size + 1, 1, none⟩ = some (.int .i64 t)) := by
    refine ⟨?_, ?_, ?_, ?_⟩ <;> simp
  go_region_held3 (fun w' => w'.cell? ⟨w.heap.size, 0, none⟩ = some (.int .i64 n) ∧ w'.cell? ⟨w.heap.size, 1, none⟩ = some (.int .i64 s) ∧ w'.cell? ⟨w.heap.size + 1, 0, none⟩ = some (.int .i64 m) ∧ w'.cell? ⟨w.heap.size + 1, 1, none⟩ = some (.int .i64 t))
    (first | exact g0 | exact g1)
    (first
      | (go_at_call 46; ((with_reducible refine (laterG_any n s m t _).mono ?_); rintro e wa ⟨rfl, ha, hd⟩; have g1 := keep22 ha g0)))
  have hd' : w.drawn + 1 ≤ wa.drawn := hd
  have HD := Lib.hid hd'
  clear hd hd'
  go_wp2
  go_ret
  exact ⟨rfl, bstep (balloc (balloc (Below.refl _ w) _) _).drew ha, by have := HD.out; omega⟩

/-- Draws, and blocks behind: nothing else. -/
theorem grn_of {w w' : World} (hb : Below w.heap.size w w') (hd : w.drawn ≤ w'.drawn) : ∃ q os', w' = Sort.grow (w.drewN q) os' := by
  refine ⟨w'.drawn - w.drawn, w'.heap.extract w.heap.size w'.heap.size, ?_⟩
  have hh : w'.heap = w.heap ++ w'.heap.extract w.heap.size w'.heap.size := by
    apply Array.ext_getElem?
    intro i
    by_cases hi : i < w.heap.size
    · rw [hb.block i hi, Array.getElem?_append_left hi]
    · rw [Array.getElem?_append_right (by omega), Array.getElem?_extract]
      have := hb.size
      by_cases h2 : i < w'.heap.size
      · rw [if_pos (by omega)]
        congr 1
        omega
      · rw [if_neg (by omega), Array.getElem?_eq_none (by omega)]
  cases w' with
  | mk heap tape drawn os output =>
    simp only at hh hd
    unfold Sort.grow World.drewN
    simp only [World.mk.injEq]
    exact ⟨hh, hb.tape, by omega, hb.os, hb.output⟩

/-- How past.latestFirst compares. -/
def cfD (x y : De) : Int := if x.1 = y.1 then (if Sm.less y.2 x.2 = true then -1 else if Sm.less x.2 y.2 = true then 1 else 0) else Lib.compareBytes x.1.data.toList y.1.data.toList

set_option maxRecDepth 100000 in
set_option maxHeartbeats 1600000 in
theorem latest_any (x : ByteArray) (y z : Int) (x' : ByteArray) (y' z' : Int) (w : World) :
    Calls Try.prog 52 #[.agg #[.string x, .int .i64 y, .int .i64 z], .agg #[.string x', .int .i64 y', .int .i64 z']] w fun e w' => e = .returned (.int .i64 (cfD (x, y, z) (x', y', z'))) ∧ Below w.heap.size w w' ∧ w.drawn ≤ w'.drawn := by
  have hb0 : Below w.heap.size w ((w.alloc (.cells #[.string x, .int .i64 y, .int .i64 z] 26)).alloc (.cells #[.string x', .int .i64 y', .int .i64 z'] 26)) := balloc (balloc (Below.refl _ w) _) _
  cases hq : (x.toList == x'.toList) with
  | false =>
    have hq' : ¬ x.toList = x'.toList := by simpa using hq
    have hne : x ≠ x' := fun h => hq' (by rw [h])
    rw [show cfD (x, y, z) (x', y', z') = Lib.compareBytes x.data.toList x'.data.toList by simp [cfD, hne]]
    clear hne
    go_enter Try.func52, Try.ntmps52
    go_wp2_with fail
    refine (Try.strings_Compare x x' _).mono ?_
    rintro e w1 ⟨rfl, rfl⟩
    go_wp2
    go_ret
    exact ⟨rfl, hb0, Nat.le_refl _⟩
  | true =>
    have hq' : x.toList = x'.toList := by simpa using hq
    obtain rfl : x = x' := ba_inj (by rw [← Lib.toList_data, ← Lib.toList_data]; exact hq')
    clear hq' hq
    have c10 : ((w.alloc (.cells #[.string x, .int .i64 y, .int .i64 z] 26)).alloc (.cells #[.string x, .int .i64 y', .int .i64 z'] 26)).cell? ⟨w.heap.size, 1, none⟩ = some (.int .i64 y) := by simp
    have c11 : ((w.alloc (.cells #[.string x, .int .i64 y, .int .i64 z] 26)).alloc (.cells #[.string x, .int .i64 y', .int .i64 z'] 26)).cell? ⟨w.heap.size, 2, none⟩ = some (.int .i64 z) := by simp
    have c12 : ((w.alloc (.cells #[.string x, .int .i64 y, .int .i64 z] 26)).alloc (.cells #[.string x, .int .i64 y', .int .i64 z'] 26)).cell? ⟨w.heap.size + 1, 1, none⟩ = some (.int .i64 y') := by simp
    have c13 : ((w.alloc (.cells #[.string x, .int .i64 y, .int .i64 z] 26)).alloc (.cells #[.string x, .int .i64 y', .int .i64 z'] 26)).cell? ⟨w.heap.size + 1, 2, none⟩ = some (.int .i64 z') := by simp
    cases h1 : Sm.less (y', z') (y, z) with
    | true =>
      rw [show cfD (x, y, z) (x, y', z') = -1 by simp [cfD, h1]]
      have H1 := Lib.hid h1
      clear h1 c10 c11 c12 c13
      go_enter Try.func52, Try.ntmps52
      go_wp2_with fail
      refine (lessG_any y' z' y z _ _ H1.out).mono ?_
      rintro e w1 ⟨rfl, hb, hd⟩
      have hd' : w.drawn ≤ w1.drawn := hd
      clear hd
      go_wp2
      go_ret
      exact ⟨rfl, bstep hb0 hb, hd'⟩
    | false =>
      have H1 := Lib.hid h1
      cases h2 : Sm.less (y, z) (y', z') with
      | true =>
        rw [show cfD (x, y, z) (x, y', z') = 1 by simp [cfD, h1, h2]]
        have H2 := Lib.hid h2
        clear h1 h2
        go_enter Try.func52, Try.ntmps52
        go_wp2_with fail
        refine (lessG_any y' z' y z _ _ H1.out).mono ?_
        rintro e w1 ⟨rfl, hb, hd⟩
        have d0 := kc hb c10
        have d1 := kc hb c11
        have d2 := kc hb c12
        have d3 := kc hb c13
        have hd' : w.drawn ≤ w1.drawn := hd
        have hb1 := bstep hb0 hb
        clear hd c10 c11 c12 c13 hb
        go_wp2_with fail
        refine (lessG_any y z y' z' _ _ H2.out).mono ?_
        rintro e w2 ⟨rfl, hb, hd⟩
        go_wp2
        go_ret
        exact ⟨rfl, bstep hb1 hb, Nat.le_trans hd' hd⟩
      | false =>
        rw [show cfD (x, y, z) (x, y', z') = 0 by simp [cfD, h1, h2]]
        have H2 := Lib.hid h2
        clear h1 h2
        go_enter Try.func52, Try.ntmps52
        go_wp2_with fail
        refine (lessG_any y' z' y z _ _ H1.out).mono ?_
        rintro e w1 ⟨rfl, hb, hd⟩
        have d0 := kc hb c10
        have d1 := kc hb c11
        have d2 := kc hb c12
        have d3 := kc hb c13
        have hd' : w.drawn ≤ w1.drawn := hd
        have hb1 := bstep hb0 hb
        clear hd c10 c11 c12 c13 hb
        go_wp2_with fail
        refine (lessG_any y z y' z' _ _ H2.out).mono ?_
        rintro e w2 ⟨rfl, hb, hd⟩
        go_wp2
        go_ret
        exact ⟨rfl, bstep hb1 hb, Nat.le_trans hd' hd⟩
end Go.Proofs.Ytfnfpanmbmkhmaa
/- Appending to a row of the call's own: one dependency; a row of them. -/
namespace Go.Proofs.Ytfnfpanmbmkhmaa
open Go.RowKit
set_option linter.unusedVariables false

/-- What lies outside the row lies as it lay. -/
abbrev KeptD (v : Value) (w w' : World) : Prop := ∀ k, k < w.heap.size → v.ownBlock ≠ some k → w'.heap[k]? = w.heap[k]?
theorem KeptD.cell {v : Value} {w w' : World} (h : KeptD v w w') {b o : Nat} {u : Value} (hlt : b < w.heap.size) (hne : v.ownBlock ≠ some b) (hc : w.cell? ⟨b, o, none⟩ = some u) : w'.cell? ⟨b, o, none⟩ = some u := by
  rw [World.cell?_of_block (h b hlt hne)]; exact hc
theorem OwnD.lt' {w : World} {base : Nat} {v : Value} {l : List De} (h : OwnD w base v l) {k : Nat} (hk : w.heap.size ≤ k) : v.ownBlock ≠ some k := fun e => by have := (h.lt k e).2; omega
theorem OwnD.lo {w : World} {base : Nat} {v : Value} {l : List De} (h : OwnD w base v l) {k : Nat} (hk : k < base) : v.ownBlock ≠ some k := fun e => by have := (h.lt k e).1; omega

theorem wp_pushD {ops : Array Oper} {rest : List Oper} {o : Oper} {a : Act} {Q : Exit → Act → World → Prop} {wr : World} (hgd : o.guard = none) (s x : Operand)
    (hop : o.op = .call { callee := .builtin .append, args := #[s, x], argTypes := #[29, 29] })
    (base : Nat) (v : Value) (l : List De) (k : ByteArray) (n t : Int) (hs : a.eval s = v) (hown : OwnD wr base v l) (hx : a.eval x = .slice (some ⟨wr.heap.size, 0, none⟩) 1 1) (hl : l.length ≤ 1000000) (hbs : base ≤ wr.heap.size)
    (h : ∀ g cap w', OwnD w' base (.slice (some ⟨g, 0, none⟩) (l.length + 1) cap) (l ++ [(k, n, t)]) → Below base wr w' → KeptD v wr w' → g < w'.heap.size → wpList Try.prog ops Q rest (a.put o.dst (.slice (some ⟨g, 0, none⟩) (l.length + 1) cap)) w') :
    wpList Try.prog ops Q (o :: rest) a (wr.alloc (.cells #[.string k, .int .i64 n, .int .i64 t] 26)) := by
  obtain ⟨i0, hi, hz0, hz1, hz2⟩ := info_parts info_de
  refine wpList_append_lies _ hgd s x 29 hop base 26 i0 _ 3 32 Try.underlying29 hi hz0 hz1 hz2 rfl (by decide) v l.length (dV l) hs (hown.alloc _) ⟨wr.heap.size, 0, none⟩ 1 1 [.string k, .int .i64 n, .int .i64 t] hx rfl
    (World.news_of_block (cs := #[.string k, .int .i64 n, .int .i64 t]) (t := 26) (fr := (0, 0)) (heap_alloc_new wr _)) (by simp [Value.oneCell']) (by omega) (by unfold maxLen; omega) (by omega) (by simp; omega) (wr.heap.size + 1) (by simp) ?_
  intro g cap w' ho hg _ hlt
  obtain ⟨p1, p2⟩ := OwnD.push hbs hown ho hg
  refine h g cap w' p1 p2 (fun j hj hne => ?_) hlt
  rw [hg.block j (by simp; omega) (fun e => hne e.symm)]
  exact Below.heap_alloc _ _ _ hj

theorem wp_appD {ops : Array Oper} {rest : List Oper} {o : Oper} {a : Act} {Q : Exit → Act → World → Prop} {w : World} (hgd : o.guard = none) (s x : Operand)
    (hop : o.op = .call { callee := .builtin .append, args := #[s, x], argTypes := #[29, 29] })
    (base : Nat) (v u : Value) (l m : List De) (hs : a.eval s = v) (hown : OwnD w base v l) (hx : a.eval x = u) (hu : DepAt w u m) (hl : l.length + m.length ≤ 1000000) (hbs : base ≤ w.heap.size)
    (h : ∀ v' w', OwnD w' base v' (l ++ m) → Below base w w' → KeptD v w w' → (v' = .slice none 0 0 ↔ v = .slice none 0 0 ∧ m = []) → wpList Try.prog ops Q rest (a.put o.dst v') w') :
    wpList Try.prog ops Q (o :: rest) a w := by
  obtain ⟨i0, hi, hz0, hz1, hz2⟩ := info_parts info_de
  obtain ⟨b, cap, rfl, hcap, hmx, hnil, hr⟩ := hu
  cases b with
  | some b =>
    refine wpList_append_own _ hgd s x 29 hop base 26 i0 _ 3 32 Try.underlying29 hi hz0 hz1 hz2 rfl (by decide) v l.length (dV l) hs hown b m.length cap (dV m) hx (dV_len m) hr.news (dV_one m) (by unfold maxLen; omega) (by omega) hbs ?_
    intro v' w' ho hg hn
    refine h v' w' (by unfold OwnD; rw [dV_append, List.length_append]; exact ho) ((Below.refl base w).grown hg hbs (fun k hk => (hown.lt k hk).1)) (fun j hj hne => hg.block j hj (fun e => hne e.symm)) ?_
    rw [hn, List.length_eq_zero_iff]
  | none =>
    have hc0 := hnil rfl
    obtain rfl : m = [] := List.length_eq_zero_iff.1 (by omega)
    subst hc0
    refine wpList_append_own_none hgd s x 29 hop base 26 i0 3 Try.underlying29 hi v l.length (dV l) hs hown hx ?_
    exact h v w (by rw [List.append_nil]; exact hown) (Below.refl _ _) (fun _ _ _ => rfl) (by simp)

/-- A variable of a dependency's type: block b holds it, and may be written. -/
structure VarD (w : World) (b : Nat) (x : ByteArray) (y z : Int) : Prop where
  c0 : w.cell? ⟨b, 0, none⟩ = some (.string x)
  c1 : w.cell? ⟨b, 1, none⟩ = some (.int .i64 y)
  c2 : w.cell? ⟨b, 2, none⟩ = some (.int .i64 z)
  f0 : w.frozen? ⟨b, 0, none⟩ = false
  f1 : w.frozen? ⟨b, 1, none⟩ = false
  f2 : w.frozen? ⟨b, 2, none⟩ = false
theorem VarD.new (w : World) (x : ByteArray) (y z : Int) (T : TypeId) : VarD (w.alloc (.cells #[.string x, .int .i64 y, .int .i64 z] T)) w.heap.size x y z := ⟨by simp, by simp, by simp, by simp, by simp, by simp⟩
theorem VarD.lt {w : World} {b : Nat} {x : ByteArray} {y z : Int} (h : VarD w b x y z) : b < w.heap.size := lt_of_cellN h.c0
theorem VarD.keep {w w' : World} {b : Nat} {x : ByteArray} {y z : Int} (h : VarD w b x y z) (hb : Below w.heap.size w w') : VarD w' b x y z :=
  ⟨kc hb h.c0, kc hb h.c1, kc hb h.c2, (hb.frozen (p := ⟨b, 0, none⟩) h.lt).trans h.f0, (hb.frozen (p := ⟨b, 1, none⟩) h.lt).trans h.f1, (hb.frozen (p := ⟨b, 2, none⟩) h.lt).trans h.f2⟩
theorem VarD.block {w w' : World} {b : Nat} {x : ByteArray} {y z : Int} (h : VarD w b x y z) (hb : w'.heap[b]? = w.heap[b]?) : VarD w' b x y z := by
  refine ⟨?_, ?_, ?_, ?_, ?_, ?_⟩
  · rw [World.cell?_of_block hb]; exact h.c0
  · rw [World.cell?_of_block hb]; exact h.c1
  · rw [World.cell?_of_block hb]; exact h.c2
  · rw [World.frozen?_of_block hb]; exact h.f0
  · rw [World.frozen?_of_block hb]; exact h.f1
  · rw [World.frozen?_of_block hb]; exact h.f2
abbrev World.put3 (w : World) (b : Nat) (x y z : Value) : World := ((w.setCell ⟨b, 0, none⟩ x).setCell ⟨b, 1, none⟩ y).setCell ⟨b, 2, none⟩ z
theorem VarD.put {w : World} {b : Nat} {x : ByteArray} {y z : Int} (h : VarD w b x y z) (x' : ByteArray) (y' z' : Int) : VarD (World.put3 w b (.string x') (.int .i64 y') (.int .i64 z')) b x' y' z' := by
  have c1 : (w.setCell ⟨b, 0, none⟩ (.string x')).cell? ⟨b, 1, none⟩ = some (.int .i64 y) := by rw [World.cell?_setCell_other _ _ _ _ (by simp)]; exact h.c1
  have c2 : ((w.setCell ⟨b, 0, none⟩ (.string x')).setCell ⟨b, 1, none⟩ (.int .i64 y')).cell? ⟨b, 2, none⟩ = some (.int .i64 z) := by
    rw [World.cell?_setCell_other _ _ _ _ (by simp), World.cell?_setCell_other _ _ _ _ (by simp)]; exact h.c2
  refine ⟨?_, ?_, World.cell?_setCell_same _ _ _ c2, by simpa [World.put3] using h.f0, by simpa [World.put3] using h.f1, by simpa [World.put3] using h.f2⟩
  · rw [World.put3, World.cell?_setCell_other _ _ _ _ (by simp), World.cell?_setCell_other _ _ _ _ (by simp)]; exact World.cell?_setCell_same _ _ _ h.c0
  · rw [World.put3, World.cell?_setCell_other _ _ _ _ (by simp)]; exact World.cell?_setCell_same _ _ _ c1
theorem put3_size (w : World) (b : Nat) (x y z : Value) : (World.put3 w b x y z).heap.size = w.heap.size := by simp [World.put3, World.setCell]
theorem put3_block (w : World) (b : Nat) (x y z : Value) (k : Nat) (h : k ≠ b) : (World.put3 w b x y z).heap[k]? = w.heap[k]? := by
  rw [World.put3, Below.heap_setCell _ _ _ _ h, Below.heap_setCell _ _ _ _ h, Below.heap_setCell _ _ _ _ h]
theorem below_put3 {n b : Nat} {w w' : World} (hb : Below n w w') (h : n ≤ b) (x y z : Value) : Below n w (World.put3 w' b x y z) := ((hb.setCell h _).setCell h _).setCell h _
theorem OwnD.put3 {w : World} {base b : Nat} {v : Value} {l : List De} (h : OwnD w base v l) (hne : v.ownBlock ≠ some b) (x y z : Value) : OwnD (World.put3 w b x y z) base v l := by
  refine ⟨h.1, ?_⟩
  rcases h.2 with h0 | ⟨g, cap, cur, rfl, hbg, hg, r⟩
  · exact .inl h0
  · exact .inr ⟨g, cap, cur, rfl, hbg, (put3_block w b x y z g (fun e => hne (by simp [Value.ownBlock, e]))).trans hg, r⟩
end Go.Proofs.Ytfnfpanmbmkhmaa
/- Rows of the call's own, written: one element, a part cleared, a part cut off. -/
namespace Go.Proofs.Ytfnfpanmbmkhmaa
open Go.RowKit
set_option linter.unusedVariables false

theorem OwnD.at {w : World} {base g n cap : Nat} {l : List De} (h : OwnD w base (.slice (some ⟨g, 0, none⟩) n cap) l) (i : Nat) (hi : i < l.length) :
    w.cell? ⟨g, i * 3, none⟩ = some (.string l[i].1) ∧ w.cell? ⟨g, i * 3 + 1, none⟩ = some (.int .i64 l[i].2.1) ∧ w.cell? ⟨g, i * 3 + 2, none⟩ = some (.int .i64 l[i].2.2) := by
  obtain ⟨a, c, e, _, _, _, hr⟩ := DepAt.of_own h
  obtain ⟨b, off, e', _, h0, h1, h2⟩ := hr i hi
  cases e
  cases e'
  simp only [Nat.zero_add] at h0 h1 h2
  exact ⟨h0, h1, h2⟩
theorem OwnD.fr {w : World} {base g cap : Nat} {l : List De} (h : OwnD w base (.slice (some ⟨g, 0, none⟩) l.length cap) l) (j : Nat) : w.frozen? ⟨g, j, none⟩ = false := h.frozenAt j
theorem OwnD.blk {w : World} {base g n cap : Nat} {l : List De} (h : OwnD w base (.slice (some ⟨g, 0, none⟩) n cap) l) : base ≤ g ∧ g < w.heap.size := h.lt g rfl
theorem OwnD.cap {w : World} {base g n cap : Nat} {l : List De} (h : OwnD w base (.slice (some ⟨g, 0, none⟩) n cap) l) : n = l.length ∧ l.length ≤ cap ∧ cap ≤ maxLen := by
  rcases h.2 with ⟨h', _⟩ | ⟨g', cap', cur, h', hb, hg, hnc, hcm, hcs, htake⟩
  · simp at h'
  · simp only [Value.slice.injEq] at h'
    obtain ⟨_, rfl, rfl⟩ := h'
    exact ⟨rfl, hnc, hcm⟩
/-- One element written. -/
theorem OwnD.set {w : World} {base g cap : Nat} {l : List De} (h : OwnD w base (.slice (some ⟨g, 0, none⟩) l.length cap) l) (i : Nat) (hi : i < l.length) (x : ByteArray) (y z : Int) :
    OwnD (((w.setCell ⟨g, i * 3, none⟩ (.string x)).setCell ⟨g, i * 3 + 1, none⟩ (.int .i64 y)).setCell ⟨g, i * 3 + 2, none⟩ (.int .i64 z)) base (.slice (some ⟨g, 0, none⟩) l.length cap) (l.set i (x, y, z)) := by
  have h3 := (((h.stored (i * 3) (.string x)).1.stored (i * 3 + 1) (.int .i64 y)).1.stored (i * 3 + 2) (.int .i64 z)).1
  unfold OwnD
  rw [← dV_set l i (x, y, z) hi, List.length_set]
  exact h3
theorem below_set {base g j0 j1 j2 : Nat} {w w' : World} (hb : Below base w w') (hg : base ≤ g) (x y z : Value) : Below base w (((w'.setCell ⟨g, j0, none⟩ x).setCell ⟨g, j1, none⟩ y).setCell ⟨g, j2, none⟩ z) := ((hb.setCell hg _).setCell hg _).setCell hg _

theorem own_setCells {base e n cap g : Nat} : ∀ (vs : List Value) (w : World) (o : Nat) (xs : List Value), w.ownsRow base e 3 (.slice (some ⟨g, 0, none⟩) n cap) n xs →
    ∃ xs', (w.setCells g o vs).ownsRow base e 3 (.slice (some ⟨g, 0, none⟩) n cap) n xs' ∧ xs'.take o = xs.take o
  | [], w, o, xs, h => ⟨xs, h, rfl⟩
  | v :: vs, w, o, xs, h => by
    obtain ⟨xs', h1, h2⟩ := own_setCells vs _ (o + 1) _ (h.stored o v).1
    refine ⟨xs', h1, ?_⟩
    have : xs'.take o = (xs'.take (o + 1)).take o := by rw [List.take_take, Nat.min_eq_left (by omega)]
    rw [this, h2, List.take_take, Nat.min_eq_left (by omega), List.take_set_of_le (Nat.le_refl _)]
theorem below_setCells {base g : Nat} {w0 : World} (hg : base ≤ g) : ∀ (vs : List Value) (w : World) (o : Nat), Below base w0 w → Below base w0 (w.setCells g o vs)
  | [], w, o, h => h
  | v :: vs, w, o, h => below_setCells hg vs _ (o + 1) (h.setCell hg v)
/-- A part of a row. -/
theorem own_cut {base e n cap g k : Nat} {w : World} {xs : List Value} (h : w.ownsRow base e 3 (.slice (some ⟨g, 0, none⟩) n cap) n xs) (hk : k ≤ n) : w.ownsRow base e 3 (.slice (some ⟨g, 0, none⟩) k cap) k (xs.take (k * 3)) := by
  rcases h.2 with ⟨h', _⟩ | ⟨g', cap', cur, h', hb, hg, hnc, hcm, hcs, htake⟩
  · simp at h'
  · simp only [Value.slice.injEq, Option.some.injEq, Addr.mk.injEq, and_true, true_and] at h'
    obtain ⟨rfl, rfl⟩ := h'
    refine ⟨by rw [List.length_take, h.1]; omega, .inr ⟨g, cap, cur, rfl, hb, hg, by omega, hcm, hcs, ?_⟩⟩
    rw [← htake, List.take_take, Nat.min_eq_left (by omega)]

theorem run_clear_dep (w : World) (b o n c : Nat) (hn : 0 < n) (hc : ∀ j, j < n * 3 → (w.cell? ⟨b, o + j, none⟩).isSome = true) (hf : ∀ j, j < n * 3 → w.frozen? ⟨b, o + j, none⟩ = false) :
    ∃ vs, ∀ ty, (Builtin.clear_ #[29] ty #[.slice (some ⟨b, o, none⟩) n c]).run Try.prog w = .ok (.tuple #[]) (w.setCells b o vs) := by
  refine ⟨(Builtin.zeroCells #[.string ⟨#[]⟩, .int .i64 0, .int .i64 0] n).toList, fun ty => ?_⟩
  have hlen : (Builtin.zeroCells #[.string ⟨#[]⟩, .int .i64 0, .int .i64 0] n).toList.length = n * 3 := by simp [Builtin.zeroCells]
  have hv : ∀ w, (zeroValue 26).run Try.prog w = .ok (.agg #[.string ⟨#[]⟩, .int .i64 0, .int .i64 0]) w := Try.zeroValue26
  have hst := run_storeCells_cells (P := Try.prog) b o (Builtin.zeroCells #[.string ⟨#[]⟩, .int .i64 0, .int .i64 0] n).toList 0 w (by rw [hlen]; simpa using hc) (by rw [hlen]; simpa using hf) (by
    intro v hv'
    simp [Builtin.zeroCells] at hv'
    obtain ⟨j, hj, rfl⟩ := hv'
    have : j % 3 = 0 ∨ j % 3 = 1 ∨ j % 3 = 2 := by omega
    rcases this with h | h | h <;> simp [h] <;> rfl)
  simp only [Nat.add_zero] at hst
  obtain ⟨m, rfl⟩ : ∃ m, n = m + 1 := ⟨n - 1, by omega⟩
  simp [Builtin.clear_, run_underlying Try.underlying29, hv, hst, Value.cells]
end Go.Proofs.Ytfnfpanmbmkhmaa
/- What slices.SortFunc answers of dependencies in a row of the caller's own, by past.latestFirst. -/
namespace Go.Proofs.Ytfnfpanmbmkhmaa
open Go.RowKit Go.Sort
set_option linter.unusedVariables false
set_option linter.unusedSimpArgs false

theorem cmpB_lt : ∀ (a b : List UInt8), decide (Lib.compareBytes a b < 0) = Op.bytesLess a b
  | [], [] => by simp [Lib.compareBytes, Op.bytesLess]
  | [], _ :: _ => by simp [Lib.compareBytes, Op.bytesLess]
  | _ :: _, [] => by simp [Lib.compareBytes, Op.bytesLess]
  | a :: ra, b :: rb => by
    have ih := cmpB_lt ra rb
    unfold Lib.compareBytes Op.bytesLess
    by_cases h1 : a < b
    · simp [h1]
    · by_cases h2 : b < a
      · have hne : ¬ a = b := fun e => by subst e; exact h1 h2
        simp [h1, h2, hne]
      · have e : a = b := by
          rw [← UInt8.toNat_inj]
          rw [UInt8.lt_iff_toNat_lt] at h1 h2
          omega
        subst e
        simp [h1]
        simpa using ih

/-- The order of the sort: by keys; of one key the later first. -/
def ltD (x y : De) : Bool := if x.1 = y.1 then Sm.less y.2 x.2 else klt x.1 y.1
theorem ltD_eq (x y : De) : ltOf cfD x y = ltD x y := by
  unfold ltOf cfD ltD
  by_cases h : x.1 = y.1
  · rw [if_pos h, if_pos h]
    cases h1 : Sm.less y.2 x.2 with
    | true => simp
    | false => cases h2 : Sm.less x.2 y.2 <;> simp
  · rw [if_neg h, if_neg h]
    exact cmpB_lt _ _
theorem swoD : SWO (ltOf cfD) where
  irrefl x := by rw [ltD_eq]; simp [ltD, Sm.less_self]
  trans x y z h1 h2 := by
    rw [ltD_eq] at *
    unfold ltD at *
    by_cases a : x.1 = y.1
    · rw [if_pos a] at h1
      by_cases b : y.1 = z.1
      · rw [if_pos b] at h2
        rw [if_pos (a.trans b)]
        exact Sm.less_trans h2 h1
      · rw [if_neg b] at h2
        rw [if_neg (fun e => b (a.symm.trans e)), a]
        exact h2
    · rw [if_neg a] at h1
      by_cases b : y.1 = z.1
      · rw [if_neg (fun e => a (e.trans b.symm)), ← b]
        exact h1
      · rw [if_neg b] at h2
        have h3 := klt_trans h1 h2
        rw [if_neg (klt_ne h3)]
        exact h3
  ntrans x y z h1 h2 := by
    rw [ltD_eq] at *
    unfold ltD at *
    by_cases a : x.1 = y.1
    · rw [if_pos a] at h1
      by_cases b : y.1 = z.1
      · rw [if_pos b] at h2
        rw [if_pos (a.trans b)]
        exact Sm.le_trans h1 h2
      · rw [if_neg b] at h2
        rw [if_neg (fun e => b (a.symm.trans e)), a]
        exact h2
    · rw [if_neg a] at h1
      by_cases b : y.1 = z.1
      · rw [if_neg (fun e => a (e.trans b.symm)), ← b]
        exact h1
      · rw [if_neg b] at h2
        have h4 : klt y.1 x.1 = true := by
          cases h : klt y.1 x.1 with
          | true => rfl
          | false => exact absurd (klt_tri h1 h) a
        have h5 : klt z.1 y.1 = true := by
          cases h : klt z.1 y.1 with
          | true => rfl
          | false => exact absurd (klt_tri h2 h) b
        have h6 := klt_trans h5 h4
        rw [if_neg (fun e => klt_ne h6 e.symm)]
        exact klt_asymm h6

def encD (d : De) : List Value := [.string d.1, .int .i64 d.2.1, .int .i64 d.2.2]
theorem flat_dV (l : List De) (t : Nat) (h : t < l.length * 3) : (dV l)[t]? = some (flatK encD 3 l.toArray)[t]! := by
  rw [get_flatK _ _ _ _ (by simpa using h)]
  obtain ⟨k0, k1, k2⟩ := dV_get l (t / 3) (by omega)
  have e : l.toArray[t / 3]! = l[t / 3]'(by omega) := by
    rw [getElem!_pos _ _ (by simp; omega)]
    simp
  rw [e]
  rcases (show (t = t / 3 * 3 ∧ t % 3 = 0) ∨ (t = t / 3 * 3 + 1 ∧ t % 3 = 1) ∨ (t = t / 3 * 3 + 2 ∧ t % 3 = 2) by omega) with ⟨e1, e2⟩ | ⟨e1, e2⟩ | ⟨e1, e2⟩
  · rw [e2]
    conv => lhs; rw [e1]
    rw [k0]; rfl
  · rw [e2]
    conv => lhs; rw [e1]
    rw [k1]; rfl
  · rw [e2]
    conv => lhs; rw [e1]
    rw [k2]; rfl
theorem OwnD.holds {w : World} {base g cap : Nat} {l : List De} (h : OwnD w base (.slice (some ⟨g, 0, none⟩) l.length cap) l) : HoldsK encD 3 w g 0 l.toArray := by
  intro j hj
  rw [size_flatK] at hj
  have hj' : j < l.length * 3 := by simpa using hj
  refine ⟨?_, by rw [Nat.zero_add]; exact h.fr j⟩
  have h1 := h.cellAt j (by omega)
  rw [Nat.zero_add, h1]
  exact flat_dV l j hj'
theorem OwnD.sorted {w : World} {base g cap n : Nat} {l l' : List De} {os : Array Obj} (h : OwnD w base (.slice (some ⟨g, 0, none⟩) l.length cap) l) (hl : l'.length = l.length) :
    OwnD (sortWorldK encD 3 w g 0 n l'.toArray os) base (.slice (some ⟨g, 0, none⟩) l.length cap) l' ∧ Below base w (sortWorldK encD 3 w g 0 n l'.toArray os) := by
  rcases h.2 with ⟨e0, _⟩ | ⟨g', cap', cur, e0, hb, hg, hn, hm, hs, ht⟩
  · cases e0
  · cases e0
    have hlt : g < w.heap.size := (Array.getElem?_eq_some_iff.1 hg).1
    have hblk : ∀ k, k < w.heap.size → (sortWorldK encD 3 w g 0 n l'.toArray os).heap[k]? = (putRowK encD 3 (Sort.ahead w n) g 0 l'.toArray).heap[k]? := by
      intro k hk
      unfold sortWorldK Sort.grow
      simp only
      rw [Array.getElem?_append_left]
      unfold putRowK
      rw [size_putRow]
      exact hk
    refine ⟨⟨by rw [dV_len], .inr ⟨g, cap, putCells id 0 (flatK encD 3 l'.toArray) cur, by rw [hl], hb, ?_, by omega, hm, by simpa [putCells] using hs, ?_⟩⟩, ⟨rfl, rfl, rfl, ?_, ?_⟩⟩
    · rw [hblk g hlt]
      simp [putRowK, putRow, mapBlock, Sort.ahead, Array.getElem?_modify, hg, onCells]
    · apply List.ext_getElem?
      intro j
      rw [List.getElem?_take, Array.getElem?_toList]
      by_cases hj : j < l'.length * 3
      · have hjc : j < cur.size := by omega
        rw [if_pos hj, flat_dV l' j hj]
        simp only [putCells, Array.getElem?_mapIdx, Array.getElem?_eq_getElem hjc, Option.map_some]
        rw [if_pos (by rw [size_flatK]; simp; omega)]
        simp
      · rw [if_neg hj, List.getElem?_eq_none (by rw [dV_len]; omega)]
    · unfold sortWorldK Sort.grow putRowK
      simp
    · intro k hk
      rw [hblk k (by omega)]
      simp [putRowK, putRow, mapBlock, Sort.ahead, Array.getElem?_modify, show g ≠ k by omega]

/-- Sorted: no later one is less than an earlier one. -/
def SortedD (l : List De) : Prop := l.Pairwise fun x y => ltD y x = false
set_option maxHeartbeats 1600000 in
theorem sort_any (v : Value) (base : Nat) (l : List De) (w : World) (hl : l.length ≤ 1000000) (ho : OwnD w base v l) :
    Calls Try.prog 51 #[v, .func (.func 52) #[] #[]] w fun e w' => e = .returned (.tuple #[]) ∧ ∃ l' : List De, l'.Perm l ∧ l'.length = l.length ∧ SortedD l' ∧ OwnD w' base v l' ∧ Below base w w' := by
  obtain ⟨a, cap, rfl⟩ := ho.shape
  by_cases h0 : l.length = 0
  · have h := AnyF.slices_SortFunc_none Try.sortF a cap (.func (.func 52) #[] #[]) w
    rw [h0]
    refine h.mono ?_
    rintro e w' ⟨rfl, rfl⟩
    obtain rfl : l = [] := List.length_eq_zero_iff.1 h0
    exact ⟨rfl, [], List.Perm.nil, rfl, List.Pairwise.nil, ho, Below.refl _ _⟩
  · obtain ⟨gg, rfl⟩ : ∃ gg, a = some ⟨gg, 0, none⟩ := by
      rcases ho.2 with ⟨e, h1⟩ | ⟨gg, cap', cur, e, _⟩
      · omega
      · cases e; exact ⟨gg, rfl⟩
    have hcmp : CmpLays Try.prog 52 #[] encD 3 cfD gg 0 l.toArray.size w := fun m os dk _ x y =>
      (latest_any x.1 x.2.1 x.2.2 y.1 y.2.1 y.2.2 _).mono fun e w' ⟨he, hb, hd⟩ => ⟨he, grn_of hb hd⟩
    have h := AnyQ.slices_SortFunc Try.sortF 3 Try.isAgg26 Try.sizeOf26 encD (fun _ => rfl) (fun x v hv => by simp [encD] at hv; rcases hv with rfl | rfl | rfl <;> rfl) cfD swoD 52 #[] gg 0 cap l.toArray w
      (enters_of Try.func52 (by kernel_rfl) rfl) hcmp ho.holds ho.blk.2 (by simp; omega)
    refine h.mono ?_
    rintro e w' ⟨rfl, d', n, os, hp, hs, rfl⟩
    have hsz : d'.toList.length = l.length := by simpa using hp.1
    have hperm : d'.toList.Perm l := by
      have h1 := hp.2.2
      have h2 : d'.size = l.length := by simpa using hp.1
      simp only [List.size_toArray, ← h2] at h1
      simp only [Array.extract_size] at h1
      rw [h2] at h1
      simpa using h1
    refine ⟨rfl, d'.toList, hperm, hsz, ?_, ?_⟩
    · unfold SortedD
      rw [List.pairwise_iff_getElem]
      intro i j hi hj hij
      have h1 := hs i j (Nat.zero_le _) hij (by simp at hj; rw [← hp.1]; exact hj)
      rw [ltD_eq, getElem!_pos d' j (by simpa using hj), getElem!_pos d' i (by simpa using hi)] at h1
      simpa using h1
    · have := ho.sorted (n := n) (os := os) hsz
      simpa using this
end Go.Proofs.Ytfnfpanmbmkhmaa
/- What slices.IndexFunc and slices.ContainsFunc answer of dependencies, for whatever predicate; past.find; past.Get and the document's Get. -/
namespace Go.Proofs.Ytfnfpanmbmkhmaa
open Go.RowKit
set_option linter.unusedVariables false
set_option linter.unusedSimpArgs false

/-- The place of the first one; -1: there is none. -/
def fidxD (p : De → Bool) (l : List De) : Int := match l.findIdx? p with | none => -1 | some i => i
theorem fidxD_hit {p : De → Bool} {l : List De} {k : Nat} (hk : k < l.length) (h : ∀ j (hj : j < l.length), j < k → p l[j] = false) (hh : p l[k] = true) : fidxD p l = k := by
  have e : l.findIdx? p = some k := by
    rw [List.findIdx?_eq_some_iff_getElem]
    exact ⟨hk, hh, fun j hj => by simpa using h j (by omega) hj⟩
  simp [fidxD, e]
theorem fidxD_none {p : De → Bool} {l : List De} (h : ∀ j (hj : j < l.length), p l[j] = false) : fidxD p l = -1 := by
  have e : l.findIdx? p = none := by
    rw [List.findIdx?_eq_none_iff]
    intro x hx
    obtain ⟨j, hj, rfl⟩ := List.getElem_of_mem hx
    simpa using h j hj
  simp [fidxD, e]

/-- What is asked of a predicate that may make memory. -/
def PredD (g : Nat) (lb : Array Value) (p : De → Bool) (l : List De) (base : Nat) (w : World) : Prop :=
  ∀ (W : World) (d : De), d ∈ l → Below base w W → Calls Try.prog g (#[dv d] ++ lb) W fun e w' => e = .returned (.bool (p d)) ∧ Below W.heap.size W w'

set_option maxRecDepth 100000 in
set_option maxHeartbeats 800000 in
theorem idxFunc_any (g : Nat) (lb : Array Value) (eg : ∀ args w, (callFunc g args).run Try.prog w = .ok (.enter g args) w) (p : De → Bool) (a : Option Addr) (cap base : Nat) (l : List De) (w : World) (hl : l.length ≤ 1000000) (hr : DepIn w a l) (hbs : base ≤ w.heap.size) (hp : PredD g lb p l base w) :
    Calls Try.prog 64 #[.slice a l.length cap, .func (.func g) #[] lb] w fun e w' => e = .returned (.int .i64 (fidxD p l)) ∧ Below w.heap.size w w' := by
  have HR := Lib.hid hr
  have HP := Lib.hid hp
  clear hr hp
  go_enter Try.func64, Try.ntmps64
  go_wp2
  go_loopw [8] (fun i wr => ∃ k : Nat, k ≤ l.length ∧ i = .int .i64 k ∧ (∀ j (hj : j < l.length), j < k → p l[j] = false) ∧ Below w.heap.size w wr) (fun i _ => l.length - (intOf i).toNat)
  case atStart => exact ⟨0, by omega, rfl, (fun j hj h => by omega), Below.refl _ _⟩
  case round =>
    obtain ⟨k, hk, rfl, hall, hbel⟩ := hrel
    have HA := Lib.hid hall
    clear hall
    by_cases hlt : k < l.length
    · obtain ⟨b, off, rfl, hbl, c0, c1, c2⟩ := HR.out.below hbel k hlt
      have hcall := HP.out wr l[k] (List.getElem_mem hlt) (hbel.mono hbs)
      have HH := Lib.hid (@fidxD_hit p l k hlt HA.out)
      have HN : Hid (p l[k] = false → ∀ j (hj : j < l.length), j < k + 1 → p l[j] = false) := Lib.hid (fun h j hj h2 => by
        by_cases e : j = k
        · subst e; exact h
        · exact HA.out j hj (by omega))
      generalize l[k] = d at c0 c1 c2 hcall HH HN
      obtain ⟨x, y, z⟩ := d
      dsimp only [dv] at c0 c1 c2 hcall
      cases hq : p (x, y, z) with
      | true =>
        rw [hq] at hcall
        have HQ := Lib.hid hq
        clear hq
        go_wp2_with (go_at_fn g; refine hcall.mono ?_; rintro e w' ⟨rfl, hb'⟩)
        go_ret
        exact ⟨ret_int (HH.out HQ.out).symm, bstep hbel hb'⟩
      | false =>
        rw [hq] at hcall
        have HQ := Lib.hid hq
        clear hq
        go_wp2_with (go_at_fn g; refine hcall.mono ?_; rintro e w' ⟨rfl, hb'⟩)
        go_roundw
        case rel => exact ⟨k + 1, by omega, by go_num, HN.out HQ.out, bstep hbel hb'⟩
        case measure => simp [intOf]; omega
    · obtain rfl : k = l.length := by omega
      go_wp2
      go_ret
      exact ⟨ret_int (fidxD_none (fun j hj => HA.out j hj hj)).symm, hbel⟩

theorem fidxD_any (p : De → Bool) (l : List De) : decide (0 ≤ fidxD p l) = l.any p := by
  unfold fidxD
  cases h : l.findIdx? p with
  | none =>
    rw [List.findIdx?_eq_none_iff] at h
    have : l.any p = false := by rw [List.any_eq_false]; intro x hx; simp [h x hx]
    rw [this]
    rfl
  | some i =>
    rw [List.findIdx?_eq_some_iff_getElem] at h
    obtain ⟨hi, hh, _⟩ := h
    have : l.any p = true := List.any_eq_true.2 ⟨l[i], List.getElem_mem hi, hh⟩
    rw [this]
    simp

set_option maxRecDepth 100000 in
set_option maxHeartbeats 800000 in
theorem contFunc_any (g : Nat) (lb : Array Value) (eg : ∀ args w, (callFunc g args).run Try.prog w = .ok (.enter g args) w) (p : De → Bool) (a : Option Addr) (cap base : Nat) (l : List De) (w : World) (hl : l.length ≤ 1000000) (hr : DepIn w a l) (hbs : base ≤ w.heap.size) (hp : PredD g lb p l base w) :
    Calls Try.prog 56 #[.slice a l.length cap, .func (.func g) #[] lb] w fun e w' => e = .returned (.bool (l.any p)) ∧ Below w.heap.size w w' := by
  have hcon := idxFunc_any g lb eg p a cap base l w hl hr hbs hp
  rw [← fidxD_any]
  generalize fidxD p l = r at hcon ⊢
  clear hr hp
  go_enter Try.func56, Try.ntmps56
  go_wp2_with fail
  refine hcon.mono ?_
  rintro e w1 ⟨rfl, hb⟩
  go_wp2
  all_goals
    go_ret
    exact ⟨ret_bool (by simp_all), hb⟩

/-- The place of a key. -/
abbrev kidx (l : List De) (key : ByteArray) : Int := fidxD (fun d => decide (d.1 = key)) l

end Go.Proofs.Ytfnfpanmbmkhmaa
