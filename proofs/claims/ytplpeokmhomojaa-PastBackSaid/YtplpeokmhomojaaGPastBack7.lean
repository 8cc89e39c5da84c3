/- Texts of this proof, one behind the other: PastSrt, Shelf, PastLess, PastOwn. -/
import Derived.Test.YtplpeokmhomojaaGPastBack6
import Derived.Shelf.Strings.Builder1
import Derived.Shelf.Small.Strs
import Derived.Shelf.SlSortCmp.WholeK
import Derived.Shelf.Spec.SlicesGrow
import Derived.Test.YtplpeokmhomojaaProg
import Derived.Lib.SliceRun
/- Pasts that may be: rows that rise. Plain mathematics. -/
namespace Go.Proofs.Ytplpeokmhomojaa
open Go.RowKit
set_option linter.unusedVariables false

theorem ba_inj {a b : ByteArray} (h : a.data.toList = b.data.toList) : a = b := ByteArray.ext (Array.toList_inj.1 h)
theorem klt_irrefl (a : ByteArray) : klt a a = false := Km.bl_irrefl _
theorem klt_trans {a b c : ByteArray} (h : klt a b = true) (k : klt b c = true) : klt a c = true := Km.bl_trans h k
theorem klt_asymm {a b : ByteArray} (h : klt a b = true) : klt b a = false := Km.bl_asymm h
theorem klt_tri {a b : ByteArray} (h : klt a b = false) (k : klt b a = false) : a = b := ba_inj (Km.bl_tri h k)
theorem klt_ne {a b : ByteArray} (h : klt a b = true) : a ≠ b := by
  rintro rfl
  rw [klt_irrefl] at h
  cases h

/-- All may be, and the keys rise. -/
def Srt (l : List De) : Prop := (∀ d ∈ l, okD d = true) ∧ l.Pairwise (fun x y => klt x.1 y.1 = true)
instance (l : List De) : Decidable (Srt l) := inferInstanceAs (Decidable (_ ∧ _))
theorem Srt.nil : Srt [] := ⟨by simp, List.Pairwise.nil⟩
theorem Srt.take {l : List De} (h : Srt l) (k : Nat) : Srt (l.take k) := ⟨fun d hd => h.1 d (List.mem_of_mem_take hd), h.2.sublist (List.take_sublist k l)⟩
theorem Srt.tail {d : De} {l : List De} (h : Srt (d :: l)) : Srt l := ⟨fun e he => h.1 e (List.mem_cons_of_mem _ he), (List.pairwise_cons.1 h.2).2⟩
theorem Srt.sub {l m : List De} (h : Srt l) (s : m.Sublist l) : Srt m := ⟨fun d hd => h.1 d (s.subset hd), h.2.sublist s⟩

theorem srt_snoc (p : List De) (d : De) : Srt (p ++ [d]) ↔ Srt p ∧ folD p d = true := by
  unfold Srt folD
  rw [List.pairwise_append]
  constructor
  · rintro ⟨h1, h2, h3, h4⟩
    refine ⟨⟨fun e he => h1 e (by simp [he]), h2⟩, ?_⟩
    rw [h1 d (by simp), Bool.true_and]
    cases hg : p.getLast? with
    | none => rfl
    | some x =>
      have hx : x ∈ p := List.mem_of_getLast? hg
      exact h4 x hx d (by simp)
  · rintro ⟨⟨h1, h2⟩, h3⟩
    simp only [Bool.and_eq_true] at h3
    obtain ⟨h3, h4⟩ := h3
    refine ⟨fun e he => ?_, h2, List.pairwise_singleton _ _, ?_⟩
    · simp at he
      rcases he with he | rfl
      · exact h1 e he
      · exact h3
    · intro x hx y hy
      simp at hy
      subst hy
      cases hg : p.getLast? with
      | none =>
        rw [List.getLast?_eq_none_iff] at hg
        subst hg
        simp at hx
      | some z =>
        rw [hg] at h4
        simp only at h4
        obtain ⟨q, rfl⟩ := List.getLast?_eq_some_iff.1 hg
        simp at hx
        rcases hx with hx | rfl
        · exact klt_trans ((List.pairwise_append.1 h2).2.2 x hx z (by simp)) h4
        · exact h4
/-- May this past be? -/
def chkD (l : List De) : Bool := decide (l.length ≤ 24) && decide (Srt l)
theorem srt_step {l : List De} {k : Nat} (h : k < l.length) : Srt (l.take (k + 1)) ↔ Srt (l.take k) ∧ folD (l.take k) l[k] = true := by
  rw [List.take_succ_eq_append_getElem h, srt_snoc]
theorem srt_stop {l : List De} {k : Nat} (h : k < l.length) (hf : folD (l.take k) l[k] = false) : ¬ Srt l := by
  intro hs
  have := ((srt_step h).1 (hs.take (k + 1))).2
  rw [hf] at this
  cases this
theorem wid4 (l : List UInt8) : Km.wid l ≤ 4 := by
  unfold Km.wid
  split
  · omega
  · rename_i h
    exact (Km.widN_le (List.length_pos_iff.2 h)).2
theorem cnt_ge (low : Nat) (l : List UInt8) (n : Nat) (h : Km.cnt low l = some n) : l.length ≤ 4 * n := by
  induction hk : l.length using Nat.strongRecOn generalizing l n with
  | ind k ih =>
    by_cases h0 : l = []
    · subst h0
      simp at hk
      omega
    · by_cases hb : Km.wid l = 0 ∨ Km.nth l 0 < low
      · rw [Km.cnt_bad h0 hb] at h
        cases h
      · rw [Km.cnt_go h0 (by omega) (by omega)] at h
        have hp := List.length_pos_iff.2 h0
        cases hc : Km.cnt low (l.drop (Km.wid l)) with
        | none => rw [hc] at h; cases h
        | some m =>
          rw [hc] at h
          simp only [Option.map_some, Option.some.injEq] at h
          have := ih (l.drop (Km.wid l)).length (by simp; omega) (l.drop (Km.wid l)) m hc rfl
          have h4 := wid4 l
          simp at this
          omega
theorem chk_size {l : List UInt8} (h : Km.chk l = true) : l.length ≤ 32 ∧ 1 ≤ l.length := by
  unfold Km.chk Km.capV at h
  cases hc : Km.cnt 33 l with
  | none => rw [hc] at h; simp at h
  | some n =>
    rw [hc] at h
    have h1 := cnt_ge 33 l n hc
    have h2 := Km.cnt_le 33 l n hc
    simp at h
    split at h <;> simp at h
    omega
theorem okD_chk {d : De} (h : okD d = true) : Km.chk d.1.data.toList = true := by
  unfold okD at h
  simp at h
  exact h.1
theorem okD_size {d : De} (h : okD d = true) : d.1.size ≤ 32 := (chk_size (okD_chk h)).1
end Go.Proofs.Ytplpeokmhomojaa
/- Contracts of the library's own functions at this program, laid by the kit's own tool. -/
namespace Go.Proofs
open Go.Shelf
def Try.lays169_ren : Go.Shelf.Ren := ⟨fun | 169 => 59 | n => n, fun | 70 => 76 | 9 => 9 | 0 => 0 | 72 => 78 | 37 => 43 | 127 => 113 | 3 => 3 | 5 => 5 | n => n, fun | n => n⟩
theorem Try.lays169 : Go.Proofs.Lays.n169 Try.prog Try.lays169_ren := {
  mixed := by kernel_rfl
  f169 := Try.func59.trans (congrArg some (by kernel_rfl))
  t0 := Try.underlying0
  a0 := Try.isAgg0
  z0 := Try.sizeOf0
  v0 := Try.zeroValue0
  t3 := Try.underlying3
  a3 := Try.isAgg3
  z3 := Try.sizeOf3
  v3 := Try.zeroValue3
  t9 := Try.underlying9
  a9 := Try.isAgg9
  z9 := Try.sizeOf9
  v9 := Try.zeroValue9
  t37 := Try.underlying43
  a37 := Try.isAgg43
  z37 := Try.sizeOf43
  v37 := Try.zeroValue43
  t70 := Try.underlying76
  a70 := Try.isAgg76
  z70 := Try.sizeOf76
  v70 := Try.zeroValue76
  t72 := Try.underlying78
  a72 := Try.isAgg78
  z72 := Try.sizeOf78
  v72 := Try.zeroValue78
  t127 := Try.underlying113
  a127 := Try.isAgg113
  z127 := Try.sizeOf113
  v127 := Try.zeroValue113 }
theorem Try.Builder_Extra_169 : Builder.Extra Try.prog Try.lays169_ren := {
  sizeBuilder := by kernel_rfl
  liesBuilder := by kernel_rfl
  t5 := Try.underlying5
  a5 := Try.isAgg5
  z5 := Try.sizeOf5
  v5 := Try.zeroValue5
  infoByte := by kernel_rfl
  cellsByte := by kernel_rfl
  sizeByte := by kernel_rfl
  neB5 := by decide }
open Go.RowKit in
theorem Try.Builder_String (B b : Nat) (l : List UInt8) (w : World) (h : Lib.IsBuilder 78 5 B b (Lib.byteCells l) w) (h0 : l ≠ []) :
    Calls Try.prog 59 #[.pointer (some ⟨b, 0, none⟩)] w fun e w' => e = .returned (.string ⟨l.toArray⟩) ∧ Below B w w' := Any.Builder_String Try.lays169 Try.Builder_Extra_169 B b l w h h0
def Try.lays106_ren : Go.Shelf.Ren := ⟨fun | 106 => 76 | 213 => 99 | 265 => 108 | n => n, fun | 9 => 9 | 3 => 3 | n => n, fun | n => n⟩
theorem Try.lays106 : Go.Proofs.Lays.n106 Try.prog Try.lays106_ren := {
  mixed := by kernel_rfl
  f106 := Try.func76.trans (congrArg some (by kernel_rfl))
  f213 := Try.func99.trans (congrArg some (by kernel_rfl))
  f265 := Try.func108.trans (congrArg some (by kernel_rfl))
  t3 := Try.underlying3
  a3 := Try.isAgg3
  z3 := Try.sizeOf3
  v3 := Try.zeroValue3
  t9 := Try.underlying9
  a9 := Try.isAgg9
  z9 := Try.sizeOf9
  v9 := Try.zeroValue9 }
open Go.RowKit in
theorem Try.strings_Compare (a b : ByteArray) (w : World) :
    Calls Try.prog 76 #[.string a, .string b] w fun e w' => e = .returned (.int .i64 (Lib.compareBytes a.data.toList b.data.toList)) ∧ w' = w := Any.strings_Compare Try.lays106 a b w
def Try.sortF_ren : Go.Shelf.Ren := ⟨fun | 6 => 42 | 15 => 75 | 14 => 74 | 28 => 97 | 29 => 98 | 20 => 89 | 21 => 90 | 22 => 91 | 23 => 92 | 24 => 93 | 25 => 94 | 26 => 95 | 27 => 96 | 46 => 103 | 47 => 104 | 48 => 105 | 49 => 106 | 50 => 107 | 57 => 110 | n => n, fun | 22 => 22 | 24 => 26 | 25 => 66 | 3 => 3 | 39 => 44 | 0 => 0 | 53 => 130 | 55 => 84 | 4 => 4 | 46 => 123 | 45 => 122 | 50 => 127 | 5 => 5 | 9 => 9 | 66 => 137 | 70 => 141 | 76 => 143 | 77 => 144 | n => n, fun | n => n⟩
theorem Try.sortF : Go.Proofs.SlLaysF0.n6 Try.prog Try.sortF_ren := {
  mixed := by kernel_rfl
  f6 := ⟨Try.f42.name, by decide, Try.func42.trans (congrArg some (by kernel_rfl))⟩
  f14 := ⟨Try.f74.name, by decide, Try.func74.trans (congrArg some (by kernel_rfl))⟩
  f15 := Try.func75.trans (congrArg some (by kernel_rfl))
  f20 := ⟨Try.f89.name, by decide, Try.func89.trans (congrArg some (by kernel_rfl))⟩
  f21 := ⟨Try.f90.name, by decide, Try.func90.trans (congrArg some (by kernel_rfl))⟩
  f22 := ⟨Try.f91.name, by decide, Try.func91.trans (congrArg some (by kernel_rfl))⟩
  f23 := ⟨Try.f92.name, by decide, Try.func92.trans (congrArg some (by kernel_rfl))⟩
  f24 := ⟨Try.f93.name, by decide, Try.func93.trans (congrArg some (by kernel_rfl))⟩
  f25 := ⟨Try.f94.name, by decide, Try.func94.trans (congrArg some (by kernel_rfl))⟩
  f26 := ⟨Try.f95.name, by decide, Try.func95.trans (congrArg some (by kernel_rfl))⟩
  f27 := ⟨Try.f96.name, by decide, Try.func96.trans (congrArg some (by kernel_rfl))⟩
  f28 := Try.func97.trans (congrArg some (by kernel_rfl))
  f29 := Try.func98.trans (congrArg some (by kernel_rfl))
  f46 := ⟨Try.f103.name, by decide, Try.func103.trans (congrArg some (by kernel_rfl))⟩
  f47 := Try.func104.trans (congrArg some (by kernel_rfl))
  f48 := Try.func105.trans (congrArg some (by kernel_rfl))
  f49 := ⟨Try.f106.name, by decide, Try.func106.trans (congrArg some (by kernel_rfl))⟩
  f50 := ⟨Try.f107.name, by decide, Try.func107.trans (congrArg some (by kernel_rfl))⟩
  f57 := ⟨Try.f110.name, by decide, Try.func110.trans (congrArg some (by kernel_rfl))⟩
  t0 := Try.underlying0
  a0 := Try.isAgg0
  z0 := Try.sizeOf0
  v0 := Try.zeroValue0
  t3 := Try.underlying3
  a3 := Try.isAgg3
  z3 := Try.sizeOf3
  v3 := Try.zeroValue3
  t4 := Try.underlying4
  a4 := Try.isAgg4
  z4 := Try.sizeOf4
  v4 := Try.zeroValue4
  t5 := Try.underlying5
  a5 := Try.isAgg5
  z5 := Try.sizeOf5
  v5 := Try.zeroValue5
  t9 := Try.underlying9
  a9 := Try.isAgg9
  z9 := Try.sizeOf9
  v9 := Try.zeroValue9
  t22 := Try.underlying22
  a22 := Try.isAgg22
  z22 := Try.sizeOf22
  v22 := Try.zeroValue22
  t25 := Try.underlying66
  a25 := Try.isAgg66
  z25 := Try.sizeOf66
  v25 := Try.zeroValue66
  t39 := Try.underlying44
  a39 := Try.isAgg44
  z39 := Try.sizeOf44
  v39 := Try.zeroValue44
  t45 := Try.underlying122
  a45 := Try.isAgg122
  z45 := Try.sizeOf122
  v45 := Try.zeroValue122
  t46 := Try.underlying123
  a46 := Try.isAgg123
  z46 := Try.sizeOf123
  v46 := Try.zeroValue123
  t50 := Try.underlying127
  a50 := Try.isAgg127
  z50 := Try.sizeOf127
  v50 := Try.zeroValue127
  t53 := Try.underlying130
  a53 := Try.isAgg130
  z53 := Try.sizeOf130
  v53 := Try.zeroValue130
  t55 := Try.underlying84
  a55 := Try.isAgg84
  z55 := Try.sizeOf84
  v55 := Try.zeroValue84
  t66 := Try.underlying137
  a66 := Try.isAgg137
  z66 := Try.sizeOf137
  v66 := Try.zeroValue137
  t70 := Try.underlying141
  a70 := Try.isAgg141
  z70 := Try.sizeOf141
  v70 := Try.zeroValue141
  t76 := Try.underlying143
  a76 := Try.isAgg143
  z76 := Try.sizeOf143
  v76 := Try.zeroValue143
  t77 := Try.underlying144
  a77 := Try.isAgg144
  z77 := Try.sizeOf144
  v77 := Try.zeroValue144 }
def Try.growD_ren : Go.Shelf.Ren := ⟨fun | 4 => 72 | n => n, fun | 22 => 22 | 25 => 26 | 3 => 3 | 4 => 4 | 9 => 9 | 20 => 20 | 0 => 0 | n => n, fun | n => n⟩
theorem Try.growD : Go.Proofs.Lays8.n4 Try.prog Try.growD_ren := {
  mixed := by kernel_rfl
  f4 := ⟨Try.f72.name, by decide, Try.func72.trans (congrArg some (by kernel_rfl))⟩
  t0 := Try.underlying0
  a0 := Try.isAgg0
  z0 := Try.sizeOf0
  v0 := Try.zeroValue0
  t3 := Try.underlying3
  a3 := Try.isAgg3
  z3 := Try.sizeOf3
  v3 := Try.zeroValue3
  t4 := Try.underlying4
  a4 := Try.isAgg4
  z4 := Try.sizeOf4
  v4 := Try.zeroValue4
  t9 := Try.underlying9
  a9 := Try.isAgg9
  z9 := Try.sizeOf9
  v9 := Try.zeroValue9
  t20 := Try.underlying20
  a20 := Try.isAgg20
  z20 := Try.sizeOf20
  v20 := Try.zeroValue20
  t22 := Try.underlying22
  a22 := Try.isAgg22
  z22 := Try.sizeOf22
  v22 := Try.zeroValue22 }
end Go.Proofs
/- stamp.Less, with the draws counted; past.latestFirst. -/
namespace Go.Proofs.Ytplpeokmhomojaa
open Go.RowKit
set_option linter.unusedVariables false
set_option linter.unusedSimpArgs false

set_option maxRecDepth 100000 in
set_option maxHeartbeats 400000 in
theorem laterG_any (n s m t : Int) (w : World) :
    Calls Try.prog 71 #[.agg #[.int .i64 n, .int .i64 s], .agg #[.int .i64 m, .int .i64 t]] w fun e w' => e = .returned (sv (Sm.later (n, s) (m, t))) ∧ Below w.heap.size w w' ∧ w.drawn ≤ w'.drawn := by
  go_enter Try.func71, Try.ntmps71
  go_wp2
  all_goals
    first
      | (have e : Sm.later (n, s) (m, t) = (n, s) := by (unfold Sm.later; rw [if_pos (by rw [Sm.less_iff]; simp; omega)]))
      | (have e : Sm.later (n, s) (m, t) = (m, t) := by (unfold Sm.later; rw [if_neg (by rw [Sm.less_iff]; simp; omega)]))
    rw [e]
    refine bodyPost_ret (v := _) (by simp [results, Try.results71, go_sem]; rfl) rfl ⟨?_, ?_, ?_⟩
    · simp [sv]
      try omega
    · exact ((((Below.refl _ w).alloc (Nat.le_refl _) _).alloc (by simp) _).alloc (by simp; omega) _)
    · exact Nat.le_refl _

set_option maxRecDepth 100000 in
set_option maxHeartbeats 1000000 in
theorem lessG_any (n s m t : Int) (c : Bool) (w : World) (hc : Sm.less (n, s) (m, t) = c) :
    Calls Try.prog 52 #[.agg #[.int .i64 n, .int .i64 s], .agg #[.int .i64 m, .int .i64 t]] w fun e w' => e = .returned (.bool c) ∧ Below w.heap.size w w' ∧ w.drawn ≤ w'.drawn := by
  rw [← hc]
  clear hc
  go_enter Try.func52, Try.ntmps52
  go_wp2_with fail
  have hne : ∀ w', (binOp .neq 24 (sv (Sm.later (n, s) (m, t))) (.agg #[.int .i64 n, .int .i64 s])).run Try.prog w' = .ok (.bool (Sm.less (n, s) (m, t))) w' := by
    intro w'
    rw [ne_stamp]
    congr 2
    have := Sm.later_ne (n, s) (m, t)
    cases h : Sm.less (n, s) (m, t) <;> simp_all
  have g0 : (((w.alloc (.cells #[.int .i64 n, .int .i64 s] 24)).alloc (.cells #[.int .i64 m, .int .i64 t] 24)).cell? ⟨w.heap.size, 0, none⟩ = some (.int .i64 n) ∧ ((w.alloc (.cells #[.int .i64 n, .int .i64 s] 24)).alloc (.cells #[.int .i64 m, .int .i64 t] 24)).cell? ⟨w.heap.size, 1, none⟩ = some (.int .i64 s) ∧ ((w.alloc (.cells #[.int .i64 n, .int .i64 s] 24)).alloc (.cells #[.int .i64 m, .int .i64 t] 24)).cell? ⟨w.heap.size + 1, 0, none⟩ = some (.int .i64 m) ∧ ((w.alloc (.cells #[.int .i64 n, .int .i64 s] 24)).alloc (.cells #[.int .i64 m, .int .i64 t] 24)).cell? ⟨w.heap.size + 1, 1, none⟩ = some (.int .i64 t)) := by
    refine ⟨?_, ?_, ?_, ?_⟩ <;> simp
  go_region_held3 (fun w' => w'.cell? ⟨w.heap.size, 0, none⟩ = some (.int .i64 n) ∧ w'.cell? ⟨w.heap.size, 1, none⟩ = some (.int .i64 s) ∧ w'.cell? ⟨w.heap.size + 1, 0, none⟩ = some (.int .i64 m) ∧ w'.cell? ⟨w.heap.size + 1, 1, none⟩ = some (.int .i64 t))
    (first | exact g0 | exact g1)
    (first
      | (go_at_call 71; ((with_reducible refine (laterG_any n s m t _).mono ?_); rintro e wa ⟨rfl, ha, hd⟩; have g1 := keep22 ha g0)))
  have hd' : w.drawn + 1 ≤ wa.drawn := hd
  have HD := Lib.hid hd'
  clear hd hd'
  go_wp2
  go_ret
  exact ⟨rfl, bstep (balloc (balloc (Below.refl _ w) _) _).drew ha, by have := HD.out; omega⟩

/-- Draws, and blocks behind: nothing else. -/
theorem grn_of {w w' : World} (hb : Below w.heap.size w w') (hd : w.drawn ≤ w'.drawn) : ∃ q os', w' = Sort.grow (w.drewN q) os' := by
  refine ⟨w'.drawn - w.drawn, w'.heap.extract w.heap.size w'.heap.size, ?_⟩
  have hh : w'.heap = w.heap ++ w'.heap.extract w.heap.size w'.heap.size := by
    apply Array.ext_getElem?
    intro i
    by_cases hi : i < w.heap.size
    · rw [hb.block i hi, Array.getElem?_append_left hi]
    · rw [Array.getElem?_append_right (by omega), Array.getElem?_extract]
      have := hb.size
      by_cases h2 : i < w'.heap.size
      · rw [if_pos (by omega)]
        congr 1
        omega
      · rw [if_neg (by omega), Array.getElem?_eq_none (by omega)]
  cases w' with
  | mk heap tape drawn os output =>
    simp only at hh hd
    unfold Sort.grow World.drewN
    simp only [World.mk.injEq]
    exact ⟨hh, hb.tape, by omega, hb.os, hb.output⟩

/-- How past.latestFirst compares. -/
def cfD (x y : De) : Int := if x.1 = y.1 then (if Sm.less y.2 x.2 = true then -1 else if Sm.less x.2 y.2 = true then 1 else 0) else Lib.compareBytes x.1.data.toList y.1.data.toList

set_option maxRecDepth 100000 in
set_option maxHeartbeats 1600000 in
theorem latest_any (x : ByteArray) (y z : Int) (x' : ByteArray) (y' z' : Int) (w : World) :
    Calls Try.prog 43 #[.agg #[.string x, .int .i64 y, .int .i64 z], .agg #[.string x', .int .i64 y', .int .i64 z']] w fun e w' => e = .returned (.int .i64 (cfD (x, y, z) (x', y', z'))) ∧ Below w.heap.size w w' ∧ w.drawn ≤ w'.drawn := by
  have hb0 : Below w.heap.size w ((w.alloc (.cells #[.string x, .int .i64 y, .int .i64 z] 26)).alloc (.cells #[.string x', .int .i64 y', .int .i64 z'] 26)) := balloc (balloc (Below.refl _ w) _) _
  cases hq : (x.toList == x'.toList) with
  | false =>
    have hq' : ¬ x.toList = x'.toList := by simpa using hq
    have hne : x ≠ x' := fun h => hq' (by rw [h])
    rw [show cfD (x, y, z) (x', y', z') = Lib.compareBytes x.data.toList x'.data.toList by simp [cfD, hne]]
    clear hne
    go_enter Try.func43, Try.ntmps43
    go_wp2_with fail
    refine (Try.strings_Compare x x' _).mono ?_
    rintro e w1 ⟨rfl, rfl⟩
    go_wp2
    go_ret
    exact ⟨rfl, hb0, Nat.le_refl _⟩
  | true =>
    have hq' : x.toList = x'.toList := by simpa using hq
    obtain rfl : x = x' := ba_inj (by rw [← Lib.toList_data, ← Lib.toList_data]; exact hq')
    clear hq' hq
    have c10 : ((w.alloc (.cells #[.string x, .int .i64 y, .int .i64 z] 26)).alloc (.cells #[.string x, .int .i64 y', .int .i64 z'] 26)).cell? ⟨w.heap.size, 1, none⟩ = some (.int .i64 y) := by simp
    have c11 : ((w.alloc (.cells #[.string x, .int .i64 y, .int .i64 z] 26)).alloc (.cells #[.string x, .int .i64 y', .int .i64 z'] 26)).cell? ⟨w.heap.size, 2, none⟩ = some (.int .i64 z) := by simp
    have c12 : ((w.alloc (.cells #[.string x, .int .i64 y, .int .i64 z] 26)).alloc (.cells #[.string x, .int .i64 y', .int .i64 z'] 26)).cell? ⟨w.heap.size + 1, 1, none⟩ = some (.int .i64 y') := by simp
    have c13 : ((w.alloc (.cells #[.string x, .int .i64 y, .int .i64 z] 26)).alloc (.cells #[.string x, .int .i64 y', .int .i64 z'] 26)).cell? ⟨w.heap.size + 1, 2, none⟩ = some (.int .i64 z') := by simp
    cases h1 : Sm.less (y', z') (y, z) with
    | true =>
      rw [show cfD (x, y, z) (x, y', z') = -1 by simp [cfD, h1]]
      have H1 := Lib.hid h1
      clear h1 c10 c11 c12 c13
      go_enter Try.func43, Try.ntmps43
      go_wp2_with fail
      refine (lessG_any y' z' y z _ _ H1.out).mono ?_
      rintro e w1 ⟨rfl, hb, hd⟩
      have hd' : w.drawn ≤ w1.drawn := hd
      clear hd
      go_wp2
      go_ret
      exact ⟨rfl, bstep hb0 hb, hd'⟩
    | false =>
      have H1 := Lib.hid h1
      cases h2 : Sm.less (y, z) (y', z') with
      | true =>
        rw [show cfD (x, y, z) (x, y', z') = 1 by simp [cfD, h1, h2]]
        have H2 := Lib.hid h2
        clear h1 h2
        go_enter Try.func43, Try.ntmps43
        go_wp2_with fail
        refine (lessG_any y' z' y z _ _ H1.out).mono ?_
        rintro e w1 ⟨rfl, hb, hd⟩
        have d0 := kc hb c10
        have d1 := kc hb c11
        have d2 := kc hb c12
        have d3 := kc hb c13
        have hd' : w.drawn ≤ w1.drawn := hd
        have hb1 := bstep hb0 hb
        clear hd c10 c11 c12 c13 hb
        go_wp2_with fail
        refine (lessG_any y z y' z' _ _ H2.out).mono ?_
        rintro e w2 ⟨rfl, hb, hd⟩
        go_wp2
        go_ret
        exact ⟨rfl, bstep hb1 hb, Nat.le_trans hd' hd⟩
      | false =>
        rw [show cfD (x, y, z) (x, y', z') = 0 by simp [cfD, h1, h2]]
        have H2 := Lib.hid h2
        clear h1 h2
        go_enter Try.func43, Try.ntmps43
        go_wp2_with fail
        refine (lessG_any y' z' y z _ _ H1.out).mono ?_
        rintro e w1 ⟨rfl, hb, hd⟩
        have d0 := kc hb c10
        have d1 := kc hb c11
        have d2 := kc hb c12
        have d3 := kc hb c13
        have hd' : w.drawn ≤ w1.drawn := hd
        have hb1 := bstep hb0 hb
        clear hd c10 c11 c12 c13 hb
        go_wp2_with fail
        refine (lessG_any y z y' z' _ _ H2.out).mono ?_
        rintro e w2 ⟨rfl, hb, hd⟩
        go_wp2
        go_ret
        exact ⟨rfl, bstep hb1 hb, Nat.le_trans hd' hd⟩
end Go.Proofs.Ytplpeokmhomojaa
/- Rows of the call's own, written: one element, a part cleared, a part cut off. -/
namespace Go.Proofs.Ytplpeokmhomojaa
open Go.RowKit
set_option linter.unusedVariables false

theorem OwnD.at {w : World} {base g n cap : Nat} {l : List De} (h : OwnD w base (.slice (some ⟨g, 0, none⟩) n cap) l) (i : Nat) (hi : i < l.length) :
    w.cell? ⟨g, i * 3, none⟩ = some (.string l[i].1) ∧ w.cell? ⟨g, i * 3 + 1, none⟩ = some (.int .i64 l[i].2.1) ∧ w.cell? ⟨g, i * 3 + 2, none⟩ = some (.int .i64 l[i].2.2) := by
  obtain ⟨a, c, e, _, _, _, hr⟩ := DepAt.of_own h
  obtain ⟨b, off, e', _, h0, h1, h2⟩ := hr i hi
  cases e
  cases e'
  simp only [Nat.zero_add] at h0 h1 h2
  exact ⟨h0, h1, h2⟩
theorem OwnD.fr {w : World} {base g cap : Nat} {l : List De} (h : OwnD w base (.slice (some ⟨g, 0, none⟩) l.length cap) l) (j : Nat) : w.frozen? ⟨g, j, none⟩ = false := h.frozenAt j
theorem OwnD.blk {w : World} {base g n cap : Nat} {l : List De} (h : OwnD w base (.slice (some ⟨g, 0, none⟩) n cap) l) : base ≤ g ∧ g < w.heap.size := h.lt g rfl
theorem OwnD.cap {w : World} {base g n cap : Nat} {l : List De} (h : OwnD w base (.slice (some ⟨g, 0, none⟩) n cap) l) : n = l.length ∧ l.length ≤ cap ∧ cap ≤ maxLen := by
  rcases h.2 with ⟨h', _⟩ | ⟨g', cap', cur, h', hb, hg, hnc, hcm, hcs, htake⟩
  · simp at h'
  · simp only [Value.slice.injEq] at h'
    obtain ⟨_, rfl, rfl⟩ := h'
    exact ⟨rfl, hnc, hcm⟩
/-- One element written. -/
theorem OwnD.set {w : World} {base g cap : Nat} {l : List De} (h : OwnD w base (.slice (some ⟨g, 0, none⟩) l.length cap) l) (i : Nat) (hi : i < l.length) (x : ByteArray) (y z : Int) :
    OwnD (((w.setCell ⟨g, i * 3, none⟩ (.string x)).setCell ⟨g, i * 3 + 1, none⟩ (.int .i64 y)).setCell ⟨g, i * 3 + 2, none⟩ (.int .i64 z)) base (.slice (some ⟨g, 0, none⟩) l.length cap) (l.set i (x, y, z)) := by
  have h3 := (((h.stored (i * 3) (.string x)).1.stored (i * 3 + 1) (.int .i64 y)).1.stored (i * 3 + 2) (.int .i64 z)).1
  unfold OwnD
  rw [← dV_set l i (x, y, z) hi, List.length_set]
  exact h3
theorem below_set {base g j0 j1 j2 : Nat} {w w' : World} (hb : Below base w w') (hg : base ≤ g) (x y z : Value) : Below base w (((w'.setCell ⟨g, j0, none⟩ x).setCell ⟨g, j1, none⟩ y).setCell ⟨g, j2, none⟩ z) := ((hb.setCell hg _).setCell hg _).setCell hg _

theorem own_setCells {base e n cap g : Nat} : ∀ (vs : List Value) (w : World) (o : Nat) (xs : List Value), w.ownsRow base e 3 (.slice (some ⟨g, 0, none⟩) n cap) n xs →
    ∃ xs', (w.setCells g o vs).ownsRow base e 3 (.slice (some ⟨g, 0, none⟩) n cap) n xs' ∧ xs'.take o = xs.take o
  | [], w, o, xs, h => ⟨xs, h, rfl⟩
  | v :: vs, w, o, xs, h => by
    obtain ⟨xs', h1, h2⟩ := own_setCells vs _ (o + 1) _ (h.stored o v).1
    refine ⟨xs', h1, ?_⟩
    have : xs'.take o = (xs'.take (o + 1)).take o := by rw [List.take_take, Nat.min_eq_left (by omega)]
    rw [this, h2, List.take_take, Nat.min_eq_left (by omega), List.take_set_of_le (Nat.le_refl _)]
theorem below_setCells {base g : Nat} {w0 : World} (hg : base ≤ g) : ∀ (vs : List Value) (w : World) (o : Nat), Below base w0 w → Below base w0 (w.setCells g o vs)
  | [], w, o, h => h
  | v :: vs, w, o, h => below_setCells hg vs _ (o + 1) (h.setCell hg v)
/-- A part of a row. -/
theorem own_cut {base e n cap g k : Nat} {w : World} {xs : List Value} (h : w.ownsRow base e 3 (.slice (some ⟨g, 0, none⟩) n cap) n xs) (hk : k ≤ n) : w.ownsRow base e 3 (.slice (some ⟨g, 0, none⟩) k cap) k (xs.take (k * 3)) := by
  rcases h.2 with ⟨h', _⟩ | ⟨g', cap', cur, h', hb, hg, hnc, hcm, hcs, htake⟩
  · simp at h'
  · simp only [Value.slice.injEq, Option.some.injEq, Addr.mk.injEq, and_true, true_and] at h'
    obtain ⟨rfl, rfl⟩ := h'
    refine ⟨by rw [List.length_take, h.1]; omega, .inr ⟨g, cap, cur, rfl, hb, hg, by omega, hcm, hcs, ?_⟩⟩
    rw [← htake, List.take_take, Nat.min_eq_left (by omega)]

theorem run_clear_dep (w : World) (b o n c : Nat) (hn : 0 < n) (hc : ∀ j, j < n * 3 → (w.cell? ⟨b, o + j, none⟩).isSome = true) (hf : ∀ j, j < n * 3 → w.frozen? ⟨b, o + j, none⟩ = false) :
    ∃ vs, ∀ ty, (Builtin.clear_ #[22] ty #[.slice (some ⟨b, o, none⟩) n c]).run Try.prog w = .ok (.tuple #[]) (w.setCells b o vs) := by
  refine ⟨(Builtin.zeroCells #[.string ⟨#[]⟩, .int .i64 0, .int .i64 0] n).toList, fun ty => ?_⟩
  have hlen : (Builtin.zeroCells #[.string ⟨#[]⟩, .int .i64 0, .int .i64 0] n).toList.length = n * 3 := by simp [Builtin.zeroCells]
  have hv : ∀ w, (zeroValue 26).run Try.prog w = .ok (.agg #[.string ⟨#[]⟩, .int .i64 0, .int .i64 0]) w := Try.zeroValue26
  have hst := run_storeCells_cells (P := Try.prog) b o (Builtin.zeroCells #[.string ⟨#[]⟩, .int .i64 0, .int .i64 0] n).toList 0 w (by rw [hlen]; simpa using hc) (by rw [hlen]; simpa using hf) (by
    intro v hv'
    simp [Builtin.zeroCells] at hv'
    obtain ⟨j, hj, rfl⟩ := hv'
    have : j % 3 = 0 ∨ j % 3 = 1 ∨ j % 3 = 2 := by omega
    rcases this with h | h | h <;> simp [h] <;> rfl)
  simp only [Nat.add_zero] at hst
  obtain ⟨m, rfl⟩ : ∃ m, n = m + 1 := ⟨n - 1, by omega⟩
  simp [Builtin.clear_, run_underlying Try.underlying22, hv, hst, Value.cells]
end Go.Proofs.Ytplpeokmhomojaa
