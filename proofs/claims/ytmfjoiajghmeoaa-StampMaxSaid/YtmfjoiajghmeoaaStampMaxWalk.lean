/- The walk of the law StampMax. -/
import Derived.Test.YtmfjoiajghmeoaaStampRows
import Derived.Test.YtmfjoiajghmeoaaOpen3
import Derived.Deep.RegionHeld3
import Derived.Deep.AppendLies
import Derived.BigQuiet
import Derived.Deep.QuietTactic
namespace Go.Proofs.Ytmfjoiajghmeoaa
open Go.RowKit
set_option linter.unusedVariables false

/-- Is it the zero one, or one of the first k? -/
def fnd (m : Int × Int) (ms : List (Int × Int)) (k : Nat) : Bool := decide (m = (0, 0) ∨ m ∈ ms.take k)
theorem fnd_step (m : Int × Int) (ms : List (Int × Int)) (k : Nat) (h : k < ms.length) : fnd m ms (k + 1) = (fnd m ms k || decide (ms[k] = m)) := by
  unfold fnd
  rw [List.take_succ_eq_append_getElem h]
  rw [← Bool.decide_or]
  refine decide_eq_decide.2 ?_
  rw [List.mem_append, List.mem_singleton, or_assoc]
  exact ⟨Or.imp_right (Or.imp_right Eq.symm), Or.imp_right (Or.imp_right Eq.symm)⟩
theorem fnd_all (m : Int × Int) (ms : List (Int × Int)) (h : m = (0, 0) ∨ m ∈ ms) : fnd m ms ms.length = true := by
  unfold fnd
  rw [List.take_length]
  simpa using h

/-- A row of one stamp, just laid. -/
theorem own_one (w : World) (x y : Int) : (w.alloc (.cells #[.int .i64 x, .int .i64 y] 25)).ownsRow w.heap.size 25 2 (.slice (some ⟨w.heap.size, 0, none⟩) 1 1) 1 (stV [(x, y)]) :=
  ⟨by simp [stV], .inr ⟨w.heap.size, 1, _, rfl, Nat.le_refl _, heap_alloc_new _ _, Nat.le_refl _, by unfold maxLen; omega, rfl, rfl⟩⟩

set_option maxRecDepth 100000 in
set_option maxHeartbeats 4000000 in
theorem maxSmall (w : World) (a : Option Addr) (l : List (Int × Int)) (cap : Nat) (hcap : l.length ≤ cap) (hmax : cap ≤ maxLen) (hnil : a = none → cap = 0) (hr : StIn w a l) (hlen : l.length ≤ 8) :
    Calls Try.prog 7 #[.slice a l.length cap] w fun e w' => e = .returned (.bool true) ∧ Below w.heap.size w w' := by
  obtain ⟨i0, hi, hz0, hz1, hz2⟩ := info_parts info_st
  unfold maxLen at hmax
  obtain ⟨ms, hms⟩ : ∃ ms, ms = l := ⟨_, rfl⟩
  have hml : ms.length = l.length := by rw [hms]
  have hrm : StIn w a ms := by rw [hms]; exact hr
  have q1 : decide ((8 : Int) < (l.length : Int)) = false := by simp; omega
  have q1' : decide (8 < l.length) = false := by simp; omega
  have hm8 : ms.length ≤ 8 := by omega
  obtain ⟨m0, m1, hm⟩ : ∃ m0 m1, Sm.mx (0, 0) ms = (m0, m1) := ⟨_, _, rfl⟩
  have heach : ∀ x ∈ ms, Sm.less (m0, m1) x = false := fun x hx => by rw [← hm]; exact Sm.mx_each _ _ _ hx
  have hin : (m0, m1) = (0, 0) ∨ (m0, m1) ∈ ms := by rw [← hm]; exact Sm.mx_in _ _
  have hag : Sm.mx (0, 0) ((m0, m1) :: ms) = (m0, m1) := by rw [← hm]; exact Sm.mx_again _ _
  have HR := Lib.hid hrm
  have HM := Lib.hid hm
  have HE := Lib.hid heach
  have HI := Lib.hid hin
  have HA := Lib.hid hag
  have HML := Lib.hid hml
  have HM8 := Lib.hid hm8
  have HNL := Lib.hid hnil
  have HCP := Lib.hid hcap
  clear hr hrm hm heach hin hag hms hnil hml hm8
  go_enter Try.func7, Try.ntmps7
  go_wp2_with fail
  refine (sawake_any _).mono ?_
  rintro e w1 ⟨rfl, hb1⟩
  have HR1 := Lib.hid (HR.out.below hb1)
  clear HR
  go_wp2_with fail
  refine (max_at _ _ cap ms m0 m1 _ (by rw [HML.out]) (by have := HM8.out; omega) HR1.out HM.out).mono ?_
  rintro e w2 ⟨rfl, hb⟩
  have HR2 := Lib.hid (HR1.out.below hb)
  replace hb1 := bstep hb1 hb
  clear hb HR1 q1 q1'
  have heq : ∀ w', (binOp .eql 25 (.agg #[.int .i64 m0, .int .i64 m1]) (.agg #[.int .i64 0, .int .i64 0])).run Try.prog w' = .ok (.bool (fnd (m0, m1) ms 0)) w' := fun w' => by rw [eq_stamp]; simp [fnd]
  have heq2 : ∀ w', (binOp .eql 25 (.agg #[.int .i64 m0, .int .i64 m1]) (.agg #[.int .i64 m0, .int .i64 m1])).run Try.prog w' = .ok (.bool true) w' := fun w' => by rw [eq_stamp]; simp
  go_wp2_with fail
  go_loopw [6, 7] (fun f i wr => ∃ k : Nat, k ≤ l.length ∧ i = .int .i64 k ∧ f = .bool (fnd (m0, m1) ms k) ∧ (wr.cell? ⟨w2.heap.size, 0, none⟩ = some (.int .i64 m0) ∧ wr.cell? ⟨w2.heap.size, 1, none⟩ = some (.int .i64 m1)) ∧ Below w2.heap.size w2 wr) (fun _ i _ => l.length - (intOf i).toNat)
  case atStart => exact ⟨0, by omega, rfl, rfl, ⟨by simp, by simp⟩, balloc (balloc (Below.refl _ _) _) _⟩
  case round =>
    obtain ⟨k, hk, rfl, rfl, ⟨d0, d1⟩, hbel⟩ := hrel
    clear heq
    by_cases hlt : k < l.length
    · obtain ⟨b, off, rfl, hc0, hc1⟩ := HR2.out.below hbel k (by rw [HML.out]; exact hlt)
      have hkl : k < ms.length := by rw [HML.out]; exact hlt
      have HF := Lib.hid (fnd_step (m0, m1) ms k hkl)
      have HX := Lib.hid (HE.out ms[k] (List.getElem_mem hkl))
      generalize hx : ms[k] = x at *
      clear hx hkl
      obtain ⟨x0, x1⟩ := x
      simp only at hc0 hc1
      have heq3 : ∀ w', (binOp .eql 25 (.agg #[.int .i64 x0, .int .i64 x1]) (.agg #[.int .i64 m0, .int .i64 m1])).run Try.prog w' = .ok (.bool (decide ((x0, x1) = (m0, m1)))) w' := fun w' => by rw [eq_stamp]
      have g0 := And.intro d0 (And.intro d1 (And.intro hc0 hc1))
      have j1 : (0 : Int) ≤ (k : Int) := by omega
      have j2 : (k : Int) < ((l.length : Nat) : Int) := by omega
      go_wp2_with fail
      go_region_held3 (fun w' => w'.cell? ⟨w2.heap.size, 0, none⟩ = some (.int .i64 m0) ∧ w'.cell? ⟨w2.heap.size, 1, none⟩ = some (.int .i64 m1) ∧ w'.cell? ⟨b, off + k * 2, none⟩ = some (.int .i64 x0) ∧ w'.cell? ⟨b, off + k * 2 + 1, none⟩ = some (.int .i64 x1))
        (first | exact g0 | exact g1)
        (first
          | (go_at_call 15; ((with_reducible refine (less_b m0 m1 x0 x1 false _ HX.out).mono ?_); rintro e wa ⟨rfl, ha⟩; have g1 := keep22 ha g0)))
      have hb3 := bstep hbel (bstep (Below.refl _ wr).drew ha)
      obtain ⟨e0, e1, e2, e3⟩ := g1
      clear ha hbel d0 d1 hc0 hc1 g0
      generalize hf : fnd (m0, m1) ms k = f at *
      clear hf
      cases f with
      | true =>
        go_wp2_with fail
        go_quiet (fail)
        go_wp2
        go_roundw
        case rel => exact ⟨k + 1, by omega, by go_num, by rw [HF.out]; simp, ⟨by simpa using e0, by simpa using e1⟩, hb3.trans (below_drewN (Below.refl _ _) _)⟩
        case measure => simp [intOf]; omega
      | false =>
        go_wp2_with fail
        go_quiet (fail)
        go_wp2
        go_roundw
        case rel => exact ⟨k + 1, by omega, by go_num, by rw [HF.out]; simp, ⟨by simpa using e0, by simpa using e1⟩, hb3.trans (below_drewN (Below.refl _ _) _)⟩
        case measure => simp [intOf]; omega
    · obtain rfl : k = l.length := by omega
      have hbW := bstep hb1 hbel
      have hfa := fnd_all (m0, m1) ms HI.out
      rw [HML.out] at hfa
      rw [hfa]
      clear hfa
      have HRr := Lib.hid (HR2.out.below hbel)
      clear HR2 hb1 hbel hk hlt
      cases a with
      | none =>
        have hc0 : cap = 0 := HNL.out rfl
        have hl0 : l.length = 0 := by have := HCP.out; omega
        have hl1 : ms.length = 0 := by rw [HML.out]; exact hl0
        have HML := Lib.hid hl1
        subst hc0
        rw [hl0]
        clear hl1
        have z2 : w2.heap.size < wr.heap.size := lt_of_cellN d0
        go_wp2_with (at_builtin; refine wpList_append_own_none rfl _ _ 22 rfl wr.heap.size 25 i0 2 Try.underlying22 hi _ 1 _ rfl (own_one _ m0 m1) rfl ?_)
        have e0 : (wr.alloc (.cells #[.int .i64 m0, .int .i64 m1] 25)).cell? ⟨w2.heap.size, 0, none⟩ = some (.int .i64 m0) := kc (balloc (Below.refl _ wr) _) d0
        have e1 : (wr.alloc (.cells #[.int .i64 m0, .int .i64 m1] 25)).cell? ⟨w2.heap.size, 1, none⟩ = some (.int .i64 m1) := kc (balloc (Below.refl _ wr) _) d1
        have hb5 : Below w.heap.size w (wr.alloc (.cells #[.int .i64 m0, .int .i64 m1] 25)) := balloc hbW _
        have hmn : ms = [] := List.length_eq_zero_iff.1 HML.out
        have hst : StIn (wr.alloc (.cells #[.int .i64 m0, .int .i64 m1] 25)) (some ⟨wr.heap.size, 0, none⟩) ((m0, m1) :: ms) := by
          rw [hmn]
          intro i hi
          obtain rfl : i = 0 := by simpa using hi
          exact ⟨_, _, rfl, by simp, by simp⟩
        have HST := Lib.hid (hst.below (Below.refl _ _).drew)
        have HMN := Lib.hid hmn
        clear hst hmn d0 d1 hbW HRr z2 hi hz0 hz1 hz2
        have g0 := And.intro e0 e1
        go_wp2_with fail
        go_region_held3 (fun w' => w'.cell? ⟨w2.heap.size, 0, none⟩ = some (.int .i64 m0) ∧ w'.cell? ⟨w2.heap.size, 1, none⟩ = some (.int .i64 m1))
          (first | exact g0 | exact g1)
          (first
            | (go_at_call 21; ((refine (max_at _ _ _ ((m0, m1) :: ms) m0 m1 _ (by rw [HMN.out]; rfl) (by have := HM8.out; simp; omega) HST.out HA.out).mono ?_); rintro e wz ⟨rfl, hz⟩; have g1 := And.intro (kc hz g0.1) (kc hz g0.2))))
        have hbF := bstep hb5.drew hz
        clear hz hb5 g0 g1 e0 e1
        go_wp2
        go_ret
        exact ⟨rfl, hbF⟩
      | some x =>
        have z2 : w2.heap.size < wr.heap.size := lt_of_cellN d0
        go_wp2_with (at_builtin; refine wpList_append_own _ rfl _ _ 22 rfl wr.heap.size 25 i0 _ 2 16 Try.underlying22 hi hz0 hz1 hz2 rfl (by decide) _ 1 _ rfl (own_one _ m0 m1) (x) l.length cap (stV ms) rfl ?d0 ?d1 (stV_one ms) ?d3 ?d4 ?d5 ?_)
        case d0 => rw [stV_len, HML.out]
        case d1 => exact (HRr.out.below (balloc (Below.refl _ _) _)).news
        case d3 => have := HM8.out; have := HML.out; unfold maxLen; omega
        case d4 => have := HM8.out; have := HML.out; omega
        case d5 => simp
        intro v5 w5 ho hg _
        have ho2 : w5.ownsRow wr.heap.size 25 2 v5 ((m0, m1) :: ms).length (stV ((m0, m1) :: ms)) := by
          rw [show (m0, m1) :: ms = [(m0, m1)] ++ ms from rfl, stV_append, List.length_append, HML.out]
          exact ho
        have e0 : w5.cell? ⟨w2.heap.size, 0, none⟩ = some (.int .i64 m0) := (hg.cell_far ⟨w2.heap.size, 0, none⟩ (by simp; omega) (by simp [Value.ownBlock]; omega)).trans (kc (balloc (Below.refl _ wr) _) d0)
        have e1 : w5.cell? ⟨w2.heap.size, 1, none⟩ = some (.int .i64 m1) := (hg.cell_far ⟨w2.heap.size, 1, none⟩ (by simp; omega) (by simp [Value.ownBlock]; omega)).trans (kc (balloc (Below.refl _ wr) _) d1)
        have hb5 : Below w.heap.size w w5 := (balloc hbW _).grown hg (by have := hbW.size; simp; omega) (fun k hk => by simp [Value.ownBlock] at hk; have := hbW.size; omega)
        obtain ⟨a5, c5, rfl, hst⟩ := st_of_own ho2
        have HST := Lib.hid (hst.below (Below.refl _ w5).drew)
        clear ho ho2 hg hst d0 d1 hbW HRr z2 hi hz0 hz1 hz2
        have g0 := And.intro e0 e1
        go_wp2_with fail
        go_region_held3 (fun w' => w'.cell? ⟨w2.heap.size, 0, none⟩ = some (.int .i64 m0) ∧ w'.cell? ⟨w2.heap.size, 1, none⟩ = some (.int .i64 m1))
          (first | exact g0 | exact g1)
          (first
            | (go_at_call 21; ((refine (max_at _ _ _ ((m0, m1) :: ms) m0 m1 _ (by rfl) (by have := HM8.out; simp; omega) HST.out HA.out).mono ?_); rintro e wz ⟨rfl, hz⟩; have g1 := And.intro (kc hz g0.1) (kc hz g0.2))))
        have hbF := bstep hb5.drew hz
        clear hz hb5 g0 g1 e0 e1
        go_wp2
        go_ret
        exact ⟨rfl, hbF⟩

set_option maxRecDepth 100000 in
set_option maxHeartbeats 4000000 in
theorem maxBig (w : World) (a : Option Addr) (l : List (Int × Int)) (cap : Nat) (hcap : l.length ≤ cap) (hmax : cap ≤ maxLen) (hnil : a = none → cap = 0) (hr : StIn w a l) (hlen : 8 < l.length) :
    Calls Try.prog 7 #[.slice a l.length cap] w fun e w' => e = .returned (.bool true) ∧ Below w.heap.size w w' := by
  obtain ⟨i0, hi, hz0, hz1, hz2⟩ := info_parts info_st
  unfold maxLen at hmax
  obtain ⟨ms, hms⟩ : ∃ ms, ms = (l.take 8) := ⟨_, rfl⟩
  have hml : ms.length = 8 := by rw [hms]; simp; omega
  have hrm : StIn w a ms := by rw [hms]; exact hr.take 8
  obtain ⟨⟨b, off, asp⟩, rfl⟩ : ∃ x, a = some x := by
    cases a with
    | none => have := hnil rfl; omega
    | some x => exact ⟨x, rfl⟩
  obtain rfl : asp = none := by
    obtain ⟨b', off', e, _⟩ := hr 0 (by omega)
    cases e
    rfl
  have q1 : decide ((8 : Int) < (l.length : Int)) = true := by simp; omega
  have q1' : decide (8 < l.length) = true := by simp; omega
  have q2 : (8 : Int) ≤ (cap : Int) := by omega
  have q3 : 8 ≤ cap := by omega
  have hm8 : ms.length ≤ 8 := by omega
  obtain ⟨m0, m1, hm⟩ : ∃ m0 m1, Sm.mx (0, 0) ms = (m0, m1) := ⟨_, _, rfl⟩
  have heach : ∀ x ∈ ms, Sm.less (m0, m1) x = false := fun x hx => by rw [← hm]; exact Sm.mx_each _ _ _ hx
  have hin : (m0, m1) = (0, 0) ∨ (m0, m1) ∈ ms := by rw [← hm]; exact Sm.mx_in _ _
  have hag : Sm.mx (0, 0) ((m0, m1) :: ms) = (m0, m1) := by rw [← hm]; exact Sm.mx_again _ _
  have HR := Lib.hid hrm
  have HM := Lib.hid hm
  have HE := Lib.hid heach
  have HI := Lib.hid hin
  have HA := Lib.hid hag
  have HML := Lib.hid hml
  have HM8 := Lib.hid hm8
  have HNL := Lib.hid hnil
  have HCP := Lib.hid hcap
  clear hr hrm hm heach hin hag hms hnil hml hm8 hlen
  go_enter Try.func7, Try.ntmps7
  go_wp2_with fail
  refine (sawake_any _).mono ?_
  rintro e w1 ⟨rfl, hb1⟩
  have HR1 := Lib.hid (HR.out.below hb1)
  clear HR
  go_wp2_with fail
  refine (max_at _ _ cap ms m0 m1 _ (by rw [HML.out]) (by have := HM8.out; omega) HR1.out HM.out).mono ?_
  rintro e w2 ⟨rfl, hb⟩
  have HR2 := Lib.hid (HR1.out.below hb)
  replace hb1 := bstep hb1 hb
  clear hb HR1 q1 q1'
  have heq : ∀ w', (binOp .eql 25 (.agg #[.int .i64 m0, .int .i64 m1]) (.agg #[.int .i64 0, .int .i64 0])).run Try.prog w' = .ok (.bool (fnd (m0, m1) ms 0)) w' := fun w' => by rw [eq_stamp]; simp [fnd]
  have heq2 : ∀ w', (binOp .eql 25 (.agg #[.int .i64 m0, .int .i64 m1]) (.agg #[.int .i64 m0, .int .i64 m1])).run Try.prog w' = .ok (.bool true) w' := fun w' => by rw [eq_stamp]; simp
  go_wp2_with fail
  go_loopw [6, 7] (fun f i wr => ∃ k : Nat, k ≤ 8 ∧ i = .int .i64 k ∧ f = .bool (fnd (m0, m1) ms k) ∧ (wr.cell? ⟨w2.heap.size, 0, none⟩ = some (.int .i64 m0) ∧ wr.cell? ⟨w2.heap.size, 1, none⟩ = some (.int .i64 m1)) ∧ Below w2.heap.size w2 wr) (fun _ i _ => 8 - (intOf i).toNat)
  case atStart => exact ⟨0, by omega, rfl, rfl, ⟨by simp, by simp⟩, balloc (balloc (Below.refl _ _) _) _⟩
  case round =>
    obtain ⟨k, hk, rfl, rfl, ⟨d0, d1⟩, hbel⟩ := hrel
    clear heq
    by_cases hlt : k < 8
    · obtain ⟨b9, off9, eab, hc0, hc1⟩ := HR2.out.below hbel k (by rw [HML.out]; exact hlt)
      cases eab
      have hkl : k < ms.length := by rw [HML.out]; exact hlt
      have HF := Lib.hid (fnd_step (m0, m1) ms k hkl)
      have HX := Lib.hid (HE.out ms[k] (List.getElem_mem hkl))
      generalize hx : ms[k] = x at *
      clear hx hkl
      obtain ⟨x0, x1⟩ := x
      simp only at hc0 hc1
      have heq3 : ∀ w', (binOp .eql 25 (.agg #[.int .i64 x0, .int .i64 x1]) (.agg #[.int .i64 m0, .int .i64 m1])).run Try.prog w' = .ok (.bool (decide ((x0, x1) = (m0, m1)))) w' := fun w' => by rw [eq_stamp]
      have g0 := And.intro d0 (And.intro d1 (And.intro hc0 hc1))
      have j1 : (0 : Int) ≤ (k : Int) := by omega
      have j2 : (k : Int) < (8 : Int) := by omega
      go_wp2_with fail
      go_region_held3 (fun w' => w'.cell? ⟨w2.heap.size, 0, none⟩ = some (.int .i64 m0) ∧ w'.cell? ⟨w2.heap.size, 1, none⟩ = some (.int .i64 m1) ∧ w'.cell? ⟨b, off + k * 2, none⟩ = some (.int .i64 x0) ∧ w'.cell? ⟨b, off + k * 2 + 1, none⟩ = some (.int .i64 x1))
        (first | exact g0 | exact g1)
        (first
          | (go_at_call 15; ((with_reducible refine (less_b m0 m1 x0 x1 false _ HX.out).mono ?_); rintro e wa ⟨rfl, ha⟩; have g1 := keep22 ha g0)))
      have hb3 := bstep hbel (bstep (Below.refl _ wr).drew ha)
      obtain ⟨e0, e1, e2, e3⟩ := g1
      clear ha hbel d0 d1 hc0 hc1 g0
      generalize hf : fnd (m0, m1) ms k = f at *
      clear hf
      cases f with
      | true =>
        go_wp2_with fail
        go_quiet (fail)
        go_wp2
        go_roundw
        case rel => exact ⟨k + 1, by omega, by go_num, by rw [HF.out]; simp, ⟨by simpa using e0, by simpa using e1⟩, hb3.trans (below_drewN (Below.refl _ _) _)⟩
        case measure => simp [intOf]; omega
      | false =>
        go_wp2_with fail
        go_quiet (fail)
        go_wp2
        go_roundw
        case rel => exact ⟨k + 1, by omega, by go_num, by rw [HF.out]; simp, ⟨by simpa using e0, by simpa using e1⟩, hb3.trans (below_drewN (Below.refl _ _) _)⟩
        case measure => simp [intOf]; omega
    · obtain rfl : k = 8 := by omega
      have hbW := bstep hb1 hbel
      have hfa := fnd_all (m0, m1) ms HI.out
      rw [HML.out] at hfa
      rw [hfa]
      clear hfa
      have HRr := Lib.hid (HR2.out.below hbel)
      clear HR2 hb1 hbel hk hlt
      have z2 : w2.heap.size < wr.heap.size := lt_of_cellN d0
      go_wp2_with (at_builtin; refine wpList_append_own _ rfl _ _ 22 rfl wr.heap.size 25 i0 _ 2 16 Try.underlying22 hi hz0 hz1 hz2 rfl (by decide) _ 1 _ rfl (own_one _ m0 m1) (⟨b, off, none⟩) 8 cap (stV ms) rfl ?d0 ?d1 (stV_one ms) ?d3 ?d4 ?d5 ?_)
      case d0 => rw [stV_len, HML.out]
      case d1 => exact (HRr.out.below (balloc (Below.refl _ _) _)).news
      case d3 => have := HM8.out; have := HML.out; unfold maxLen; omega
      case d4 => have := HM8.out; have := HML.out; omega
      case d5 => simp
      intro v5 w5 ho hg _
      have ho2 : w5.ownsRow wr.heap.size 25 2 v5 ((m0, m1) :: ms).length (stV ((m0, m1) :: ms)) := by
        rw [show (m0, m1) :: ms = [(m0, m1)] ++ ms from rfl, stV_append, List.length_append, HML.out]
        exact ho
      have e0 : w5.cell? ⟨w2.heap.size, 0, none⟩ = some (.int .i64 m0) := (hg.cell_far ⟨w2.heap.size, 0, none⟩ (by simp; omega) (by simp [Value.ownBlock]; omega)).trans (kc (balloc (Below.refl _ wr) _) d0)
      have e1 : w5.cell? ⟨w2.heap.size, 1, none⟩ = some (.int .i64 m1) := (hg.cell_far ⟨w2.heap.size, 1, none⟩ (by simp; omega) (by simp [Value.ownBlock]; omega)).trans (kc (balloc (Below.refl _ wr) _) d1)
      have hb5 : Below w.heap.size w w5 := (balloc hbW _).grown hg (by have := hbW.size; simp; omega) (fun k hk => by simp [Value.ownBlock] at hk; have := hbW.size; omega)
      obtain ⟨a5, c5, rfl, hst⟩ := st_of_own ho2
      have HST := Lib.hid (hst.below (Below.refl _ w5).drew)
      clear ho ho2 hg hst d0 d1 hbW HRr z2 hi hz0 hz1 hz2
      have g0 := And.intro e0 e1
      go_wp2_with fail
      go_region_held3 (fun w' => w'.cell? ⟨w2.heap.size, 0, none⟩ = some (.int .i64 m0) ∧ w'.cell? ⟨w2.heap.size, 1, none⟩ = some (.int .i64 m1))
        (first | exact g0 | exact g1)
        (first
          | (go_at_call 21; ((refine (max_at _ _ _ ((m0, m1) :: ms) m0 m1 _ (by rfl) (by have := HM8.out; simp; omega) HST.out HA.out).mono ?_); rintro e wz ⟨rfl, hz⟩; have g1 := And.intro (kc hz g0.1) (kc hz g0.2))))
      have hbF := bstep hb5.drew hz
      clear hz hb5 g0 g1 e0 e1
      go_wp2
      go_ret
      exact ⟨rfl, hbF⟩

theorem walkStampMax (w : World) (a : Option Addr) (l : List (Int × Int)) (cap : Nat) (hcap : l.length ≤ cap) (hmax : cap ≤ maxLen) (hnil : a = none → cap = 0) (_h : ∀ r ∈ l, In64 r) (hr : StIn w a l) :
    Calls Try.prog 7 #[.slice a l.length cap] w fun e w' => e = .returned (.bool true) ∧ Below w.heap.size w w' := by
  by_cases h : l.length ≤ 8
  · exact maxSmall w a l cap hcap hmax hnil hr h
  · exact maxBig w a l cap hcap hmax hnil hr (by omega)
end Go.Proofs.Ytmfjoiajghmeoaa
