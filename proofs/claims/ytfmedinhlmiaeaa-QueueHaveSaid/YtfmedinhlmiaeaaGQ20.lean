/- Texts of this proof, one behind the other: PastLess, PastOrd, PastCmp, PastMath. -/
import Derived.Test.YtfmedinhlmiaeaaGQ19
import Derived.Lib.Bytealg
import Derived.Deep.RegionHeld3
/- stamp.Less, with the draws counted; past.latestFirst. -/
namespace Go.Proofs.Ytfmedinhlmiaeaa
open Go.RowKit
set_option linter.unusedVariables false
set_option linter.unusedSimpArgs false

set_option maxRecDepth 100000 in
set_option maxHeartbeats 400000 in
theorem laterG_any (n s m t : Int) (w : World) :
    Calls Try.prog 65 #[.agg #[.int .i64 n, .int .i64 s], .agg #[.int .i64 m, .int .i64 t]] w fun e w' => e = .returned (sv (Sm.later (n, s) (m, t))) ∧ Below w.heap.size w w' ∧ w.drawn ≤ w'.drawn := by
  go_enter Try.func65, Try.ntmps65
  go_wp2
  all_goals
    first
      | (have e : Sm.later (n, s) (m, t) = (n, s) := by (unfold Sm.later; rw [if_pos (by rw [Sm.less_iff]; simp; omega)]))
      | (have e : Sm.later (n, s) (m, t) = (m, t) := by (unfold Sm.later; rw [if_neg (by rw [Sm.less_iff]; simp; omega)]))
    rw [e]
    refine bodyPost_ret (v := _) (by simp [results, Try.results65, go_sem]; rfl) rfl ⟨?_, ?_, ?_⟩
    · simp [sv]
      try omega
    · exact ((((Below.refl _ w).alloc (Nat.le_refl _) _).alloc (by simp) _).alloc (by simp; omega) _)
    · exact Nat.le_refl _

set_option maxRecDepth 100000 in
set_option maxHeartbeats 1000000 in
theorem lessG_any (n s m t : Int) (c : Bool) (w : World) (hc : Sm.less (n, s) (m, t) = c) :
    Calls Try.prog 52 #[.agg #[.int .i64 n, .int .i64 s], .agg #[.int .i64 m, .int .i64 t]] w fun e w' => e = .returned (.bool c) ∧ Below w.heap.size w w' ∧ w.drawn ≤ w'.drawn := by
  rw [← hc]
  clear hc
  go_enter Try.func52, Try.ntmps52
  go_wp2_with fail
  have hne : ∀ w', (binOp .neq 25 (sv (Sm.later (n, s) (m, t))) (.agg #[.int .i64 n, .int .i64 s])).run Try.prog w' = .ok (.bool (Sm.less (n, s) (m, t))) w' := by
    intro w'
    rw [ne_stamp]
    congr 2
    have := Sm.later_ne (n, s) (m, t)
    cases h : Sm.less (n, s) (m, t) <;> simp_all
  have g0 : (((w.alloc (.cells #[.int .i64 n, .int .i64 s] 25)).alloc (.cells #[.int .i64 m, .int .i64 t] 25)).cell? ⟨w.heap.size, 0, none⟩ = some (.int .i64 n) ∧ ((w.alloc (.cells #[.int .i64 n, .int .i64 s] 25)).alloc (.cells #[.int .i64 m, .int .i64 t] 25)).cell? ⟨w.heap.size, 1, none⟩ = some (.int .i64 s) ∧ ((w.alloc (.cells #[.int .i64 n, .int .i64 s] 25)).alloc (.cells #[.int .i64 m, .int .i64 t] 25)).cell? ⟨w.heap.size + 1, 0, none⟩ = some (.int .i64 m) ∧ ((w.alloc (.cells #[.int .i64 n, .int .i64 s] 25)).alloc (.cells #[.int .i64 m, .int .i64 t] 25)).cell? ⟨w.heap.size + 1, 1, none⟩ = some (.int .i64 t)) := by
    refine ⟨?_, ?_, ?_, ?_⟩ <;> simp
  go_region_held3 (fun w' => w'.cell? ⟨w.heap.size, 0, none⟩ = some (.int .i64 n) ∧ w'.cell? ⟨w.heap.size, 1, none⟩ = some (.int .i64 s) ∧ w'.cell? ⟨w.heap.size + 1, 0, none⟩ = some (.int .i64 m) ∧ w'.cell? ⟨w.heap.size + 1, 1, none⟩ = some (.int .i64 t))
    (first | exact g0 | exact g1)
    (first
      | (go_at_call 65; ((with_reducible refine (laterG_any n s m t _).mono ?_); rintro e wa ⟨rfl, ha, hd⟩; have g1 := keep22 ha g0)))
  have hd' : w.drawn + 1 ≤ wa.drawn := hd
  have HD := Lib.hid hd'
  clear hd hd'
  go_wp2
  go_ret
  exact ⟨rfl, bstep (balloc (balloc (Below.refl _ w) _) _).drew ha, by have := HD.out; omega⟩

/-- Draws, and blocks behind: nothing else. -/
theorem grn_of {w w' : World} (hb : Below w.heap.size w w') (hd : w.drawn ≤ w'.drawn) : ∃ q os', w' = Sort.grow (w.drewN q) os' := by
  refine ⟨w'.drawn - w.drawn, w'.heap.extract w.heap.size w'.heap.size, ?_⟩
  have hh : w'.heap = w.heap ++ w'.heap.extract w.heap.size w'.heap.size := by
    apply Array.ext_getElem?
    intro i
    by_cases hi : i < w.heap.size
    · rw [hb.block i hi, Array.getElem?_append_left hi]
    · rw [Array.getElem?_append_right (by omega), Array.getElem?_extract]
      have := hb.size
      by_cases h2 : i < w'.heap.size
      · rw [if_pos (by omega)]
        congr 1
        omega
      · rw [if_neg (by omega), Array.getElem?_eq_none (by omega)]
  cases w' with
  | mk heap tape drawn os output =>
    simp only at hh hd
    unfold Sort.grow World.drewN
    simp only [World.mk.injEq]
    exact ⟨hh, hb.tape, by omega, hb.os, hb.output⟩

/-- How past.latestFirst compares. -/
def cfD (x y : De) : Int := if x.1 = y.1 then (if Sm.less y.2 x.2 = true then -1 else if Sm.less x.2 y.2 = true then 1 else 0) else Lib.compareBytes x.1.data.toList y.1.data.toList

end Go.Proofs.Ytfmedinhlmiaeaa
/- The order of past.latestFirst: plain mathematics (apart from the sort itself, whose library module takes long to build). -/
namespace Go.Proofs.Ytfmedinhlmiaeaa
open Go.RowKit
set_option linter.unusedVariables false

/-- The order of the sort: by keys; of one key the later first. -/
def ltD (x y : De) : Bool := if x.1 = y.1 then Sm.less y.2 x.2 else klt x.1 y.1
/-- Sorted: no later one is less than an earlier one. -/
def SortedD (l : List De) : Prop := l.Pairwise fun x y => ltD y x = false
end Go.Proofs.Ytfmedinhlmiaeaa
/- What slices.CompactFunc answers of dependencies in a row of the caller's own, where the keys are compared. -/
namespace Go.Proofs.Ytfmedinhlmiaeaa
open Go.RowKit
set_option linter.unusedVariables false
set_option linter.unusedSimpArgs false

def cmpGo (prev : De) : List De → List De
  | [] => []
  | x :: r => if x.1 = prev.1 then cmpGo x r else x :: cmpGo x r
/-- Of neighbours of one key the first one. -/
def cmpK : List De → List De
  | [] => []
  | d :: r => d :: cmpGo d r
theorem cmpGo_snoc (x : De) : ∀ (p : List De) (prev : De), cmpGo prev (p ++ [x]) = cmpGo prev p ++ (if x.1 = ((p.getLast?).getD prev).1 then [] else [x])
  | [], prev => by by_cases h : x.1 = prev.1 <;> simp [cmpGo, h]
  | y :: p, prev => by
    rw [List.cons_append, cmpGo, cmpGo, cmpGo_snoc x p y]
    have e : ((y :: p).getLast?).getD prev = (p.getLast?).getD y := by
      rw [List.getLast?_cons]
      cases p.getLast? <;> rfl
    rw [e]
    split <;> simp
theorem cmpK_step (l : List De) (k : Nat) (h : k + 1 < l.length) : cmpK (l.take (k + 1 + 1)) = cmpK (l.take (k + 1)) ++ (if (l[k + 1]'h).1 = (l[k]'(by omega)).1 then [] else [l[k + 1]'h]) := by
  rw [List.take_succ_eq_append_getElem h]
  cases l with
  | nil => simp at h
  | cons d r =>
    rw [List.take_succ_cons, List.cons_append, cmpK, cmpK, cmpGo_snoc, List.cons_append]
    congr 2
    have e : ((r.take k).getLast?).getD d = (d :: r)[k]'(by omega) := by
      cases k with
      | zero => simp
      | succ k =>
        rw [List.getLast?_eq_getElem?]
        have h2 : k < r.length := by simp at h; omega
        simp [List.length_take, Nat.min_eq_left (show k + 1 ≤ r.length by omega), h2]
    rw [e]

theorem keep6 {W w1 : World} {b1 o1 b2 o2 b3 o3 b4 o4 b5 o5 b6 o6 : Nat} {x1 x2 x3 x4 x5 x6 : Value} (hb : Below W.heap.size W w1) (h : W.cell? ⟨b1, o1, none⟩ = some x1 ∧ W.cell? ⟨b2, o2, none⟩ = some x2 ∧ W.cell? ⟨b3, o3, none⟩ = some x3 ∧ W.cell? ⟨b4, o4, none⟩ = some x4 ∧ W.cell? ⟨b5, o5, none⟩ = some x5 ∧ W.cell? ⟨b6, o6, none⟩ = some x6) :
    w1.cell? ⟨b1, o1, none⟩ = some x1 ∧ w1.cell? ⟨b2, o2, none⟩ = some x2 ∧ w1.cell? ⟨b3, o3, none⟩ = some x3 ∧ w1.cell? ⟨b4, o4, none⟩ = some x4 ∧ w1.cell? ⟨b5, o5, none⟩ = some x5 ∧ w1.cell? ⟨b6, o6, none⟩ = some x6 := ⟨kc hb h.1, kc hb h.2.1, kc hb h.2.2.1, kc hb h.2.2.2.1, kc hb h.2.2.2.2.1, kc hb h.2.2.2.2.2⟩

end Go.Proofs.Ytfmedinhlmiaeaa
/- Pasts put together: plain mathematics. -/
namespace Go.Proofs.Ytfmedinhlmiaeaa
open Go.RowKit
set_option linter.unusedVariables false
set_option linter.unusedSimpArgs false

/-- r is what the dependencies f make, put together: of each key the greatest that may be. -/
structure IsMerge (f r : List De) : Prop where
  srt : Srt r
  mem : ∀ m, m ∈ r ↔ (m ∈ f ∧ okD m = true ∧ ∀ e ∈ f, okD e = true → e.1 = m.1 → Sm.less m.2 e.2 = false)
  rep : ∀ e ∈ f, okD e = true → ∃ x ∈ r, x.1 = e.1

theorem srt_key {l : List De} (h : Srt l) {x y : De} (hx : x ∈ l) (hy : y ∈ l) (e : x.1 = y.1) : x = y := by
  obtain ⟨i, hi, rfl⟩ := List.getElem_of_mem hx
  obtain ⟨j, hj, rfl⟩ := List.getElem_of_mem hy
  rcases Nat.lt_trichotomy i j with c | c | c
  · have := (List.pairwise_iff_getElem.1 h.2) i j hi hj c
    exact absurd e (klt_ne this)
  · subst c; rfl
  · have := (List.pairwise_iff_getElem.1 h.2) j i hj hi c
    exact absurd e.symm (klt_ne this)
/-- Rows that rise and have the same members are one. -/
theorem srt_ext : ∀ {l m : List De}, Srt l → Srt m → (∀ d, d ∈ l ↔ d ∈ m) → l = m
  | [], [], _, _, _ => rfl
  | [], y :: m, _, _, h => absurd ((h y).2 (by simp)) (by simp)
  | x :: l, [], _, _, h => absurd ((h x).1 (by simp)) (by simp)
  | x :: l, y :: m, hl, hm, h => by
    have a := List.pairwise_cons.1 hl.2
    have b := List.pairwise_cons.1 hm.2
    have e : x = y := by
      have hx := (h x).1 (by simp)
      have hy := (h y).2 (by simp)
      rcases List.mem_cons.1 hx with e | hx
      · exact e
      · rcases List.mem_cons.1 hy with e | hy
        · exact e.symm
        · have h1 := b.1 x hx
          have h2 := a.1 y hy
          have := klt_trans h1 h2
          rw [klt_irrefl] at this
          cases this
    subst e
    rw [srt_ext hl.tail hm.tail ?_]
    intro d
    constructor
    · intro hd
      rcases List.mem_cons.1 ((h d).1 (List.mem_cons_of_mem _ hd)) with e | h'
      · subst e
        have := a.1 d hd
        rw [klt_irrefl] at this
        cases this
      · exact h'
    · intro hd
      rcases List.mem_cons.1 ((h d).2 (List.mem_cons_of_mem _ hd)) with e | h'
      · subst e
        have := b.1 d hd
        rw [klt_irrefl] at this
        cases this
      · exact h'
theorem IsMerge.uniq {f f' r r' : List De} (h : IsMerge f r) (h' : IsMerge f' r') (hf : ∀ d, d ∈ f ↔ d ∈ f') : r = r' := by
  refine srt_ext h.srt h'.srt (fun d => ?_)
  rw [h.mem, h'.mem, hf]
  constructor
  · rintro ⟨a, b, c⟩
    exact ⟨a, b, fun e he => c e ((hf e).2 he)⟩
  · rintro ⟨a, b, c⟩
    exact ⟨a, b, fun e he => c e ((hf e).1 he)⟩
/-- A past is what it makes. -/
theorem IsMerge.self {r : List De} (h : Srt r) : IsMerge r r := by
  refine ⟨h, fun m => ⟨fun hm => ⟨hm, h.1 m hm, fun e he _ hk => ?_⟩, fun hm => hm.1⟩, fun e he _ => ⟨e, he, rfl⟩⟩
  rw [srt_key h he hm hk]
  exact Sm.less_self _

/-! The program's way: sorted, and of neighbours of one key the first. -/
theorem cmpGo_facts : ∀ (r : List De) (prev : De), SortedD (prev :: r) →
    (∀ d ∈ cmpGo prev r, d ∈ r ∧ klt prev.1 d.1 = true) ∧ (cmpGo prev r).Pairwise (fun x y => klt x.1 y.1 = true) ∧ (∀ d ∈ cmpGo prev r, ∀ e ∈ r, e.1 = d.1 → Sm.less d.2 e.2 = false) ∧ (∀ e ∈ r, ∃ d ∈ prev :: cmpGo prev r, d.1 = e.1)
  | [], prev, _ => ⟨by simp [cmpGo], by simp [cmpGo], by simp [cmpGo], by simp⟩
  | x :: r, prev, hs => by
    have hs1 := List.pairwise_cons.1 hs
    have hs2 := List.pairwise_cons.1 hs1.2
    obtain ⟨ia, ib, ic, id⟩ := cmpGo_facts r x hs1.2
    have hx := hs1.1 x (by simp)
    by_cases hk : x.1 = prev.1
    · rw [cmpGo, if_pos hk]
      refine ⟨fun d hd => ⟨List.mem_cons_of_mem _ (ia d hd).1, by rw [← hk]; exact (ia d hd).2⟩, ib, ?_, ?_⟩
      · intro d hd e he hek
        rcases List.mem_cons.1 he with rfl | he
        · exact absurd hek (klt_ne (ia d hd).2)
        · exact ic d hd e he hek
      · intro e he
        rcases List.mem_cons.1 he with rfl | he
        · exact ⟨prev, by simp, hk.symm⟩
        · obtain ⟨d, hd, hde⟩ := id e he
          rcases List.mem_cons.1 hd with rfl | hd
          · exact ⟨prev, by simp, hk.symm.trans hde⟩
          · exact ⟨d, List.mem_cons_of_mem _ hd, hde⟩
    · rw [cmpGo, if_neg hk]
      have hpx : klt prev.1 x.1 = true := by
        unfold ltD at hx
        rw [if_neg hk] at hx
        cases h : klt prev.1 x.1 with
        | true => rfl
        | false => exact absurd (klt_tri hx h) hk
      refine ⟨?_, List.pairwise_cons.2 ⟨fun d hd => (ia d hd).2, ib⟩, ?_, ?_⟩
      · intro d hd
        rcases List.mem_cons.1 hd with rfl | hd
        · exact ⟨by simp, hpx⟩
        · exact ⟨List.mem_cons_of_mem _ (ia d hd).1, klt_trans hpx (ia d hd).2⟩
      · intro d hd e he hek
        rcases List.mem_cons.1 hd with rfl | hd
        · rcases List.mem_cons.1 he with rfl | he
          · exact Sm.less_self _
          · have h3 := hs2.1 e he
            unfold ltD at h3
            rw [if_pos hek] at h3
            exact h3
        · rcases List.mem_cons.1 he with rfl | he
          · exact absurd hek (klt_ne (ia d hd).2)
          · exact ic d hd e he hek
      · intro e he
        rcases List.mem_cons.1 he with rfl | he
        · exact ⟨e, by simp, rfl⟩
        · obtain ⟨d, hd, hde⟩ := id e he
          exact ⟨d, List.mem_cons_of_mem _ hd, hde⟩
theorem cmpK_facts (l : List De) (hs : SortedD l) :
    (∀ d ∈ cmpK l, d ∈ l) ∧ (cmpK l).Pairwise (fun x y => klt x.1 y.1 = true) ∧ (∀ d ∈ cmpK l, ∀ e ∈ l, e.1 = d.1 → Sm.less d.2 e.2 = false) ∧ (∀ e ∈ l, ∃ d ∈ cmpK l, d.1 = e.1) := by
  cases l with
  | nil => exact ⟨by simp [cmpK], by simp [cmpK], by simp [cmpK], by simp⟩
  | cons p r =>
    obtain ⟨ia, ib, ic, id⟩ := cmpGo_facts r p hs
    have hs1 := List.pairwise_cons.1 hs
    rw [cmpK]
    refine ⟨?_, List.pairwise_cons.2 ⟨fun d hd => (ia d hd).2, ib⟩, ?_, ?_⟩
    · intro d hd
      rcases List.mem_cons.1 hd with rfl | hd
      · simp
      · exact List.mem_cons_of_mem _ (ia d hd).1
    · intro d hd e he hek
      rcases List.mem_cons.1 hd with rfl | hd
      · rcases List.mem_cons.1 he with rfl | he
        · exact Sm.less_self _
        · have h3 := hs1.1 e he
          unfold ltD at h3
          rw [if_pos hek] at h3
          exact h3
      · rcases List.mem_cons.1 he with rfl | he
        · exact absurd hek (klt_ne (ia d hd).2)
        · exact ic d hd e he hek
    · intro e he
      rcases List.mem_cons.1 he with rfl | he
      · exact ⟨e, by simp, rfl⟩
      · exact id e he
theorem merge_of_sort {f l : List De} (hp : l.Perm (kept (fun d => !okD d) f)) (hs : SortedD l) : IsMerge f (cmpK l) := by
  obtain ⟨ha, hb, hc, hd⟩ := cmpK_facts l hs
  have hm : ∀ d, d ∈ l ↔ (d ∈ f ∧ okD d = true) := by
    intro d
    rw [hp.mem_iff]
    simp [kept]
  refine ⟨⟨fun d h => ((hm d).1 (ha d h)).2, hb⟩, fun m => ?_, fun e he ho => hd e ((hm e).2 ⟨he, ho⟩)⟩
  constructor
  · intro h
    have h1 := (hm m).1 (ha m h)
    exact ⟨h1.1, h1.2, fun e he ho hk => hc m h e ((hm e).2 ⟨he, ho⟩) hk⟩
  · rintro ⟨h1, h2, h3⟩
    have hml := (hm m).2 ⟨h1, h2⟩
    obtain ⟨d, hdm, hdk⟩ := hd m hml
    have h4 := hc d hdm m hml hdk.symm
    have hd2 := (hm d).1 (ha d hdm)
    have h5 := h3 d hd2.1 hd2.2 hdk
    have h6 : d.2 = m.2 := (Sm.le_antisymm h5 h4)
    have : d = m := Prod.ext hdk h6
    rw [← this]
    exact hdm

/-! The document's way: one by one. -/
theorem addGo_true {d : De} : ∀ {r : List De}, (∀ y ∈ r, y.1 ≠ d.1) → addGo d true r = r
  | [], _ => rfl
  | x :: r, h => by
    rw [addGo_put (h x (by simp)), addGo_true (fun y hy => h y (List.mem_cons_of_mem _ hy))]
theorem addGo_spec {d : De} (hd : okD d = true) : ∀ {r : List De}, Srt r → Srt (addGo d false r) ∧ (∀ k, klt k d.1 = true → (∀ y ∈ r, klt k y.1 = true) → ∀ y ∈ addGo d false r, klt k y.1 = true) ∧
    ∀ m, m ∈ addGo d false r ↔ ((m ∈ r ∧ m.1 ≠ d.1) ∨ (m.1 = d.1 ∧ ((m = d ∧ ∀ x ∈ r, x.1 = d.1 → Sm.less x.2 d.2 = true) ∨ (m ∈ r ∧ Sm.less m.2 d.2 = false))))
  | [], _ => by
    refine ⟨⟨by simpa [addGo] using hd, by simp [addGo]⟩, by simp [addGo], fun m => ?_⟩
    simp [addGo]
    intro h
    rw [h]
  | x :: r, hs => by
    have ha := List.pairwise_cons.1 hs.2
    have ih := addGo_spec hd hs.tail
    by_cases hk : x.1 = d.1
    · have hne : ∀ y ∈ r, y.1 ≠ d.1 := fun y hy e => klt_ne (ha.1 y hy) (hk.trans e.symm)
      cases hl : Sm.less x.2 d.2 with
      | true =>
        rw [addGo_eq hk hl, addGo_true hne]
        refine ⟨⟨?_, List.pairwise_cons.2 ⟨fun y hy => by rw [← hk]; exact ha.1 y hy, ha.2⟩⟩, ?_, fun m => ?_⟩
        · intro e he
          rcases List.mem_cons.1 he with rfl | he
          · exact hd
          · exact hs.1 e (List.mem_cons_of_mem _ he)
        · intro k h1 h2 y hy
          rcases List.mem_cons.1 hy with rfl | hy
          · exact h1
          · exact h2 y (List.mem_cons_of_mem _ hy)
        · constructor
          · intro h
            rcases List.mem_cons.1 h with rfl | h
            · refine .inr ⟨rfl, .inl ⟨rfl, fun z hz hzk => ?_⟩⟩
              rcases List.mem_cons.1 hz with rfl | hz
              · exact hl
              · exact absurd hzk (hne z hz)
            · exact .inl ⟨List.mem_cons_of_mem _ h, hne m h⟩
          · rintro (⟨h1, h2⟩ | ⟨h1, ⟨rfl, _⟩ | ⟨h2, h3⟩⟩)
            · rcases List.mem_cons.1 h1 with rfl | h1
              · exact absurd hk h2
              · exact List.mem_cons_of_mem _ h1
            · simp
            · rcases List.mem_cons.1 h2 with rfl | h2
              · rw [hl] at h3; cases h3
              · exact absurd h1 (hne m h2)
      | false =>
        rw [addGo_eq' hk hl, addGo_true hne]
        refine ⟨hs, fun k _ h2 => h2, fun m => ?_⟩
        constructor
        · intro h
          rcases List.mem_cons.1 h with rfl | h
          · exact .inr ⟨hk, .inr ⟨by simp, hl⟩⟩
          · exact .inl ⟨List.mem_cons_of_mem _ h, hne m h⟩
        · rintro (⟨h1, _⟩ | ⟨h1, ⟨rfl, h2⟩ | ⟨h2, _⟩⟩)
          · exact h1
          · have := h2 x (by simp) hk
            rw [hl] at this; cases this
          · exact h2
    · cases hg : klt d.1 x.1 with
      | true =>
        have hne : ∀ y ∈ r, y.1 ≠ d.1 := fun y hy e => by
          have := klt_trans hg (ha.1 y hy)
          exact klt_ne this e.symm
        rw [addGo_gt hk hg, addGo_true hne]
        have hall : ∀ y ∈ x :: r, klt d.1 y.1 = true := by
          intro y hy
          rcases List.mem_cons.1 hy with rfl | hy
          · exact hg
          · exact klt_trans hg (ha.1 y hy)
        refine ⟨⟨?_, List.pairwise_cons.2 ⟨hall, hs.2⟩⟩, ?_, fun m => ?_⟩
        · intro e he
          rcases List.mem_cons.1 he with rfl | he
          · exact hd
          · exact hs.1 e he
        · intro k h1 h2 y hy
          rcases List.mem_cons.1 hy with rfl | hy
          · exact h1
          · exact h2 y hy
        · constructor
          · intro h
            rcases List.mem_cons.1 h with rfl | h
            · exact .inr ⟨rfl, .inl ⟨rfl, fun z hz hzk => absurd hzk.symm (klt_ne (hall z hz))⟩⟩
            · exact .inl ⟨h, fun e => klt_ne (hall m h) e.symm⟩
          · rintro (⟨h1, _⟩ | ⟨h1, ⟨rfl, _⟩ | ⟨h2, _⟩⟩)
            · exact List.mem_cons_of_mem _ h1
            · simp
            · exact List.mem_cons_of_mem _ h2
      | false =>
        have hxd : klt x.1 d.1 = true := by
          cases h : klt x.1 d.1 with
          | true => rfl
          | false => exact absurd (klt_tri h hg) hk
        rw [addGo_le hk hg]
        obtain ⟨i1, i2, i3⟩ := ih
        refine ⟨⟨?_, List.pairwise_cons.2 ⟨i2 x.1 hxd ha.1, i1.2⟩⟩, ?_, fun m => ?_⟩
        · intro e he
          rcases List.mem_cons.1 he with rfl | he
          · exact hs.1 e (by simp)
          · exact i1.1 e he
        · intro k h1 h2 y hy
          rcases List.mem_cons.1 hy with rfl | hy
          · exact h2 y (by simp)
          · exact i2 k h1 (fun z hz => h2 z (List.mem_cons_of_mem _ hz)) y hy
        · rw [List.mem_cons, i3]
          constructor
          · rintro (rfl | ⟨h1, h2⟩ | ⟨h1, ⟨h2, h3⟩ | ⟨h2, h3⟩⟩)
            · exact .inl ⟨by simp, hk⟩
            · exact .inl ⟨List.mem_cons_of_mem _ h1, h2⟩
            · refine .inr ⟨h1, .inl ⟨h2, fun z hz hzk => ?_⟩⟩
              rcases List.mem_cons.1 hz with rfl | hz
              · exact absurd hzk hk
              · exact h3 z hz hzk
            · exact .inr ⟨h1, .inr ⟨List.mem_cons_of_mem _ h2, h3⟩⟩
          · rintro (⟨h1, h2⟩ | ⟨h1, ⟨h2, h3⟩ | ⟨h2, h3⟩⟩)
            · rcases List.mem_cons.1 h1 with rfl | h1
              · exact .inl rfl
              · exact .inr (.inl ⟨h1, h2⟩)
            · exact .inr (.inr ⟨h1, .inl ⟨h2, fun z hz hzk => h3 z (List.mem_cons_of_mem _ hz) hzk⟩⟩)
            · rcases List.mem_cons.1 h2 with rfl | h2
              · exact absurd h1 hk
              · exact .inr (.inr ⟨h1, .inr ⟨h2, h3⟩⟩)
theorem addR_srt {r : List De} (h : Srt r) (d : De) : Srt (addR r d) := by
  unfold addR
  split
  · rename_i hd
    exact (addGo_spec hd h).1
  · exact h
theorem IsMerge.add {f r : List De} (h : IsMerge f r) (d : De) : IsMerge (f ++ [d]) (addR r d) := by
  by_cases hd : okD d = true
  · rw [addR, if_pos hd]
    obtain ⟨s1, _, s3⟩ := addGo_spec hd h.srt
    refine ⟨s1, fun m => ?_, fun e he ho => ?_⟩
    · rw [s3]
      constructor
      · rintro (⟨h1, h2⟩ | ⟨h1, ⟨rfl, h3⟩ | ⟨h2, h3⟩⟩)
        · obtain ⟨a, b, c⟩ := (h.mem m).1 h1
          refine ⟨by simp [a], b, fun e he ho hk => ?_⟩
          rcases List.mem_append.1 he with he | he
          · exact c e he ho hk
          · simp at he
            subst he
            exact absurd hk.symm h2
        · refine ⟨by simp, hd, fun e he ho hk => ?_⟩
          rcases List.mem_append.1 he with he | he
          · obtain ⟨x, hx, hxk⟩ := h.rep e he ho
            have h4 := h3 x hx (hxk.trans hk)
            have h5 := ((h.mem x).1 hx).2.2 e he ho hxk.symm
            cases h6 : Sm.less m.2 e.2 with
            | false => rfl
            | true =>
              rw [Sm.less_trans h4 h6] at h5
              cases h5
          · simp at he
            subst he
            exact Sm.less_self _
        · obtain ⟨a, b, c⟩ := (h.mem m).1 h2
          refine ⟨by simp [a], b, fun e he ho hk => ?_⟩
          rcases List.mem_append.1 he with he | he
          · exact c e he ho hk
          · simp at he
            subst he
            exact h3
      · rintro ⟨a, b, c⟩
        by_cases hk : m.1 = d.1
        · by_cases hmr : m ∈ r
          · exact .inr ⟨hk, .inr ⟨hmr, c d (by simp) hd hk.symm⟩⟩
          · have hmd : m = d := by
              rcases List.mem_append.1 a with a | a
              · exact absurd ((h.mem m).2 ⟨a, b, fun e he => c e (by simp [he])⟩) hmr
              · simpa using a
            subst hmd
            refine .inr ⟨rfl, .inl ⟨rfl, fun x hx hxk => ?_⟩⟩
            have h1 := (h.mem x).1 hx
            have h2 := c x (by simp [h1.1]) h1.2.1 hxk
            cases h3 : Sm.less x.2 m.2 with
            | true => rfl
            | false =>
              have : x.2 = m.2 := Sm.le_antisymm h2 h3
              exact absurd hx (by rw [show x = m from Prod.ext hxk this]; exact hmr)
        · refine .inl ⟨(h.mem m).2 ⟨?_, b, fun e he => c e (by simp [he])⟩, hk⟩
          rcases List.mem_append.1 a with a | a
          · exact a
          · simp at a
            subst a
            exact absurd rfl hk
    · rcases List.mem_append.1 he with he | he
      · obtain ⟨x, hx, hxk⟩ := h.rep e he ho
        by_cases hk : x.1 = d.1
        · cases hl : Sm.less x.2 d.2 with
          | true => exact ⟨d, (s3 d).2 (.inr ⟨rfl, .inl ⟨rfl, fun y hy hyk => by rw [srt_key h.srt hy hx (hyk.trans hk.symm)]; exact hl⟩⟩), hk.symm.trans hxk⟩
          | false => exact ⟨x, (s3 x).2 (.inr ⟨hk, .inr ⟨hx, hl⟩⟩), hxk⟩
        · exact ⟨x, (s3 x).2 (.inl ⟨hx, hk⟩), hxk⟩
      · simp at he
        subst he
        by_cases hx : ∃ x ∈ r, x.1 = e.1 ∧ Sm.less x.2 e.2 = false
        · obtain ⟨x, hx, hxk, hl⟩ := hx
          exact ⟨x, (s3 x).2 (.inr ⟨hxk, .inr ⟨hx, hl⟩⟩), hxk⟩
        · refine ⟨e, (s3 e).2 (.inr ⟨rfl, .inl ⟨rfl, fun x h1 h2 => ?_⟩⟩), rfl⟩
          cases hl : Sm.less x.2 e.2 with
          | true => rfl
          | false => exact absurd ⟨x, h1, h2, hl⟩ hx
  · rw [addR, if_neg hd]
    refine ⟨h.srt, fun m => ?_, fun e he ho => ?_⟩
    · rw [h.mem]
      constructor
      · rintro ⟨a, b, c⟩
        refine ⟨by simp [a], b, fun e he ho hk => ?_⟩
        rcases List.mem_append.1 he with he | he
        · exact c e he ho hk
        · simp at he
          subst he
          exact absurd ho hd
      · rintro ⟨a, b, c⟩
        refine ⟨?_, b, fun e he => c e (by simp [he])⟩
        rcases List.mem_append.1 a with a | a
        · exact a
        · simp at a
          subst a
          exact absurd b hd
    · rcases List.mem_append.1 he with he | he
      · exact h.rep e he ho
      · simp at he
        subst he
        exact absurd ho hd
theorem IsMerge.nil : IsMerge [] [] := ⟨Srt.nil, by simp, by simp⟩
/-- One by one. -/
def addAll (r : List De) (l : List De) : List De := l.foldl addR r
theorem IsMerge.all {f r : List De} (h : IsMerge f r) (l : List De) : IsMerge (f ++ l) (addAll r l) := by
  induction l generalizing f r with
  | nil => simpa [addAll] using h
  | cons d l ih =>
    have := ih (h.add d)
    rw [List.append_assoc] at this
    simpa [addAll] using this
end Go.Proofs.Ytfmedinhlmiaeaa
