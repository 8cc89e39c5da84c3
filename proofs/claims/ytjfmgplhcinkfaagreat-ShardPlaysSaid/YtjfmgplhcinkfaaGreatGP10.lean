/- Texts of this proof, one behind the other: ChUp, ChAt, ChMap, ChKeepC. -/
import Derived.Test.YtjfmgplhcinkfaaGreatGP9
import Derived.WalkMore
import Derived.Shelf.AbstractIn
import Derived.WideKeyEntry
import Derived.Deep.DeepCutAuto
/- What chain.upTo answers, for whatever predicate. -/
namespace Go.Proofs.YtjfmgplhcinkfaaGreat
open Go.RowKit Go.Shelf
set_option linter.unusedVariables false
set_option linter.unusedSimpArgs false
attribute [local go_sem] Oper.semAt_some

set_option maxRecDepth 100000 in
set_option maxHeartbeats 4000000 in
theorem up_any (g : Nat) (lb : Array Value) (eg : ∀ args w, (callFunc g args).run Tryz.prog w = .ok (.enter g args) w) (p : Vw → Bool) (a : Option Addr) (cap : Nat) (l : List Vw) (w : World) (hl : l.length ≤ 1000000) (hcap : l.length ≤ cap) (hmx : cap ≤ maxLen) (hnil : a = none → cap = 0) (hr : RowIn KW w a l) (hp : PredW g lb p l w.heap.size w) :
    Calls Tryz.prog 54 #[.slice a l.length cap, .func (.func g) #[] lb] w fun e w' => e = .returned (.slice a (upN p l) cap) ∧ Below w.heap.size w w' := by
  refine (callsIn_wide (n := 5)).1 ?_
  have t20 : Fence.wide.fn 54 := trivial
  have t49 : Fence.wide.fn 73 := trivial
  have t81 : Fence.wide.fn 87 := trivial
  refine callsIn_of_wp_marks Tryz.func54 rfl t20 ?_ rfl
  simp only [Tryz.ntmps54, List.size_toArray, List.length_cons, List.length_nil, Nat.reduceAdd, Nat.reduceSub, Array.replicate_succ, Array.replicate_zero, List.push_toArray, List.append_toArray, List.nil_append, List.cons_append]
  gi_wp2
  refine wpIn_wide.2 (wp_scope_straight ((wpIn_wide (n := 5)).1 ?_))
  gi_wp2
  refine wpIn_label ?_
  gi_wp2_with (gi_at_call 73; refine (backwardW_in Fence.wide 4 t49 rfl _ _ _ _).mono ?_; rintro e w' ⟨rfl, rfl⟩)
  obtain ⟨W0, hW0⟩ : ∃ W0, ((w.alloc (Obj.cells #[Value.func (.func g) #[] lb] 50)).alloc (Obj.cells #[Value.int .i64 0] 3)).alloc (Obj.cells #[Value.slice a l.length cap] 47) = W0 := ⟨_, rfl⟩
  have hsz : W0.heap.size = w.heap.size + 3 := by rw [← hW0]; simp
  have hB0 : Below w.heap.size w W0 := by rw [← hW0]; exact balloc (balloc (balloc (Below.refl _ w) _) _) _
  have s1 : (w.alloc (Obj.cells #[Value.func (.func g) #[] lb] 50)).heap.size = w.heap.size + 1 := by simp
  have s2 : ((w.alloc (Obj.cells #[Value.func (.func g) #[] lb] 50)).alloc (Obj.cells #[Value.int .i64 0] 3)).heap.size = w.heap.size + 1 + 1 := by simp
  have bF : W0.cell? ⟨w.heap.size, 0, none⟩ = some (.func (.func g) #[] lb) := by
    rw [← hW0, World.cell?_alloc_past _ _ _ (by rw [s2]; omega), World.cell?_alloc_past _ _ _ (by rw [s1]; omega), World.cell?_alloc_at _ _ _ _ rfl]
    rfl
  have bE : W0.cell? ⟨w.heap.size + 1, 0, none⟩ = some (.int .i64 0) := by
    rw [← hW0, World.cell?_alloc_past _ _ _ (by rw [s2]; omega), World.cell?_alloc_at _ _ _ _ s1.symm]
    rfl
  have bZ : W0.frozen? ⟨w.heap.size + 1, 0, none⟩ = false := by
    rw [← hW0]
    have h1 : ((w.alloc (Obj.cells #[Value.func (.func g) #[] lb] 50)).alloc (Obj.cells #[Value.int .i64 0] 3)).frozen? ⟨w.heap.size + 1, 0, none⟩ = false := by
      rw [← s1]; simp
    rw [(balloc (Below.refl _ _) _ : Below ((w.alloc (Obj.cells #[Value.func (.func g) #[] lb] 50)).alloc (Obj.cells #[Value.int .i64 0] 3)).heap.size _ _).frozen (p := ⟨w.heap.size + 1, 0, none⟩) (by rw [s2]; show w.heap.size + 1 < _; omega)]
    exact h1
  have bS : W0.cell? ⟨w.heap.size + 1 + 1, 0, none⟩ = some (.slice a l.length cap) := by
    rw [← hW0, World.cell?_alloc_at _ _ _ _ s2.symm]
    rfl
  rw [hW0]
  clear hW0 s1 s2
  refine wpIn_rangeFunc_ownH rfl (by omega) (gf := 87) (lb := #[.pointer (some ⟨w.heap.size + 1 + 1, 0, none⟩)]) rfl t81 (enters_of Tryz.func87 (by kernel_rfl) rfl)
    (backW_stops Fence.wide (5 - 1) t81 rfl (by omega) (w.heap.size + 1 + 1) W0.heap.size (w.heap.size + 1) cap a l hl W0 (by omega) (by omega) (by omega) bS (fun b off e h => by
      obtain ⟨b', off', e', hlt, _⟩ := hr 0 h
      rw [e] at e'
      cases e'
      omega) (hr.below hB0)) (fun h k => h.trans k) (fun W lq o o' h1 h2 h3 h4 => fun k hk _ => (belowK_b (w := W0) (Nat.le_refl _) W lq o o' h1 h2 h3 h4).block k hk) (Below.refl _ _) (fun _ => rfl)
    (fun pre W => (((W.cell? ⟨w.heap.size, 0, none⟩ = some (.func (.func g) #[] lb) ∧ W.cell? ⟨w.heap.size + 1, 0, none⟩ = some (.int .i64 0) ∧ W.frozen? ⟨w.heap.size + 1, 0, none⟩ = false) ∧ (∀ x ∈ pre, p x.1.2 = false)) ∧ W0.heap.size ≤ W.heap.size) ∧ Below w.heap.size w W)
    (fun c P W => ((∃ pre x, P = pre ++ [x] ∧ p x.1.2 = true ∧ (∀ y ∈ pre, p y.1.2 = false) ∧ W.cell? ⟨w.heap.size + 1, 0, none⟩ = some (.int .i64 ((x.1.1 : Int) + 1)) ∧ c = .exit 0) ∧ W0.heap.size ≤ W.heap.size) ∧ Below w.heap.size w W)
    (OwnFrom.and (fun s A B row hs hg hr => ⟨⟨⟨cell_kept hs.1.1.1 hg (fun r e => (hr r e).2), cell_kept hs.1.1.2.1 hg (fun r e => (hr r e).2), (frozen_kept hs.1.1.2.1 hg (fun r e => (hr r e).2)).trans hs.1.1.2.2⟩, hs.1.2⟩, Nat.le_trans hs.2 hg.size⟩) (ownFrom_below (Nat.le_refl _) (by omega)))
    (fun c => OwnFrom.and (fun s A B row hs hg hr => by
      obtain ⟨⟨pre, x, h1, h2, h3, h4, h5⟩, h6⟩ := hs
      exact ⟨⟨pre, x, h1, h2, h3, cell_kept h4 hg (fun r e => (hr r e).2), h5⟩, Nat.le_trans h6 hg.size⟩) (ownFrom_below (Nat.le_refl _) (by omega)))
    ⟨⟨⟨⟨bF, bE, bZ⟩, by simp⟩, Nat.le_refl _⟩, hB0⟩
    (fun x a' W => ∃ Bx, W0.heap.size ≤ Bx ∧ VwQ W Bx 0 x.1.2 ∧ a' = { tmps := #[.slice a l.length cap, .func (.func g) #[] lb, undef, .pointer (some ⟨w.heap.size, 0, none⟩), .slice none 0 0, .pointer (some ⟨w.heap.size + 1, 0, none⟩), .int .i64 (x.1.1 : Int), .pointer (some ⟨Bx, 0, none⟩), .slice a l.length cap, .func (.func 87) #[] #[.pointer (some ⟨w.heap.size + 1 + 1, 0, none⟩)], .int .i64 (x.1.1 : Int), wV x.1.2, undef, undef, undef, undef, undef, undef, undef, undef], defers := [] })
    (fun x a' _ X Y row hs hg hr => by
      obtain ⟨Bx, h1, ⟨k0, k1, k2, k3, k4, k5⟩, h3⟩ := hs
      exact ⟨Bx, h1, ⟨cell_kept k0 hg (fun r e => (hr r e).2), cell_kept k1 hg (fun r e => (hr r e).2), cell_kept k2 hg (fun r e => (hr r e).2), cell_kept k3 hg (fun r e => (hr r e).2), cell_kept k4 hg (fun r e => (hr r e).2), cell_kept k5 hg (fun r e => (hr r e).2)⟩, h3⟩)
    ?assign ?body ?done ?stop
  case assign =>
    rintro lp pre x W K ⟨⟨⟨⟨hc1, hc2, hf2⟩, hno⟩, hsW⟩, hB⟩ hK
    have hV := (VwP.new W x.1.2.1 (pw x.1.2) 36).q (x := x.1.2)
    obtain ⟨⟨xi, ⟨⟨key, val, gone, ⟨n1, s1⟩, past⟩, pa, pc⟩⟩, hx⟩ := x
    have hB1 : Below W.heap.size W (W.alloc (.cells #[.string key, .string val, .bool gone, .int .i64 n1, .int .i64 s1, .slice pa past.length pc] 36)) := balloc (Below.refl _ W) _
    dsimp only [wV, wcs, wvs, pw] at hK hV ⊢
    have HV := Lib.hid hV
    clear hV
    gi_wp2
    exact hK _ _ ((KeepsOthers.alloc _ _).from _) (fun k hk _ => Below.heap_alloc _ _ _ (by omega)) ⟨⟨⟨⟨kc hB1 hc1, kc hB1 hc2, (hB1.frozen (p := ⟨w.heap.size + 1, 0, none⟩) (lt_of_cellN hc2)).trans hf2⟩, hno⟩, by simp; omega⟩, hB.alloc hB.size _⟩ ⟨W.heap.size, hsW, HV.out, rfl⟩
  case body =>
    rintro lp pre x a' W hlp ⟨r, hr'⟩ ⟨⟨⟨⟨hc1, hc2, hf2⟩, hno⟩, hsW⟩, hB⟩ ⟨Bx, hBx, hV, rfl⟩ hlt
    have hcall := hp W x.1.2 (by obtain ⟨h, e⟩ := x.2; rw [← e]; exact List.getElem_mem h) hB
    have hxi : x.1.1 < l.length := x.2.1
    have HNO := Lib.hid hno
    have HB := Lib.hid hB
    clear hno hB
    obtain ⟨⟨xi, xx⟩, hx⟩ := x
    dsimp only at hcall hxi hV ⊢
    generalize hqq : p xx = q at hcall
    have HQ := Lib.hid hqq
    clear hqq
    obtain ⟨⟨key, val, gone, ⟨n1, s1⟩, past⟩, pa, pc⟩ := xx
    obtain ⟨c0, c1, c2, c3, c4, c5⟩ := hV
    dsimp only [wV, wcs, wvs, pw, Nat.zero_add] at hcall c0 c1 c2 c3 c4 c5 ⊢
    have hw1 : IntKind.i64.wrap ((xi : Int) + 1) = (xi : Int) + 1 := IntWalk.i64_in _ (by omega)
    cases q with
    | true =>
      gi_wp2_with (refine ⟨trivial, ?_⟩; gi_at_fn g; refine (callsIn_round hcall).mono ?_; rintro e w1 ⟨rfl, hb1⟩; have d2 := kc hb1 hc2; have f2 := (hb1.frozen (p := ⟨w.heap.size + 1, 0, none⟩) (lt_of_cellN hc2)).trans hf2; have d1 := kc hb1 hc1; have HB1 := Lib.hid hb1)
      have hs1 := HB1.out.size
      have hblk : ∀ i, i < W.heap.size → i ≠ w.heap.size + 1 → (w1.setCell ⟨w.heap.size + 1, 0, none⟩ (.int .i64 ((xi : Int) + 1))).heap[i]? = W.heap[i]? := fun i h1 h2 => (Below.heap_setCell _ _ _ _ h2).trans (HB1.out.block i h1)
      refine ⟨⟨by simp; omega, fun i o h1 h2 h3 => (hblk i (Array.getElem?_eq_some_iff.1 h2).1 (by omega)).trans h2⟩, ⟨⟨pre, ⟨(xi, ⟨key, val, gone, (n1, s1), past⟩, pa, pc), hx⟩, rfl, HQ.out, HNO.out, World.cell?_setCell_same _ _ _ d2, rfl⟩, by simp; omega⟩, (bstep HB.out HB1.out).setCell (p := ⟨w.heap.size + 1, 0, none⟩) (by show w.heap.size ≤ w.heap.size + 1; omega) _⟩
    | false =>
      gi_wp2_with (refine ⟨trivial, ?_⟩; gi_at_fn g; refine (callsIn_round hcall).mono ?_; rintro e w1 ⟨rfl, hb1⟩; have d2 := kc hb1 hc2; have f2 := (hb1.frozen (p := ⟨w.heap.size + 1, 0, none⟩) (lt_of_cellN hc2)).trans hf2; have d1 := kc hb1 hc1; have HB1 := Lib.hid hb1)
      have hs1 := HB1.out.size
      refine ⟨⟨by omega, fun i o h1 h2 h3 => (HB1.out.block i (Array.getElem?_eq_some_iff.1 h2).1).trans h2⟩, fun i h1 h2 => HB1.out.block i (by omega), ⟨⟨⟨d1, d2, f2⟩, fun y hy => ?_⟩, by omega⟩, bstep HB.out HB1.out⟩
      rcases List.mem_append.1 hy with hy | hy
      · exact HNO.out y hy
      · simp at hy
        rw [hy]
        exact HQ.out
  case done =>
    rintro D ys W hD rfl ⟨⟨⟨⟨hc1, hc2, hf2⟩, hno⟩, hsW⟩, hB⟩ hK
    have hup : upN p l = 0 := by rw [← bkWL_no l.length (Nat.le_refl _) hno, Nat.sub_self]; rfl
    have HUP := Lib.hid hup
    clear hup
    gi_wp2
    rw [Exit.noGoto_ret]
    refine ⟨by simp, .inl ⟨_, _, rfl, run_takeDeferred hK, ?_⟩⟩
    exact ⟨_, results_tmp rfl _ _ _, by rw [HUP.out]; rfl, hB.trans (belowK_b (w := w) (Nat.le_refl _) W D _ _ (by omega) hK rfl rfl)⟩
  case stop =>
    rintro D c P W hD ⟨k, hk, hP⟩ ⟨⟨⟨pre, x, rfl, hpx, hno, hc, rfl⟩, hsW⟩, hB⟩ hK
    rw [bkWL_succ l k hk] at hP
    obtain ⟨rfl, e2⟩ := List.append_inj' hP rfl
    obtain rfl : x = bkW l (l.length - 1 - k) (by omega) := by simpa using e2
    have hup : upN p l = l.length - 1 - k + 1 := by
      rw [← bkWL_no k (by omega) hno, show l.length - k = l.length - 1 - k + 1 by omega]
      exact upN_take_yes (by omega) hpx
    have HUP := Lib.hid hup
    have hc' : W.cell? ⟨w.heap.size + 1, 0, none⟩ = some (.int .i64 ((l.length - 1 - k + 1 : Nat) : Int)) := by rw [hc]; simp [bkW]
    clear hup hc e2 hP hpx hno
    generalize hm : l.length - 1 - k + 1 = m at hc' HUP
    have hml : m ≤ l.length := by omega
    clear hm
    gi_wp2
    rw [Exit.noGoto_ret]
    refine ⟨by simp, .inl ⟨_, _, rfl, run_takeDeferred hK, ?_⟩⟩
    exact ⟨_, results_tmp rfl _ _ _, by rw [HUP.out]; rfl, hB.trans (belowK_b (w := w) (Nat.le_refl _) W D _ _ (by omega) hK rfl rfl)⟩
end Go.Proofs.YtjfmgplhcinkfaaGreat
/- What chain.At and chain.Below answer. -/
namespace Go.Proofs.YtjfmgplhcinkfaaGreat
open Go.RowKit Go.Shelf
set_option linter.unusedVariables false
set_option linter.unusedSimpArgs false

theorem up_notA (s : Int × Int) (B : Nat) (a : Option Addr) (cap : Nat) (xs : List Vw) (w : World) (hl : xs.length ≤ 1000000) (hr : WRow w (.slice a xs.length cap) xs) (h0 : w.cell? ⟨B, 0, none⟩ = some (.int .i64 s.1)) (h1 : w.cell? ⟨B, 1, none⟩ = some (.int .i64 s.2)) :
    Calls Tryz.prog 54 #[.slice a xs.length cap, .func (.func 77) #[] #[.pointer (some ⟨B, 0, none⟩)]] w fun e w' => e = .returned (.slice a (upN (notA s) xs) cap) ∧ Below w.heap.size w w' := by
  obtain ⟨a', c', e, h2, h3, h4⟩ := hr.shape
  cases e
  exact up_any _ _ (enters_of Tryz.func77 (by kernel_rfl) rfl) (notA s) a cap xs w hl h2 h3 h4 hr.rin (fun W x hx hb => notAfterC_any s B x W (kc hb h0) (kc hb h1))
theorem up_isS (s : Int × Int) (B : Nat) (a : Option Addr) (cap : Nat) (xs : List Vw) (w : World) (hl : xs.length ≤ 1000000) (hr : WRow w (.slice a xs.length cap) xs) (h0 : w.cell? ⟨B, 0, none⟩ = some (.int .i64 s.1)) (h1 : w.cell? ⟨B, 1, none⟩ = some (.int .i64 s.2)) :
    Calls Tryz.prog 54 #[.slice a xs.length cap, .func (.func 55) #[] #[.pointer (some ⟨B, 0, none⟩)]] w fun e w' => e = .returned (.slice a (upN (isS s) xs) cap) ∧ Below w.heap.size w w' := by
  obtain ⟨a', c', e, h2, h3, h4⟩ := hr.shape
  cases e
  exact up_any _ _ (enters_of Tryz.func55 (by kernel_rfl) rfl) (isS s) a cap xs w hl h2 h3 h4 hr.rin (fun W x hx hb => atC_any s B x W (kc hb h0) (kc hb h1))
/-- The last one of the first ones. -/
theorem head_upN (p : Vw → Bool) (a : Option Addr) (cap : Nat) (xs : List Vw) (w : World) (hl : xs.length ≤ 1000000) (hr : WRow w (.slice a xs.length cap) xs) :
    Calls Tryz.prog 44 #[.slice a (upN p xs) cap] w fun e w' => e = .returned (.tuple #[wV ((lastP p xs).getD vw0), .bool (lastP p xs).isSome]) ∧ Below w.heap.size w w' := by
  have h := chead_any (.slice a (upN p xs) cap) (xs.take (upN p xs)) w (by rw [List.length_take]; omega) (hr.take _ upN_le)
  rw [take_upN] at h
  exact h

set_option maxRecDepth 100000 in
set_option maxHeartbeats 1600000 in
theorem cat_any (v : Value) (xs : List Vw) (s : Int × Int) (w : World) (hl : xs.length ≤ 1000000) (hr : WRow w v xs) :
    Calls Tryz.prog 39 #[v, sv s] w fun e w' => e = .returned (.tuple #[wV ((lastP (isS s) xs).getD vw0), .bool (lastP (isS s) xs).isSome]) ∧ Below w.heap.size w w' := by
  have hmf : ∀ (fn : Fn) (first cap : Array Value) (w : World), (Instr.makeFunc fn first cap).run Tryz.prog w = .ok (.func fn first cap) w := fun _ _ _ _ => rfl
  obtain ⟨a, cap, rfl, hcap, hmx, hnil⟩ := hr.shape
  obtain ⟨W1, hW1⟩ : ∃ W1, (w.alloc (.cells #[.int .i64 s.1, .int .i64 s.2] 33)).alloc (.cells #[.string ⟨#[]⟩, .string ⟨#[]⟩, .bool false, .int .i64 0, .int .i64 0, .slice none 0 0] 36) = W1 := ⟨_, rfl⟩
  have hs1 : (w.alloc (.cells #[.int .i64 s.1, .int .i64 s.2] 33)).heap.size = w.heap.size + 1 := by simp
  have hbA : Below w.heap.size w (w.alloc (.cells #[.int .i64 s.1, .int .i64 s.2] 33)) := balloc (Below.refl _ w) _
  have hb1 : Below w.heap.size w W1 := by rw [← hW1]; exact balloc hbA _
  have hsz : W1.heap.size = w.heap.size + 1 + 1 := by rw [← hW1]; simp
  have hbB : Below (w.heap.size + 1) (w.alloc (.cells #[.int .i64 s.1, .int .i64 s.2] 33)) W1 := by rw [← hW1, ← hs1]; exact balloc (Below.refl _ _) _
  have q0 : W1.cell? ⟨w.heap.size, 0, none⟩ = some (.int .i64 s.1) := (hbB.cell (p := ⟨w.heap.size, 0, none⟩) (by show w.heap.size < _; omega)).trans (by simp)
  have q1 : W1.cell? ⟨w.heap.size, 1, none⟩ = some (.int .i64 s.2) := (hbB.cell (p := ⟨w.heap.size, 1, none⟩) (by show w.heap.size < _; omega)).trans (by simp)
  have hV : VwP W1 (w.heap.size + 1) wz (.slice none 0 0) := by
    have := VwP.new (w.alloc (.cells #[.int .i64 s.1, .int .i64 s.2] 33)) wz (.slice none 0 0) 36
    rw [hs1] at this
    rw [← hW1]
    exact this
  have hup := fun W (h : Below w.heap.size w W) B h0 h1 => up_isS s B a cap xs W hl (hr.below h) h0 h1
  have hhd := fun W (h : Below w.heap.size w W) => head_upN (isS s) a cap xs W hl (hr.below h)
  generalize lastP (isS s) xs = r at hhd ⊢
  generalize r.isSome = c at hhd ⊢
  generalize r.getD vw0 = x at hhd ⊢
  generalize upN (isS s) xs = n at hup hhd
  have HV := Lib.hid hV
  have HB1 := Lib.hid hb1
  have HPUT := Lib.hid (fun (W : World) (h : VwP W (w.heap.size + 1) wz (.slice none 0 0)) => h.putw x.1 (pw x))
  have HBP := Lib.hid (fun (W : World) (h : Below w.heap.size w W) => below_putw h (show w.heap.size ≤ w.heap.size + 1 by omega) x.1 (pw x))
  have HSZ := Lib.hid hsz
  obtain ⟨⟨key, val, gone, ⟨m, t⟩, past⟩, pa, pc⟩ := x
  obtain ⟨s0, s1⟩ := s
  dsimp only [wV, wcs, wvs, pw, World.putw] at *
  clear hr hV hb1 hbA hbB hs1 hsz
  go_enter Tryz.func39, Tryz.ntmps39
  go_upto_region 1 with fail
  try rw [hW1]
  clear hW1
  go_wp2_with fail
  refine (hup _ HB1.out w.heap.size q0 q1).mono ?_
  rintro e w3 ⟨rfl, hb3⟩
  clear q0 q1
  go_wp2_with fail
  refine (hhd _ (bstep HB1.out hb3)).mono ?_
  rintro e w4 ⟨rfl, hb4⟩
  have HV1 := Lib.hid (HV.out.keep (bstep hb3 hb4))
  obtain ⟨z0, z1, z2, z3, z4, z5, zf⟩ := HV1.out
  have zf0 := zf 0 (by decide)
  have zf1 := zf 1 (by decide)
  have zf2 := zf 2 (by decide)
  have zf3 := zf 3 (by decide)
  have zf4 := zf 4 (by decide)
  have zf5 := zf 5 (by decide)
  dsimp only [wz] at z0 z1 z2 z3 z4 z5
  have hP := HPUT.out _ HV1.out
  have HBE := Lib.hid (HBP.out _ (bstep HB1.out (bstep hb3 hb4)))
  clear zf HV HV1 HB1 HPUT HBP hb4 hup hhd
  have HP := Lib.hid hP
  clear hP
  go_wp2
  obtain ⟨r0, r1, r2, r3, r4, r5, _⟩ := HP.out
  dsimp only at r0 r1 r2 r3 r4 r5
  refine bodyPost_ret (v := .tuple #[.agg #[.string key, .string val, .bool gone, .int .i64 m, .int .i64 t, .slice pa past.length pc], .bool c]) (by simp [results, Tryz.results39, go_sem, r0, r1, r2, r3, r4, r5]) rfl ⟨rfl, HBE.out⟩

set_option maxRecDepth 100000 in
set_option maxHeartbeats 1600000 in
theorem cbelow_any (v : Value) (xs : List Vw) (s : Int × Int) (w : World) (hl : xs.length ≤ 1000000) (hr : WRow w v xs) :
    Calls Tryz.prog 64 #[v, sv s] w fun e w' => e = .returned (.tuple #[wV ((lastP (notA s) xs).getD vw0), .bool (lastP (notA s) xs).isSome]) ∧ Below w.heap.size w w' := by
  have hmf : ∀ (fn : Fn) (first cap : Array Value) (w : World), (Instr.makeFunc fn first cap).run Tryz.prog w = .ok (.func fn first cap) w := fun _ _ _ _ => rfl
  obtain ⟨a, cap, rfl, hcap, hmx, hnil⟩ := hr.shape
  obtain ⟨W1, hW1⟩ : ∃ W1, (w.alloc (.cells #[.int .i64 s.1, .int .i64 s.2] 33)).alloc (.cells #[.string ⟨#[]⟩, .string ⟨#[]⟩, .bool false, .int .i64 0, .int .i64 0, .slice none 0 0] 36) = W1 := ⟨_, rfl⟩
  have hs1 : (w.alloc (.cells #[.int .i64 s.1, .int .i64 s.2] 33)).heap.size = w.heap.size + 1 := by simp
  have hbA : Below w.heap.size w (w.alloc (.cells #[.int .i64 s.1, .int .i64 s.2] 33)) := balloc (Below.refl _ w) _
  have hb1 : Below w.heap.size w W1 := by rw [← hW1]; exact balloc hbA _
  have hsz : W1.heap.size = w.heap.size + 1 + 1 := by rw [← hW1]; simp
  have hbB : Below (w.heap.size + 1) (w.alloc (.cells #[.int .i64 s.1, .int .i64 s.2] 33)) W1 := by rw [← hW1, ← hs1]; exact balloc (Below.refl _ _) _
  have q0 : W1.cell? ⟨w.heap.size, 0, none⟩ = some (.int .i64 s.1) := (hbB.cell (p := ⟨w.heap.size, 0, none⟩) (by show w.heap.size < _; omega)).trans (by simp)
  have q1 : W1.cell? ⟨w.heap.size, 1, none⟩ = some (.int .i64 s.2) := (hbB.cell (p := ⟨w.heap.size, 1, none⟩) (by show w.heap.size < _; omega)).trans (by simp)
  have hV : VwP W1 (w.heap.size + 1) wz (.slice none 0 0) := by
    have := VwP.new (w.alloc (.cells #[.int .i64 s.1, .int .i64 s.2] 33)) wz (.slice none 0 0) 36
    rw [hs1] at this
    rw [← hW1]
    exact this
  have hup := fun W (h : Below w.heap.size w W) B h0 h1 => up_notA s B a cap xs W hl (hr.below h) h0 h1
  have hhd := fun W (h : Below w.heap.size w W) => head_upN (notA s) a cap xs W hl (hr.below h)
  generalize lastP (notA s) xs = r at hhd ⊢
  generalize r.isSome = c at hhd ⊢
  generalize r.getD vw0 = x at hhd ⊢
  generalize upN (notA s) xs = n at hup hhd
  have HV := Lib.hid hV
  have HB1 := Lib.hid hb1
  have HPUT := Lib.hid (fun (W : World) (h : VwP W (w.heap.size + 1) wz (.slice none 0 0)) => h.putw x.1 (pw x))
  have HBP := Lib.hid (fun (W : World) (h : Below w.heap.size w W) => below_putw h (show w.heap.size ≤ w.heap.size + 1 by omega) x.1 (pw x))
  have HSZ := Lib.hid hsz
  obtain ⟨⟨key, val, gone, ⟨m, t⟩, past⟩, pa, pc⟩ := x
  obtain ⟨s0, s1⟩ := s
  dsimp only [wV, wcs, wvs, pw, World.putw] at *
  clear hr hV hb1 hbA hbB hs1 hsz
  go_enter Tryz.func64, Tryz.ntmps64
  go_upto_region 1 with fail
  try rw [hW1]
  clear hW1
  go_wp2_with fail
  refine (notAfter_any (s0, s1) _).mono ?_
  rintro e w2 ⟨rfl, rfl⟩
  have hb2 : Below W1.heap.size W1 (W1.alloc (.cells #[.int .i64 s0, .int .i64 s1] 33)) := balloc (Below.refl _ W1) _
  have HB2 := Lib.hid hb2
  have p0 : (W1.alloc (.cells #[.int .i64 s0, .int .i64 s1] 33)).cell? ⟨W1.heap.size, 0, none⟩ = some (.int .i64 s0) := by simp
  have p1 : (W1.alloc (.cells #[.int .i64 s0, .int .i64 s1] 33)).cell? ⟨W1.heap.size, 1, none⟩ = some (.int .i64 s1) := by simp
  clear q0 q1 hb2
  generalize W1.alloc (.cells #[.int .i64 s0, .int .i64 s1] 33) = W2 at *
  go_wp2_with fail
  refine (hup _ (bstep HB1.out HB2.out) W1.heap.size p0 p1).mono ?_
  rintro e w3 ⟨rfl, hb3⟩
  clear p0 p1
  go_wp2_with fail
  refine (hhd _ (bstep (bstep HB1.out HB2.out) hb3)).mono ?_
  rintro e w4 ⟨rfl, hb4⟩
  have HV1 := Lib.hid (HV.out.keep (bstep (bstep HB2.out hb3) hb4))
  obtain ⟨z0, z1, z2, z3, z4, z5, zf⟩ := HV1.out
  have zf0 := zf 0 (by decide)
  have zf1 := zf 1 (by decide)
  have zf2 := zf 2 (by decide)
  have zf3 := zf 3 (by decide)
  have zf4 := zf 4 (by decide)
  have zf5 := zf 5 (by decide)
  dsimp only [wz] at z0 z1 z2 z3 z4 z5
  have hP := HPUT.out _ HV1.out
  have HBE := Lib.hid (HBP.out _ (bstep HB1.out (bstep (bstep HB2.out hb3) hb4)))
  clear zf HV HV1 HB1 HPUT HBP hb4 hup hhd
  have HP := Lib.hid hP
  clear hP
  go_wp2
  obtain ⟨r0, r1, r2, r3, r4, r5, _⟩ := HP.out
  dsimp only at r0 r1 r2 r3 r4 r5
  refine bodyPost_ret (v := .tuple #[.agg #[.string key, .string val, .bool gone, .int .i64 m, .int .i64 t, .slice pa past.length pc], .bool c]) (by simp [results, Tryz.results64, go_sem, r0, r1, r2, r3, r4, r5]) rfl ⟨rfl, HBE.out⟩
end Go.Proofs.YtjfmgplhcinkfaaGreat
/- Maps whose keys are stamps; an element that is counted up. -/
namespace Go.Proofs.YtjfmgplhcinkfaaGreat
open Go.RowKit Go.Maps
set_option linter.unusedVariables false
set_option linter.unusedSimpArgs false

def kSt (p : Int × Int) : Lit := .string (keyBytes [.int .i64 p.1, .int .i64 p.2])
theorem law_st : Go.WideMaps.KeyLaw Tryz.prog 33 := deep_law_laid (by kernel_rfl) (m := 3) (by omega) (of_decide_eq_true (by kernel_rfl)) (by kernel_rfl) (by rw [Tryz.underlying33])
theorem keyed_st : Keyed Tryz.prog 33 := Keyed.of_law law_st
theorem lits_st (m : Nat) (y z : Int) (w1 : (Lit.int .i64 y).wf = true) (w2 : (Lit.int .i64 z).wf = true) :
    Tryz.prog.keyLits (m + 3) 33 [.int .i64 y, .int .i64 z] = some [.int .i64 y, .int .i64 z] := by
  have c1 : Tryz.prog.cellsOf 33 = 2 := by kernel_rfl
  have c4 : Tryz.prog.cellsOf 3 = 1 := by kernel_rfl
  simp [Program.keyLits, Tryz.underlying33, Tryz.underlying3, c1, c4, w1, w2]
theorem key_st {y z : Int} (h2 : In64 (y, z)) : keyOf Tryz.prog 33 (.agg #[.int .i64 y, .int .i64 z]) = some (kSt (y, z)) := by
  have hk : Tryz.prog.keyType 33 = true := by kernel_rfl
  have hf : (Value.agg #[.int .i64 y, .int .i64 z]).formed Tryz.prog 33 = true := by
    have hc : Tryz.prog.cellsOf 33 = 2 := by kernel_rfl
    simp [Value.formed, Tryz.underlying33, hc]
  have w1 := wf_i64 h2.1
  have w2 := wf_i64 h2.2
  have hl := lits_st (Tryz.prog.types.size - 2) y z w1 w2
  rw [show Tryz.prog.types.size - 2 + 3 = Tryz.prog.types.size + 1 by have : 2 ≤ Tryz.prog.types.size := of_decide_eq_true (by kernel_rfl); omega] at hl
  have hc : (Value.agg #[.int .i64 y, .int .i64 z]).cells.toList = [.int .i64 y, .int .i64 z] := rfl
  simp only [keyOf, Tryz.underlying33, hk, hf, hc, hl]
  rfl
theorem kSt_inj {p q : Int × Int} (h : In64 p) (h' : In64 q) (e : kSt p = kSt q) : p = q := by
  obtain ⟨y, z⟩ := p
  obtain ⟨y', z'⟩ := q
  have h1 := key_st h
  have h2 := key_st h'
  rw [← e] at h2
  have := keyed_st.inj h1 h2
  simp at this
  simp [this]

/-- Block b is a map of n entries; g: what lies at each stamp. -/
def MapT (w : World) (b n : Nat) (g : Int × Int → Option Value) : Prop := ∃ f, MapF w 33 b n f ∧ (∀ d, In64 d → f (kSt d) = g d) ∧ ∀ l x, f l = some x → ∃ d, In64 d ∧ l = kSt d
theorem MapT.made (w : World) : MapT (w.alloc (.map #[] 0)) w.heap.size 0 (fun _ => none) := ⟨_, MapF.made w _, fun d _ => rfl, fun l x e => by simp at e⟩
theorem MapT.lt {w : World} {b n : Nat} {g : Int × Int → Option Value} (h : MapT w b n g) : b < w.heap.size := by
  obtain ⟨f, h1, _⟩ := h
  exact h1.lt
theorem MapT.block {w w' : World} {b n : Nat} {g : Int × Int → Option Value} (h : MapT w b n g) (hb : w'.heap[b]? = w.heap[b]?) : MapT w' b n g := by
  obtain ⟨f, h1, h2, h3⟩ := h
  exact ⟨f, h1.block hb, h2, h3⟩
theorem MapT.below {w w' : World} {b n : Nat} {g : Int × Int → Option Value} (h : MapT w b n g) (hb : Below w.heap.size w w') : MapT w' b n g := h.block (hb.block b h.lt)
theorem MapT.congr {w : World} {b n : Nat} {g g' : Int × Int → Option Value} (h : MapT w b n g) (e : ∀ d, In64 d → g d = g' d) : MapT w b n g' := by
  obtain ⟨f, h1, h2, h3⟩ := h
  exact ⟨f, h1, fun d hd => (h2 d hd).trans (e d hd), h3⟩
section
variable {w : World} {t e : TypeId} {b n : Nat} {g : Int × Int → Option Value}
theorem MapT.look (h : MapT w b n g) (ht : Tryz.prog.underlying t = some (.map 33 e)) {z : Value} (hz : (zeroValue e).run Tryz.prog w = .ok z w) {y s : Int} (hk : In64 (y, s)) :
    (Instr.lookup t (.map (some b)) (.agg #[.int .i64 y, .int .i64 s]) false).run Tryz.prog w = .ok ((g (y, s)).getD z) w := by
  obtain ⟨f, h1, h2, _⟩ := h
  have := h1.look (key := .agg #[.int .i64 y, .int .i64 s]) (kl := kSt (y, s)) keyed_st ht hz (key_st hk)
  rw [h2 _ hk] at this
  exact this
theorem MapT.store (h : MapT w b n g) (ht : Tryz.prog.underlying t = some (.map 33 e)) (hn : n < maxLen) {y s : Int} (hk : In64 (y, s)) (val : Value) :
    ∃ w', (Instr.mapUpdate t (.map (some b)) (.agg #[.int .i64 y, .int .i64 s]) val).run Tryz.prog w = .ok () w' ∧ MapT w' b (if (g (y, s)).isSome then n else n + 1) (fun d => if d = (y, s) then some val else g d) ∧ w.mapTurned w' b := by
  obtain ⟨f, h1, h2, h3⟩ := h
  obtain ⟨w', hrun, ⟨f', r1, r3, r4⟩, r2⟩ := h1.store (val := val) keyed_st ht hn (key_st hk)
  refine ⟨w', hrun, ⟨f', by rw [← h2 _ hk]; exact r1, fun d hd => ?_, fun l x e => ?_⟩, r2⟩
  · dsimp only
    by_cases e : d = (y, s)
    · rw [if_pos e, e]; exact r3
    · rw [if_neg e, ← h2 _ hd]; exact r4 _ (fun e' => e (kSt_inj hd hk e'))
  · by_cases e' : l = kSt (y, s)
    · exact ⟨_, hk, e'⟩
    · rw [r4 l e'] at e
      exact h3 l x e
end

/-- 'm[k] = f(m[k])': the entry is made or found, then written: what a plain store makes of it. -/
theorem MapT.entry {w : World} {t e : TypeId} {b n : Nat} {g : Int × Int → Option Value} (h : MapT w b n g) (ht : Tryz.prog.underlying t = some (.map 33 e)) {z : Value} (hz : ∀ u : World, (zeroValue e).run Tryz.prog u = .ok z u) (hn : n < maxLen) {y s : Int} (hk : In64 (y, s)) (val : Value) :
    ∃ (v0 : Value) (st : Nat) (w1 w2 : World), (Instr.mapEntry t (.map (some b)) (.agg #[.int .i64 y, .int .i64 s])).run Tryz.prog w = .ok (.tuple #[v0, goInt st]) w1 ∧
      (Instr.entryStore t (.map (some b)) (goInt st) val).run Tryz.prog w1 = .ok () w2 ∧
      MapT w2 b (if (g (y, s)).isSome then n else n + 1) (fun d => if d = (y, s) then some val else g d) ∧ w.mapTurned w1 b ∧ w.mapTurned w2 b := by
  obtain ⟨w', hrun, h2, h3⟩ := h.store ht hn hk val
  obtain ⟨f, ⟨D, ⟨es, clock, hb, F, hs, hD⟩, _⟩, _⟩ := h
  obtain ⟨v0, st, es1, clock1, e1, _, e2⟩ := Go.WideElems.entry_then_store law_st ht hz hb F (key_st hk)
  have hb1 : (Go.ChangeMaps.setBlock w b (.map es1 clock1)).heap[b]? = some (.map es1 clock1) := Go.ChangeMaps.heap_setBlock_same hb _
  obtain ⟨es', clock', e3, e4⟩ := e2 _ val hb1
  rw [hrun] at e4
  have hw : w' = Go.ChangeMaps.setBlock w b (.map es' clock') := by injection e4
  have hss : Go.ChangeMaps.setBlock (Go.ChangeMaps.setBlock w b (.map es1 clock1)) b (.map es' clock') = w' := by
    rw [hw]
    simp [Go.ChangeMaps.setBlock]
  refine ⟨v0, st, _, w', e1, ?_, h2, ⟨es, clock, es1, clock1, hb, rfl⟩, h3⟩
  rw [e3, hss]
theorem modify_same {es : Array MapEntry} {j : Nat} {e0 : MapEntry} (hj : es[j]? = some e0) (f : MapEntry → MapEntry) (hf : f e0 = e0) : es.modify j f = es := by
  apply Array.ext_getElem?
  intro i
  rw [Array.getElem?_modify]
  by_cases h : j = i
  · subst h
    rw [if_pos rfl, hj]
    simp [hf]
  · rw [if_neg h]
/-- To find the entry, or to make it, is to store what lies there already. -/
theorem MapT.found {w : World} {t e : TypeId} {b n : Nat} {g : Int × Int → Option Value} (h : MapT w b n g) (ht : Tryz.prog.underlying t = some (.map 33 e)) {z : Value} (hz : ∀ u : World, (zeroValue e).run Tryz.prog u = .ok z u) {y s : Int} (hk : In64 (y, s)) :
    ∃ (v0 : Value) (st : Nat) (w1 : World), (Instr.mapEntry t (.map (some b)) (.agg #[.int .i64 y, .int .i64 s])).run Tryz.prog w = .ok (.tuple #[v0, goInt st]) w1 ∧
      (Instr.mapUpdate t (.map (some b)) (.agg #[.int .i64 y, .int .i64 s]) v0).run Tryz.prog w = .ok () w1 ∧
      (Instr.lookup t (.map (some b)) (.agg #[.int .i64 y, .int .i64 s]) false).run Tryz.prog w = .ok v0 w := by
  obtain ⟨f, ⟨D, ⟨es, clock, hb, F, hs, hD⟩, _⟩, _⟩ := h
  have hkey := key_st hk
  have hck := fun em => law_st.check w em hkey
  have hst := law_st.stays w hkey
  rcases law_st.find w hkey es.toList F.keys with ⟨h1, h2⟩ | ⟨j, e0, h1, h2, h3⟩
  · refine ⟨z, clock, Go.ChangeMaps.setBlock w b (.map (es.push ⟨.agg #[.int .i64 y, .int .i64 s], z, clock⟩) (clock + 1)), ?_, ?_, ?_⟩
    · simp [Instr.mapEntry, run_underlying ht, MapKept.run_getObj_map hb, hck, h1, hz, MapKept.run_setObj_map _ hb, Result.andThen, Go.ChangeMaps.setBlock]
    · simp [Instr.mapUpdate, run_underlying ht, MapKept.run_getObj_map hb, hck, h1, MapKept.run_setObj_map _ hb, Result.andThen, Go.ChangeMaps.setBlock]
    · simp [Instr.lookup, run_underlying ht, MapKept.run_getObj_map hb, hck, h1, hz, Result.andThen]
  · have hj : es[j]? = some e0 := by simpa using h2
    have m1 := modify_same hj (fun e => { e with key := .agg #[.int .i64 y, .int .i64 s] }) (by rw [← h3])
    have m2 := modify_same hj (fun e => { e with key := .agg #[.int .i64 y, .int .i64 s], val := e0.val }) (by rw [← h3])
    refine ⟨e0.val, e0.born, Go.ChangeMaps.setBlock w b (.map es clock), ?_, ?_, ?_⟩
    · simp [Instr.mapEntry, run_underlying ht, MapKept.run_getObj_map hb, hck, h1, hj, h3, hst, m1, MapKept.run_setObj_map _ hb, Result.andThen, Go.ChangeMaps.setBlock]
    · simp [Instr.mapUpdate, run_underlying ht, MapKept.run_getObj_map hb, hck, h1, hj, h3, hst, m2, MapKept.run_setObj_map _ hb, Result.andThen, Go.ChangeMaps.setBlock]
    · simp [Instr.lookup, run_underlying ht, MapKept.run_getObj_map hb, hck, h1, Result.andThen]
set_option maxRecDepth 100000 in
/-- All of 'm[k] = f(m[k])', whichever comes first, the look-up or the entry. -/
theorem MapT.bump {w : World} {t e : TypeId} {b n : Nat} {g : Int × Int → Option Value} (h : MapT w b n g) (ht : Tryz.prog.underlying t = some (.map 33 e)) {z : Value} (hz : ∀ u : World, (zeroValue e).run Tryz.prog u = .ok z u) (hn : n < maxLen) {y s : Int} (hk : In64 (y, s)) (val : Value) :
    ∃ (v0 : Value) (st : Nat) (w1 w2 : World), v0 = (g (y, s)).getD z ∧ (Instr.mapEntry t (.map (some b)) (.agg #[.int .i64 y, .int .i64 s])).run Tryz.prog w = .ok (.tuple #[v0, goInt st]) w1 ∧
      (Instr.lookup t (.map (some b)) (.agg #[.int .i64 y, .int .i64 s]) false).run Tryz.prog w = .ok v0 w ∧
      (Instr.lookup t (.map (some b)) (.agg #[.int .i64 y, .int .i64 s]) false).run Tryz.prog w1 = .ok v0 w1 ∧
      (Instr.entryStore t (.map (some b)) (goInt st) val).run Tryz.prog w1 = .ok () w2 ∧
      MapT w2 b (if (g (y, s)).isSome then n else n + 1) (fun d => if d = (y, s) then some val else g d) ∧ w.mapTurned w1 b ∧ w.mapTurned w2 b := by
  obtain ⟨v0, st, w1, w2, e1, e2, e3, e4, e5⟩ := h.entry ht hz hn hk val
  obtain ⟨v0', st', w1', f1, f2, f3⟩ := h.found ht hz hk
  rw [f1] at e1
  obtain ⟨ev, ew⟩ : v0' = v0 ∧ w1' = w1 := by
    injection e1 with a1 a2
    simp at a1
    exact ⟨a1.1, a2⟩
  have est : goInt st' = goInt st := by
    injection e1 with a1 a2
    simp at a1
    exact a1.2
  subst ev ew
  have hl := h.look ht (hz w) hk
  rw [f3] at hl
  have hv : v0' = (g (y, s)).getD z := by injection hl
  obtain ⟨w', g1, g2, g3⟩ := h.store ht hn hk v0'
  rw [f2] at g1
  have hw : w1' = w' := by injection g1
  subst hw
  have hl1 := g2.look ht (hz w1') hk
  simp at hl1
  exact ⟨v0', st, w1', w2, hv, by rw [f1, est], f3, hl1, e2, e3, e4, e5⟩
end Go.Proofs.YtjfmgplhcinkfaaGreat
/- Who is kept: what the closure of chain.keeper answers. -/
namespace Go.Proofs.YtjfmgplhcinkfaaGreat
open Go.RowKit Go.Shelf Go.Maps
set_option linter.unusedVariables false
set_option linter.unusedSimpArgs false

/-- What the closure has caught: the head, what is below, the pins as a map, the stable stamp. -/
structure KpIn (w : World) (B8 B7 B10 B9 B11 B4 M n : Nat) (g : Int × Int → Option Value) (hd bl : Vw) (hs fs : Bool) (s : Int × Int) : Prop where
  c8 : w.cell? ⟨B8, 0, none⟩ = some (.bool hs)
  v7 : VwP w B7 hd.1 (pw hd)
  c10 : w.cell? ⟨B10, 0, none⟩ = some (.bool fs)
  v9 : VwP w B9 bl.1 (pw bl)
  c11 : w.cell? ⟨B11, 0, none⟩ = some (.map (some M))
  s0 : w.cell? ⟨B4, 0, none⟩ = some (.int .i64 s.1)
  s1 : w.cell? ⟨B4, 1, none⟩ = some (.int .i64 s.2)
  mp : MapT w M n g
  h1 : WvB w hd.1 (pw hd)
  h2 : WvB w bl.1 (pw bl)
theorem KpIn.below {w w' : World} {B8 B7 B10 B9 B11 B4 M n : Nat} {g : Int × Int → Option Value} {hd bl : Vw} {hs fs : Bool} {s : Int × Int} (h : KpIn w B8 B7 B10 B9 B11 B4 M n g hd bl hs fs s) (hb : Below w.heap.size w w') : KpIn w' B8 B7 B10 B9 B11 B4 M n g hd bl hs fs s :=
  ⟨kc hb h.c8, h.v7.keep hb, kc hb h.c10, h.v9.keep hb, kc hb h.c11, kc hb h.s0, kc hb h.s1, h.mp.below hb, h.h1.below hb, h.h2.below hb⟩
/-- What the map of pins tells. -/
def PinG (g : Int × Int → Option Value) (pins : List (Int × Int)) : Prop := ∀ d, In64 d → (d ∈ pins → ∃ c : Int, 0 < c ∧ g d = some (.int .i64 c)) ∧ (d ∉ pins → g d = none)
theorem PinG.at {g : Int × Int → Option Value} {pins : List (Int × Int)} (h : PinG g pins) {d : Int × Int} (hd : In64 d) : ∃ c : Int, (g d).getD (.int .i64 0) = .int .i64 c ∧ decide (0 < c) = decide (d ∈ pins) := by
  by_cases hm : d ∈ pins
  · obtain ⟨c, h1, h2⟩ := (h d hd).1 hm
    exact ⟨c, by rw [h2]; rfl, by simp [h1, hm]⟩
  · exact ⟨0, by rw [(h d hd).2 hm]; rfl, by simp [hm]⟩
/-- The closure and what it has caught. -/
def KpAt (w : World) (lb : Array Value) (xs : List Vw) (s : Int × Int) (pins : List (Int × Int)) : Prop :=
  ∃ B8 B7 B10 B9 B11 B4 M n g, lb = #[.pointer (some ⟨B8, 0, none⟩), .pointer (some ⟨B7, 0, none⟩), .pointer (some ⟨B10, 0, none⟩), .pointer (some ⟨B9, 0, none⟩), .pointer (some ⟨B11, 0, none⟩), .pointer (some ⟨B4, 0, none⟩)] ∧
    KpIn w B8 B7 B10 B9 B11 B4 M n g (xs.getLast?.getD vw0) ((lastP (notA s) xs).getD vw0) xs.getLast?.isSome (lastP (notA s) xs).isSome s ∧ PinG g pins
theorem KpAt.below {w w' : World} {lb : Array Value} {xs : List Vw} {s : Int × Int} {pins : List (Int × Int)} (h : KpAt w lb xs s pins) (hb : Below w.heap.size w w') : KpAt w' lb xs s pins := by
  obtain ⟨B8, B7, B10, B9, B11, B4, M, n, g, h1, h2, h3⟩ := h
  exact ⟨B8, B7, B10, B9, B11, B4, M, n, g, h1, h2.below hb, h3⟩
theorem isW_opt (o : Option Vw) (x : Vw) : isW o x = (o.isSome && sameW x.1 (o.getD vw0).1) := by
  cases o <;> rfl

set_option maxRecDepth 100000 in
set_option maxHeartbeats 3200000 in
theorem keepC_any (x : Vw) (B8 B7 B10 B9 B11 B4 M n : Nat) (g : Int × Int → Option Value) (hd bl : Vw) (hs fs : Bool) (s : Int × Int) (pins : List (Int × Int)) (w : World) (hx : VwB w x) (hk : KpIn w B8 B7 B10 B9 B11 B4 M n g hd bl hs fs s) (hg : PinG g pins) :
    Calls Tryz.prog 65 #[wV x, .pointer (some ⟨B8, 0, none⟩), .pointer (some ⟨B7, 0, none⟩), .pointer (some ⟨B10, 0, none⟩), .pointer (some ⟨B9, 0, none⟩), .pointer (some ⟨B11, 0, none⟩), .pointer (some ⟨B4, 0, none⟩)] w fun e w' =>
      e = .returned (.bool ((hs && sameW x.1 hd.1) || decide (x.1.st ∈ pins) || !Sm.less x.1.st s || (fs && sameW x.1 bl.1))) ∧ Below w.heap.size w w' := by
  have hb1 : Below w.heap.size w (w.alloc (.cells (wcs x) 36)) := balloc (Below.refl _ w) _
  have hV := VwP.new w x.1 (pw x) 36
  have HK := Lib.hid (hk.below hb1)
  have HX := Lib.hid (hx.below hb1)
  obtain ⟨c, hc1, hc2⟩ := hg.at hx.2
  have HC := Lib.hid hc1
  have hsame1 := fun W (h1 : WvB W x.1 (pw x)) (h2 : WvB W hd.1 (pw hd)) => wsameB_any x.1 hd.1 (pw x) (pw hd) W h1 h2
  have hsame2 := fun W (h1 : WvB W x.1 (pw x)) (h2 : WvB W bl.1 (pw bl)) => wsameB_any x.1 bl.1 (pw x) (pw bl) W h1 h2
  have hless := fun W => less_any x.1.st.1 x.1.st.2 s.1 s.2 W
  have hi64 := hx.2
  have hzero : ∀ u : World, (zeroValue 3).run Tryz.prog u = .ok (.int .i64 0) u := fun u => Tryz.zeroValue3 u
  rw [← hc2]
  have hlook : ∀ W, MapT W M n g → (Instr.lookup 96 (.map (some M)) (.agg #[.int .i64 x.1.st.1, .int .i64 x.1.st.2]) false).run Tryz.prog W = .ok (.int .i64 c) W := fun W h => by
    rw [h.look Tryz.underlying96 (hzero W) hi64, HC.out]
  generalize sameW x.1 hd.1 = r1 at hsame1 ⊢
  generalize sameW x.1 bl.1 = r2 at hsame2 ⊢
  obtain ⟨la, hla⟩ : ∃ la : Bool, la = (hs && r1) := ⟨_, rfl⟩
  rw [← hla]
  have HLA := Lib.hid hla
  clear hla
  obtain ⟨ba, hba⟩ : ∃ ba : Bool, ba = (fs && r2) := ⟨_, rfl⟩
  rw [← hba]
  have HBA := Lib.hid hba
  clear hba
  obtain ⟨s0, s1⟩ := s
  have hst : x.1.st = (x.1.st.1, x.1.st.2) := rfl
  generalize hlq : Sm.less x.1.st (s0, s1) = lq
  rw [hst] at hlq
  dsimp only at hless hlq
  rw [hlq] at hless
  clear hx hk hg hc1 hc2 hi64 hst hlq hzero HC
  obtain ⟨⟨key, val, gone, ⟨m, t⟩, past⟩, pa, pc⟩ := x
  obtain ⟨⟨key1, val1, gone1, ⟨m1, t1⟩, past1⟩, pa1, pc1⟩ := hd
  obtain ⟨⟨key2, val2, gone2, ⟨m2, t2⟩, past2⟩, pa2, pc2⟩ := bl
  dsimp only [wV, wcs, wvs, pw] at *
  have HV := Lib.hid hV
  have HB1 := Lib.hid hb1
  clear hV hb1
  go_enter Tryz.func65, Tryz.ntmps65
  go_upto_region 1 with fail
  obtain ⟨w1, hw1⟩ : ∃ w1, w.alloc (.cells #[.string key, .string val, .bool gone, .int .i64 m, .int .i64 t, .slice pa past.length pc] 36) = w1 := ⟨_, rfl⟩
  try rw [hw1]
  rw [hw1] at HV HB1 HK HX
  clear hw1
  go_cut [9] (fun s9 wx => s9 = .bool la ∧ Below w1.heap.size w1 wx)
  case first =>
    have c8 := HK.out.c8
    obtain ⟨x0, x1, x2, x3, x4, x5, _⟩ := id HV.out
    obtain ⟨y0, y1, y2, y3, y4, y5, _⟩ := id HK.out.v7
    dsimp only [pw] at x0 x1 x2 x3 x4 x5 y0 y1 y2 y3 y4 y5
    cases hs with
    | false =>
      have hl : la = false := HLA.out
      subst hl
      go_wp2
      go_meet
      exact ⟨rfl, Below.refl _ _⟩
    | true =>
      go_wp2_with fail
      refine (hsame1 _ HX.out.1 HK.out.h1).mono ?_
      rintro e w2 ⟨rfl, hb2⟩
      have hl : la = r1 := HLA.out
      subst hl
      go_wp2
      go_meet
      exact ⟨rfl, hb2⟩
  case rest =>
    obtain ⟨rfl, hb2⟩ := hcut
    obtain ⟨w2, hw2⟩ : ∃ w2, w2 = wc := ⟨_, rfl⟩
    subst hw2
    have HK2 := Lib.hid (HK.out.below hb2)
    have HX2 := Lib.hid (HX.out.below hb2)
    have HV2 := Lib.hid (HV.out.keep hb2)
    have HB2 := Lib.hid (bstep HB1.out hb2)
    clear hb2 HK HX HV HB1 hsame1
    go_upto_region 2 with fail
    go_cut [10] (fun s10 wx => s10 = .bool ba ∧ Below w2.heap.size w2 wx)
    case first =>
      have c10 := HK2.out.c10
      obtain ⟨x0, x1, x2, x3, x4, x5, _⟩ := id HV2.out
      obtain ⟨y0, y1, y2, y3, y4, y5, _⟩ := id HK2.out.v9
      dsimp only [pw] at x0 x1 x2 x3 x4 x5 y0 y1 y2 y3 y4 y5
      cases fs with
      | false =>
        have hl : ba = false := HBA.out
        subst hl
        go_wp2
        go_meet
        exact ⟨rfl, Below.refl _ _⟩
      | true =>
        go_wp2_with fail
        refine (hsame2 _ HX2.out.1 HK2.out.h2).mono ?_
        rintro e w3 ⟨rfl, hb3⟩
        have hl : ba = r2 := HBA.out
        subst hl
        go_wp2
        go_meet
        exact ⟨rfl, hb3⟩
    case rest =>
      obtain ⟨rfl, hb3⟩ := hcut
      obtain ⟨w3, hw3⟩ : ∃ w3, w3 = wc := ⟨_, rfl⟩
      subst hw3
      have HK3 := Lib.hid (HK2.out.below hb3)
      have HV3 := Lib.hid (HV2.out.keep hb3)
      have HB3 := Lib.hid (bstep HB2.out hb3)
      clear hb3 HK2 HX2 HV2 HB2 hsame2 HLA HBA
      have c11 := HK3.out.c11
      have s0' := HK3.out.s0
      have s1' := HK3.out.s1
      have x3 := HV3.out.c3
      have x4 := HV3.out.c4
      dsimp only at s0' s1' x3 x4
      have hlk := hlook w3 HK3.out.mp
      cases la with
      | true =>
        go_wp2
        go_ret
        exact ⟨ret_bool (by simp), HB3.out⟩
      | false =>
        by_cases hc0 : 0 < c
        · go_wp2
          go_ret
          exact ⟨ret_bool (by simp [hc0]), HB3.out⟩
        · go_wp2_with fail
          refine (hless _).mono ?_
          rintro e w4 ⟨rfl, hb4⟩
          cases lq with
          | false =>
            go_wp2
            go_ret
            exact ⟨ret_bool (by simp [hc0]), bstep HB3.out hb4⟩
          | true =>
            go_wp2
            go_ret
            exact ⟨ret_bool (by simp; intro h; omega), bstep HB3.out hb4⟩
end Go.Proofs.YtjfmgplhcinkfaaGreat
