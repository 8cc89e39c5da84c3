/- Texts of this proof, one behind the other: ChUp, ChAt. -/
import Derived.Test.YtjfmgplhcinkfaaGO12
import Derived.WalkMore
import Derived.Shelf.AbstractIn
/- What chain.upTo answers, for whatever predicate. -/
namespace Go.Proofs.Ytjfmgplhcinkfaa
open Go.RowKit Go.Shelf
set_option linter.unusedVariables false
set_option linter.unusedSimpArgs false
attribute [local go_sem] Oper.semAt_some

set_option maxRecDepth 100000 in
set_option maxHeartbeats 4000000 in
theorem up_any (g : Nat) (lb : Array Value) (eg : ∀ args w, (callFunc g args).run Try.prog w = .ok (.enter g args) w) (p : Vw → Bool) (a : Option Addr) (cap : Nat) (l : List Vw) (w : World) (hl : l.length ≤ 1000000) (hcap : l.length ≤ cap) (hmx : cap ≤ maxLen) (hnil : a = none → cap = 0) (hr : RowIn KW w a l) (hp : PredW g lb p l w.heap.size w) :
    Calls Try.prog 46 #[.slice a l.length cap, .func (.func g) #[] lb] w fun e w' => e = .returned (.slice a (upN p l) cap) ∧ Below w.heap.size w w' := by
  refine (callsIn_wide (n := 5)).1 ?_
  have t20 : Fence.wide.fn 46 := trivial
  have t49 : Fence.wide.fn 64 := trivial
  have t81 : Fence.wide.fn 75 := trivial
  refine callsIn_of_wp_marks Try.func46 rfl t20 ?_ rfl
  simp only [Try.ntmps46, List.size_toArray, List.length_cons, List.length_nil, Nat.reduceAdd, Nat.reduceSub, Array.replicate_succ, Array.replicate_zero, List.push_toArray, List.append_toArray, List.nil_append, List.cons_append]
  gi_wp2
  refine wpIn_wide.2 (wp_scope_straight ((wpIn_wide (n := 5)).1 ?_))
  gi_wp2
  refine wpIn_label ?_
  gi_wp2_with (gi_at_call 64; refine (backwardW_in Fence.wide 4 t49 rfl _ _ _ _).mono ?_; rintro e w' ⟨rfl, rfl⟩)
  obtain ⟨W0, hW0⟩ : ∃ W0, ((w.alloc (Obj.cells #[Value.func (.func g) #[] lb] 40)).alloc (Obj.cells #[Value.int .i64 0] 3)).alloc (Obj.cells #[Value.slice a l.length cap] 51) = W0 := ⟨_, rfl⟩
  have hsz : W0.heap.size = w.heap.size + 3 := by rw [← hW0]; simp
  have hB0 : Below w.heap.size w W0 := by rw [← hW0]; exact balloc (balloc (balloc (Below.refl _ w) _) _) _
  have s1 : (w.alloc (Obj.cells #[Value.func (.func g) #[] lb] 40)).heap.size = w.heap.size + 1 := by simp
  have s2 : ((w.alloc (Obj.cells #[Value.func (.func g) #[] lb] 40)).alloc (Obj.cells #[Value.int .i64 0] 3)).heap.size = w.heap.size + 1 + 1 := by simp
  have bF : W0.cell? ⟨w.heap.size, 0, none⟩ = some (.func (.func g) #[] lb) := by
    rw [← hW0, World.cell?_alloc_past _ _ _ (by rw [s2]; omega), World.cell?_alloc_past _ _ _ (by rw [s1]; omega), World.cell?_alloc_at _ _ _ _ rfl]
    rfl
  have bE : W0.cell? ⟨w.heap.size + 1, 0, none⟩ = some (.int .i64 0) := by
    rw [← hW0, World.cell?_alloc_past _ _ _ (by rw [s2]; omega), World.cell?_alloc_at _ _ _ _ s1.symm]
    rfl
  have bZ : W0.frozen? ⟨w.heap.size + 1, 0, none⟩ = false := by
    rw [← hW0]
    have h1 : ((w.alloc (Obj.cells #[Value.func (.func g) #[] lb] 40)).alloc (Obj.cells #[Value.int .i64 0] 3)).frozen? ⟨w.heap.size + 1, 0, none⟩ = false := by
      rw [← s1]; simp
    rw [(balloc (Below.refl _ _) _ : Below ((w.alloc (Obj.cells #[Value.func (.func g) #[] lb] 40)).alloc (Obj.cells #[Value.int .i64 0] 3)).heap.size _ _).frozen (p := ⟨w.heap.size + 1, 0, none⟩) (by rw [s2]; show w.heap.size + 1 < _; omega)]
    exact h1
  have bS : W0.cell? ⟨w.heap.size + 1 + 1, 0, none⟩ = some (.slice a l.length cap) := by
    rw [← hW0, World.cell?_alloc_at _ _ _ _ s2.symm]
    rfl
  rw [hW0]
  clear hW0 s1 s2
  refine wpIn_rangeFunc_ownH rfl (by omega) (gf := 75) (lb := #[.pointer (some ⟨w.heap.size + 1 + 1, 0, none⟩)]) rfl t81 (enters_of Try.func75 (by kernel_rfl) rfl)
    (backW_stops Fence.wide (5 - 1) t81 rfl (by omega) (w.heap.size + 1 + 1) W0.heap.size (w.heap.size + 1) cap a l hl W0 (by omega) (by omega) (by omega) bS (fun b off e h => by
      obtain ⟨b', off', e', hlt, _⟩ := hr 0 h
      rw [e] at e'
      cases e'
      omega) (hr.below hB0)) (fun h k => h.trans k) (fun W lq o o' h1 h2 h3 h4 => fun k hk _ => (belowK_b (w := W0) (Nat.le_refl _) W lq o o' h1 h2 h3 h4).block k hk) (Below.refl _ _) (fun _ => rfl)
    (fun pre W => (((W.cell? ⟨w.heap.size, 0, none⟩ = some (.func (.func g) #[] lb) ∧ W.cell? ⟨w.heap.size + 1, 0, none⟩ = some (.int .i64 0) ∧ W.frozen? ⟨w.heap.size + 1, 0, none⟩ = false) ∧ (∀ x ∈ pre, p x.1.2 = false)) ∧ W0.heap.size ≤ W.heap.size) ∧ Below w.heap.size w W)
    (fun c P W => ((∃ pre x, P = pre ++ [x] ∧ p x.1.2 = true ∧ (∀ y ∈ pre, p y.1.2 = false) ∧ W.cell? ⟨w.heap.size + 1, 0, none⟩ = some (.int .i64 ((x.1.1 : Int) + 1)) ∧ c = .exit 0) ∧ W0.heap.size ≤ W.heap.size) ∧ Below w.heap.size w W)
    (OwnFrom.and (fun s A B row hs hg hr => ⟨⟨⟨cell_kept hs.1.1.1 hg (fun r e => (hr r e).2), cell_kept hs.1.1.2.1 hg (fun r e => (hr r e).2), (frozen_kept hs.1.1.2.1 hg (fun r e => (hr r e).2)).trans hs.1.1.2.2⟩, hs.1.2⟩, Nat.le_trans hs.2 hg.size⟩) (ownFrom_below (Nat.le_refl _) (by omega)))
    (fun c => OwnFrom.and (fun s A B row hs hg hr => by
      obtain ⟨⟨pre, x, h1, h2, h3, h4, h5⟩, h6⟩ := hs
      exact ⟨⟨pre, x, h1, h2, h3, cell_kept h4 hg (fun r e => (hr r e).2), h5⟩, Nat.le_trans h6 hg.size⟩) (ownFrom_below (Nat.le_refl _) (by omega)))
    ⟨⟨⟨⟨bF, bE, bZ⟩, by simp⟩, Nat.le_refl _⟩, hB0⟩
    (fun x a' W => ∃ Bx, W0.heap.size ≤ Bx ∧ VwQ W Bx 0 x.1.2 ∧ a' = { tmps := #[.slice a l.length cap, .func (.func g) #[] lb, undef, .pointer (some ⟨w.heap.size, 0, none⟩), .slice none 0 0, .pointer (some ⟨w.heap.size + 1, 0, none⟩), .int .i64 (x.1.1 : Int), .pointer (some ⟨Bx, 0, none⟩), .slice a l.length cap, .func (.func 75) #[] #[.pointer (some ⟨w.heap.size + 1 + 1, 0, none⟩)], .int .i64 (x.1.1 : Int), wV x.1.2, undef, undef, undef, undef, undef, undef, undef, undef], defers := [] })
    (fun x a' _ X Y row hs hg hr => by
      obtain ⟨Bx, h1, ⟨k0, k1, k2, k3, k4, k5⟩, h3⟩ := hs
      exact ⟨Bx, h1, ⟨cell_kept k0 hg (fun r e => (hr r e).2), cell_kept k1 hg (fun r e => (hr r e).2), cell_kept k2 hg (fun r e => (hr r e).2), cell_kept k3 hg (fun r e => (hr r e).2), cell_kept k4 hg (fun r e => (hr r e).2), cell_kept k5 hg (fun r e => (hr r e).2)⟩, h3⟩)
    ?assign ?body ?done ?stop
  case assign =>
    rintro lp pre x W K ⟨⟨⟨⟨hc1, hc2, hf2⟩, hno⟩, hsW⟩, hB⟩ hK
    have hV := (VwP.new W x.1.2.1 (pw x.1.2) 32).q (x := x.1.2)
    obtain ⟨⟨xi, ⟨⟨key, val, gone, ⟨n1, s1⟩, past⟩, pa, pc⟩⟩, hx⟩ := x
    have hB1 : Below W.heap.size W (W.alloc (.cells #[.string key, .string val, .bool gone, .int .i64 n1, .int .i64 s1, .slice pa past.length pc] 32)) := balloc (Below.refl _ W) _
    dsimp only [wV, wcs, wvs, pw] at hK hV ⊢
    have HV := Lib.hid hV
    clear hV
    gi_wp2
    exact hK _ _ ((KeepsOthers.alloc _ _).from _) (fun k hk _ => Below.heap_alloc _ _ _ (by omega)) ⟨⟨⟨⟨kc hB1 hc1, kc hB1 hc2, (hB1.frozen (p := ⟨w.heap.size + 1, 0, none⟩) (lt_of_cellN hc2)).trans hf2⟩, hno⟩, by simp; omega⟩, hB.alloc hB.size _⟩ ⟨W.heap.size, hsW, HV.out, rfl⟩
  case body =>
    rintro lp pre x a' W hlp ⟨r, hr'⟩ ⟨⟨⟨⟨hc1, hc2, hf2⟩, hno⟩, hsW⟩, hB⟩ ⟨Bx, hBx, hV, rfl⟩ hlt
    have hcall := hp W x.1.2 (by obtain ⟨h, e⟩ := x.2; rw [← e]; exact List.getElem_mem h) hB
    have hxi : x.1.1 < l.length := x.2.1
    have HNO := Lib.hid hno
    have HB := Lib.hid hB
    clear hno hB
    obtain ⟨⟨xi, xx⟩, hx⟩ := x
    dsimp only at hcall hxi hV ⊢
    generalize hqq : p xx = q at hcall
    have HQ := Lib.hid hqq
    clear hqq
    obtain ⟨⟨key, val, gone, ⟨n1, s1⟩, past⟩, pa, pc⟩ := xx
    obtain ⟨c0, c1, c2, c3, c4, c5⟩ := hV
    dsimp only [wV, wcs, wvs, pw, Nat.zero_add] at hcall c0 c1 c2 c3 c4 c5 ⊢
    have hw1 : IntKind.i64.wrap ((xi : Int) + 1) = (xi : Int) + 1 := IntWalk.i64_in _ (by omega)
    cases q with
    | true =>
      gi_wp2_with (refine ⟨trivial, ?_⟩; gi_at_fn g; refine (callsIn_round hcall).mono ?_; rintro e w1 ⟨rfl, hb1⟩; have d2 := kc hb1 hc2; have f2 := (hb1.frozen (p := ⟨w.heap.size + 1, 0, none⟩) (lt_of_cellN hc2)).trans hf2; have d1 := kc hb1 hc1; have HB1 := Lib.hid hb1)
      have hs1 := HB1.out.size
      have hblk : ∀ i, i < W.heap.size → i ≠ w.heap.size + 1 → (w1.setCell ⟨w.heap.size + 1, 0, none⟩ (.int .i64 ((xi : Int) + 1))).heap[i]? = W.heap[i]? := fun i h1 h2 => (Below.heap_setCell _ _ _ _ h2).trans (HB1.out.block i h1)
      refine ⟨⟨by simp; omega, fun i o h1 h2 h3 => (hblk i (Array.getElem?_eq_some_iff.1 h2).1 (by omega)).trans h2⟩, ⟨⟨pre, ⟨(xi, ⟨key, val, gone, (n1, s1), past⟩, pa, pc), hx⟩, rfl, HQ.out, HNO.out, World.cell?_setCell_same _ _ _ d2, rfl⟩, by simp; omega⟩, (bstep HB.out HB1.out).setCell (p := ⟨w.heap.size + 1, 0, none⟩) (by show w.heap.size ≤ w.heap.size + 1; omega) _⟩
    | false =>
      gi_wp2_with (refine ⟨trivial, ?_⟩; gi_at_fn g; refine (callsIn_round hcall).mono ?_; rintro e w1 ⟨rfl, hb1⟩; have d2 := kc hb1 hc2; have f2 := (hb1.frozen (p := ⟨w.heap.size + 1, 0, none⟩) (lt_of_cellN hc2)).trans hf2; have d1 := kc hb1 hc1; have HB1 := Lib.hid hb1)
      have hs1 := HB1.out.size
      refine ⟨⟨by omega, fun i o h1 h2 h3 => (HB1.out.block i (Array.getElem?_eq_some_iff.1 h2).1).trans h2⟩, fun i h1 h2 => HB1.out.block i (by omega), ⟨⟨⟨d1, d2, f2⟩, fun y hy => ?_⟩, by omega⟩, bstep HB.out HB1.out⟩
      rcases List.mem_append.1 hy with hy | hy
      · exact HNO.out y hy
      · simp at hy
        rw [hy]
        exact HQ.out
  case done =>
    rintro D ys W hD rfl ⟨⟨⟨⟨hc1, hc2, hf2⟩, hno⟩, hsW⟩, hB⟩ hK
    have hup : upN p l = 0 := by rw [← bkWL_no l.length (Nat.le_refl _) hno, Nat.sub_self]; rfl
    have HUP := Lib.hid hup
    clear hup
    gi_wp2
    rw [Exit.noGoto_ret]
    refine ⟨by simp, .inl ⟨_, _, rfl, run_takeDeferred hK, ?_⟩⟩
    exact ⟨_, results_tmp rfl _ _ _, by rw [HUP.out]; rfl, hB.trans (belowK_b (w := w) (Nat.le_refl _) W D _ _ (by omega) hK rfl rfl)⟩
  case stop =>
    rintro D c P W hD ⟨k, hk, hP⟩ ⟨⟨⟨pre, x, rfl, hpx, hno, hc, rfl⟩, hsW⟩, hB⟩ hK
    rw [bkWL_succ l k hk] at hP
    obtain ⟨rfl, e2⟩ := List.append_inj' hP rfl
    obtain rfl : x = bkW l (l.length - 1 - k) (by omega) := by simpa using e2
    have hup : upN p l = l.length - 1 - k + 1 := by
      rw [← bkWL_no k (by omega) hno, show l.length - k = l.length - 1 - k + 1 by omega]
      exact upN_take_yes (by omega) hpx
    have HUP := Lib.hid hup
    have hc' : W.cell? ⟨w.heap.size + 1, 0, none⟩ = some (.int .i64 ((l.length - 1 - k + 1 : Nat) : Int)) := by rw [hc]; simp [bkW]
    clear hup hc e2 hP hpx hno
    generalize hm : l.length - 1 - k + 1 = m at hc' HUP
    have hml : m ≤ l.length := by omega
    clear hm
    gi_wp2
    rw [Exit.noGoto_ret]
    refine ⟨by simp, .inl ⟨_, _, rfl, run_takeDeferred hK, ?_⟩⟩
    exact ⟨_, results_tmp rfl _ _ _, by rw [HUP.out]; rfl, hB.trans (belowK_b (w := w) (Nat.le_refl _) W D _ _ (by omega) hK rfl rfl)⟩
end Go.Proofs.Ytjfmgplhcinkfaa
/- What chain.At and chain.Below answer. -/
namespace Go.Proofs.Ytjfmgplhcinkfaa
open Go.RowKit Go.Shelf
set_option linter.unusedVariables false
set_option linter.unusedSimpArgs false

theorem up_notA (s : Int × Int) (B : Nat) (a : Option Addr) (cap : Nat) (xs : List Vw) (w : World) (hl : xs.length ≤ 1000000) (hr : WRow w (.slice a xs.length cap) xs) (h0 : w.cell? ⟨B, 0, none⟩ = some (.int .i64 s.1)) (h1 : w.cell? ⟨B, 1, none⟩ = some (.int .i64 s.2)) :
    Calls Try.prog 46 #[.slice a xs.length cap, .func (.func 65) #[] #[.pointer (some ⟨B, 0, none⟩)]] w fun e w' => e = .returned (.slice a (upN (notA s) xs) cap) ∧ Below w.heap.size w w' := by
  obtain ⟨a', c', e, h2, h3, h4⟩ := hr.shape
  cases e
  exact up_any _ _ (enters_of Try.func65 (by kernel_rfl) rfl) (notA s) a cap xs w hl h2 h3 h4 hr.rin (fun W x hx hb => notAfterC_any s B x W (kc hb h0) (kc hb h1))
theorem up_isS (s : Int × Int) (B : Nat) (a : Option Addr) (cap : Nat) (xs : List Vw) (w : World) (hl : xs.length ≤ 1000000) (hr : WRow w (.slice a xs.length cap) xs) (h0 : w.cell? ⟨B, 0, none⟩ = some (.int .i64 s.1)) (h1 : w.cell? ⟨B, 1, none⟩ = some (.int .i64 s.2)) :
    Calls Try.prog 46 #[.slice a xs.length cap, .func (.func 49) #[] #[.pointer (some ⟨B, 0, none⟩)]] w fun e w' => e = .returned (.slice a (upN (isS s) xs) cap) ∧ Below w.heap.size w w' := by
  obtain ⟨a', c', e, h2, h3, h4⟩ := hr.shape
  cases e
  exact up_any _ _ (enters_of Try.func49 (by kernel_rfl) rfl) (isS s) a cap xs w hl h2 h3 h4 hr.rin (fun W x hx hb => atC_any s B x W (kc hb h0) (kc hb h1))
/-- The last one of the first ones. -/
theorem head_upN (p : Vw → Bool) (a : Option Addr) (cap : Nat) (xs : List Vw) (w : World) (hl : xs.length ≤ 1000000) (hr : WRow w (.slice a xs.length cap) xs) :
    Calls Try.prog 38 #[.slice a (upN p xs) cap] w fun e w' => e = .returned (.tuple #[wV ((lastP p xs).getD vw0), .bool (lastP p xs).isSome]) ∧ Below w.heap.size w w' := by
  have h := chead_any (.slice a (upN p xs) cap) (xs.take (upN p xs)) w (by rw [List.length_take]; omega) (hr.take _ upN_le)
  rw [take_upN] at h
  exact h

set_option maxRecDepth 100000 in
set_option maxHeartbeats 1600000 in
theorem cat_any (v : Value) (xs : List Vw) (s : Int × Int) (w : World) (hl : xs.length ≤ 1000000) (hr : WRow w v xs) :
    Calls Try.prog 34 #[v, sv s] w fun e w' => e = .returned (.tuple #[wV ((lastP (isS s) xs).getD vw0), .bool (lastP (isS s) xs).isSome]) ∧ Below w.heap.size w w' := by
  have hmf : ∀ (fn : Fn) (first cap : Array Value) (w : World), (Instr.makeFunc fn first cap).run Try.prog w = .ok (.func fn first cap) w := fun _ _ _ _ => rfl
  obtain ⟨a, cap, rfl, hcap, hmx, hnil⟩ := hr.shape
  obtain ⟨W1, hW1⟩ : ∃ W1, (w.alloc (.cells #[.int .i64 s.1, .int .i64 s.2] 29)).alloc (.cells #[.string ⟨#[]⟩, .string ⟨#[]⟩, .bool false, .int .i64 0, .int .i64 0, .slice none 0 0] 32) = W1 := ⟨_, rfl⟩
  have hs1 : (w.alloc (.cells #[.int .i64 s.1, .int .i64 s.2] 29)).heap.size = w.heap.size + 1 := by simp
  have hbA : Below w.heap.size w (w.alloc (.cells #[.int .i64 s.1, .int .i64 s.2] 29)) := balloc (Below.refl _ w) _
  have hb1 : Below w.heap.size w W1 := by rw [← hW1]; exact balloc hbA _
  have hsz : W1.heap.size = w.heap.size + 1 + 1 := by rw [← hW1]; simp
  have hbB : Below (w.heap.size + 1) (w.alloc (.cells #[.int .i64 s.1, .int .i64 s.2] 29)) W1 := by rw [← hW1, ← hs1]; exact balloc (Below.refl _ _) _
  have q0 : W1.cell? ⟨w.heap.size, 0, none⟩ = some (.int .i64 s.1) := (hbB.cell (p := ⟨w.heap.size, 0, none⟩) (by show w.heap.size < _; omega)).trans (by simp)
  have q1 : W1.cell? ⟨w.heap.size, 1, none⟩ = some (.int .i64 s.2) := (hbB.cell (p := ⟨w.heap.size, 1, none⟩) (by show w.heap.size < _; omega)).trans (by simp)
  have hV : VwP W1 (w.heap.size + 1) wz (.slice none 0 0) := by
    have := VwP.new (w.alloc (.cells #[.int .i64 s.1, .int .i64 s.2] 29)) wz (.slice none 0 0) 32
    rw [hs1] at this
    rw [← hW1]
    exact this
  have hup := fun W (h : Below w.heap.size w W) B h0 h1 => up_isS s B a cap xs W hl (hr.below h) h0 h1
  have hhd := fun W (h : Below w.heap.size w W) => head_upN (isS s) a cap xs W hl (hr.below h)
  generalize lastP (isS s) xs = r at hhd ⊢
  generalize r.isSome = c at hhd ⊢
  generalize r.getD vw0 = x at hhd ⊢
  generalize upN (isS s) xs = n at hup hhd
  have HV := Lib.hid hV
  have HB1 := Lib.hid hb1
  have HPUT := Lib.hid (fun (W : World) (h : VwP W (w.heap.size + 1) wz (.slice none 0 0)) => h.putw x.1 (pw x))
  have HBP := Lib.hid (fun (W : World) (h : Below w.heap.size w W) => below_putw h (show w.heap.size ≤ w.heap.size + 1 by omega) x.1 (pw x))
  have HSZ := Lib.hid hsz
  obtain ⟨⟨key, val, gone, ⟨m, t⟩, past⟩, pa, pc⟩ := x
  obtain ⟨s0, s1⟩ := s
  dsimp only [wV, wcs, wvs, pw, World.putw] at *
  clear hr hV hb1 hbA hbB hs1 hsz
  go_enter Try.func34, Try.ntmps34
  go_upto_region 1 with fail
  try rw [hW1]
  clear hW1
  go_wp2_with fail
  refine (hup _ HB1.out w.heap.size q0 q1).mono ?_
  rintro e w3 ⟨rfl, hb3⟩
  clear q0 q1
  go_wp2_with fail
  refine (hhd _ (bstep HB1.out hb3)).mono ?_
  rintro e w4 ⟨rfl, hb4⟩
  have HV1 := Lib.hid (HV.out.keep (bstep hb3 hb4))
  obtain ⟨z0, z1, z2, z3, z4, z5, zf⟩ := HV1.out
  have zf0 := zf 0 (by decide)
  have zf1 := zf 1 (by decide)
  have zf2 := zf 2 (by decide)
  have zf3 := zf 3 (by decide)
  have zf4 := zf 4 (by decide)
  have zf5 := zf 5 (by decide)
  dsimp only [wz] at z0 z1 z2 z3 z4 z5
  have hP := HPUT.out _ HV1.out
  have HBE := Lib.hid (HBP.out _ (bstep HB1.out (bstep hb3 hb4)))
  clear zf HV HV1 HB1 HPUT HBP hb4 hup hhd
  have HP := Lib.hid hP
  clear hP
  go_wp2
  obtain ⟨r0, r1, r2, r3, r4, r5, _⟩ := HP.out
  dsimp only at r0 r1 r2 r3 r4 r5
  refine bodyPost_ret (v := .tuple #[.agg #[.string key, .string val, .bool gone, .int .i64 m, .int .i64 t, .slice pa past.length pc], .bool c]) (by simp [results, Try.results34, go_sem, r0, r1, r2, r3, r4, r5]) rfl ⟨rfl, HBE.out⟩

set_option maxRecDepth 100000 in
set_option maxHeartbeats 1600000 in
theorem cbelow_any (v : Value) (xs : List Vw) (s : Int × Int) (w : World) (hl : xs.length ≤ 1000000) (hr : WRow w v xs) :
    Calls Try.prog 53 #[v, sv s] w fun e w' => e = .returned (.tuple #[wV ((lastP (notA s) xs).getD vw0), .bool (lastP (notA s) xs).isSome]) ∧ Below w.heap.size w w' := by
  have hmf : ∀ (fn : Fn) (first cap : Array Value) (w : World), (Instr.makeFunc fn first cap).run Try.prog w = .ok (.func fn first cap) w := fun _ _ _ _ => rfl
  obtain ⟨a, cap, rfl, hcap, hmx, hnil⟩ := hr.shape
  obtain ⟨W1, hW1⟩ : ∃ W1, (w.alloc (.cells #[.int .i64 s.1, .int .i64 s.2] 29)).alloc (.cells #[.string ⟨#[]⟩, .string ⟨#[]⟩, .bool false, .int .i64 0, .int .i64 0, .slice none 0 0] 32) = W1 := ⟨_, rfl⟩
  have hs1 : (w.alloc (.cells #[.int .i64 s.1, .int .i64 s.2] 29)).heap.size = w.heap.size + 1 := by simp
  have hbA : Below w.heap.size w (w.alloc (.cells #[.int .i64 s.1, .int .i64 s.2] 29)) := balloc (Below.refl _ w) _
  have hb1 : Below w.heap.size w W1 := by rw [← hW1]; exact balloc hbA _
  have hsz : W1.heap.size = w.heap.size + 1 + 1 := by rw [← hW1]; simp
  have hbB : Below (w.heap.size + 1) (w.alloc (.cells #[.int .i64 s.1, .int .i64 s.2] 29)) W1 := by rw [← hW1, ← hs1]; exact balloc (Below.refl _ _) _
  have q0 : W1.cell? ⟨w.heap.size, 0, none⟩ = some (.int .i64 s.1) := (hbB.cell (p := ⟨w.heap.size, 0, none⟩) (by show w.heap.size < _; omega)).trans (by simp)
  have q1 : W1.cell? ⟨w.heap.size, 1, none⟩ = some (.int .i64 s.2) := (hbB.cell (p := ⟨w.heap.size, 1, none⟩) (by show w.heap.size < _; omega)).trans (by simp)
  have hV : VwP W1 (w.heap.size + 1) wz (.slice none 0 0) := by
    have := VwP.new (w.alloc (.cells #[.int .i64 s.1, .int .i64 s.2] 29)) wz (.slice none 0 0) 32
    rw [hs1] at this
    rw [← hW1]
    exact this
  have hup := fun W (h : Below w.heap.size w W) B h0 h1 => up_notA s B a cap xs W hl (hr.below h) h0 h1
  have hhd := fun W (h : Below w.heap.size w W) => head_upN (notA s) a cap xs W hl (hr.below h)
  generalize lastP (notA s) xs = r at hhd ⊢
  generalize r.isSome = c at hhd ⊢
  generalize r.getD vw0 = x at hhd ⊢
  generalize upN (notA s) xs = n at hup hhd
  have HV := Lib.hid hV
  have HB1 := Lib.hid hb1
  have HPUT := Lib.hid (fun (W : World) (h : VwP W (w.heap.size + 1) wz (.slice none 0 0)) => h.putw x.1 (pw x))
  have HBP := Lib.hid (fun (W : World) (h : Below w.heap.size w W) => below_putw h (show w.heap.size ≤ w.heap.size + 1 by omega) x.1 (pw x))
  have HSZ := Lib.hid hsz
  obtain ⟨⟨key, val, gone, ⟨m, t⟩, past⟩, pa, pc⟩ := x
  obtain ⟨s0, s1⟩ := s
  dsimp only [wV, wcs, wvs, pw, World.putw] at *
  clear hr hV hb1 hbA hbB hs1 hsz
  go_enter Try.func53, Try.ntmps53
  go_upto_region 1 with fail
  try rw [hW1]
  clear hW1
  go_wp2_with fail
  refine (notAfter_any (s0, s1) _).mono ?_
  rintro e w2 ⟨rfl, rfl⟩
  have hb2 : Below W1.heap.size W1 (W1.alloc (.cells #[.int .i64 s0, .int .i64 s1] 29)) := balloc (Below.refl _ W1) _
  have HB2 := Lib.hid hb2
  have p0 : (W1.alloc (.cells #[.int .i64 s0, .int .i64 s1] 29)).cell? ⟨W1.heap.size, 0, none⟩ = some (.int .i64 s0) := by simp
  have p1 : (W1.alloc (.cells #[.int .i64 s0, .int .i64 s1] 29)).cell? ⟨W1.heap.size, 1, none⟩ = some (.int .i64 s1) := by simp
  clear q0 q1 hb2
  generalize W1.alloc (.cells #[.int .i64 s0, .int .i64 s1] 29) = W2 at *
  go_wp2_with fail
  refine (hup _ (bstep HB1.out HB2.out) W1.heap.size p0 p1).mono ?_
  rintro e w3 ⟨rfl, hb3⟩
  clear p0 p1
  go_wp2_with fail
  refine (hhd _ (bstep (bstep HB1.out HB2.out) hb3)).mono ?_
  rintro e w4 ⟨rfl, hb4⟩
  have HV1 := Lib.hid (HV.out.keep (bstep (bstep HB2.out hb3) hb4))
  obtain ⟨z0, z1, z2, z3, z4, z5, zf⟩ := HV1.out
  have zf0 := zf 0 (by decide)
  have zf1 := zf 1 (by decide)
  have zf2 := zf 2 (by decide)
  have zf3 := zf 3 (by decide)
  have zf4 := zf 4 (by decide)
  have zf5 := zf 5 (by decide)
  dsimp only [wz] at z0 z1 z2 z3 z4 z5
  have hP := HPUT.out _ HV1.out
  have HBE := Lib.hid (HBP.out _ (bstep HB1.out (bstep (bstep HB2.out hb3) hb4)))
  clear zf HV HV1 HB1 HPUT HBP hb4 hup hhd
  have HP := Lib.hid hP
  clear hP
  go_wp2
  obtain ⟨r0, r1, r2, r3, r4, r5, _⟩ := HP.out
  dsimp only at r0 r1 r2 r3 r4 r5
  refine bodyPost_ret (v := .tuple #[.agg #[.string key, .string val, .bool gone, .int .i64 m, .int .i64 t, .slice pa past.length pc], .bool c]) (by simp [results, Try.results53, go_sem, r0, r1, r2, r3, r4, r5]) rfl ⟨rfl, HBE.out⟩
end Go.Proofs.Ytjfmgplhcinkfaa
