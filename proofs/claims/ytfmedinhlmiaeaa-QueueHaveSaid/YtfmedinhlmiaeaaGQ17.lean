/- What queue.present, Misses and Check answer, and the document's Misses and Check. -/
import Derived.Test.YtfmedinhlmiaeaaGQ16
namespace Go.Proofs.Ytfmedinhlmiaeaa
open Go.RowKit Go.Shelf Go.Maps
set_option linter.unusedVariables false
set_option linter.unusedSimpArgs false
attribute [local go_sem] Oper.semAt_some

/-- The closure's cell and its map, both in new memory. -/
def Pres (w : World) (l : List De) (hz : Szd l) (lo Hb : Nat) : Prop :=
  lo ≤ Hb ∧ ∃ M n, lo ≤ M ∧ w.cell? ⟨Hb, 0, none⟩ = some (.map (some M)) ∧ w.ownsMap Try.prog 9 RS M n (mpD (bkL l hz l.length))
theorem own_map_block {w w' : World} {b n : Nat} {D : DataW Unit} (h : w.ownsMap Try.prog 9 RS b n D) (hb : w'.heap[b]? = w.heap[b]?) : w'.ownsMap Try.prog 9 RS b n D := by
  obtain ⟨es, clock, h1, h2⟩ := h
  exact ⟨es, clock, hb.trans h1, h2⟩
theorem own_map_lt {w : World} {b n : Nat} {D : DataW Unit} (h : w.ownsMap Try.prog 9 RS b n D) : b < w.heap.size := by
  obtain ⟨es, clock, h1, h2⟩ := h
  exact (Array.getElem?_eq_some_iff.1 h1).1
theorem Pres.mv {P : Nat → Prop} {w w' : World} {l : List De} {hz : Szd l} {lo Hb : Nat} (h : Pres w l hz lo Hb) (hm : Mv P w w') (hp : ∀ k, lo ≤ k → ¬ P k) : Pres w' l hz lo Hb := by
  obtain ⟨h0, M, n, h1, h2, h3⟩ := h
  exact ⟨h0, M, n, h1, hm.cell (hp _ h0) h2, own_map_block h3 (hm.block M (own_map_lt h3) (hp _ h1))⟩
theorem Pres.below {w w' : World} {l : List De} {hz : Szd l} {lo Hb : Nat} (h : Pres w l hz lo Hb) (hb : Below w.heap.size w w') : Pres w' l hz lo Hb := h.mv (P := fun _ => False) (Mv.of_below hb) (fun _ _ => id)

set_option maxRecDepth 100000 in
set_option maxHeartbeats 1600000 in
theorem presentC_any (l : List De) (hz : Szd l) (lo Hb : Nat) (x : ByteArray) (y z : Int) (w : World) (hs : x.size ≤ maxLen) (hP : Pres w l hz lo Hb) :
    Calls Try.prog 51 #[.agg #[.string x, .int .i64 y, .int .i64 z], .pointer (some ⟨Hb, 0, none⟩)] w fun e w' => e = .returned (.bool (!Sm.less (gtD l x) (y, z))) ∧ Below w.heap.size w w' := by
  obtain ⟨_, M, n, _, hc, hown⟩ := hP
  have hb1 : Below w.heap.size w (w.alloc (.cells #[.string x, .int .i64 y, .int .i64 z] 34)) := balloc (Below.refl _ w) _
  obtain ⟨v, ps, hrun, hR⟩ := (own_map_below hown hb1).lookup (Maps.string_keyed Try.underlying9) Try.underlying86 (Try.zeroValue25 _) (RS_mk 0 0) (WideMaps.keyOf_string_mk Try.underlying9 hs)
  rw [mpD_at] at hR
  obtain rfl := RS_inv hR
  have hc' := kc hb1 hc
  have hne : Hb ≠ w.heap.size := by have := lt_of_cellN hc; omega
  clear hown hR hc
  generalize gtD l x = g at hrun ⊢
  obtain ⟨g0, g1⟩ := g
  dsimp only at hrun
  have hL := fun W => less_any g0 g1 y z W
  generalize Sm.less (g0, g1) (y, z) = c at hL ⊢
  go_enter Try.func51, Try.ntmps51
  go_wp2_with fail
  refine (hL _).mono ?_
  rintro e w1 ⟨rfl, hb⟩
  go_wp2
  go_ret
  exact ⟨by first | rfl | (cases c <;> rfl), bstep hb1 hb⟩

set_option maxRecDepth 100000 in
set_option maxHeartbeats 4000000 in
theorem present_any (v : Value) (l : List De) (w : World) (hl : l.length ≤ 1000000) (hz : Szd l) (h1 : DepAt w v l) :
    Calls Try.prog 37 #[v] w fun e w' => ∃ Hb, e = .returned (.func (.func 51) #[] #[.pointer (some ⟨Hb, 0, none⟩)]) ∧ Pres w' l hz w.heap.size Hb ∧ Below w.heap.size w w' := by
  obtain ⟨a, cap, rfl, _, _, _, hr⟩ := h1
  have hmm : ∀ (n : Int) (w : World), (Instr.makeMap 86 (some (.int .i64 n))).run Try.prog w = .ok (.map (some w.heap.size)) (w.alloc (.map #[] 0)) := fun n w => by
    simp [Instr.makeMap, run_underlying Try.underlying86, asInt, asIntOf]
  have hmf : ∀ (fn : Fn) (first cap : Array Value) (w : World), (Instr.makeFunc fn first cap).run Try.prog w = .ok (.func fn first cap) w := fun _ _ _ _ => rfl
  refine (callsIn_wide (n := 5)).1 ?_
  have t20 : Fence.wide.fn 37 := trivial
  have t49 : Fence.wide.fn 50 := trivial
  have t81 : Fence.wide.fn 64 := trivial
  refine callsIn_of_wp_marks Try.func37 rfl t20 ?_ rfl
  simp only [Try.ntmps37, List.size_toArray, List.length_cons, List.length_nil, Nat.reduceAdd, Nat.reduceSub, Array.replicate_succ, Array.replicate_zero, List.push_toArray, List.append_toArray, List.nil_append, List.cons_append]
  gi_wp2_with (gi_at_call 50; refine (backward_in Fence.wide 4 t49 rfl _ _ _ _).mono ?_; rintro e w' ⟨rfl, rfl⟩)
  obtain ⟨W0, hW0⟩ : ∃ W0, ((w.alloc (Obj.map #[] 0)).alloc (Obj.cells #[Value.map (some w.heap.size)] 86)).alloc (Obj.cells #[Value.slice a l.length cap] 23) = W0 := ⟨_, rfl⟩
  have hsz : W0.heap.size = w.heap.size + 3 := by rw [← hW0]; simp
  have hB0 : Below w.heap.size w W0 := by rw [← hW0]; exact balloc (balloc (balloc (Below.refl _ w) _) _) _
  have bH : W0.cell? ⟨w.heap.size + 1, 0, none⟩ = some (.map (some w.heap.size)) := by
    rw [← hW0]
    have s : ((w.alloc (Obj.map #[] 0)).alloc (Obj.cells #[Value.map (some w.heap.size)] 86)).heap.size = w.heap.size + 1 + 1 := by simp
    have s2 : (w.alloc (Obj.map #[] 0)).heap.size = w.heap.size + 1 := by simp
    rw [World.cell?_alloc_past _ _ _ (by rw [s]; omega), World.cell?_alloc_at _ _ _ _ s2.symm]; rfl
  have bS : W0.cell? ⟨w.heap.size + 1 + 1, 0, none⟩ = some (.slice a l.length cap) := by
    rw [← hW0]
    have s : ((w.alloc (Obj.map #[] 0)).alloc (Obj.cells #[Value.map (some w.heap.size)] 86)).heap.size = w.heap.size + 1 + 1 := by simp
    rw [World.cell?_alloc_at _ _ _ _ s.symm]; rfl
  have ho0 : W0.ownsMap Try.prog 9 RS w.heap.size 0 (mpD []) := by rw [← hW0]; exact ((World.ownsMap_made w Try.prog 9 RS).alloc _).alloc _
  rw [hW0]
  clear hW0
  refine wpIn_rangeFunc_ownH rfl (by omega) (gf := 64) (lb := #[.pointer (some ⟨w.heap.size + 1 + 1, 0, none⟩)]) rfl t81 (enters_of Try.func64 (by kernel_rfl) rfl)
    (back_stops Fence.wide (5 - 1) t81 rfl (by omega) (w.heap.size + 1 + 1) W0.heap.size w.heap.size cap a l hz hl W0 (by omega) (by omega) (by omega) bS (fun b off e h => by
      obtain ⟨b', off', e', hlt, _⟩ := hr 0 h
      rw [e] at e'
      cases e'
      omega) (hr.below hB0)) (fun h k => h.trans k) (fun W lq o o' h1 h2 h3 h4 => fun k hk _ => (belowK_b (w := W0) (Nat.le_refl _) W lq o o' h1 h2 h3 h4).block k hk) (Below.refl _ _) (fun _ => rfl)
    (fun pre W => ((W.cell? ⟨w.heap.size + 1, 0, none⟩ = some (.map (some w.heap.size)) ∧ W.ownsMap Try.prog 9 RS w.heap.size pre.length (mpD pre)) ∧ W0.heap.size ≤ W.heap.size) ∧ Below w.heap.size w W)
    (fun _ _ _ => False)
    (OwnFrom.and (fun s A B row hs hg hr => ⟨⟨cell_kept hs.1.1 hg (fun r e => (hr r e).2), hs.1.2.kept hg (fun e => by have := (hr _ e.symm).1; omega)⟩, Nat.le_trans hs.2 hg.size⟩) (ownFrom_below (Nat.le_refl _) (by omega)))
    (fun _ _ _ _ _ hs _ _ => hs)
    ⟨⟨⟨bH, ho0⟩, Nat.le_refl _⟩, hB0⟩
    (fun x a' W => ∃ Bx, W0.heap.size ≤ Bx ∧ (W.cell? ⟨Bx, 0, none⟩ = some (.string x.1.2.1) ∧ W.cell? ⟨Bx, 1, none⟩ = some (.int .i64 x.1.2.2.1) ∧ W.cell? ⟨Bx, 2, none⟩ = some (.int .i64 x.1.2.2.2)) ∧ a' = { tmps := #[.slice a l.length cap, undef, .nilFunc, .pointer (some ⟨w.heap.size + 1, 0, none⟩), undef, .pointer (some ⟨Bx, 0, none⟩), .slice a l.length cap, .int .i64 l.length, .map (some w.heap.size), .slice a l.length cap, .func (.func 64) #[] #[.pointer (some ⟨w.heap.size + 1 + 1, 0, none⟩)], .int .i64 x.1.1, .agg #[.string x.1.2.1, .int .i64 x.1.2.2.1, .int .i64 x.1.2.2.2], undef, undef, undef, undef, undef, undef], defers := [] })
    (fun x a' _ X Y row hs hg hr => by
      obtain ⟨Bx, h1, ⟨k0, k1, k2⟩, h3⟩ := hs
      exact ⟨Bx, h1, ⟨cell_kept k0 hg (fun r e => (hr r e).2), cell_kept k1 hg (fun r e => (hr r e).2), cell_kept k2 hg (fun r e => (hr r e).2)⟩, h3⟩)
    ?assign ?body ?done ?stop
  case assign =>
    rintro lp pre x W K ⟨⟨⟨hc, hown⟩, hsW⟩, hB⟩ hK
    gi_wp2
    exact hK _ _ ((KeepsOthers.alloc _ _).from _) (fun k hk _ => Below.heap_alloc _ _ _ (by omega)) ⟨⟨⟨kc (balloc (Below.refl _ W) _) hc, hown.alloc _⟩, by simp; omega⟩, hB.alloc hB.size _⟩ ⟨W.heap.size, hsW, ⟨by simp, by simp, by simp⟩, rfl⟩
  case body =>
    rintro lp pre x a' W hlp ⟨r, hr'⟩ ⟨⟨⟨hc, hown⟩, hsW⟩, hB⟩ ⟨Bx, hBx, ⟨k0, k1, k2⟩, rfl⟩ hlt
    gi_wp2_with (gi_at_mapUpdate; refine wpListIn_mapUpdate_own _ rfl _ _ _ 86 rfl 9 25 (Maps.string_keyed Try.underlying9) Try.underlying86 RS w.heap.size pre.length _ rfl hown (by unfold maxLen; omega) _ _ _ rfl rfl (WideMaps.keyOf_string_mk Try.underlying9 x.2) _ [] (RS_mk _ _) ?_; intro w1 hown1 hgrow1)
    obtain ⟨es, ck, hh, _⟩ := hown
    have hg2 := hgrow1.size
    exact ⟨KeepsFrom.of_grownBy hgrow1 (fun j e => by cases e; omega), (fun k hk hne => hgrow1.block k (by omega) (fun e => hne (by cases e; rfl))), ⟨⟨cell_kept hc hgrow1 (fun r e => by cases e; exact ⟨_, hh, rfl⟩), by rw [mpD_snoc, List.length_append]; exact hown1⟩, by omega⟩, hB.grown hgrow1 hB.size (fun k e => by cases e; exact Nat.le_refl _)⟩
  case done =>
    rintro D ys W hD rfl ⟨⟨⟨hc, hown⟩, hsW⟩, hB⟩ hK
    have hDl : D < W.heap.size := (Array.getElem?_eq_some_iff.1 hK).1
    gi_wp2
    have hbD := belowK_b (w := W0) (Nat.le_refl _) W D _ (.deferred none) (by omega) hK rfl rfl
    refine ⟨by simp, .inl ⟨_, _, rfl, run_takeDeferred hK, ?_⟩⟩
    refine ⟨_, results_tmp rfl _ _ _, ⟨w.heap.size + 1, rfl, ⟨by omega, w.heap.size, _, Nat.le_refl _, ?_, own_map_block hown (hbD.block _ (by omega))⟩, hB.trans (hbD.mono (by omega))⟩⟩
    rw [World.cell?_of_block (hbD.block (w.heap.size + 1) (by omega))]
    exact hc
  case stop =>
    rintro D c pre W _ _ h _
    exact h.elim

/-- The dependencies that are missing. -/
def missD (rs : List (ByteArray × ByteArray)) (hs l : List De) : List De := kept (fun d => !Sm.less (gtD hs d.1) d.2) (onlyD rs l)
theorem missD_nil {rs : List (ByteArray × ByteArray)} {hs l : List De} : missD rs hs l = [] ↔ ∀ d ∈ onlyD rs l, Sm.less (gtD hs d.1) d.2 = false := by
  unfold missD kept
  rw [List.filter_eq_nil_iff]
  simp
theorem onlyD_mem {rs : List (ByteArray × ByteArray)} {l : List De} {d : De} (h : d ∈ onlyD rs l) : d ∈ l := (List.mem_filter.1 h).1
theorem onlyD_len (rs : List (ByteArray × ByteArray)) (l : List De) : (onlyD rs l).length ≤ l.length := List.length_filter_le _ _
theorem missD_len (rs : List (ByteArray × ByteArray)) (hs l : List De) : (missD rs hs l).length ≤ l.length := Nat.le_trans (List.length_filter_le _ _) (onlyD_len rs l)
/-- What is asked of what the queue's functions are given. -/
structure Ctx (w : World) (hv : Value) (hs : List De) (a : Option Addr) (rs : List (ByteArray × ByteArray)) : Prop where
  len : hs.length ≤ 100000
  szd : Szd hs
  at_ : DepAt w hv hs
  few : rs.length ≤ 100
  rng : RngIn w a rs
theorem Ctx.below {w w' : World} {hv : Value} {hs : List De} {a : Option Addr} {rs : List (ByteArray × ByteArray)} (h : Ctx w hv hs a rs) (hb : Below w.heap.size w w') : Ctx w' hv hs a rs := ⟨h.len, h.szd, h.at_.below hb, h.few, h.rng.below hb⟩

set_option maxRecDepth 100000 in
set_option maxHeartbeats 1600000 in
theorem misses_any (v : Wv) (u hv : Value) (hs : List De) (a : Option Addr) (cap : Nat) (rs : List (ByteArray × ByteArray)) (w : World) (hW : WvB w v u) (hlp : v.past.length ≤ 100000) (hC : Ctx w hv hs a rs) :
    Calls Try.prog 14 #[.agg (wvs v u), hv, .slice a rs.length cap] w fun e w' => ∃ v', e = .returned v' ∧ OwnD w' w.heap.size v' (missD rs hs v.past) ∧ Below w.heap.size w w' := by
  have hb0 : Below w.heap.size w (w.alloc (.cells (wvs v u) 27)) := balloc (Below.refl _ w) _
  have hV := VwP.new w v u 27
  have hsz0 : Hid ((w.alloc (.cells (wvs v u) 27)).heap.size = w.heap.size + 1) := Lib.hid (by simp)
  have hC0 := hC.below hb0
  have hon := only_any u v.past a cap rs (w.alloc (.cells (wvs v u) 27)) hlp hC.few hC0.rng (hW.below hb0).at_
  have HSZ := Lib.hid hW.szd
  have hc5 := hV.c5
  obtain ⟨ua, uc, rfl, _⟩ := hW.at_
  obtain ⟨ha, hc, rfl, _⟩ := hC.at_
  clear hV hW hC
  obtain ⟨key, val, gone, ⟨n, t⟩, past⟩ := v
  dsimp only [wvs] at *
  have HC0 := Lib.hid hC0
  have HB0 := Lib.hid hb0
  obtain ⟨ml, hml⟩ : ∃ ml, ml = missD rs hs past := ⟨_, rfl⟩
  have HML := Lib.hid hml
  rw [← hml]
  clear hC0 hb0 hml
  go_enter Try.func14, Try.ntmps14
  go_upto_region 1 with fail
  generalize w.alloc (.cells #[.string key, .string val, .bool gone, .int .i64 n, .int .i64 t, .slice ua past.length uc] 27) = w1 at *
  go_wp2_with fail
  refine hon.mono ?_
  rintro e w2 ⟨v2, rfl, ho2, hb2⟩
  obtain ⟨sa, sc, rfl⟩ := ho2.shape
  have HO2 := Lib.hid ho2
  have HB2 := Lib.hid (bstep HB0.out hb2)
  have hpr := present_any (.slice ha hs.length hc) hs w2 (by have := HC0.out.len; omega) HC0.out.szd (HC0.out.below hb2).at_
  clear ho2 hb2 hon
  go_wp2_with fail
  refine hpr.mono ?_
  rintro e w3 ⟨Hb, rfl, hP, hb3⟩
  have ho3 := HO2.out.below hb3
  have hlt2 : ∀ k, (Value.slice sa (onlyD rs past).length sc).ownBlock = some k → k < w2.heap.size := fun k hk => (HO2.out.lt k hk).2
  have hdel := delFuncM_any 51 #[.pointer (some ⟨Hb, 0, none⟩)] (enters_of Try.func51 (by kernel_rfl) rfl) (fun d => !Sm.less (gtD hs d.1) d.2) (.slice sa (onlyD rs past).length sc) (w1.heap.size + 1) (onlyD rs past) w3 (by have := onlyD_len rs past; omega) ho3 (fun W d hd hm => by
    obtain ⟨x, y, z⟩ := d
    refine presentC_any hs HC0.out.szd w2.heap.size Hb x y z W (by have := HSZ.out (x, y, z) (onlyD_mem hd); unfold maxLen; exact this) (hP.mv hm (fun k hk e => by have := hlt2 k e; omega)))
  have HB3 := Lib.hid (bstep HB2.out hb3)
  have hs3 : w.heap.size ≤ w3.heap.size := HB3.out.size
  clear hpr hb3 hP
  go_wp2_with fail
  refine hdel.mono ?_
  rintro e w4 ⟨v4, rfl, ho4, hm4⟩
  change OwnD w4 (w1.heap.size + 1) v4 (missD rs hs past) at ho4
  rw [← HML.out] at ho4
  have HO4 := Lib.hid ho4
  obtain ⟨sa4, sc4, rfl⟩ := ho4.shape
  clear ho4
  go_wp2
  go_ret
  have hz1 := hsz0.out
  have ho5 := HO4.out.mono (show w.heap.size ≤ w1.heap.size + 1 by omega)
  refine ⟨_, rfl, ho5, HB3.out.trans (hm4.below (fun k hk e => ?_) hs3)⟩
  have := (HO2.out.lt k e).1
  omega

set_option maxRecDepth 100000 in
set_option maxHeartbeats 800000 in
theorem qcheck_any (v : Wv) (u hv : Value) (hs : List De) (a : Option Addr) (cap : Nat) (rs : List (ByteArray × ByteArray)) (w : World) (hW : WvB w v u) (hlp : v.past.length ≤ 100000) (hC : Ctx w hv hs a rs) :
    Calls Try.prog 16 #[.agg (wvs v u), hv, .slice a rs.length cap] w fun e w' => e = .returned (.bool (missD rs hs v.past).isEmpty) ∧ Below w.heap.size w w' := by
  have hb0 : Below w.heap.size w (w.alloc (.cells (wvs v u) 27)) := balloc (Below.refl _ w) _
  have hmi := misses_any v u hv hs a cap rs (w.alloc (.cells (wvs v u) 27)) (hW.below hb0) hlp (hC.below hb0)
  obtain ⟨ua, uc, rfl, _⟩ := hW.at_
  obtain ⟨ha, hc, rfl, _⟩ := hC.at_
  clear hW hC
  obtain ⟨key, val, gone, ⟨n, t⟩, past⟩ := v
  dsimp only [wvs] at *
  have HB0 := Lib.hid hb0
  clear hb0
  generalize missD rs hs past = ml at hmi ⊢
  go_enter Try.func16, Try.ntmps16
  go_wp2_with fail
  refine hmi.mono ?_
  rintro e w2 ⟨v2, rfl, ho2, hb2⟩
  obtain ⟨sa, sc, rfl⟩ := ho2.shape
  have HB2 := Lib.hid (bstep HB0.out hb2)
  clear hb2 ho2 hmi
  cases ml with
  | nil =>
    go_wp2
    go_ret
    exact ⟨rfl, HB2.out⟩
  | cons x r =>
    have hne : (((x :: r).length : Nat) : Int) ≠ 0 := by simp; omega
    have hbq : ((((x :: r).length : Nat) : Int) == 0) = false := by simpa using hne
    generalize (x :: r).length = len at hbq hne
    go_wp2
    go_ret
    exact ⟨ret_bool (by simp_all), HB2.out⟩

theorem missD_step (rs : List (ByteArray × ByteArray)) (hs l : List De) (k : Nat) (h : k < (onlyD rs l).length) : kept (fun d => !Sm.less (gtD hs d.1) d.2) ((onlyD rs l).take (k + 1)) = kept (fun d => !Sm.less (gtD hs d.1) d.2) ((onlyD rs l).take k) ++ (if Sm.less (gtD hs (onlyD rs l)[k].1) (onlyD rs l)[k].2 = true then [(onlyD rs l)[k]] else []) := by
  rw [kept_step _ _ _ h]
  cases Sm.less (gtD hs (onlyD rs l)[k].1) (onlyD rs l)[k].2 <;> simp

set_option maxRecDepth 100000 in
set_option maxHeartbeats 3200000 in
theorem rmisses_any (v : Wv) (u hv : Value) (hs : List De) (a : Option Addr) (cap : Nat) (rs : List (ByteArray × ByteArray)) (w : World) (hW : WvB w v u) (hlp : v.past.length ≤ 100000) (hC : Ctx w hv hs a rs) :
    Calls Try.prog 15 #[.agg (wvs v u), hv, .slice a rs.length cap] w fun e w' => ∃ v', e = .returned v' ∧ DepAt w' v' (missD rs hs v.past) ∧ Below w.heap.size w w' := by
  have hb0 : Below w.heap.size w (w.alloc (.cells (wvs v u) 27)) := balloc (Below.refl _ w) _
  have hV := VwP.new w v u 27
  have hC0 := hC.below hb0
  have hon := refOnly_any u v.past a cap rs (w.alloc (.cells (wvs v u) 27)) hlp hC.few hC0.rng (hW.below hb0).at_
  have hc5 := hV.c5
  obtain ⟨ua, uc, rfl, _⟩ := hW.at_
  obtain ⟨ha, hc, rfl, _⟩ := hC.at_
  clear hV hW hC
  obtain ⟨key, val, gone, ⟨n, t⟩, past⟩ := v
  dsimp only [wvs] at *
  have HC0 := Lib.hid hC0
  have HB0 := Lib.hid hb0
  have hol := onlyD_len rs past
  have HST := Lib.hid (missD_step rs hs past)
  obtain ⟨ml, hml⟩ : ∃ ml, ml = missD rs hs past := ⟨_, rfl⟩
  have HML : Hid (ml = kept (fun d => !Sm.less (gtD hs d.1) d.2) (onlyD rs past)) := Lib.hid hml
  rw [← hml]
  clear hC0 hb0 hml
  generalize onlyD rs past = os at hon hol HST HML
  go_enter Try.func15, Try.ntmps15
  go_upto_region 1 with fail
  generalize w.alloc (.cells #[.string key, .string val, .bool gone, .int .i64 n, .int .i64 t, .slice ua past.length uc] 27) = w1 at *
  go_wp2_with fail
  refine hon.mono ?_
  rintro e w2 ⟨v2, rfl, ho2, hb2⟩
  obtain ⟨sa, sc, rfl, _, _, _, hri⟩ := ho2
  have HR2 := Lib.hid hri
  have HB2 := Lib.hid (bstep HB0.out hb2)
  have HC2 := Lib.hid (HC0.out.below hb2)
  clear hri hb2 hon
  go_wp2
  go_loopw [7, 9] (fun o i wr => ∃ k : Nat, k ≤ os.length ∧ i = .int .i64 k ∧ OwnD wr w2.heap.size o (kept (fun d => !Sm.less (gtD hs d.1) d.2) (os.take k)) ∧ Below w2.heap.size w2 wr) (fun _ i _ => os.length - (intOf i).toNat)
  case atStart => exact ⟨0, by omega, rfl, OwnD.nil _ _, Below.refl _ _⟩
  case round =>
    obtain ⟨k, hk, rfl, ho, hbel⟩ := hrel
    have hkl : (kept (fun d => !Sm.less (gtD hs d.1) d.2) (os.take k)).length ≤ 100000 := by
      have h1 : (kept (fun d => !Sm.less (gtD hs d.1) d.2) (os.take k)).length ≤ (os.take k).length := List.length_filter_le _ _
      have h2 : (os.take k).length ≤ os.length := by simp; omega
      omega
    obtain ⟨qa, qc, rfl⟩ := ho.shape
    have HO := Lib.hid ho
    have hbs := hbel.size
    clear ho
    by_cases hlt : k < os.length
    · obtain ⟨b, off, rfl, hbl, c0, c1, c2⟩ := HR2.out.below hbel k hlt
      have HS := Lib.hid (HST.out k hlt)
      have hget := refPGet_any (.slice ha hs.length hc) hs os[k].1 wr (by have := HC2.out.len; omega) (HC2.out.below hbel).at_
      generalize os[k] = d at c0 c1 c2 HS hget
      obtain ⟨x, y, z⟩ := d
      dsimp only at c0 c1 c2 HS hget
      generalize kept (fun d => !Sm.less (gtD hs d.1) d.2) (os.take k) = acc at hkl HO HS
      generalize gtD hs x = g at hget HS
      obtain ⟨g0, g1⟩ := g
      go_wp2_with fail
      refine hget.mono ?_
      rintro e w3 ⟨rfl, hb3⟩
      have d0 := kcell hb3 hbl c0
      have d1 := kcell hb3 hbl c1
      have d2 := kcell hb3 hbl c2
      have hbel3 := bstep hbel hb3
      have HB3 := Lib.hid hb3
      have e0 : (w3.alloc (.cells #[.int .i64 g0, .int .i64 g1] 25)).cell? ⟨b, off + k * 3, none⟩ = some (.string x) := kc (balloc (Below.refl _ _) _) d0
      have e1 : (w3.alloc (.cells #[.int .i64 g0, .int .i64 g1] 25)).cell? ⟨b, off + k * 3 + 1, none⟩ = some (.int .i64 y) := kc (balloc (Below.refl _ _) _) d1
      have e2 : (w3.alloc (.cells #[.int .i64 g0, .int .i64 g1] 25)).cell? ⟨b, off + k * 3 + 2, none⟩ = some (.int .i64 z) := kc (balloc (Below.refl _ _) _) d2
      have g00 : (w3.alloc (.cells #[.int .i64 g0, .int .i64 g1] 25)).cell? ⟨w3.heap.size, 0, none⟩ = some (.int .i64 g0) := by simp
      have g01 : (w3.alloc (.cells #[.int .i64 g0, .int .i64 g1] 25)).cell? ⟨w3.heap.size, 1, none⟩ = some (.int .i64 g1) := by simp
      generalize hq : Sm.less (g0, g1) (y, z) = c at HS
      have HQ := Lib.hid hq
      have HE0 := Lib.hid (And.intro e0 (And.intro e1 e2))
      clear hq hget c0 c1 c2 d0 d1 d2 hb3 e0
      go_wp2_with fail
      go_region_held3 (fun w' => w'.cell? ⟨w3.heap.size, 0, none⟩ = some (.int .i64 g0) ∧ w'.cell? ⟨w3.heap.size, 1, none⟩ = some (.int .i64 g1) ∧ w'.cell? ⟨b, off + k * 3 + 1, none⟩ = some (.int .i64 y) ∧ w'.cell? ⟨b, off + k * 3 + 2, none⟩ = some (.int .i64 z))
        (first | exact ⟨g00, g01, e1, e2⟩ | exact gg1)
        (first
          | (go_at_call 28; ((refine (refLess_b g0 g1 y z c _ HQ.out).mono ?_); rintro e wa ⟨rfl, ha⟩; have gg1 := keep22 ha ⟨g00, g01, e1, e2⟩)))
      have hb4 : Below w2.heap.size w2 wa := bstep hbel3 (bstep (balloc (Below.refl _ w3) _).drew ha)
      have f0 := kc (show Below (w3.alloc (.cells #[.int .i64 g0, .int .i64 g1] 25)).heap.size (w3.alloc (.cells #[.int .i64 g0, .int .i64 g1] 25)) wa from bstep ((Below.refl _ _).drew) ha) HE0.out.1
      have f1 := gg1.2.2.1
      have f2 := gg1.2.2.2
      have HBW : Hid (Below wr.heap.size wr wa) := Lib.hid (bstep HB3.out (bstep (balloc (Below.refl _ w3) (.cells #[.int .i64 g0, .int .i64 g1] 25)).drew ha))
      cases c with
      | false =>
        go_wp2
        go_roundw
        case rel => exact ⟨k + 1, by omega, by go_num, by rw [HS.out, if_neg (by simp), List.append_nil]; exact HO.out.below HBW.out, hb4⟩
        case measure => simp [intOf]; omega
      | true =>
        go_wp2_with (at_builtin; refine wp_pushD (wr := wa) rfl _ _ rfl w2.heap.size (.slice qa acc.length qc) acc x y z rfl (HO.out.below HBW.out) rfl (by omega) hb4.size ?_; intro g gcap w5 ho5 hb5 hk5 hg5)
        go_wp2
        go_roundw
        case rel => exact ⟨k + 1, by omega, by go_num, by rw [HS.out, if_pos rfl]; exact ho5, hb4.trans hb5⟩
        case measure => simp [intOf]; omega
    · obtain rfl : k = os.length := by omega
      go_wp2
      go_ret
      refine ⟨_, rfl, ?_, HB2.out.trans (hbel.mono HB2.out.size)⟩
      have h := DepAt.of_own HO.out
      rw [List.take_length] at h
      rw [List.take_length, HML.out]
      exact h
end Go.Proofs.Ytfmedinhlmiaeaa
