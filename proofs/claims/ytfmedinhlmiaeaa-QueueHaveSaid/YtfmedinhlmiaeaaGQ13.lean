/- Texts of this proof, one behind the other: PastCovers, PastOwn, PastDel, Shelf, PastConc, KeysRng, KeysFidx. -/
import Derived.Test.YtfmedinhlmiaeaaGQ12
import Derived.Maps.Views
import Derived.StringKeys
import Derived.Lib.SliceRun
import Derived.Shelf.Spec.SlicesGrow
import Derived.Test.YtfmedinhlmiaeaaProg
/- What past.Covers answers. -/
namespace Go.Proofs.Ytfmedinhlmiaeaa
open Go.RowKit Go.Shelf Go.Maps
set_option linter.unusedVariables false
set_option linter.unusedSimpArgs false
attribute [local go_sem] Oper.semAt_some

def sdD (p : Int × Int) : DataW Unit := .agg [.lit (.int .i64 p.1), .lit (.int .i64 p.2)]
/-- How a stamp in the map reads. -/
def RS (v : Value) : Option (DataW Unit × List MemPlace) :=
  match v with
  | .agg c => (match c.toList with
    | [.int .i64 x, .int .i64 y] => some (sdD (x, y), [])
    | _ => none)
  | _ => none
theorem RS_mk (x y : Int) : RS (.agg #[.int .i64 x, .int .i64 y]) = some (sdD (x, y), []) := rfl
theorem RS_inv {v : Value} {p : Int × Int} {ps : List MemPlace} (h : RS v = some (sdD p, ps)) : v = .agg #[.int .i64 p.1, .int .i64 p.2] := by
  unfold RS at h
  split at h
  · rename_i c
    split at h
    · rename_i x y e
      simp [sdD] at h
      obtain ⟨⟨h1, h2⟩, _⟩ := h
      rw [← h1, ← h2]
      congr 1
      exact Array.toList_inj.1 e
    · cases h
  · cases h
def mpD (pre : List BackA) : DataW Unit := pre.foldl (fun D x => D.put (.string x.1.2.1.data.toList) (sdD x.1.2.2)) (.map [])
theorem mpD_snoc (pre : List BackA) (x : BackA) : mpD (pre ++ [x]) = (mpD pre).put (.string x.1.2.1.data.toList) (sdD x.1.2.2) := by simp [mpD]

/-- What the map tells. -/
theorem mpD_isMap (pre : List BackA) : IsMap (mpD pre) := by
  have key : ∀ (pre : List BackA) (D : DataW Unit), IsMap D → IsMap (pre.foldl (fun D x => D.put (.string x.1.2.1.data.toList) (sdD x.1.2.2)) D) := by
    intro pre
    induction pre with
    | nil => intro D h; exact h
    | cons x pre ih => intro D h; exact ih _ (h.put _ _)
  exact key pre _ isMap_empty
theorem mpD_snoc_at (pre : List BackA) (x : BackA) (key : ByteArray) (z : DataW Unit) : (mpD (pre ++ [x])).atKey (.string key.data.toList) z = if x.1.2.1 = key then sdD x.1.2.2 else (mpD pre).atKey (.string key.data.toList) z := by
  rw [mpD_snoc]
  by_cases h : x.1.2.1 = key
  · rw [if_pos h, ← h]
    exact atKey_put_same (mpD_isMap pre) (show WideAt.IsKeyLit (.string _) from trivial) _ _
  · rw [if_neg h]
    exact atKey_put_other (fun e => h (ba_inj (by simpa using e.symm))) _ _
theorem mpD_drop (l : List De) (hz : Szd l) (key : ByteArray) : ∀ k, k ≤ l.length → (mpD (bkL l hz k)).atKey (.string key.data.toList) (sdD (0, 0)) = sdD (gtD (l.drop (l.length - k)) key)
  | 0, _ => by simp [bkL, mpD, gtD, DataW.atKey]
  | k + 1, h => by
    rw [bkL_succ l hz k (by omega), mpD_snoc_at, mpD_drop l hz key k (by omega)]
    have e : l.drop (l.length - (k + 1)) = l[l.length - 1 - k]'(by omega) :: l.drop (l.length - k) := by
      rw [show l.length - (k + 1) = l.length - 1 - k by omega, List.drop_eq_getElem_cons (by omega), show l.length - 1 - k + 1 = l.length - k by omega]
    rw [e]
    unfold gtD
    rw [List.find?_cons]
    show (if (l[l.length - 1 - k]'(by omega)).1 = key then sdD (l[l.length - 1 - k]'(by omega)).2 else _) = _
    by_cases hk : (l[l.length - 1 - k]'(by omega)).1 = key
    · simp [hk]
    · simp [hk]
theorem mpD_at (l : List De) (hz : Szd l) (key : ByteArray) : (mpD (bkL l hz l.length)).atKey (.string key.data.toList) (sdD (0, 0)) = sdD (gtD l key) := by
  rw [mpD_drop l hz key l.length (Nat.le_refl _), Nat.sub_self, List.drop_zero]
theorem own_map_below {w w' : World} {b n : Nat} {D : DataW Unit} (h : w.ownsMap Try.prog 9 RS b n D) (hb : Below w.heap.size w w') : w'.ownsMap Try.prog 9 RS b n D := by
  obtain ⟨es, clock, h1, h2⟩ := h
  exact ⟨es, clock, (hb.block b (Array.getElem?_eq_some_iff.1 h1).1).trans h1, h2⟩

end Go.Proofs.Ytfmedinhlmiaeaa
/- Rows of the call's own, written: one element, a part cleared, a part cut off. -/
namespace Go.Proofs.Ytfmedinhlmiaeaa
open Go.RowKit
set_option linter.unusedVariables false

theorem OwnD.at {w : World} {base g n cap : Nat} {l : List De} (h : OwnD w base (.slice (some ⟨g, 0, none⟩) n cap) l) (i : Nat) (hi : i < l.length) :
    w.cell? ⟨g, i * 3, none⟩ = some (.string l[i].1) ∧ w.cell? ⟨g, i * 3 + 1, none⟩ = some (.int .i64 l[i].2.1) ∧ w.cell? ⟨g, i * 3 + 2, none⟩ = some (.int .i64 l[i].2.2) := by
  obtain ⟨a, c, e, _, _, _, hr⟩ := DepAt.of_own h
  obtain ⟨b, off, e', _, h0, h1, h2⟩ := hr i hi
  cases e
  cases e'
  simp only [Nat.zero_add] at h0 h1 h2
  exact ⟨h0, h1, h2⟩
theorem OwnD.fr {w : World} {base g cap : Nat} {l : List De} (h : OwnD w base (.slice (some ⟨g, 0, none⟩) l.length cap) l) (j : Nat) : w.frozen? ⟨g, j, none⟩ = false := h.frozenAt j
theorem OwnD.blk {w : World} {base g n cap : Nat} {l : List De} (h : OwnD w base (.slice (some ⟨g, 0, none⟩) n cap) l) : base ≤ g ∧ g < w.heap.size := h.lt g rfl
theorem OwnD.cap {w : World} {base g n cap : Nat} {l : List De} (h : OwnD w base (.slice (some ⟨g, 0, none⟩) n cap) l) : n = l.length ∧ l.length ≤ cap ∧ cap ≤ maxLen := by
  rcases h.2 with ⟨h', _⟩ | ⟨g', cap', cur, h', hb, hg, hnc, hcm, hcs, htake⟩
  · simp at h'
  · simp only [Value.slice.injEq] at h'
    obtain ⟨_, rfl, rfl⟩ := h'
    exact ⟨rfl, hnc, hcm⟩
/-- One element written. -/
theorem OwnD.set {w : World} {base g cap : Nat} {l : List De} (h : OwnD w base (.slice (some ⟨g, 0, none⟩) l.length cap) l) (i : Nat) (hi : i < l.length) (x : ByteArray) (y z : Int) :
    OwnD (((w.setCell ⟨g, i * 3, none⟩ (.string x)).setCell ⟨g, i * 3 + 1, none⟩ (.int .i64 y)).setCell ⟨g, i * 3 + 2, none⟩ (.int .i64 z)) base (.slice (some ⟨g, 0, none⟩) l.length cap) (l.set i (x, y, z)) := by
  have h3 := (((h.stored (i * 3) (.string x)).1.stored (i * 3 + 1) (.int .i64 y)).1.stored (i * 3 + 2) (.int .i64 z)).1
  unfold OwnD
  rw [← dV_set l i (x, y, z) hi, List.length_set]
  exact h3
theorem below_set {base g j0 j1 j2 : Nat} {w w' : World} (hb : Below base w w') (hg : base ≤ g) (x y z : Value) : Below base w (((w'.setCell ⟨g, j0, none⟩ x).setCell ⟨g, j1, none⟩ y).setCell ⟨g, j2, none⟩ z) := ((hb.setCell hg _).setCell hg _).setCell hg _

theorem own_setCells {base e n cap g : Nat} : ∀ (vs : List Value) (w : World) (o : Nat) (xs : List Value), w.ownsRow base e 3 (.slice (some ⟨g, 0, none⟩) n cap) n xs →
    ∃ xs', (w.setCells g o vs).ownsRow base e 3 (.slice (some ⟨g, 0, none⟩) n cap) n xs' ∧ xs'.take o = xs.take o
  | [], w, o, xs, h => ⟨xs, h, rfl⟩
  | v :: vs, w, o, xs, h => by
    obtain ⟨xs', h1, h2⟩ := own_setCells vs _ (o + 1) _ (h.stored o v).1
    refine ⟨xs', h1, ?_⟩
    have : xs'.take o = (xs'.take (o + 1)).take o := by rw [List.take_take, Nat.min_eq_left (by omega)]
    rw [this, h2, List.take_take, Nat.min_eq_left (by omega), List.take_set_of_le (Nat.le_refl _)]
theorem below_setCells {base g : Nat} {w0 : World} (hg : base ≤ g) : ∀ (vs : List Value) (w : World) (o : Nat), Below base w0 w → Below base w0 (w.setCells g o vs)
  | [], w, o, h => h
  | v :: vs, w, o, h => below_setCells hg vs _ (o + 1) (h.setCell hg v)
/-- A part of a row. -/
theorem own_cut {base e n cap g k : Nat} {w : World} {xs : List Value} (h : w.ownsRow base e 3 (.slice (some ⟨g, 0, none⟩) n cap) n xs) (hk : k ≤ n) : w.ownsRow base e 3 (.slice (some ⟨g, 0, none⟩) k cap) k (xs.take (k * 3)) := by
  rcases h.2 with ⟨h', _⟩ | ⟨g', cap', cur, h', hb, hg, hnc, hcm, hcs, htake⟩
  · simp at h'
  · simp only [Value.slice.injEq, Option.some.injEq, Addr.mk.injEq, and_true, true_and] at h'
    obtain ⟨rfl, rfl⟩ := h'
    refine ⟨by rw [List.length_take, h.1]; omega, .inr ⟨g, cap, cur, rfl, hb, hg, by omega, hcm, hcs, ?_⟩⟩
    rw [← htake, List.take_take, Nat.min_eq_left (by omega)]

theorem run_clear_dep (w : World) (b o n c : Nat) (hn : 0 < n) (hc : ∀ j, j < n * 3 → (w.cell? ⟨b, o + j, none⟩).isSome = true) (hf : ∀ j, j < n * 3 → w.frozen? ⟨b, o + j, none⟩ = false) :
    ∃ vs, ∀ ty, (Builtin.clear_ #[23] ty #[.slice (some ⟨b, o, none⟩) n c]).run Try.prog w = .ok (.tuple #[]) (w.setCells b o vs) := by
  refine ⟨(Builtin.zeroCells #[.string ⟨#[]⟩, .int .i64 0, .int .i64 0] n).toList, fun ty => ?_⟩
  have hlen : (Builtin.zeroCells #[.string ⟨#[]⟩, .int .i64 0, .int .i64 0] n).toList.length = n * 3 := by simp [Builtin.zeroCells]
  have hv : ∀ w, (zeroValue 34).run Try.prog w = .ok (.agg #[.string ⟨#[]⟩, .int .i64 0, .int .i64 0]) w := Try.zeroValue34
  have hst := run_storeCells_cells (P := Try.prog) b o (Builtin.zeroCells #[.string ⟨#[]⟩, .int .i64 0, .int .i64 0] n).toList 0 w (by rw [hlen]; simpa using hc) (by rw [hlen]; simpa using hf) (by
    intro v hv'
    simp [Builtin.zeroCells] at hv'
    obtain ⟨j, hj, rfl⟩ := hv'
    have : j % 3 = 0 ∨ j % 3 = 1 ∨ j % 3 = 2 := by omega
    rcases this with h | h | h <;> simp [h] <;> rfl)
  simp only [Nat.add_zero] at hst
  obtain ⟨m, rfl⟩ : ∃ m, n = m + 1 := ⟨n - 1, by omega⟩
  simp [Builtin.clear_, run_underlying Try.underlying23, hv, hst, Value.cells]
end Go.Proofs.Ytfmedinhlmiaeaa
/- What slices.DeleteFunc answers of dependencies in a row of the caller's own. -/
namespace Go.Proofs.Ytfmedinhlmiaeaa
open Go.RowKit
set_option linter.unusedVariables false
set_option linter.unusedSimpArgs false

abbrev kept (p : De → Bool) (l : List De) : List De := l.filter fun d => !p d
theorem kept_all {p : De → Bool} {l : List De} (h : fidxD p l = -1) : kept p l = l := by
  unfold fidxD at h
  cases e : l.findIdx? p with
  | some i => rw [e] at h; simp at h
  | none =>
    rw [List.findIdx?_eq_none_iff] at e
    unfold kept
    rw [List.filter_eq_self]
    intro x hx
    simp [e x hx]
theorem fidxD_cases (p : De → Bool) (l : List De) : fidxD p l = -1 ∨ ∃ (i : Nat) (h : i < l.length), fidxD p l = i ∧ p l[i] = true ∧ kept p (l.take i) = l.take i := by
  cases e : l.findIdx? p with
  | none => left; simp [fidxD, e]
  | some i =>
    right
    have e' := e
    rw [List.findIdx?_eq_some_iff_getElem] at e
    obtain ⟨hi, hh, hn⟩ := e
    refine ⟨i, hi, by simp [fidxD, e'], hh, ?_⟩
    unfold kept
    rw [List.filter_eq_self]
    intro x hx
    obtain ⟨j, hj, rfl⟩ := List.getElem_of_mem hx
    simp at hj
    rw [List.getElem_take]
    simpa using hn j (by omega)
theorem kept_step (p : De → Bool) (l : List De) (j : Nat) (h : j < l.length) : kept p (l.take (j + 1)) = kept p (l.take j) ++ (if p l[j] then [] else [l[j]]) := by
  unfold kept
  rw [List.take_succ_eq_append_getElem h, List.filter_append]
  cases hp : p l[j] <;> simp [List.filter_cons, hp]
theorem take_set_snoc {L : List De} {i : Nat} (h : i < L.length) (d : De) : (L.set i d).take (i + 1) = L.take i ++ [d] := by
  rw [List.take_succ_eq_append_getElem (by simpa using h), List.take_set_of_le (Nat.le_refl _)]
  simp
theorem drop_set {L : List De} {i j : Nat} (h : i < j) (d : De) : (L.set i d).drop j = L.drop j := List.drop_set_of_lt h
theorem get_of_drop {L l : List De} {j : Nat} (hj : j < l.length) (hL : L.length = l.length) (h : L.drop j = l.drop j) : L[j]'(by omega) = l[j] := by
  have h1 := congrArg (fun x => x[0]?) h
  simp only [List.getElem?_drop, Nat.add_zero] at h1
  rw [List.getElem?_eq_getElem (by omega), List.getElem?_eq_getElem hj] at h1
  exact Option.some.inj h1
theorem drop_next {L l : List De} {j : Nat} (h : L.drop j = l.drop j) : L.drop (j + 1) = l.drop (j + 1) := by
  have e1 : L.drop (j + 1) = (L.drop j).drop 1 := by rw [List.drop_drop]
  have e2 : l.drop (j + 1) = (l.drop j).drop 1 := by rw [List.drop_drop]
  rw [e1, e2, h]

set_option maxRecDepth 100000 in
set_option maxHeartbeats 3200000 in
theorem delFunc_any (g : Nat) (lb : Array Value) (eg : ∀ args w, (callFunc g args).run Try.prog w = .ok (.enter g args) w) (p : De → Bool) (v : Value) (base : Nat) (l : List De) (w : World) (hl : l.length ≤ 1000000) (ho : OwnD w base v l) (hbs : base ≤ w.heap.size) (hp : PredD g lb p l base w) :
    Calls Try.prog 35 #[v, .func (.func g) #[] lb] w fun e w' => ∃ v', e = .returned v' ∧ OwnD w' base v' (kept p l) ∧ Below base w w' := by
  obtain ⟨a, cap, rfl⟩ := ho.shape
  have hcon := idxFunc_any g lb eg p a cap base l w hl (by obtain ⟨a', c', e, _, _, _, hr⟩ := DepAt.of_own ho; cases e; exact hr) hbs hp
  rcases fidxD_cases p l with hf | ⟨i0, hi0, hf, hpi, hk0⟩
  · rw [hf] at hcon
    have HK := Lib.hid (kept_all hf)
    have HO := Lib.hid ho
    clear ho hp hf
    go_enter Try.func35, Try.ntmps35
    go_wp2_with (go_at_call 46; refine hcon.mono ?_; rintro e w1 ⟨rfl, hb⟩)
    go_ret
    exact ⟨_, rfl, by rw [HK.out]; exact HO.out.below hb, hb.mono hbs⟩
  · rw [hf] at hcon
    obtain ⟨gg, rfl⟩ : ∃ gg, a = some ⟨gg, 0, none⟩ := by
      rcases ho.2 with ⟨e, h0⟩ | ⟨gg, cap', cur, e, _⟩
      · omega
      · cases e; exact ⟨gg, rfl⟩
    obtain ⟨_, hcl, hcm⟩ := ho.cap
    obtain ⟨hgb, hgl⟩ := ho.blk
    unfold maxLen at hcm
    have HO := Lib.hid ho
    have HP := Lib.hid hp
    have HK0 := Lib.hid hk0
    have HPI := Lib.hid hpi
    clear ho hp hf hk0 hpi
    have hi1 : ((i0 : Int) == -1) = false := by simp
    go_enter Try.func35, Try.ntmps35
    go_wp2_with (go_at_call 46; refine hcon.mono ?_; rintro e w1 ⟨rfl, hb⟩)
    have HB1 := Lib.hid hb
    have HO1 := Lib.hid (HO.out.below hb)
    clear hb
    go_loopw [5, 6] (fun s5 s6 wr => ∃ (i j : Nat) (L : List De), i < j ∧ j ≤ l.length ∧ s5 = .int .i64 i ∧ s6 = .int .i64 j ∧ L.length = l.length ∧ OwnD wr base (.slice (some ⟨gg, 0, none⟩) L.length cap) L ∧ i = (kept p (l.take j)).length ∧ L.take i = kept p (l.take j) ∧ L.drop j = l.drop j ∧ Below base w wr) (fun _ s6 _ => l.length - (intOf s6).toNat)
    case atStart => 
      have e : kept p (l.take (i0 + 1)) = l.take i0 := by rw [kept_step p l i0 hi0, HK0.out, HPI.out]; simp
      refine ⟨i0, i0 + 1, l, by omega, by omega, rfl, by go_num, rfl, HO1.out, by rw [e]; simp; omega, by rw [e], rfl, HB1.out.mono hbs⟩
    case round =>
      obtain ⟨i, j, L, hij, hj, rfl, rfl, hLl, hoL, hi, hkt, hkd, hbel⟩ := hrel
      have HL := Lib.hid hLl
      have HOL := Lib.hid hoL
      have HI := Lib.hid hi
      have HT := Lib.hid hkt
      have HD := Lib.hid hkd
      have hgr : gg < wr.heap.size := (hoL.blk).2
      have hwb : base ≤ wr.heap.size := by have := hbel.size; omega
      clear hoL hi hkt hkd hLl
      by_cases hlt : j < l.length
      · have hjL : j < L.length := by rw [HL.out]; exact hlt
        obtain ⟨c0, c1, c2⟩ := HOL.out.at j hjL
        have hcall := HP.out (wr.alloc (.cells #[.string l[j].1, .int .i64 l[j].2.1, .int .i64 l[j].2.2] 34)) l[j] (List.getElem_mem hlt) (hbel.alloc hwb _)
        rw [get_of_drop hlt HL.out HD.out] at c0 c1 c2
        have HS := Lib.hid (kept_step p l j hlt)
        generalize l[j] = d at c0 c1 c2 hcall HS
        obtain ⟨x, y, z⟩ := d
        dsimp only [dv] at c0 c1 c2 hcall
        have hX := VarD.new wr x y z 34
        have HX := Lib.hid hX
        have hb1 : Below wr.heap.size wr (wr.alloc (.cells #[.string x, .int .i64 y, .int .i64 z] 34)) := balloc (Below.refl _ _) _
        clear hX
        have hjl : (j : Int) < (l.length : Int) := by omega
        cases hq : p (x, y, z) with
        | true =>
          rw [hq] at hcall
          rw [hq] at HS
          go_wp2_with (go_at_fn g; refine hcall.mono ?_; rintro e w2 ⟨rfl, hb2⟩)
          go_roundw
          case rel => exact ⟨i, j + 1, L, by omega, by omega, rfl, by go_num, HL.out, HOL.out.below (bstep hb1 hb2), by rw [HS.out]; simpa using HI.out, by rw [HS.out]; simpa using HT.out, drop_next HD.out, hbel.trans ((bstep hb1 hb2).mono hwb)⟩
          case measure => simp [intOf]; omega
        | false =>
          rw [hq] at hcall
          rw [hq] at HS
          have hil : (i : Int) < (l.length : Int) := by omega
          go_wp2_with (go_at_fn g; refine hcall.mono ?_; rintro e w2 ⟨rfl, hb2⟩; obtain ⟨x0, x1, x2, _, _, _⟩ := HX.out.keep hb2; have HO2 := Lib.hid (HOL.out.below (bstep hb1 hb2)); have HB2 := Lib.hid (hbel.trans ((bstep hb1 hb2).mono hwb)); obtain ⟨q0, q1, q2⟩ := HO2.out.at i (by omega); have r0 := HO2.out.fr (i * 3); have r1 := HO2.out.fr (i * 3 + 1); have r2 := HO2.out.fr (i * 3 + 2))
          go_roundw
          case rel =>
            refine ⟨i + 1, j + 1, L.set i (x, y, z), by omega, by omega, by go_num, by go_num, by rw [List.length_set]; exact HL.out, by rw [List.length_set]; exact HO2.out.set i (by omega) x y z, ?_, ?_, ?_, below_set HB2.out hgb _ _ _⟩
            · rw [HS.out, List.length_append, ← HI.out]; simp
            · rw [HS.out, take_set_snoc (by omega), HT.out]; simp
            · rw [drop_set (by omega)]; exact drop_next HD.out
          case measure => simp [intOf]; omega
      · obtain rfl : j = l.length := by omega
        have hil : (i : Int) < (l.length : Int) := by omega
        obtain ⟨vs, hclr⟩ := run_clear_dep wr gg (i * 3) (l.length - i) (cap - i) (by omega)
          (fun q hq => by
            have h3 : (i * 3 + q) / 3 < L.length := by rw [HL.out]; omega
            obtain ⟨a0, a1, a2⟩ := HOL.out.at ((i * 3 + q) / 3) h3
            rcases (show i * 3 + q = (i * 3 + q) / 3 * 3 ∨ i * 3 + q = (i * 3 + q) / 3 * 3 + 1 ∨ i * 3 + q = (i * 3 + q) / 3 * 3 + 2 by omega) with e | e | e
            · rw [e, a0]; rfl
            · rw [e, a1]; rfl
            · rw [e, a2]; rfl)
          (fun q hq => HOL.out.fr _)
        go_wp2
        go_ret
        refine ⟨.slice (some ⟨gg, 0, none⟩) i cap, rfl, ?_, below_setCells hgb _ _ _ hbel⟩
        obtain ⟨xs', h1, h2⟩ := own_setCells vs wr (i * 3) _ HOL.out
        have h3 := own_cut h1 (k := i) (by rw [HL.out]; omega)
        have h4 := HT.out
        have h5 := HI.out
        rw [List.take_length] at h4 h5
        rw [h2, ← dV_take, h4] at h3
        unfold OwnD
        rw [← h5]
        exact h3
end Go.Proofs.Ytfmedinhlmiaeaa
/- Contracts of the library's own functions at this program, laid by the kit's own tool. -/
namespace Go.Proofs
open Go.Shelf
def Try.growV_ren : Go.Shelf.Ren := ⟨fun | 4 => 53 | n => n, fun | 22 => 31 | 25 => 27 | 3 => 3 | 4 => 4 | 9 => 9 | 20 => 20 | 0 => 0 | n => n, fun | n => n⟩
theorem Try.growV : Go.Proofs.Lays8.n4 Try.prog Try.growV_ren := {
  mixed := by kernel_rfl
  f4 := ⟨Try.f53.name, by decide, Try.func53.trans (congrArg some (by kernel_rfl))⟩
  t0 := Try.underlying0
  a0 := Try.isAgg0
  z0 := Try.sizeOf0
  v0 := Try.zeroValue0
  t3 := Try.underlying3
  a3 := Try.isAgg3
  z3 := Try.sizeOf3
  v3 := Try.zeroValue3
  t4 := Try.underlying4
  a4 := Try.isAgg4
  z4 := Try.sizeOf4
  v4 := Try.zeroValue4
  t9 := Try.underlying9
  a9 := Try.isAgg9
  z9 := Try.sizeOf9
  v9 := Try.zeroValue9
  t20 := Try.underlying20
  a20 := Try.isAgg20
  z20 := Try.sizeOf20
  v20 := Try.zeroValue20
  t22 := Try.underlying31
  a22 := Try.isAgg31
  z22 := Try.sizeOf31
  v22 := Try.zeroValue31 }
end Go.Proofs
/- What slices.Clone and slices.Concat answer of dependencies. -/
namespace Go.Proofs.Ytfmedinhlmiaeaa
open Go.RowKit
set_option linter.unusedVariables false
set_option linter.unusedSimpArgs false

set_option maxRecDepth 100000 in
set_option maxHeartbeats 1600000 in
theorem clone_any (v : Value) (l : List De) (w : World) (hl : l.length ≤ 100000) (hr : DepAt w v l) :
    Calls Try.prog 49 #[v] w fun e w' => ∃ v', e = .returned v' ∧ OwnD w' w.heap.size v' l ∧ Below w.heap.size w w' := by
  have hq : ∀ (w : World) (a : Option Addr) (n c n' c' : Nat), (binOp .eql 23 (.slice a n c) (.slice none n' c')).run Try.prog w = .ok (.bool a.isNone) w := fun w a n c n' c' => Lib.run_eql_slice_nil w _ _ a n c n' c' Try.underlying23
  have HV := Lib.hid hr
  obtain ⟨a, cap, rfl, hcap, hmx, hnil, hr⟩ := hr
  cases a with
  | none =>
    have h0 := hnil rfl
    obtain rfl : l = [] := List.length_eq_zero_iff.1 (by omega)
    clear hr hnil
    go_enter Try.func49, Try.ntmps49
    go_wp2
    go_ret
    exact ⟨_, rfl, OwnD.nil _ _, Below.refl _ _⟩
  | some a =>
    have ho : OwnD (w.alloc (.cells #[] 34)) w.heap.size (.slice (some ⟨w.heap.size, 0, none⟩) 0 0) [] := World.ownsRow_made w #[] 0 (Nat.le_refl _) (Nat.zero_le _) (by simp)
    have HO := Lib.hid ho
    have HA := Lib.hid (HV.out.alloc (.cells #[] 34))
    clear hr ho hnil
    go_enter Try.func49, Try.ntmps49
    go_wp2_with (at_builtin; refine wp_appD rfl _ _ rfl w.heap.size (.slice (some ⟨w.heap.size, 0, none⟩) 0 0) (.slice (some a) l.length cap) [] l rfl HO.out rfl HA.out (by simp; omega) (by simp) ?_; intro v' w1 ho1 hb1 hk1 hn1; obtain ⟨sa, sc, rfl⟩ := ho1.shape)
    go_ret
    exact ⟨_, rfl, by simpa using ho1, (balloc (Below.refl _ w) _).trans hb1⟩

/-- A row of slices in memory. -/
def RowsIn (w : World) (a : Option Addr) (vs : List Value) : Prop := ∀ i (h : i < vs.length), ∃ b off, a = some ⟨b, off, none⟩ ∧ b < w.heap.size ∧ w.cell? ⟨b, off + i, none⟩ = some vs[i]
theorem RowsIn.below {w w' : World} {a : Option Addr} {vs : List Value} (h : RowsIn w a vs) (hb : Below w.heap.size w w') : RowsIn w' a vs := by
  intro i hi
  obtain ⟨b, off, rfl, hlt, h0⟩ := h i hi
  exact ⟨b, off, rfl, by have := hb.size; omega, kcell hb hlt h0⟩
/-- They read as these pasts. -/
def RowsAt (w : World) (a : Option Addr) (ls : List (List De)) : Prop := ∃ vs : List Value, vs.length = ls.length ∧ RowsIn w a vs ∧ ∀ i (h : i < vs.length) (h' : i < ls.length), DepAt w vs[i] ls[i]
theorem RowsAt.below {w w' : World} {a : Option Addr} {ls : List (List De)} (h : RowsAt w a ls) (hb : Below w.heap.size w w') : RowsAt w' a ls := by
  obtain ⟨vs, h1, h2, h3⟩ := h
  exact ⟨vs, h1, h2.below hb, fun i hi hi' => (h3 i hi hi').below hb⟩
theorem RowsAt.get {w : World} {a : Option Addr} {ls : List (List De)} (h : RowsAt w a ls) (i : Nat) (hi : i < ls.length) : ∃ b off u, a = some ⟨b, off, none⟩ ∧ b < w.heap.size ∧ w.cell? ⟨b, off + i, none⟩ = some u ∧ DepAt w u ls[i] := by
  obtain ⟨vs, h1, h2, h3⟩ := h
  obtain ⟨b, off, e, hlt, hc⟩ := h2 i (by omega)
  exact ⟨b, off, vs[i]'(by omega), e, hlt, hc, h3 i (by omega) hi⟩
def tot (ls : List (List De)) : Nat := (ls.map List.length).sum
theorem tot_take (ls : List (List De)) (k : Nat) (h : k < ls.length) : tot (ls.take (k + 1)) = tot (ls.take k) + ls[k].length := by
  unfold tot
  rw [List.take_succ_eq_append_getElem h, List.map_append, List.sum_append, List.map_singleton, List.sum_singleton]
theorem tot_flat (ls : List (List De)) : ls.flatten.length = tot ls := by simp [tot, List.length_flatten]
theorem flat_take (ls : List (List De)) (k : Nat) (h : k < ls.length) : (ls.take (k + 1)).flatten = (ls.take k).flatten ++ ls[k] := by
  rw [List.take_succ_eq_append_getElem h, List.flatten_append]
  simp only [List.flatten_cons, List.flatten_nil, List.append_nil]
theorem tot_mono (ls : List (List De)) (k : Nat) : tot (ls.take k) ≤ tot ls := by
  unfold tot
  have h : (ls.map List.length).sum = ((ls.take k).map List.length).sum + ((ls.drop k).map List.length).sum := by
    rw [← List.sum_append, ← List.map_append, List.take_append_drop]
  omega

end Go.Proofs.Ytfmedinhlmiaeaa
/- Rows of ranges in memory. -/
namespace Go.Proofs.Ytfmedinhlmiaeaa
open Go.RowKit
set_option linter.unusedVariables false

theorem RngIn.below {w w' : World} {a : Option Addr} {rs : List (ByteArray × ByteArray)} (h : RngIn w a rs) (hb : Below w.heap.size w w') : RngIn w' a rs := by
  intro i hi
  obtain ⟨b, off, rfl, hlt, h0, h1⟩ := h i hi
  exact ⟨b, off, rfl, by have := hb.size; omega, kcell hb hlt h0, kcell hb hlt h1⟩

/-- The texts of ranges. -/
def tls (rs : List (ByteArray × ByteArray)) : List (List UInt8 × List UInt8) := rs.map fun r => (r.1.data.toList, r.2.data.toList)
theorem tls_len (rs : List (ByteArray × ByteArray)) : (tls rs).length = rs.length := by simp [tls]
theorem tls_get (rs : List (ByteArray × ByteArray)) (i : Nat) (h : i < rs.length) : (tls rs)[i]'(by rw [tls_len]; exact h) = (rs[i].1.data.toList, rs[i].2.data.toList) := by simp [tls]
theorem tls_take (rs : List (ByteArray × ByteArray)) (k : Nat) : (tls rs).take k = tls (rs.take k) := by simp [tls, List.map_take]

end Go.Proofs.Ytfmedinhlmiaeaa
/- The place of the first range that has a key. -/
namespace Go.Proofs.Ytfmedinhlmiaeaa
open Go.RowKit
set_option linter.unusedVariables false

namespace Km
def fidx (rs : List (List UInt8 × List UInt8)) (key : List UInt8) : Int := match rs.findIdx? (fun r => has r.1 r.2 key) with | none => -1 | some i => i
theorem fidx_hit {rs : List (List UInt8 × List UInt8)} {key : List UInt8} {k : Nat} (hk : k < rs.length) (h : ∀ j (hj : j < rs.length), j < k → has rs[j].1 rs[j].2 key = false) (hh : has rs[k].1 rs[k].2 key = true) : fidx rs key = k := by
  unfold fidx
  have : rs.findIdx? (fun r => has r.1 r.2 key) = some k := by
    rw [List.findIdx?_eq_some_iff_getElem]
    refine ⟨hk, by simpa using hh, fun j hj => ?_⟩
    rw [h j (by omega) hj]
    simp
  rw [this]
theorem fidx_none {rs : List (List UInt8 × List UInt8)} {key : List UInt8} (h : ∀ j (hj : j < rs.length), has rs[j].1 rs[j].2 key = false) : fidx rs key = -1 := by
  unfold fidx
  have : rs.findIdx? (fun r => has r.1 r.2 key) = none := by
    rw [List.findIdx?_eq_none_iff]
    intro x hx
    obtain ⟨j, hj, rfl⟩ := List.getElem_of_mem hx
    exact h j hj
  rw [this]
end Km
end Go.Proofs.Ytfmedinhlmiaeaa
