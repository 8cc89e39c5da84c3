/- What slices.IndexFunc and slices.DeleteFunc answer of versions. -/
import Derived.Test.YtfmedinhlmiaeaaGQ27
import Derived.Test.YtfmedinhlmiaeaaChHead
import Derived.Lib.SliceRun
namespace Go.Proofs.Ytfmedinhlmiaeaa
open Go.RowKit
set_option linter.unusedVariables false
set_option linter.unusedSimpArgs false

theorem rKW_cons (x : Vw) (l : List Vw) : rV KW (x :: l) = .string x.1.key :: .string x.1.val :: .bool x.1.gone :: .int .i64 x.1.st.1 :: .int .i64 x.1.st.2 :: pw x :: rV KW l := rfl
theorem rKW_set (l : List Vw) (i : Nat) (x : Vw) (h : i < l.length) : ((((((rV KW l).set (i * 6) (.string x.1.key)).set (i * 6 + 1) (.string x.1.val)).set (i * 6 + 2) (.bool x.1.gone)).set (i * 6 + 3) (.int .i64 x.1.st.1)).set (i * 6 + 4) (.int .i64 x.1.st.2)).set (i * 6 + 5) (pw x) = rV KW (l.set i x) := by
  induction l generalizing i with
  | nil => simp at h
  | cons r t ih =>
    cases i with
    | zero => simp [rKW_cons]
    | succ i =>
      have := ih i (by simpa using h)
      rw [List.set_cons_succ, rKW_cons, rKW_cons, ← this, show (i + 1) * 6 = i * 6 + 1 + 1 + 1 + 1 + 1 + 1 by omega]
      simp
theorem rKW_take (l : List Vw) (k : Nat) : rV KW (l.take k) = (rV KW l).take (k * 6) := by
  induction l generalizing k with
  | nil => simp [rV]
  | cons r t ih =>
    cases k with
    | zero => simp [rV]
    | succ k =>
      rw [List.take_succ_cons, rKW_cons, rKW_cons, ih, show (k + 1) * 6 = k * 6 + 1 + 1 + 1 + 1 + 1 + 1 by omega]
      simp
abbrev putv6 (w : World) (g o : Nat) (x : Vw) : World := (((((w.setCell ⟨g, o, none⟩ (.string x.1.key)).setCell ⟨g, o + 1, none⟩ (.string x.1.val)).setCell ⟨g, o + 2, none⟩ (.bool x.1.gone)).setCell ⟨g, o + 3, none⟩ (.int .i64 x.1.st.1)).setCell ⟨g, o + 4, none⟩ (.int .i64 x.1.st.2)).setCell ⟨g, o + 5, none⟩ (pw x)
theorem below_putv6 {base g o : Nat} {w w' : World} (hb : Below base w w') (hg : base ≤ g) (x : Vw) : Below base w (putv6 w' g o x) :=
  (((((hb.setCell hg _).setCell hg _).setCell hg _).setCell hg _).setCell hg _).setCell hg _
theorem OwnR.setW {w : World} {base g cap : Nat} {xs : List Vw} (h : OwnR KW w base (.slice (some ⟨g, 0, none⟩) xs.length cap) xs) (k : Nat) (hk : k < xs.length) (x : Vw) :
    OwnR KW (putv6 w g (k * 6) x) base (.slice (some ⟨g, 0, none⟩) xs.length cap) (xs.set k x) := by
  have h6 := ((((((h.stored (k * 6) (.string x.1.key)).1.stored (k * 6 + 1) (.string x.1.val)).1.stored (k * 6 + 2) (.bool x.1.gone)).1.stored (k * 6 + 3) (.int .i64 x.1.st.1)).1.stored (k * 6 + 4) (.int .i64 x.1.st.2)).1.stored (k * 6 + 5) (pw x)).1
  unfold OwnR
  rw [← rKW_set xs k x hk, List.length_set]
  exact h6
theorem OwnR.atW {w : World} {base g n cap : Nat} {xs : List Vw} (h : OwnR KW w base (.slice (some ⟨g, 0, none⟩) n cap) xs) (i : Nat) (hi : i < xs.length) : VwQ w g (i * 6) xs[i] := by
  obtain ⟨g', cap', e, _, _, _, hlt, hc⟩ := h.cell kw_ok i hi
  cases e
  refine VwQ.of_row (fun j u hu => ?_)
  have := hc j u hu
  rw [Nat.zero_add] at this
  exact this
theorem OwnR.frW {w : World} {base g cap : Nat} {xs : List Vw} (h : OwnR KW w base (.slice (some ⟨g, 0, none⟩) xs.length cap) xs) (j : Nat) : w.frozen? ⟨g, j, none⟩ = false := h.frozenAt j
theorem OwnR.blkW {w : World} {base g n cap : Nat} {xs : List Vw} (h : OwnR KW w base (.slice (some ⟨g, 0, none⟩) n cap) xs) : base ≤ g ∧ g < w.heap.size := h.lt g rfl
theorem own_setCellsW {base e n cap g : Nat} : ∀ (vs : List Value) (w : World) (o : Nat) (xs : List Value), w.ownsRow base e 6 (.slice (some ⟨g, 0, none⟩) n cap) n xs →
    ∃ xs', (w.setCells g o vs).ownsRow base e 6 (.slice (some ⟨g, 0, none⟩) n cap) n xs' ∧ xs'.take o = xs.take o
  | [], w, o, xs, h => ⟨xs, h, rfl⟩
  | v :: vs, w, o, xs, h => by
    obtain ⟨xs', h1, h2⟩ := own_setCellsW vs _ (o + 1) _ (h.stored o v).1
    refine ⟨xs', h1, ?_⟩
    have : xs'.take o = (xs'.take (o + 1)).take o := by rw [List.take_take, Nat.min_eq_left (by omega)]
    rw [this, h2, List.take_take, Nat.min_eq_left (by omega), List.take_set_of_le (Nat.le_refl _)]
theorem below_setCellsW {base g : Nat} {w0 : World} (hg : base ≤ g) : ∀ (vs : List Value) (w : World) (o : Nat), Below base w0 w → Below base w0 (w.setCells g o vs)
  | [], w, o, h => h
  | v :: vs, w, o, h => below_setCellsW hg vs _ (o + 1) (h.setCell hg v)
/-- A part of a row. -/
theorem own_cutW {base e n cap g k : Nat} {w : World} {xs : List Value} (h : w.ownsRow base e 6 (.slice (some ⟨g, 0, none⟩) n cap) n xs) (hk : k ≤ n) : w.ownsRow base e 6 (.slice (some ⟨g, 0, none⟩) k cap) k (xs.take (k * 6)) := by
  rcases h.2 with ⟨h', _⟩ | ⟨g', cap', cur, h', hb, hg, hnc, hcm, hcs, htake⟩
  · simp at h'
  · simp only [Value.slice.injEq, Option.some.injEq, Addr.mk.injEq, and_true, true_and] at h'
    obtain ⟨rfl, rfl⟩ := h'
    refine ⟨by rw [List.length_take, h.1]; omega, .inr ⟨g, cap, cur, rfl, hb, hg, by omega, hcm, hcs, ?_⟩⟩
    rw [← htake, List.take_take, Nat.min_eq_left (by omega)]


theorem run_clear_ver (w : World) (b o n c : Nat) (hn : 0 < n) (hc : ∀ j, j < n * 6 → (w.cell? ⟨b, o + j, none⟩).isSome = true) (hf : ∀ j, j < n * 6 → w.frozen? ⟨b, o + j, none⟩ = false) :
    ∃ vs, ∀ ty, (Builtin.clear_ #[31] ty #[.slice (some ⟨b, o, none⟩) n c]).run Try.prog w = .ok (.tuple #[]) (w.setCells b o vs) := by
  refine ⟨(Builtin.zeroCells #[.string ⟨#[]⟩, .string ⟨#[]⟩, .bool false, .int .i64 0, .int .i64 0, .slice none 0 0] n).toList, fun ty => ?_⟩
  have hlen : (Builtin.zeroCells #[.string ⟨#[]⟩, .string ⟨#[]⟩, .bool false, .int .i64 0, .int .i64 0, .slice none 0 0] n).toList.length = n * 6 := by simp [Builtin.zeroCells]
  have hv : ∀ w, (zeroValue 27).run Try.prog w = .ok (.agg #[.string ⟨#[]⟩, .string ⟨#[]⟩, .bool false, .int .i64 0, .int .i64 0, .slice none 0 0]) w := Try.zeroValue27
  have hst := run_storeCells_cells (P := Try.prog) b o (Builtin.zeroCells #[.string ⟨#[]⟩, .string ⟨#[]⟩, .bool false, .int .i64 0, .int .i64 0, .slice none 0 0] n).toList 0 w (by rw [hlen]; simpa using hc) (by rw [hlen]; simpa using hf) (by
    intro v hv'
    simp [Builtin.zeroCells] at hv'
    obtain ⟨j, hj, rfl⟩ := hv'
    have : j % 6 = 0 ∨ j % 6 = 1 ∨ j % 6 = 2 ∨ j % 6 = 3 ∨ j % 6 = 4 ∨ j % 6 = 5 := by omega
    rcases this with h | h | h | h | h | h <;> simp [h] <;> rfl)
  simp only [Nat.add_zero] at hst
  obtain ⟨m, rfl⟩ : ∃ m, n = m + 1 := ⟨n - 1, by omega⟩
  simp [Builtin.clear_, run_underlying Try.underlying31, hv, hst, Value.cells]
/-- The place of the first one; -1: there is none. -/
def fidxW (p : Vw → Bool) (l : List Vw) : Int := match l.findIdx? p with | none => -1 | some i => i
theorem fidxW_hit {p : Vw → Bool} {l : List Vw} {k : Nat} (hk : k < l.length) (h : ∀ j (hj : j < l.length), j < k → p l[j] = false) (hh : p l[k] = true) : fidxW p l = k := by
  have e : l.findIdx? p = some k := by
    rw [List.findIdx?_eq_some_iff_getElem]
    exact ⟨hk, hh, fun j hj => by simpa using h j (by omega) hj⟩
  simp [fidxW, e]
theorem fidxW_none {p : Vw → Bool} {l : List Vw} (h : ∀ j (hj : j < l.length), p l[j] = false) : fidxW p l = -1 := by
  have e : l.findIdx? p = none := by
    rw [List.findIdx?_eq_none_iff]
    intro x hx
    obtain ⟨j, hj, rfl⟩ := List.getElem_of_mem hx
    simpa using h j hj
  simp [fidxW, e]


set_option maxRecDepth 100000 in
set_option maxHeartbeats 800000 in
theorem idxFuncW_any (g : Nat) (lb : Array Value) (eg : ∀ args w, (callFunc g args).run Try.prog w = .ok (.enter g args) w) (p : Vw → Bool) (a : Option Addr) (cap base : Nat) (l : List Vw) (w : World) (hl : l.length ≤ 1000000) (hr : RowIn KW w a l) (hbs : base ≤ w.heap.size) (hp : PredW g lb p l base w) :
    Calls Try.prog 58 #[.slice a l.length cap, .func (.func g) #[] lb] w fun e w' => e = .returned (.int .i64 (fidxW p l)) ∧ Below w.heap.size w w' := by
  have HR := Lib.hid hr
  have HP := Lib.hid hp
  clear hr hp
  go_enter Try.func58, Try.ntmps58
  go_wp2
  go_loopw [8] (fun i wr => ∃ k : Nat, k ≤ l.length ∧ i = .int .i64 k ∧ (∀ j (hj : j < l.length), j < k → p l[j] = false) ∧ Below w.heap.size w wr) (fun i _ => l.length - (intOf i).toNat)
  case atStart => exact ⟨0, by omega, rfl, (fun j hj h => by omega), Below.refl _ _⟩
  case round =>
    obtain ⟨k, hk, rfl, hall, hbel⟩ := hrel
    have HA := Lib.hid hall
    clear hall
    by_cases hlt : k < l.length
    · obtain ⟨b, off, rfl, hbl, hcs⟩ := HR.out.below hbel k hlt
      obtain ⟨c0, c1, c2, c3, c4, c5⟩ := VwQ.of_row hcs
      clear hcs
      have hcall := HP.out wr l[k] (List.getElem_mem hlt) (hbel.mono hbs)
      have HH := Lib.hid (@fidxW_hit p l k hlt HA.out)
      have HN : Hid (p l[k] = false → ∀ j (hj : j < l.length), j < k + 1 → p l[j] = false) := Lib.hid (fun h j hj h2 => by
        by_cases e : j = k
        · subst e; exact h
        · exact HA.out j hj (by omega))
      generalize l[k] = d at c0 c1 c2 c3 c4 c5 hcall HH HN
      obtain ⟨⟨key, val, gone, ⟨m, t⟩, past⟩, pa, pc⟩ := d
      dsimp only [wV, wcs, wvs, pw, KW] at c0 c1 c2 c3 c4 c5 hcall
      cases hq : p (⟨key, val, gone, (m, t), past⟩, pa, pc) with
      | true =>
        rw [hq] at hcall
        have HQ := Lib.hid hq
        clear hq
        go_wp2_with (go_at_fn g; refine hcall.mono ?_; rintro e w' ⟨rfl, hb'⟩)
        go_ret
        exact ⟨ret_int (HH.out HQ.out).symm, bstep hbel hb'⟩
      | false =>
        rw [hq] at hcall
        have HQ := Lib.hid hq
        clear hq
        go_wp2_with (go_at_fn g; refine hcall.mono ?_; rintro e w' ⟨rfl, hb'⟩)
        go_roundw
        case rel => exact ⟨k + 1, by omega, by go_num, HN.out HQ.out, bstep hbel hb'⟩
        case measure => simp [intOf]; omega
    · obtain rfl : k = l.length := by omega
      go_wp2
      go_ret
      exact ⟨ret_int (fidxW_none (fun j hj => HA.out j hj hj)).symm, hbel⟩


abbrev keptW (p : Vw → Bool) (l : List Vw) : List Vw := l.filter fun d => !p d
theorem keptW_all {p : Vw → Bool} {l : List Vw} (h : fidxW p l = -1) : keptW p l = l := by
  unfold fidxW at h
  cases e : l.findIdx? p with
  | some i => rw [e] at h; simp at h
  | none =>
    rw [List.findIdx?_eq_none_iff] at e
    unfold keptW
    rw [List.filter_eq_self]
    intro x hx
    simp [e x hx]
theorem fidxW_cases (p : Vw → Bool) (l : List Vw) : fidxW p l = -1 ∨ ∃ (i : Nat) (h : i < l.length), fidxW p l = i ∧ p l[i] = true ∧ keptW p (l.take i) = l.take i := by
  cases e : l.findIdx? p with
  | none => left; simp [fidxW, e]
  | some i =>
    right
    have e' := e
    rw [List.findIdx?_eq_some_iff_getElem] at e
    obtain ⟨hi, hh, hn⟩ := e
    refine ⟨i, hi, by simp [fidxW, e'], hh, ?_⟩
    unfold keptW
    rw [List.filter_eq_self]
    intro x hx
    obtain ⟨j, hj, rfl⟩ := List.getElem_of_mem hx
    simp at hj
    rw [List.getElem_take]
    simpa using hn j (by omega)
theorem keptW_step (p : Vw → Bool) (l : List Vw) (j : Nat) (h : j < l.length) : keptW p (l.take (j + 1)) = keptW p (l.take j) ++ (if p l[j] then [] else [l[j]]) := by
  unfold keptW
  rw [List.take_succ_eq_append_getElem h, List.filter_append]
  cases hp : p l[j] <;> simp [List.filter_cons, hp]
theorem take_set_snocW {L : List Vw} {i : Nat} (h : i < L.length) (d : Vw) : (L.set i d).take (i + 1) = L.take i ++ [d] := by
  rw [List.take_succ_eq_append_getElem (by simpa using h), List.take_set_of_le (Nat.le_refl _)]
  simp
theorem drop_setW {L : List Vw} {i j : Nat} (h : i < j) (d : Vw) : (L.set i d).drop j = L.drop j := List.drop_set_of_lt h
theorem get_of_dropW {L l : List Vw} {j : Nat} (hj : j < l.length) (hL : L.length = l.length) (h : L.drop j = l.drop j) : L[j]'(by omega) = l[j] := by
  have h1 := congrArg (fun x => x[0]?) h
  simp only [List.getElem?_drop, Nat.add_zero] at h1
  rw [List.getElem?_eq_getElem (by omega), List.getElem?_eq_getElem hj] at h1
  exact Option.some.inj h1
theorem drop_nextW {L l : List Vw} {j : Nat} (h : L.drop j = l.drop j) : L.drop (j + 1) = l.drop (j + 1) := by
  have e1 : L.drop (j + 1) = (L.drop j).drop 1 := by rw [List.drop_drop]
  have e2 : l.drop (j + 1) = (l.drop j).drop 1 := by rw [List.drop_drop]
  rw [e1, e2, h]

set_option maxRecDepth 100000 in
set_option maxHeartbeats 3200000 in
theorem delFuncW_any (g : Nat) (lb : Array Value) (eg : ∀ args w, (callFunc g args).run Try.prog w = .ok (.enter g args) w) (p : Vw → Bool) (v : Value) (base : Nat) (l : List Vw) (w : World) (hl : l.length ≤ 1000000) (ho : OwnR KW w base v l) (hbs : base ≤ w.heap.size) (hp : PredW g lb p l base w) :
    Calls Try.prog 43 #[v, .func (.func g) #[] lb] w fun e w' => ∃ v', e = .returned v' ∧ OwnR KW w' base v' (keptW p l) ∧ Below base w w' := by
  obtain ⟨a, cap, rfl⟩ := ho.shape
  have hcon := idxFuncW_any g lb eg p a cap base l w hl (RowIn.of_own kw_ok ho) hbs hp
  rcases fidxW_cases p l with hf | ⟨i0, hi0, hf, hpi, hk0⟩
  · rw [hf] at hcon
    have HK := Lib.hid (keptW_all hf)
    have HO := Lib.hid ho
    clear ho hp hf
    go_enter Try.func43, Try.ntmps43
    go_wp2_with (go_at_call 58; refine hcon.mono ?_; rintro e w1 ⟨rfl, hb⟩)
    go_ret
    exact ⟨_, rfl, by rw [HK.out]; exact HO.out.below hb, hb.mono hbs⟩
  · rw [hf] at hcon
    obtain ⟨gg, rfl⟩ : ∃ gg, a = some ⟨gg, 0, none⟩ := by
      rcases ho.2 with ⟨e, h0⟩ | ⟨gg, cap', cur, e, _⟩
      · omega
      · cases e; exact ⟨gg, rfl⟩
    obtain ⟨hcl, hcm, _⟩ := ho.caps
    obtain ⟨hgb, hgl⟩ := ho.blkW
    unfold maxLen at hcm
    have HO := Lib.hid ho
    have HP := Lib.hid hp
    have HK0 := Lib.hid hk0
    have HPI := Lib.hid hpi
    clear ho hp hf hk0 hpi
    have hi1 : ((i0 : Int) == -1) = false := by simp
    go_enter Try.func43, Try.ntmps43
    go_wp2_with (go_at_call 58; refine hcon.mono ?_; rintro e w1 ⟨rfl, hb⟩)
    have HB1 := Lib.hid hb
    have HO1 := Lib.hid (HO.out.below hb)
    clear hb
    go_loopw [5, 6] (fun s5 s6 wr => ∃ (i j : Nat) (L : List Vw), i < j ∧ j ≤ l.length ∧ s5 = .int .i64 i ∧ s6 = .int .i64 j ∧ L.length = l.length ∧ OwnR KW wr base (.slice (some ⟨gg, 0, none⟩) L.length cap) L ∧ i = (keptW p (l.take j)).length ∧ L.take i = keptW p (l.take j) ∧ L.drop j = l.drop j ∧ Below base w wr) (fun _ s6 _ => l.length - (intOf s6).toNat)
    case atStart => 
      have e : keptW p (l.take (i0 + 1)) = l.take i0 := by rw [keptW_step p l i0 hi0, HK0.out, HPI.out]; simp
      refine ⟨i0, i0 + 1, l, by omega, by omega, rfl, by go_num, rfl, HO1.out, by rw [e]; simp; omega, by rw [e], rfl, HB1.out.mono hbs⟩
    case round =>
      obtain ⟨i, j, L, hij, hj, rfl, rfl, hLl, hoL, hi, hkt, hkd, hbel⟩ := hrel
      have HL := Lib.hid hLl
      have HOL := Lib.hid hoL
      have HI := Lib.hid hi
      have HT := Lib.hid hkt
      have HD := Lib.hid hkd
      have hgr : gg < wr.heap.size := (hoL.blkW).2
      have hwb : base ≤ wr.heap.size := by have := hbel.size; omega
      clear hoL hi hkt hkd hLl
      by_cases hlt : j < l.length
      · have hjL : j < L.length := by rw [HL.out]; exact hlt
        obtain ⟨c0, c1, c2, c3, c4, c5⟩ := HOL.out.atW j hjL
        have hcall := HP.out (wr.alloc (.cells (wcs l[j]) 27)) l[j] (List.getElem_mem hlt) (hbel.alloc hwb _)
        rw [get_of_dropW hlt HL.out HD.out] at c0 c1 c2 c3 c4 c5
        have HS := Lib.hid (keptW_step p l j hlt)
        generalize l[j] = d at c0 c1 c2 c3 c4 c5 hcall HS
        have hX := VwP.new wr d.1 (pw d) 27
        obtain ⟨⟨key, val, gone, ⟨m, t⟩, past⟩, pa, pc⟩ := d
        dsimp only [wV, wcs, wvs, pw] at c0 c1 c2 c3 c4 c5 hcall hX
        have HX := Lib.hid hX
        have hb1 : Below wr.heap.size wr (wr.alloc (.cells #[.string key, .string val, .bool gone, .int .i64 m, .int .i64 t, .slice pa past.length pc] 27)) := balloc (Below.refl _ _) _
        clear hX
        have hjl : (j : Int) < (l.length : Int) := by omega
        cases hq : p (⟨key, val, gone, (m, t), past⟩, pa, pc) with
        | true =>
          rw [hq] at hcall
          rw [hq] at HS
          go_wp2_with (go_at_fn g; refine hcall.mono ?_; rintro e w2 ⟨rfl, hb2⟩)
          go_roundw
          case rel => exact ⟨i, j + 1, L, by omega, by omega, rfl, by go_num, HL.out, HOL.out.below (bstep hb1 hb2), by rw [HS.out]; simpa using HI.out, by rw [HS.out]; simpa using HT.out, drop_nextW HD.out, hbel.trans ((bstep hb1 hb2).mono hwb)⟩
          case measure => simp [intOf]; omega
        | false =>
          rw [hq] at hcall
          rw [hq] at HS
          have hil : (i : Int) < (l.length : Int) := by omega
          go_wp2_with (go_at_fn g; refine hcall.mono ?_; rintro e w2 ⟨rfl, hb2⟩; obtain ⟨x0, x1, x2, x3, x4, x5, _⟩ := HX.out.keep hb2; dsimp only at x0 x1 x2 x3 x4 x5; have HO2 := Lib.hid (HOL.out.below (bstep hb1 hb2)); have HB2 := Lib.hid (hbel.trans ((bstep hb1 hb2).mono hwb)); obtain ⟨q0, q1, q2, q3, q4, q5⟩ := HO2.out.atW i (by omega); have r0 := HO2.out.frW (i * 6); have r1 := HO2.out.frW (i * 6 + 1); have r2 := HO2.out.frW (i * 6 + 2); have r3 := HO2.out.frW (i * 6 + 3); have r4 := HO2.out.frW (i * 6 + 4); have r5 := HO2.out.frW (i * 6 + 5))
          go_roundw
          case rel =>
            refine ⟨i + 1, j + 1, L.set i (⟨key, val, gone, (m, t), past⟩, pa, pc), by omega, by omega, by go_num, by go_num, by rw [List.length_set]; exact HL.out, by rw [List.length_set]; exact HO2.out.setW i (by omega) (⟨key, val, gone, (m, t), past⟩, pa, pc), ?_, ?_, ?_, below_putv6 HB2.out hgb (⟨key, val, gone, (m, t), past⟩, pa, pc)⟩
            · rw [HS.out, List.length_append, ← HI.out]; simp
            · rw [HS.out, take_set_snocW (by omega), HT.out]; simp
            · rw [drop_setW (by omega)]; exact drop_nextW HD.out
          case measure => simp [intOf]; omega
      · obtain rfl : j = l.length := by omega
        have hil : (i : Int) < (l.length : Int) := by omega
        obtain ⟨vs, hclr⟩ := run_clear_ver wr gg (i * 6) (l.length - i) (cap - i) (by omega)
          (fun q hq => by
            have h3 : (i * 6 + q) / 6 < L.length := by rw [HL.out]; omega
            obtain ⟨a0, a1, a2, a3, a4, a5⟩ := HOL.out.atW ((i * 6 + q) / 6) h3
            rcases (show i * 6 + q = (i * 6 + q) / 6 * 6 ∨ i * 6 + q = (i * 6 + q) / 6 * 6 + 1 ∨ i * 6 + q = (i * 6 + q) / 6 * 6 + 2 ∨ i * 6 + q = (i * 6 + q) / 6 * 6 + 3 ∨ i * 6 + q = (i * 6 + q) / 6 * 6 + 4 ∨ i * 6 + q = (i * 6 + q) / 6 * 6 + 5 by omega) with e | e | e | e | e | e
            · rw [e, a0]; rfl
            · rw [e, a1]; rfl
            · rw [e, a2]; rfl
            · rw [e, a3]; rfl
            · rw [e, a4]; rfl
            · rw [e, a5]; rfl)
          (fun q hq => HOL.out.frW _)
        go_wp2
        go_ret
        refine ⟨.slice (some ⟨gg, 0, none⟩) i cap, rfl, ?_, below_setCellsW hgb _ _ _ hbel⟩
        obtain ⟨xs', h1, h2⟩ := own_setCellsW vs wr (i * 6) _ HOL.out
        have h3 := own_cutW h1 (k := i) (by rw [HL.out]; omega)
        have h4 := HT.out
        have h5 := HI.out
        rw [List.take_length] at h4 h5
        rw [h2, ← rKW_take, h4] at h3
        unfold OwnR
        rw [← h5]
        exact h3
end Go.Proofs.Ytfmedinhlmiaeaa
