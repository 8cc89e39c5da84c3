/- Texts of this proof, one behind the other: QuPush, PastFind, PastGet, PastBack. -/
import Derived.Test.YtfmedinhlmiaeaaGQ11
import Derived.Deep.RegionHeld3
import Derived.Deep.RegionLaw
import Derived.Shelf.GgClosure.Gives
import Derived.RangeFuncNested
import Derived.RangeFuncBound
import Derived.RangeFuncCalls
import Derived.RangeFuncLeaves
import Derived.Shelf.Abstract
import Derived.Shelf.RegionOpen
import Derived.WalkKit
import Derived.OwnWalkIn
import Derived.TacticsInMore
import Derived.LoopNIn
import Derived.LoopIn
import Derived.Maps.OwnIn
import Derived.Maps.AppendAt
/- What queue.Push and the document's Push answer. -/
namespace Go.Proofs.Ytfmedinhlmiaeaa
open Go.RowKit
set_option linter.unusedVariables false
set_option linter.unusedSimpArgs false

/-- The error that is told, and the queue that is. -/
def pushE (l : List Vw) (x : Vw) : Int := if okW x.1 then (if 24 ≤ l.length then 15 else 0) else 1
def pushL (l : List Vw) (x : Vw) : List Vw := if okW x.1 then (if 24 ≤ l.length then [] else l ++ [x]) else []

set_option maxRecDepth 100000 in
set_option maxHeartbeats 1600000 in
theorem push_any (v : Value) (l : List Vw) (x : Vw) (w : World) (hl : l.length ≤ 100000) (hr : RowAt KW w v l) (hx : WvB w x.1 (pw x)) :
    Calls Try.prog 22 #[v, wV x] w fun e w' => ∃ v', e = .returned (.tuple #[v', .int .i64 (pushE l x)]) ∧ OwnR KW w' w.heap.size v' (pushL l x) ∧ Below w.heap.size w w' := by
  have hb1 : Below w.heap.size w (w.alloc (.cells (wcs x) 27)) := balloc (Below.refl _ w) _
  have hV := VwP.new w x.1 (pw x) 27
  have hck := wcheckB_any x.1 (pw x) (w.alloc (.cells (wcs x) 27)) (hx.below hb1)
  obtain ⟨a, cap, rfl, hcap, hmx, hnil, hri⟩ := hr
  have hri1 := hri.below hb1
  have HN : Hid (a = none → l = []) := Lib.hid (fun e => List.length_eq_zero_iff.1 (by have := hnil e; omega))
  have HE : Hid (pushE l x = if okW x.1 then (if 24 ≤ l.length then 15 else 0) else 1) := Lib.hid rfl
  have HL : Hid (pushL l x = if okW x.1 then (if 24 ≤ l.length then [] else l ++ [x]) else []) := Lib.hid rfl
  have HENC : Hid ((wcs x).toList = KW.enc x) := Lib.hid rfl
  generalize hpe : pushE l x = pe at HE ⊢
  generalize hpl : pushL l x = pl at HL ⊢
  generalize okW x.1 = c1 at hck HE HL
  clear hpe hpl hx hri hnil
  obtain ⟨⟨key, val, gone, ⟨m, t⟩, past⟩, pa, pc⟩ := x
  dsimp only [wV, wcs, wvs, pw] at *
  have HV := Lib.hid hV
  have HB1 := Lib.hid hb1
  have HR1 := Lib.hid hri1
  clear hV hb1 hri1
  go_enter Try.func22, Try.ntmps22
  go_upto_region 1 with fail
  obtain ⟨c0, c1', c2, c3, c4, c5, _⟩ := HV.out
  dsimp only at c0 c1' c2 c3 c4 c5
  generalize w.alloc (.cells #[.string key, .string val, .bool gone, .int .i64 m, .int .i64 t, .slice pa past.length pc] 27) = w1 at *
  go_wp2_with fail
  refine hck.mono ?_
  rintro e w2 ⟨rfl, hb2⟩
  have d0 := kc hb2 c0
  have d1 := kc hb2 c1'
  have d2 := kc hb2 c2
  have d3 := kc hb2 c3
  have d4 := kc hb2 c4
  have d5 := kc hb2 c5
  have HB2 := Lib.hid (bstep HB1.out hb2)
  have HR2 := Lib.hid (HR1.out.below hb2)
  clear c0 c1' c2 c3 c4 c5 hb2 hck
  cases c1 with
  | false =>
    have h1 : pe = 1 := HE.out
    have h2 : pl = [] := HL.out
    subst h1 h2
    go_wp2
    go_ret2
    exact ⟨_, rfl, OwnR.nil _ _ _, HB2.out⟩
  | true =>
    by_cases h24 : 24 ≤ l.length
    · have h24i : (24 : Int) ≤ (l.length : Int) := by omega
      have h1 : pe = 15 := by rw [HE.out, if_pos rfl, if_pos h24]
      have h2 : pl = [] := by rw [HL.out, if_pos rfl, if_pos h24]
      subst h1 h2
      go_wp2
      go_ret2
      exact ⟨_, rfl, OwnR.nil _ _ _, HB2.out⟩
    · have h24i : ¬ (24 : Int) ≤ (l.length : Int) := by omega
      have h1 : pe = 0 := by rw [HE.out, if_pos rfl, if_neg h24]
      have h2 : pl = l ++ [(⟨key, val, gone, (m, t), past⟩, pa, pc)] := by rw [HL.out, if_pos rfl, if_neg h24]
      subst h1 h2
      have hs2 : w.heap.size ≤ w2.heap.size := HB2.out.size
      have hl0 : (0 : Int) ≤ (l.length : Int) := by omega
      have hlc : (l.length : Int) ≤ (cap : Int) := by omega
      go_wp2_with fail
      go_region_law (refine step_full kw_ok (wr := w2.drew) rfl _ _ rfl a l (⟨key, val, gone, (m, t), past⟩, pa, pc) #[.string key, .string val, .bool gone, .int .i64 m, .int .i64 t, .slice pa past.length pc] HENC.out HR2.out HN.out hl (by simp [Act.eval, Act.put]) (by simp [Act.eval, Act.put]) ?_; intro g gc w4 ho4 hb4)
      all_goals
        go_wp2
        go_ret2
        refine ⟨_, rfl, ?_, HB2.out.trans (((Below.refl _ w2).drew.trans hb4).mono hs2)⟩
        have h := OwnR.mono ho4 hs2
        exact h

set_option maxRecDepth 100000 in
set_option maxHeartbeats 1600000 in
theorem rpush_any (v : Value) (l : List Vw) (x : Vw) (w : World) (hl : l.length ≤ 100000) (hr : RowAt KW w v l) (hx : WvB w x.1 (pw x)) :
    Calls Try.prog 23 #[v, wV x] w fun e w' => ∃ v', e = .returned (.tuple #[v', .int .i64 (pushE l x)]) ∧ OwnR KW w' w.heap.size v' (pushL l x) ∧ Below w.heap.size w w' := by
  have hb1 : Below w.heap.size w (w.alloc (.cells (wcs x) 27)) := balloc (Below.refl _ w) _
  have hV := VwP.new w x.1 (pw x) 27
  have hck := refWCheckB_any x.1 (pw x) (w.alloc (.cells (wcs x) 27)) (hx.below hb1)
  have HR1 := Lib.hid (hr.below hb1)
  obtain ⟨a, cap, rfl, hcap, hmx, hnil, hri⟩ := hr
  have HE : Hid (pushE l x = if okW x.1 then (if 24 ≤ l.length then 15 else 0) else 1) := Lib.hid rfl
  have HL : Hid (pushL l x = if okW x.1 then (if 24 ≤ l.length then [] else l ++ [x]) else []) := Lib.hid rfl
  have HENC : Hid ((wcs x).toList = KW.enc x) := Lib.hid rfl
  generalize hpe : pushE l x = pe at HE ⊢
  generalize hpl : pushL l x = pl at HL ⊢
  generalize okW x.1 = c1 at hck HE HL
  clear hpe hpl hx hri hnil
  obtain ⟨⟨key, val, gone, ⟨m, t⟩, past⟩, pa, pc⟩ := x
  dsimp only [wV, wcs, wvs, pw] at *
  have HV := Lib.hid hV
  have HB1 := Lib.hid hb1
  clear hV hb1
  go_enter Try.func23, Try.ntmps23
  go_upto_region 1 with fail
  obtain ⟨c0, c1', c2, c3, c4, c5, _⟩ := HV.out
  dsimp only at c0 c1' c2 c3 c4 c5
  generalize w.alloc (.cells #[.string key, .string val, .bool gone, .int .i64 m, .int .i64 t, .slice pa past.length pc] 27) = w1 at *
  go_wp2_with fail
  refine hck.mono ?_
  rintro e w2 ⟨rfl, hb2⟩
  have HB2 := Lib.hid (bstep HB1.out hb2)
  have HR2 := Lib.hid (HR1.out.below hb2)
  have HV2 := Lib.hid (show VwQ w2 w.heap.size 0 (⟨key, val, gone, (m, t), past⟩, pa, pc) from ⟨kc hb2 c0, kc hb2 c1', kc hb2 c2, kc hb2 c3, kc hb2 c4, kc hb2 c5⟩)
  clear c0 c1' c2 c3 c4 c5 hb2 hck
  cases c1 with
  | false =>
    have h1 : pe = 1 := HE.out
    have h2 : pl = [] := HL.out
    subst h1 h2
    go_wp2
    go_ret2
    exact ⟨_, rfl, OwnR.nil _ _ _, HB2.out⟩
  | true =>
    by_cases h24 : 24 ≤ l.length
    · have h24i : (24 : Int) ≤ (l.length : Int) := by omega
      have h1 : pe = 15 := by rw [HE.out, if_pos rfl, if_pos h24]
      have h2 : pl = [] := by rw [HL.out, if_pos rfl, if_pos h24]
      subst h1 h2
      go_wp2
      go_ret2
      exact ⟨_, rfl, OwnR.nil _ _ _, HB2.out⟩
    · have h24i : ¬ (24 : Int) ≤ (l.length : Int) := by omega
      have h1 : pe = 0 := by rw [HE.out, if_pos rfl, if_neg h24]
      have h2 : pl = l ++ [(⟨key, val, gone, (m, t), past⟩, pa, pc)] := by rw [HL.out, if_pos rfl, if_neg h24]
      subst h1 h2
      have hs2 : w.heap.size ≤ w2.heap.size := HB2.out.size
      go_wp2_with (first
        | (at_builtin; refine wp_appR kw_ok rfl _ _ rfl w2.heap.size (.slice none 0 0) (.slice a l.length cap) [] l rfl (OwnR.nil _ _ _) rfl HR2.out (by simp; omega) (Nat.le_refl _) ?_; intro v3 w3 ho3 hb3 hk3; rw [List.nil_append] at ho3; obtain ⟨sa, sc, rfl⟩ := ho3.shape; obtain ⟨y0, y1, y2, y3, y4, y5⟩ := HV2.out.keep hb3; dsimp only [pw, Nat.zero_add] at y0 y1 y2 y3 y4 y5; have HO3 := Lib.hid ho3; have HB3 := Lib.hid hb3; clear ho3 hb3)
        | (at_builtin; refine wp_pushR kw_ok (wr := w3) rfl _ _ rfl w2.heap.size (.slice sa l.length sc) l (⟨key, val, gone, (m, t), past⟩, pa, pc) #[.string key, .string val, .bool gone, .int .i64 m, .int .i64 t, .slice pa past.length pc] HENC.out rfl HO3.out rfl (by omega) HB3.out.size ?_; intro g gc w4 ho4 hb4 hk4 hat4 hlt4))
      go_wp2
      go_ret2
      refine ⟨_, rfl, ?_, HB2.out.trans ((HB3.out.trans hb4).mono hs2)⟩
      have h := OwnR.mono ho4 hs2
      exact h
end Go.Proofs.Ytfmedinhlmiaeaa
/- What slices.IndexFunc and slices.ContainsFunc answer of dependencies, for whatever predicate; past.find; past.Get and the document's Get. -/
namespace Go.Proofs.Ytfmedinhlmiaeaa
open Go.RowKit
set_option linter.unusedVariables false
set_option linter.unusedSimpArgs false

/-- The place of the first one; -1: there is none. -/
def fidxD (p : De → Bool) (l : List De) : Int := match l.findIdx? p with | none => -1 | some i => i
theorem fidxD_hit {p : De → Bool} {l : List De} {k : Nat} (hk : k < l.length) (h : ∀ j (hj : j < l.length), j < k → p l[j] = false) (hh : p l[k] = true) : fidxD p l = k := by
  have e : l.findIdx? p = some k := by
    rw [List.findIdx?_eq_some_iff_getElem]
    exact ⟨hk, hh, fun j hj => by simpa using h j (by omega) hj⟩
  simp [fidxD, e]
theorem fidxD_none {p : De → Bool} {l : List De} (h : ∀ j (hj : j < l.length), p l[j] = false) : fidxD p l = -1 := by
  have e : l.findIdx? p = none := by
    rw [List.findIdx?_eq_none_iff]
    intro x hx
    obtain ⟨j, hj, rfl⟩ := List.getElem_of_mem hx
    simpa using h j hj
  simp [fidxD, e]

/-- What is asked of a predicate that may make memory. -/
def PredD (g : Nat) (lb : Array Value) (p : De → Bool) (l : List De) (base : Nat) (w : World) : Prop :=
  ∀ (W : World) (d : De), d ∈ l → Below base w W → Calls Try.prog g (#[dv d] ++ lb) W fun e w' => e = .returned (.bool (p d)) ∧ Below W.heap.size W w'

set_option maxRecDepth 100000 in
set_option maxHeartbeats 800000 in
theorem idxFunc_any (g : Nat) (lb : Array Value) (eg : ∀ args w, (callFunc g args).run Try.prog w = .ok (.enter g args) w) (p : De → Bool) (a : Option Addr) (cap base : Nat) (l : List De) (w : World) (hl : l.length ≤ 1000000) (hr : DepIn w a l) (hbs : base ≤ w.heap.size) (hp : PredD g lb p l base w) :
    Calls Try.prog 46 #[.slice a l.length cap, .func (.func g) #[] lb] w fun e w' => e = .returned (.int .i64 (fidxD p l)) ∧ Below w.heap.size w w' := by
  have HR := Lib.hid hr
  have HP := Lib.hid hp
  clear hr hp
  go_enter Try.func46, Try.ntmps46
  go_wp2
  go_loopw [8] (fun i wr => ∃ k : Nat, k ≤ l.length ∧ i = .int .i64 k ∧ (∀ j (hj : j < l.length), j < k → p l[j] = false) ∧ Below w.heap.size w wr) (fun i _ => l.length - (intOf i).toNat)
  case atStart => exact ⟨0, by omega, rfl, (fun j hj h => by omega), Below.refl _ _⟩
  case round =>
    obtain ⟨k, hk, rfl, hall, hbel⟩ := hrel
    have HA := Lib.hid hall
    clear hall
    by_cases hlt : k < l.length
    · obtain ⟨b, off, rfl, hbl, c0, c1, c2⟩ := HR.out.below hbel k hlt
      have hcall := HP.out wr l[k] (List.getElem_mem hlt) (hbel.mono hbs)
      have HH := Lib.hid (@fidxD_hit p l k hlt HA.out)
      have HN : Hid (p l[k] = false → ∀ j (hj : j < l.length), j < k + 1 → p l[j] = false) := Lib.hid (fun h j hj h2 => by
        by_cases e : j = k
        · subst e; exact h
        · exact HA.out j hj (by omega))
      generalize l[k] = d at c0 c1 c2 hcall HH HN
      obtain ⟨x, y, z⟩ := d
      dsimp only [dv] at c0 c1 c2 hcall
      cases hq : p (x, y, z) with
      | true =>
        rw [hq] at hcall
        have HQ := Lib.hid hq
        clear hq
        go_wp2_with (go_at_fn g; refine hcall.mono ?_; rintro e w' ⟨rfl, hb'⟩)
        go_ret
        exact ⟨ret_int (HH.out HQ.out).symm, bstep hbel hb'⟩
      | false =>
        rw [hq] at hcall
        have HQ := Lib.hid hq
        clear hq
        go_wp2_with (go_at_fn g; refine hcall.mono ?_; rintro e w' ⟨rfl, hb'⟩)
        go_roundw
        case rel => exact ⟨k + 1, by omega, by go_num, HN.out HQ.out, bstep hbel hb'⟩
        case measure => simp [intOf]; omega
    · obtain rfl : k = l.length := by omega
      go_wp2
      go_ret
      exact ⟨ret_int (fidxD_none (fun j hj => HA.out j hj hj)).symm, hbel⟩

theorem fidxD_any (p : De → Bool) (l : List De) : decide (0 ≤ fidxD p l) = l.any p := by
  unfold fidxD
  cases h : l.findIdx? p with
  | none =>
    rw [List.findIdx?_eq_none_iff] at h
    have : l.any p = false := by rw [List.any_eq_false]; intro x hx; simp [h x hx]
    rw [this]
    rfl
  | some i =>
    rw [List.findIdx?_eq_some_iff_getElem] at h
    obtain ⟨hi, hh, _⟩ := h
    have : l.any p = true := List.any_eq_true.2 ⟨l[i], List.getElem_mem hi, hh⟩
    rw [this]
    simp

/-- The place of a key. -/
abbrev kidx (l : List De) (key : ByteArray) : Int := fidxD (fun d => decide (d.1 = key)) l

end Go.Proofs.Ytfmedinhlmiaeaa
/- What past.Get and the document's Get answer. -/
namespace Go.Proofs.Ytfmedinhlmiaeaa
open Go.RowKit
set_option linter.unusedVariables false
set_option linter.unusedSimpArgs false

/-- The stamp of a key; the zero one: there is none. -/
def gtD (l : List De) (key : ByteArray) : Int × Int := match l.find? (fun d => decide (d.1 = key)) with | none => (0, 0) | some d => d.2
theorem kidx_cases (l : List De) (key : ByteArray) : (kidx l key = -1 ∧ gtD l key = (0, 0)) ∨ ∃ (k : Nat) (h : k < l.length), kidx l key = k ∧ l[k].1 = key ∧ gtD l key = l[k].2 := by
  unfold kidx fidxD gtD
  cases h : l.findIdx? (fun d => decide (d.1 = key)) with
  | none =>
    left
    refine ⟨rfl, ?_⟩
    rw [List.findIdx?_eq_none_iff] at h
    have : l.find? (fun d => decide (d.1 = key)) = none := by
      rw [List.find?_eq_none]
      intro x hx
      simpa using h x hx
    rw [this]
  | some i =>
    right
    rw [List.findIdx?_eq_some_iff_getElem] at h
    obtain ⟨hi, hh, hn⟩ := h
    have : l.find? (fun d => decide (d.1 = key)) = some l[i] := by
      rw [List.find?_eq_some_iff_getElem]
      exact ⟨hh, i, hi, rfl, fun j hj => by simpa using hn j hj⟩
    exact ⟨i, hi, rfl, by simpa using hh, by rw [this]⟩

theorem gtD_hit {l : List De} {key : ByteArray} {k : Nat} (hk : k < l.length) (h : ∀ j (hj : j < l.length), j < k → l[j].1 ≠ key) (hh : l[k].1 = key) : gtD l key = l[k].2 := by
  have : l.find? (fun d => decide (d.1 = key)) = some l[k] := by
    rw [List.find?_eq_some_iff_getElem]
    exact ⟨by simpa using hh, k, hk, rfl, fun j hj => by simpa using h j (by omega) hj⟩
  simp [gtD, this]
theorem gtD_none {l : List De} {key : ByteArray} (h : ∀ j (hj : j < l.length), l[j].1 ≠ key) : gtD l key = (0, 0) := by
  have : l.find? (fun d => decide (d.1 = key)) = none := by
    rw [List.find?_eq_none]
    intro x hx
    obtain ⟨j, hj, rfl⟩ := List.getElem_of_mem hx
    simpa using h j hj
  simp [gtD, this]

set_option maxRecDepth 100000 in
set_option maxHeartbeats 800000 in
theorem refPGet_any (v : Value) (l : List De) (key : ByteArray) (w : World) (hl : l.length ≤ 1000000) (hr : DepAt w v l) :
    Calls Try.prog 29 #[v, .string key] w fun e w' => e = .returned (sv (gtD l key)) ∧ Below w.heap.size w w' := by
  obtain ⟨a, cap, rfl, _, _, _, hr⟩ := hr
  have HR := Lib.hid hr
  clear hr
  go_enter Try.func29, Try.ntmps29
  go_wp2
  go_loopw [5] (fun i wr => ∃ k : Nat, k ≤ l.length ∧ i = .int .i64 k ∧ (∀ j (hj : j < l.length), j < k → l[j].1 ≠ key) ∧ Var2 wr w.heap.size (0, 0) ∧ Below w.heap.size w wr) (fun i _ => l.length - (intOf i).toNat)
  case atStart => exact ⟨0, by omega, rfl, (fun j hj h => by omega), ⟨by simp, by simp, by simp, by simp⟩, balloc (Below.refl _ w) _⟩
  case round =>
    obtain ⟨k, hk, rfl, hall, hf0, hbel⟩ := hrel
    have HA := Lib.hid hall
    clear hall
    obtain ⟨a0, a1, a2, a3⟩ := hf0
    simp only at a0 a1
    by_cases hlt : k < l.length
    · obtain ⟨b, off, rfl, hbl, c0, c1, c2⟩ := HR.out.below hbel k hlt
      have HH := Lib.hid (@gtD_hit l key k hlt HA.out)
      have HN : Hid (l[k].1 ≠ key → ∀ j (hj : j < l.length), j < k + 1 → l[j].1 ≠ key) := Lib.hid (fun h j hj h2 => by
        by_cases e : j = k
        · subst e; exact h
        · exact HA.out j hj (by omega))
      generalize l[k] = d at c0 c1 c2 HH HN
      obtain ⟨x, y, z⟩ := d
      dsimp only at c0 c1 c2 HH HN
      have hkey : Hid (x = key ↔ (x.toList == key.toList) = true) := Lib.hid (by
        rw [Lib.toList_data, Lib.toList_data, beq_iff_eq]
        exact ⟨fun h => by rw [h], ba_inj⟩)
      cases hq : (x.toList == key.toList) with
      | true =>
        have hq' : x.toList = key.toList := by simpa using hq
        go_wp2
        have hv := Var2.put (p := (0, 0)) ⟨a0, a1, a2, a3⟩ y z
        have r0 := hv.c0
        have r1 := hv.c1
        simp only at r0 r1
        refine bodyPost_ret (v := .agg #[.int .i64 y, .int .i64 z]) (by simp [results, Try.results29, go_sem, r0, r1]) rfl ⟨?_, below_put hbel (Nat.le_refl _) _ _⟩
        rw [HH.out (hkey.out.2 hq)]
      | false =>
        have hq' : ¬ x.toList = key.toList := by simpa using hq
        go_wp2
        go_roundw
        case rel => exact ⟨k + 1, by omega, by go_num, HN.out (fun h => by rw [hkey.out, hq] at h; cases h), ⟨a0, a1, a2, a3⟩, hbel⟩
        case measure => simp [intOf]; omega
    · obtain rfl : k = l.length := by omega
      go_wp2
      have hv := Var2.put (p := (0, 0)) ⟨a0, a1, a2, a3⟩ 0 0
      have r0 := hv.c0
      have r1 := hv.c1
      simp only at r0 r1
      refine bodyPost_ret (v := .agg #[.int .i64 0, .int .i64 0]) (by simp [results, Try.results29, go_sem, r0, r1]) rfl ⟨?_, below_put hbel (Nat.le_refl _) _ _⟩
      rw [gtD_none (fun j hj => HA.out j hj hj)]
end Go.Proofs.Ytfmedinhlmiaeaa
/- slices.Backward over dependencies. -/
namespace Go.Proofs.Ytfmedinhlmiaeaa
open Go.RowKit Go.Shelf
set_option linter.unusedVariables false
set_option linter.unusedSimpArgs false
attribute [local go_sem] Oper.semAt_some

/-- What is handed to a round: the place, the dependency; its key is no longer than a text can be. -/
abbrev BackA := { x : Int × De // x.2.1.size ≤ maxLen }
def bkA (l : List De) (hz : Szd l) (j : Nat) (h : j < l.length) : BackA := ⟨((j : Int), l[j]), by have := hz l[j] (List.getElem_mem h); unfold maxLen; omega⟩
/-- The last k, from behind. -/
def bkL (l : List De) (hz : Szd l) : Nat → List BackA
  | 0 => []
  | k + 1 => if h : k < l.length then bkL l hz k ++ [bkA l hz (l.length - 1 - k) (by omega)] else bkL l hz k
theorem bkL_succ (l : List De) (hz : Szd l) (k : Nat) (h : k < l.length) : bkL l hz (k + 1) = bkL l hz k ++ [bkA l hz (l.length - 1 - k) (by omega)] := by rw [bkL, dif_pos h]
theorem bkL_len (l : List De) (hz : Szd l) (k : Nat) (h : k ≤ l.length) : (bkL l hz k).length = k := by
  induction k with
  | zero => rfl
  | succ k ih => rw [bkL_succ l hz k (by omega), List.length_append, ih (by omega)]; rfl

/-- Below n0 all but block mb lies as it lay. -/
def KB (mb n0 : Nat) (A B : World) : Prop := ∀ k, k < n0 → k ≠ mb → B.heap[k]? = A.heap[k]?
theorem KB.refl (mb n0 : Nat) (A : World) : KB mb n0 A A := fun _ _ _ => rfl
theorem KB.trans {mb n0 : Nat} {A B C : World} (h : KB mb n0 A B) (k : KB mb n0 B C) : KB mb n0 A C := fun i h1 h2 => (k i h1 h2).trans (h i h1 h2)
theorem KB.cell {mb n0 : Nat} {A B : World} (h : KB mb n0 A B) {b o : Nat} (h1 : b < n0) (h2 : b ≠ mb) : B.cell? ⟨b, o, none⟩ = A.cell? ⟨b, o, none⟩ := World.cell?_of_block (h b h1 h2)

set_option maxRecDepth 100000 in
set_option maxHeartbeats 2000000 in
theorem back1_in (F : Fence) (n : Nat) (h8 : F.fn 64) (hro : F.round = none) (hn : 1 ≤ n) (lp Bs n0 mb cap : Nat) (a : Option Addr) (l : List De) (hz : Szd l) (hl : l.length ≤ 1000000) (J Jx : List BackA → World → Prop)
    (hY : ∀ pre x W, J pre W → pre.length < l.length → YieldAt F (n - 1) Try.prog lp #[.int .i64 x.1.1, .agg #[.string x.1.2.1, .int .i64 x.1.2.2.1, .int .i64 x.1.2.2.2]] W fun e W' =>
      (e = .returned (.bool true) ∧ J (pre ++ [x]) W' ∧ KB mb n0 W W') ∨ (e = .returned (.bool false) ∧ Jx (pre ++ [x]) W'))
    (W : World) (hBn : Bs < n0) (hBm : Bs ≠ mb) (hBs : W.cell? ⟨Bs, 0, none⟩ = some (.slice a l.length cap)) (hlow : ∀ b off, a = some ⟨b, off, none⟩ → 0 < l.length → b < n0 ∧ b ≠ mb) (hr : DepIn W a l) (h0 : J [] W) :
    CallsIn F n Try.prog 64 #[.func (.yield lp) #[] #[], .pointer (some ⟨Bs, 0, none⟩)] W fun e W' => (∃ v, e = .returned v) ∧
      ((∃ ys, ys = bkL l hz l.length ∧ J ys W') ∨ (∃ pre, True ∧ Jx pre W')) := by
  have HR := Lib.hid hr
  clear hr
  refine callsIn_of_wp Try.func64 rfl h8 ?_ hro
  simp only [Try.ntmps64, List.size_toArray, List.length_cons, List.length_nil, Nat.reduceAdd, Nat.reduceSub, Array.replicate_succ, Array.replicate_zero, List.push_toArray, List.append_toArray, List.nil_append, List.cons_append]
  have hw0 : IntKind.i64.wrap ((l.length : Int) - 1) = (l.length : Int) - 1 := IntWalk.i64_in _ (by omega)
  gi_wp2
  gi_loopw [3] (fun i wr => ∃ k : Nat, k ≤ l.length ∧ i = .int .i64 ((l.length : Int) - 1 - k) ∧ J (bkL l hz k) wr ∧ KB mb n0 W wr) (fun i _ => (intOf i + 1).toNat)
  case atStart => exact ⟨0, Nat.zero_le _, by simp, h0, KB.refl _ _ _⟩
  case round =>
    obtain ⟨k, hk, rfl, hJs, hnx⟩ := hrel
    have hBs' := (hnx.cell (o := 0) hBn hBm).trans hBs
    by_cases hlt : k < l.length
    · obtain ⟨q, hq⟩ : ∃ q, q = l.length - 1 - k := ⟨_, rfl⟩
      have hqi : (l.length : Int) - 1 - (k : Int) = (q : Int) := by omega
      have hql : q < l.length := by omega
      have HQ := Lib.hid hq
      clear hq
      obtain ⟨b, off, rfl, hbl, c0, c1, c2⟩ := HR.out q hql
      obtain ⟨hbn, hbm⟩ := hlow b off rfl (by omega)
      replace c0 := (hnx.cell hbn hbm).trans c0
      replace c1 := (hnx.cell hbn hbm).trans c1
      replace c2 := (hnx.cell hbn hbm).trans c2
      have HS : Hid (bkL l hz (k + 1) = bkL l hz k ++ [bkA l hz q hql]) := Lib.hid (by rw [bkL_succ l hz k hlt]; congr 2; simp [HQ.out])
      have hx : (bkA l hz q hql).1 = ((q : Int), l[q]) := rfl
      obtain ⟨fn, tmps, assign, body, hy, hR⟩ := hY _ (bkA l hz q hql) wr hJs (by rw [bkL_len l hz k hk]; exact hlt)
      rw [hx] at hy
      generalize bkA l hz q hql = xx at HS hR
      generalize l[q] = d at c0 c1 c2 hy
      obtain ⟨x, y, z⟩ := d
      dsimp only at hy c0 c1 c2
      rw [hqi]
      have hq1 : (0 : Int) ≤ (q : Int) := by omega
      have hq2 : (q : Int) < (l.length : Int) := by omega
      have hq3 : IntKind.i64.wrap ((q : Int) - 1) = (q : Int) - 1 := IntWalk.i64_in _ (by omega)
      have HQI := Lib.hid hqi
      clear hqi hx
      gi_wp2
      refine hR.mono ?_
      rintro e W3 (⟨rfl, hJ3, hk3⟩ | ⟨rfl, hJx3⟩)
      · gi_wp2
        go_roundw
        case rel => exact ⟨k + 1, by omega, by have := HQI.out; simp; omega, by rw [HS.out]; exact hJ3, hnx.trans hk3⟩
        case measure => simp [intOf]
      · gi_wp2
        refine bodyPost_ret (results_none rfl _ _ _) rfl ?_
        exact ⟨⟨_, rfl⟩, .inr ⟨_, trivial, hJx3⟩⟩
    · obtain rfl : k = l.length := by omega
      have hneg : (l.length : Int) - 1 - (l.length : Int) = -1 := by omega
      rw [hneg]
      clear hneg
      gi_wp2
      go_end0
      exact ⟨⟨_, rfl⟩, .inl ⟨_, rfl, hJs⟩⟩

set_option maxHeartbeats 1000000 in
theorem backward_in (F : Fence) (n : Nat) (h5 : F.fn 50) (hro : F.round = none) (a : Option Addr) (len cap : Nat) (w : World) :
    CallsIn F n Try.prog 50 #[.slice a len cap] w fun e w' => e = .returned (.func (.func 64) #[] #[.pointer (some ⟨w.heap.size, 0, none⟩)]) ∧ w' = w.alloc (.cells #[.slice a len cap] 23) := by
  refine callsIn_of_wp Try.func50 rfl h5 ?_ hro
  simp only [Try.ntmps50, List.size_toArray, List.length_cons, List.length_nil, Nat.reduceAdd, Nat.reduceSub, Array.replicate_succ, Array.replicate_zero, List.push_toArray, List.append_toArray, List.nil_append, List.cons_append]
  gi_wp2
  go_ret
  exact ⟨rfl, rfl⟩

theorem back_stops (F : Fence) (n : Nat) (h8 : F.fn 64) (hro : F.round = none) (hn : 1 ≤ n) (Bs n0 mb cap : Nat) (a : Option Addr) (l : List De) (hz : Szd l) (hl : l.length ≤ 1000000) (w : World) (hB0 : Bs < w.heap.size) (hBn : Bs < n0) (hBm : Bs ≠ mb) (hc : w.cell? ⟨Bs, 0, none⟩ = some (.slice a l.length cap)) (hlow : ∀ b off, a = some ⟨b, off, none⟩ → 0 < l.length → b < n0 ∧ b ≠ mb) (hr : DepIn w a l) :
    SeqStopsK F n Try.prog 64 #[.pointer (some ⟨Bs, 0, none⟩)] (fun x : BackA => #[.int .i64 x.1.1, .agg #[.string x.1.2.1, .int .i64 x.1.2.2.1, .int .i64 x.1.2.2.2]]) (KB mb n0) (fun ys => ys = bkL l hz l.length) (fun _ => True) l.length w := fun lp J Jx W hW _ _ hY h0 =>
  back1_in F n h8 hro hn lp Bs n0 mb cap a l hz hl J Jx hY W hBn hBm ((hW.cell (p := ⟨Bs, 0, none⟩) hB0).trans hc) hlow (hr.below hW) h0
end Go.Proofs.Ytfmedinhlmiaeaa
