/- Texts of this proof, one behind the other: PastRefCheck, NearRefSound, NearSndMade. -/
import Derived.Test.YtfnfpanmbmkhmaaGN516
import Derived.Deep.QuietTactic
import Derived.BigQuiet
/- What the document's Check of pasts answers. -/
namespace Go.Proofs.Ytfnfpanmbmkhmaa
open Go.RowKit
set_option linter.unusedVariables false
set_option linter.unusedSimpArgs false

theorem folD_false {p : List De} {d : De} (h : okD d = false) : folD p d = false := by simp [folD, h]
theorem folD_nil {d : De} (h : okD d = true) : folD [] d = true := by simp [folD, h]
theorem folD_at {l : List De} {k : Nat} {d : De} (hk : k + 1 ≤ l.length) (h : okD d = true) : folD (l.take (k + 1)) d = klt (l[k]'(by omega)).1 d.1 := by
  unfold folD
  rw [h, Bool.true_and, List.take_succ_eq_append_getElem (by omega), List.getLast?_concat]

set_option maxRecDepth 100000 in
set_option maxHeartbeats 3200000 in
theorem refPCheck_any (v : Value) (l : List De) (w : World) (hl : l.length ≤ 1000000) (hz : Szd l) (hr : DepAt w v l) :
    Calls Try.prog 42 #[v] w fun e w' => e = .returned (.bool (chkD l)) ∧ Below w.heap.size w w' := by
  obtain ⟨a, cap, rfl, hcap, hmx, _, hr⟩ := hr
  unfold maxLen at hmx
  have HR := Lib.hid hr
  have HZ := Lib.hid hz
  clear hr hz
  go_enter Try.func42, Try.ntmps42
  go_wp2
  go_loopw [3] (fun i wr => ∃ k : Nat, k ≤ l.length ∧ i = .int .i64 k ∧ Srt (l.take k) ∧ Below w.heap.size w wr) (fun i _ => l.length - (intOf i).toNat)
  case atStart => exact ⟨0, by omega, rfl, by simpa using Srt.nil, Below.refl _ _⟩
  case round =>
    obtain ⟨k, hk, rfl, hst, hbel⟩ := hrel
    have HS := Lib.hid hst
    clear hst
    by_cases hlt : k < l.length
    · obtain ⟨b, off, rfl, hbl, c0, c1, c2⟩ := HR.out.below hbel k hlt
      have HP := Lib.hid (@srt_step l k hlt)
      have HQ := Lib.hid (@srt_stop l k hlt)
      have hs := HZ.out l[k] (List.getElem_mem hlt)
      generalize l[k] = d at c0 c1 c2 HP HQ hs
      obtain ⟨x, y, z⟩ := d
      dsimp only at c0 c1 c2 hs
      go_wp2_with fail
      refine (refCheck_any x _ hs).mono ?_
      rintro e w1 ⟨rfl, rfl⟩
      generalize hkc : Km.chk x.data.toList = kc
      have HK := Lib.hid hkc
      clear hkc
      go_wp2_with fail
      refine (refSCheck_any y z _).mono ?_
      rintro e w2 ⟨rfl, hb1⟩
      have d0 := kcell hb1 hbl c0
      have HB := Lib.hid (bstep hbel hb1)
      clear c0 c1 c2 hb1 hbel
      generalize hsc : Sm.ok y z = sc
      have HC := Lib.hid hsc
      clear hsc
      have hod : okD (x, y, z) = (kc && sc) := by simp [okD, HK.out, HC.out]
      have HO := Lib.hid hod
      clear hod
      cases kc with
      | false =>
        go_wp2_with fail
        go_quiet (fail)
        go_wp2
        go_ret
        exact ⟨ret_bool (by rw [chkD, decide_eq_false (HQ.out (folD_false (by rw [HO.out]; rfl))), Bool.and_false]), bstep HB.out (bdrewN _ _)⟩
      | true =>
        cases sc with
        | false =>
          go_wp2_with fail
          go_quiet (fail)
          go_wp2
          go_ret
          exact ⟨ret_bool (by rw [chkD, decide_eq_false (HQ.out (folD_false (by rw [HO.out]; rfl))), Bool.and_false]), bstep HB.out (bdrewN _ _)⟩
        | true =>
          cases k with
          | zero =>
            go_wp2_with fail
            go_quiet (fail)
            go_wp2
            go_roundw
            case rel => exact ⟨1, by omega, by go_num, HP.out.2 ⟨HS.out, by rw [List.take_zero]; exact folD_nil HO.out⟩, bstep HB.out (bdrewN _ _)⟩
            case measure => simp [intOf]; omega
          | succ m =>
            obtain ⟨b', off', e', _, p0, _, _⟩ := HR.out.below HB.out m (by omega)
            cases e'
            have HF := Lib.hid (@folD_at l m (x, y, z) (by omega) HO.out)
            generalize (l[m]'(by omega)).1 = p at p0 HF
            have hw1 : IntKind.i64.wrap (m : Int) = (m : Int) := IntWalk.i64_in _ (by omega)
            have hw3 : (m : Int) < (l.length : Int) := by omega
            have hw4 : (m : Int) + 1 < (l.length : Int) := by omega
            have hbk : Hid (klt p x = Op.bytesLess p.toList x.toList) := Lib.hid (by rw [Lib.toList_data, Lib.toList_data]; rfl)
            cases hq : Op.bytesLess p.toList x.toList with
            | true =>
              go_wp2_with fail
              go_quiet (fail)
              go_wp2
              go_roundw
              case rel => exact ⟨m + 1 + 1, by omega, by go_num, HP.out.2 ⟨HS.out, by rw [HF.out, hbk.out]; exact hq⟩, bstep HB.out (bdrewN _ _)⟩
              case measure => simp [intOf]; omega
            | false =>
              go_wp2_with fail
              go_quiet (fail)
              go_wp2
              go_ret
              exact ⟨ret_bool (by rw [chkD, decide_eq_false (HQ.out (by rw [HF.out, hbk.out]; exact hq)), Bool.and_false]), bstep HB.out (bdrewN _ _)⟩
    · obtain rfl : k = l.length := by omega
      have HE : Hid (Srt l) := Lib.hid (by have h := HS.out; rw [List.take_of_length_le (Nat.le_refl _)] at h; exact h)
      go_wp2
      go_ret
      exact ⟨ret_bool (by rw [chkD, decide_eq_true HE.out, Bool.and_true]; simp; omega), hbel⟩
end Go.Proofs.Ytfnfpanmbmkhmaa
/- What the document's Sound answers. -/
namespace Go.Proofs.Ytfnfpanmbmkhmaa
open Go.RowKit Go.Maps
set_option linter.unusedVariables false
set_option linter.unusedSimpArgs false

theorem fndP_has {r : List Vp} {d : De} : (fndP r d).isSome = true ↔ ∃ y ∈ r, y.1.dep = d := by
  unfold fndP
  rw [List.find?_isSome]
  constructor
  · rintro ⟨y, hy, h⟩
    simp at h
    exact ⟨y, hy, Prod.ext h.1 h.2⟩
  · rintro ⟨y, hy, rfl⟩
    exact ⟨y, hy, by simp [Ve.dep]⟩
theorem cntP_iff : ∀ xs : List Vp, cntP xs = xs.length ↔ xs.Pairwise fun a b => a.1.dep ≠ b.1.dep
  | [] => by simp [cntP]
  | x :: r => by
    have ih := cntP_iff r
    have hle := cntP_le r
    rw [List.pairwise_cons, ← ih, cntP]
    cases h : (fndP r x.1.dep).isSome with
    | true =>
      obtain ⟨y, hy, e⟩ := fndP_has.1 h
      simp only [if_true, List.length_cons]
      constructor
      · intro h2; omega
      · rintro ⟨h2, _⟩
        exact absurd e.symm (h2 y hy)
    | false =>
      simp only [Bool.false_eq_true, if_false, List.length_cons]
      constructor
      · intro h2
        refine ⟨fun y hy e => ?_, by omega⟩
        have : (fndP r x.1.dep).isSome = true := fndP_has.2 ⟨y, hy, e.symm⟩
        rw [h] at this
        cases this
      · rintro ⟨_, h2⟩
        omega
def twiceB (xs : List Vp) (v : Ve) (i : Nat) : Bool := (xs.take i).any fun x => decide (x.1.key = v.key ∧ x.1.st = v.st)
/-- Is the version at place i as it must be? -/
def goodB (xs : List Vp) (v : Ve) (i : Nat) : Bool := chkD v.past && Sm.ok v.st.1 v.st.2 && clB v.past (xs.map Prod.fst) && !lateB v && !twiceB xs v i
theorem snd_iff (xs : List Vp) : sndB xs = true ↔ ∀ i (h : i < xs.length), goodB xs xs[i].1 i = true := by
  unfold sndB
  rw [Bool.and_eq_true, Bool.and_eq_true, decide_eq_true_eq, cntP_iff, List.pairwise_iff_getElem]
  simp only [Bool.not_eq_true', List.any_eq_false]
  constructor
  · rintro ⟨⟨h1, h2⟩, h3⟩ i hi
    have h2' := h2 _ (List.getElem_mem hi)
    have h3' := h3 _ (List.getElem_mem hi)
    unfold goodB imprB at *
    simp at h2' h3'
    have h4 : twiceB xs xs[i].1 i = false := by
      unfold twiceB
      rw [List.any_eq_false]
      intro x hx
      obtain ⟨j, hj, rfl⟩ := List.getElem_of_mem hx
      rw [List.getElem_take]
      have hj' : j < i := by simp at hj; omega
      simp
      intro e1 e2
      exact h1 j i (by omega) hi hj' (Prod.ext e1 e2)
    simp [h2', h3', h4]
  · intro h
    refine ⟨⟨fun i j hi hj hij e => ?_, fun x hx => ?_⟩, fun x hx => ?_⟩
    · have := h j hj
      unfold goodB at this
      simp at this
      have h4 := this.2
      unfold twiceB at h4
      rw [List.any_eq_false] at h4
      have h5 := h4 xs[i] (by rw [List.mem_take_iff_getElem]; exact ⟨i, by omega, rfl⟩)
      simp at h5
      exact h5 (congrArg Prod.fst e) (congrArg Prod.snd e)
    · obtain ⟨j, hj, rfl⟩ := List.getElem_of_mem hx
      have := h j hj
      unfold goodB at this
      simp at this
      simp [imprB, this]
    · obtain ⟨j, hj, rfl⟩ := List.getElem_of_mem hx
      have := h j hj
      unfold goodB at this
      simp at this
      simp [this]
theorem snd_false {xs : List Vp} {i : Nat} (hi : i < xs.length) (h : goodB xs xs[i].1 i = false) : sndB xs = false := by
  cases hs : sndB xs with
  | false => rfl
  | true => rw [(snd_iff xs).1 hs i hi] at h; cases h
end Go.Proofs.Ytfnfpanmbmkhmaa
/- What is made is sound: as the program's own test tells it. -/
namespace Go.Proofs.Ytfnfpanmbmkhmaa
open Go.RowKit Go.Maps
set_option linter.unusedVariables false
set_option linter.unusedSimpArgs false

theorem snd_true {xs : List Vp} (h : Inv (xs.map Prod.fst)) : sndB xs = true := (snd_iff xs).2 fun i hi => by
  have hm : xs[i].1 ∈ xs.map Prod.fst := List.mem_map.2 ⟨_, List.getElem_mem hi, rfl⟩
  have h4 : lateB xs[i].1 = false := by
    unfold lateB
    rw [List.any_eq_false]
    intro d hd
    simp [h.snd.lt _ hm d hd]
  have h5 : twiceB xs xs[i].1 i = false := by
    unfold twiceB
    rw [List.any_eq_false]
    intro x hx
    obtain ⟨j, hj, rfl⟩ := List.getElem_of_mem hx
    rw [List.getElem_take]
    have hj' : j < i := by simp at hj; omega
    have := List.pairwise_iff_getElem.1 h.snd.one j i (by simp; omega) (by simpa using hi) hj'
    simpa using this
  unfold goodB
  rw [h.snd.chk _ hm, h.snd.ok _ hm, h.snd.cl _ hm, h4, h5]
  rfl
end Go.Proofs.Ytfnfpanmbmkhmaa
