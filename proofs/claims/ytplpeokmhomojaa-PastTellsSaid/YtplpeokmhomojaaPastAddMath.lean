/- A dependency put into a past, by its place: plain mathematics, and a row of the call's own whose stamp is written. -/
import Derived.Test.YtplpeokmhomojaaPastMath
import Derived.Test.YtplpeokmhomojaaPastGet
import Derived.Test.YtplpeokmhomojaaPastOwn
namespace Go.Proofs.Ytplpeokmhomojaa
open Go.RowKit
set_option linter.unusedVariables false

theorem mx_two {x y : Int × Int} (h : 1 ≤ x.1) : Sm.mx (0, 0) [x, y] = if Sm.less x y = true then y else x := by
  have h1 : Sm.less x (0, 0) = false := by rw [Sm.less_false]; left; simp; omega
  have h2 : Sm.mx (0, 0) [x, y] = Sm.later x y := by simp [Sm.mx, Sm.later, h1]
  rw [h2]
  unfold Sm.later
  by_cases h3 : Sm.less y x = true
  · rw [if_pos h3]
    have : Sm.less x y = false := by rw [Sm.less_iff] at h3; rw [Sm.less_false]; omega
    simp [this]
  · rw [if_neg h3]
    by_cases h4 : Sm.less x y = true
    · rw [if_pos h4]
    · rw [if_neg h4]; exact Sm.le_antisymm (by simpa using h4) (by simpa using h3)
theorem okD_pos {d : De} (h : okD d = true) : 1 ≤ d.2.1 := by
  simp [okD, Sm.ok] at h
  omega
/-- The key is there, at k. -/
theorem addGo_at {d : De} : ∀ (l : List De), Srt l → ∀ (k : Nat) (h : k < l.length), l[k].1 = d.1 → addGo d false l = l.set k (l[k].1, if Sm.less l[k].2 d.2 = true then d.2 else l[k].2)
  | [], _, k, h, _ => absurd h (by simp)
  | x :: r, hs, 0, _, e => by
    have ha := List.pairwise_cons.1 hs.2
    have e' : x.1 = d.1 := e
    have hne : ∀ y ∈ r, y.1 ≠ d.1 := fun y hy e2 => klt_ne (ha.1 y hy) (e'.trans e2.symm)
    cases hl : Sm.less x.2 d.2 with
    | true => rw [addGo_eq e' hl, addGo_true hne]; simp [hl, e']
    | false => rw [addGo_eq' e' hl, addGo_true hne]; simp [hl]
  | x :: r, hs, k + 1, h, e => by
    have ha := List.pairwise_cons.1 hs.2
    have hk : k < r.length := by simpa using h
    have e' : (r[k]'hk).1 = d.1 := e
    have h1 := ha.1 (r[k]'hk) (List.getElem_mem hk)
    rw [e'] at h1
    rw [addGo_le (klt_ne h1) (klt_asymm h1), addGo_at r hs.tail k hk e']
    simp
/-- The key is not there: k is its place. -/
theorem addGo_ins {d : De} : ∀ (l : List De), (∀ y ∈ l, y.1 ≠ d.1) → ∀ (k : Nat) (h : k ≤ l.length), (∀ j (hj : j < l.length), j < k → klt d.1 l[j].1 = false) → (∀ hk : k < l.length, klt d.1 l[k].1 = true) → addGo d false l = l.take k ++ d :: l.drop k
  | [], _, k, h, _, _ => by
    have : k = 0 := by simpa using h
    subst this
    simp [addGo]
  | x :: r, hne, 0, _, _, h2 => by
    rw [addGo_gt (hne x (by simp)) (h2 (by simp)), addGo_true (fun y hy => hne y (List.mem_cons_of_mem _ hy))]
    simp
  | x :: r, hne, k + 1, h, h1, h2 => by
    have hx : klt d.1 x.1 = false := h1 0 (by simp) (by omega)
    rw [addGo_le (hne x (by simp)) hx, addGo_ins r (fun y hy => hne y (List.mem_cons_of_mem _ hy)) k (by simpa using h) (fun j hj hjk => h1 (j + 1) (by simpa using hj) (by omega)) (fun hk => h2 (by simpa using hk))]
    simp
/-- Where IndexFunc says that the greater ones begin. -/
theorem fidx_ins {d : De} {l : List De} (hne : ∀ y ∈ l, y.1 ≠ d.1) (hg : fidxD (fun e => klt d.1 e.1) l = -1) : addGo d false l = l ++ [d] := by
  unfold fidxD at hg
  cases e : l.findIdx? (fun e => klt d.1 e.1) with
  | some i => rw [e] at hg; simp at hg
  | none =>
    rw [List.findIdx?_eq_none_iff] at e
    rw [addGo_ins l hne l.length (Nat.le_refl _) (fun j hj _ => by simpa using e l[j] (List.getElem_mem hj)) (fun hk => absurd hk (by simp))]
    simp
theorem fidx_ins' {d : De} {l : List De} (hne : ∀ y ∈ l, y.1 ≠ d.1) : fidxD (fun e => klt d.1 e.1) l = -1 ∨ ∃ k : Nat, k < l.length ∧ fidxD (fun e => klt d.1 e.1) l = k ∧ addGo d false l = l.take k ++ d :: l.drop k := by
  unfold fidxD
  cases e : l.findIdx? (fun e => klt d.1 e.1) with
  | none => exact .inl rfl
  | some i =>
    right
    rw [List.findIdx?_eq_some_iff_getElem] at e
    obtain ⟨hi, hh, hn⟩ := e
    exact ⟨i, hi, rfl, addGo_ins l hne i (by omega) (fun j hj hjk => by simpa using hn j hjk) (fun _ => hh)⟩
/-- Which key is where. -/
theorem kidx_no {l : List De} {key : ByteArray} (h : kidx l key = -1) : ∀ y ∈ l, y.1 ≠ key := by
  unfold kidx fidxD at h
  cases e : l.findIdx? (fun d => decide (d.1 = key)) with
  | some i => rw [e] at h; simp at h
  | none =>
    rw [List.findIdx?_eq_none_iff] at e
    intro y hy
    simpa using e y hy

/-- One stamp written. -/
theorem OwnD.setS {w : World} {base g cap : Nat} {l : List De} (h : OwnD w base (.slice (some ⟨g, 0, none⟩) l.length cap) l) (i : Nat) (hi : i < l.length) (y z : Int) :
    OwnD ((w.setCell ⟨g, i * 3 + 1, none⟩ (.int .i64 y)).setCell ⟨g, i * 3 + 2, none⟩ (.int .i64 z)) base (.slice (some ⟨g, 0, none⟩) l.length cap) (l.set i (l[i].1, y, z)) := by
  have h3 := ((h.stored (i * 3 + 1) (.int .i64 y)).1.stored (i * 3 + 2) (.int .i64 z)).1
  have e : (dV l).set (i * 3) (.string l[i].1) = dV l := by
    apply List.ext_getElem?
    intro j
    rw [List.getElem?_set]
    split
    · rename_i hj
      subst hj
      rw [dV_len, if_pos (by omega), (dV_get l i hi).1]
    · rfl
  unfold OwnD
  rw [← dV_set l i (l[i].1, y, z) hi, List.length_set, e]
  exact h3
end Go.Proofs.Ytplpeokmhomojaa
