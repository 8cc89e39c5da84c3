/- Texts of this proof, one behind the other: TreeMath2, TreeMade. -/
import Derived.Test.YthjjidfoclcghaaGR8
import Derived.Deep.DeepCutAuto
/- Trees by parents, further: what rises, how the code finds out; what lies behind a site as seen from another one. -/
namespace Go.Proofs.Ythjjidfoclcghaa
set_option linter.unusedVariables false
set_option linter.unusedSimpArgs false
namespace Tm

/-- Is a number a site's? -/
def isS (p : List Int) (s : Int) : Bool := decide (0 ≤ s ∧ s < (p.length : Int))
theorem isS_iff {p : List Int} {s : Int} : isS p s = true ↔ 0 ≤ s ∧ s < (p.length : Int) := by simp [isS]
theorem isS_not {p : List Int} {s : Int} : isS p s = false ↔ ¬ (0 ≤ s ∧ s < (p.length : Int)) := by
  unfold isS
  rw [decide_eq_false_iff_not]
theorem isS_nat {p : List Int} {s : Int} (h : isS p s = true) : ∃ x : Nat, s = (x : Int) ∧ x < p.length := by
  rw [isS_iff] at h
  exact ⟨s.toNat, by omega, by omega⟩
/-- Is the root come to in so many steps? -/
def riseF (p : List Int) : Nat → Int → Bool
  | 0, _ => false
  | f + 1, s => if isS p s then (if par p s.toNat = -1 then true else riseF p f (par p s.toNat)) else false
def riseB (p : List Int) (s : Int) : Bool := riseF p p.length s
theorem riseF_no {p : List Int} {f : Nat} {s : Int} (h : isS p s = false) : riseF p f s = false := by
  cases f with
  | zero => rfl
  | succ f => rw [riseF, h]; rfl
theorem riseF_root {p : List Int} {f : Nat} {s : Int} (h : isS p s = true) (e : par p s.toNat = -1) : riseF p (f + 1) s = true := by
  rw [riseF, h, e]; rfl
theorem riseF_up {p : List Int} {f : Nat} {s : Int} (h : isS p s = true) (e : par p s.toNat ≠ -1) : riseF p (f + 1) s = riseF p f (par p s.toNat) := by
  rw [riseF, h, if_neg e]; rfl
theorem riseF_stp {p : List Int} : ∀ (f : Nat) (s : Int), riseF p f s = true → isS p s = true ∧ stp p f s = -1 ∧ -1 ≤ par p s.toNat ∧ par p s.toNat < (p.length : Int)
  | 0, s, h => by rw [riseF] at h; cases h
  | f + 1, s, h => by
    cases hs : isS p s with
    | false => rw [riseF_no hs] at h; cases h
    | true =>
      have h0 := isS_iff.1 hs
      rw [stp, if_pos h0.1]
      by_cases e : par p s.toNat = -1
      · rw [e, stp_neg p f _ (by omega)]
        exact ⟨rfl, rfl, by omega, by omega⟩
      · rw [riseF_up hs e] at h
        obtain ⟨h1, h2, _, _⟩ := riseF_stp f _ h
        have h3 := isS_iff.1 h1
        exact ⟨rfl, h2, by omega, h3.2⟩
theorem nodup_len : ∀ (n : Nat) (l : List Nat), l.Nodup → (∀ x ∈ l, x < n) → l.length ≤ n := by
  intro n
  induction n with
  | zero => intro l _ hl; cases l with
    | nil => simp
    | cons x l => have := hl x List.mem_cons_self; omega
  | succ n ih =>
    intro l nd hl
    by_cases hm : n ∈ l
    · obtain ⟨l1, l2, rfl⟩ := List.append_of_mem hm
      obtain ⟨n1, n2, n3⟩ := List.nodup_append.1 nd
      have n2' := List.nodup_cons.1 n2
      have := ih (l1 ++ l2) (List.nodup_append.2 ⟨n1, n2'.2, fun x hx y hy => n3 x hx y (List.mem_cons_of_mem _ hy)⟩) (fun x hx => by
        have h1 := hl x (by rcases List.mem_append.1 hx with hx | hx <;> simp [hx])
        have h2 : x ≠ n := by
          rintro rfl
          rcases List.mem_append.1 hx with hx | hx
          · exact n3 x hx x List.mem_cons_self rfl
          · exact n2'.1 hx
        omega)
      simp at this ⊢
      omega
    · have := ih l nd (fun x hx => by
        have h1 := hl x hx
        have h2 : x ≠ n := fun e => hm (e ▸ hx)
        omega)
      omega
section
variable {p : List Int} (h : Tr p)
include h
theorem Tr.U_len {x : Nat} (hx : x < p.length) : (U p x).length ≤ p.length :=
  nodup_len _ _ (h.nodup _ x rfl hx) (fun y hy => (h.suf hx hy).1)
theorem Tr.U_lt {x y : Nat} (hx : x < p.length) (hy : y ∈ U p x) : y < p.length := (h.suf hx hy).1
theorem Tr.rise : ∀ (f x : Nat), x < p.length → (U p x).length ≤ f → riseF p f (x : Int) = true
  | 0, x, hx, hl => by
    rw [h.step x hx] at hl
    simp at hl
  | f + 1, x, hx, hl => by
    have hs : isS p (x : Int) = true := isS_iff.2 ⟨by omega, by omega⟩
    rcases h.lt x hx with e | ⟨y, hy, e⟩
    · exact riseF_root hs (by rw [Int.toNat_natCast]; exact e)
    · rw [riseF_up hs (by rw [Int.toNat_natCast, e]; omega), Int.toNat_natCast, e]
      rw [h.step x hx, e] at hl
      exact Tr.rise f y hy (by simpa using hl)
end
/-- What the code's Check finds. -/
theorem chk_code {p : List Int} (h6 : p.length ≤ 6) (hr : ∀ i, i < p.length → riseB p (i : Int) = true) : chkT p = decide (p.count (-1) = 1) := by
  rw [Bool.eq_iff_iff, decide_eq_true_eq, chkT_iff]
  constructor
  · exact fun h => h.rt
  · intro hc
    have h1 : 1 ≤ p.length := by
      have : (-1 : Int) ∈ p := List.count_pos_iff.1 (by omega)
      have := List.length_pos_of_mem this
      omega
    refine ⟨h1, h6, fun x hx => ?_, fun x hx => ?_, hc⟩
    · have := riseF_stp _ _ (hr x hx)
      rw [Int.toNat_natCast] at this
      exact ⟨this.2.2.1, this.2.2.2⟩
    · exact stp_mono p _ _ (riseF_stp _ _ (hr x hx)).2.1 7 (by omega)
theorem chk_fall {p : List Int} {i : Nat} (hi : i < p.length) (hr : riseB p (i : Int) = false) : chkT p = false :=
  chkT_no fun h => by
    have := h.rise p.length i hi (h.U_len hi)
    unfold riseB at hr
    rw [hr] at this
    cases this
theorem chk_long {p : List Int} (h : 6 < p.length) : chkT p = false := chkT_no fun t => by have := t.n6; omega
theorem chk_nil {p : List Int} (h : p.length < 1) : chkT p = false := chkT_no fun t => by have := t.n1; omega
theorem count_take {p : List Int} {k : Nat} (hk : k < p.length) (v : Int) : (p.take (k + 1)).count v = (p.take k).count v + if p[k] = v then 1 else 0 := by
  rw [List.take_succ_eq_append_getElem hk, List.count_append, List.count_singleton]
  simp [beq_iff_eq]
/-- What the document's Check finds. -/
theorem chk_ref {p : List Int} (h1 : 1 ≤ p.length) (h6 : p.length ≤ 6) (hr : ∀ i, i < p.length → (-1 ≤ par p i ∧ par p i < (p.length : Int)) ∧ stp p 7 (i : Int) = -1) : chkT p = decide (p.count (-1) = 1) := by
  rw [Bool.eq_iff_iff, decide_eq_true_eq, chkT_iff]
  exact ⟨fun h => h.rt, fun hc => ⟨h1, h6, fun x hx => (hr x hx).1, fun x hx => (hr x hx).2, hc⟩⟩
theorem chk_range {p : List Int} {i : Nat} (hi : i < p.length) (hr : ¬ (-1 ≤ par p i ∧ par p i < (p.length : Int))) : chkT p = false := chkT_no fun h => hr (h.rg i hi)
theorem chk_stp {p : List Int} {i : Nat} (hi : i < p.length) (hr : stp p 7 (i : Int) ≠ -1) : chkT p = false := chkT_no fun h => hr (h.rc i hi)
theorem stp_succ (p : List Int) : ∀ (k : Nat) (a : Int), stp p (k + 1) a = if 0 ≤ stp p k a then par p (stp p k a).toNat else stp p k a
  | 0, a => by rw [stp, stp, stp]
  | k + 1, a => by
    rw [stp]
    by_cases ha : 0 ≤ a
    · rw [if_pos ha, stp_succ p k, stp, if_pos ha]
    · rw [if_neg ha, stp, if_neg ha, if_neg ha]
theorem stp_low (p : List Int) : ∀ (k m : Nat) (a : Int), k ≤ m → stp p k a < 0 → stp p m a = stp p k a
  | k, 0, a, h, hn => by
    have e : k = 0 := by omega
    rw [e]
  | k, m + 1, a, h, hn => by
    by_cases e : k = m + 1
    · rw [e]
    · rw [stp_succ, stp_low p k m a (by omega) hn, if_neg (by omega)]
/-- Who is near, told one behind the other. -/
def nearK (p : List Int) (a k : Nat) : List Nat := (List.range k).filter fun i => decide (par p a = (i : Int)) || decide (par p i = (a : Int))
theorem nearK_zero (p : List Int) (a : Nat) : nearK p a 0 = [] := rfl
theorem nearK_all (p : List Int) (a : Nat) : nearK p a p.length = nearL p a := rfl
theorem nearK_yes {p : List Int} {a k : Nat} (h : par p a = (k : Int) ∨ par p k = (a : Int)) : nearK p a (k + 1) = nearK p a k ++ [k] := by
  unfold nearK
  rw [List.range_succ, List.filter_append]
  congr 1
  have : (decide (par p a = (k : Int)) || decide (par p k = (a : Int))) = true := by simpa using h
  simp [this]
theorem nearK_no {p : List Int} {a k : Nat} (h1 : par p a ≠ (k : Int)) (h2 : par p k ≠ (a : Int)) : nearK p a (k + 1) = nearK p a k := by
  unfold nearK
  rw [List.range_succ, List.filter_append]
  have : (decide (par p a = (k : Int)) || decide (par p k = (a : Int))) = false := by simp [h1, h2]
  simp [this]
theorem nearK_len (p : List Int) (a : Nat) : ∀ k, (nearK p a k).length ≤ k := by
  intro k
  have := List.length_filter_le (fun i : Nat => decide (par p a = (i : Int)) || decide (par p i = (a : Int))) (List.range k)
  rw [List.length_range] at this
  exact this
/-- Numbers as a row of ints. -/
def ln (l : List Nat) : List Int := l.map fun (x : Nat) => (x : Int)
theorem ln_len (l : List Nat) : (ln l).length = l.length := by simp [ln]
theorem ln_app (l m : List Nat) : ln (l ++ m) = ln l ++ ln m := by simp [ln]
theorem ln_cons (x : Nat) (l : List Nat) : ln (x :: l) = (x : Int) :: ln l := by simp [ln]
theorem ln_nil : ln [] = [] := rfl
theorem ln_get (l : List Nat) (i : Nat) (h : i < (ln l).length) : (ln l)[i] = ((l[i]'(by simpa [ln] using h) : Nat) : Int) := by simp [ln]
theorem ln_inj {l m : List Nat} (h : ln l = ln m) : l = m := by
  unfold ln at h
  exact List.map_inj_right (fun x y hxy => by omega) |>.1 h
theorem okS_eq (p : List Int) (a : Int) : okS p a = (chkT p && isS p a) := rfl
/-- What the closure answers: the way, if what is looked for lies behind. -/
def behind (p : List Int) (b at' fr : Nat) : Bool := fr == at' || via p fr at' b
def goR (p : List Int) (b at' fr : Nat) : List Nat := if behind p b at' fr then way p at' b else []
/-- How many lie behind. -/
def cntB (p : List Int) (at' fr : Nat) : Nat := sm (fun k => if behind p k at' fr then 1 else 0) p.length
theorem sm_le {f g : Nat → Nat} : ∀ n, (∀ i, i < n → f i ≤ g i) → sm f n ≤ sm g n
  | 0, _ => Nat.le_refl _
  | n + 1, h => by
    have := sm_le n (fun i hi => h i (by omega))
    have := h n (by omega)
    rw [sm, sm]
    omega
theorem sm_lt {f g : Nat → Nat} (j : Nat) (hj : f j < g j) : ∀ n, j < n → (∀ i, i < n → f i ≤ g i) → sm f n < sm g n
  | 0, h, _ => by omega
  | n + 1, hn, h => by
    rw [sm, sm]
    by_cases e : j = n
    · subst e
      have := sm_le (f := f) (g := g) j (fun i hi => h i (by omega))
      omega
    · have := sm_lt j hj n (by omega) (fun i hi => h i (by omega))
      have := h n (by omega)
      omega
section
variable {p : List Int} (h : Tr p)
include h
/-- From a site on, to one that is near, but not back: what lies behind is less. -/
theorem Tr.cnt_lt {a fr s : Nat} (ha : a < p.length) (hs : s < p.length) (has : adj p a s) (hfr : fr = a ∨ fr < p.length ∧ adj p fr a) (hne : s ≠ fr) : cntB p s a < cntB p a fr := by
  have hsa : s ≠ a := fun e => h.adj_ne ha hs has e.symm
  have hself : behind p a s a = false := by
    unfold behind
    rw [h.via_self ha]
    simp
    exact fun e => hsa e.symm
  have hup : behind p a a fr = true := by
    unfold behind
    rcases hfr with rfl | ⟨hf, hfa⟩
    · simp
    · rw [h.via_near hf ha hfa]; simp
  refine sm_lt a (by rw [hself, hup]; decide) p.length ha fun k hk => ?_
  cases h1 : behind p k s a with
  | false => simp
  | true =>
    have h2 : via p a s k = true := by
      unfold behind at h1
      simp at h1
      rcases h1 with e | h1
      · exact absurd e.symm hsa
      · exact h1
    have h3 : behind p k a fr = true := by
      unfold behind
      rcases hfr with rfl | ⟨hf, hfa⟩
      · simp
      · have h4 := h.sides hf ha hk hfa
        rw [← via_iff, ← via_iff] at h4
        have h5 : ¬ via p a fr k = true := by
          rw [via_iff] at h2 ⊢
          rw [h2]
          simp
          exact hne
        rw [h4.2 h5]
        simp
    rw [h3]
    simp
theorem Tr.go_here {b fr : Nat} (hb : b < p.length) (hfr : fr = b ∨ fr < p.length ∧ adj p fr b) : goR p b b fr = [b] := by
  unfold goR behind
  rcases hfr with rfl | ⟨hf, hfa⟩
  · simp [h.way_self hb]
  · rw [h.via_near hf hb hfa, h.way_self hb]; simp
/-- One that is found. -/
theorem Tr.go_hit {a b fr s : Nat} (ha : a < p.length) (hb : b < p.length) (hs : s < p.length) (has : adj p a s) (hab : a ≠ b) (hfr : fr = a ∨ fr < p.length ∧ adj p fr a) (hne : s ≠ fr) (hg : goR p b s a ≠ []) : goR p b a fr = a :: goR p b s a := by
  have hsa : s ≠ a := fun e => h.adj_ne ha hs has e.symm
  have h1 : behind p b s a = true := by
    unfold goR at hg
    split at hg
    · assumption
    · exact absurd rfl hg
  have h2 : via p a s b = true := by
    have h1' := h1
    unfold behind at h1'
    simp at h1'
    rcases h1' with e | h1'
    · exact absurd e.symm hsa
    · exact h1'
  have h3 : behind p b a fr = true := by
    unfold behind
    rcases hfr with rfl | ⟨hf, hfa⟩
    · simp
    · have h4 := h.sides hf ha hb hfa
      rw [← via_iff, ← via_iff] at h4
      have h5 : ¬ via p a fr b = true := by
        rw [via_iff] at h2 ⊢
        rw [h2]
        simp
        exact hne
      rw [h4.2 h5]
      simp
  unfold goR
  rw [h1, h3, if_pos rfl, if_pos rfl]
  obtain ⟨c, t, e1, _, _, e2⟩ := h.step1 ha hb (Ne.symm hab)
  rw [via_iff, e1] at h2
  have : c = s := by simpa using h2
  subst this
  rw [e1, e2]
/-- None is found. -/
theorem Tr.go_none {a b fr : Nat} (ha : a < p.length) (hb : b < p.length) (hab : a ≠ b) (hfr : fr = a ∨ fr < p.length ∧ adj p fr a) (hall : ∀ s ∈ nearL p a, s ≠ fr → goR p b s a = []) : goR p b a fr = [] := by
  obtain ⟨c, hc, hv, _⟩ := h.via_one ha hb (Ne.symm hab)
  have hcl := nearL_mem.1 hc
  have hgc : goR p b c a ≠ [] := by
    unfold goR behind
    rw [hv, Bool.or_true, if_pos rfl]
    obtain ⟨t, e⟩ := h.way_cons hcl.1 hb
    rw [e]
    simp
  have hcf : c = fr := by
    by_cases e : c = fr
    · exact e
    · exact absurd (hall c hc e) hgc
  subst hcf
  have hca : c ≠ a := fun e => h.adj_ne ha hcl.1 hcl.2 e.symm
  unfold goR behind
  have h4 := h.sides hcl.1 ha hb hcl.2.symm
  rw [← via_iff, ← via_iff] at h4
  have h5 : via p c a b = false := by
    cases h6 : via p c a b with
    | false => rfl
    | true => exact absurd hv (h4.1 h6)
  rw [h5]
  simp [hca]
theorem Tr.go_len {a b fr : Nat} (ha : a < p.length) (hb : b < p.length) : (goR p b a fr).length ≤ 6 := by
  unfold goR
  split
  · have := h.way_len ha hb
    have := h.n6
    omega
  · simp
end
theorem go_first {p : List Int} {a b : Nat} : goR p b a a = way p a b := by
  unfold goR behind
  simp
theorem pathI_len (p : List Int) (a b : Int) : (pathI p a b).length ≤ 6 := by
  unfold pathI
  split
  · rename_i h
    rw [Bool.and_eq_true] at h
    obtain ⟨ht, x, rfl, hx⟩ := okS_some h.1
    obtain ⟨_, y, rfl, hy⟩ := okS_some h.2
    rw [Int.toNat_natCast, Int.toNat_natCast]
    have := ht.way_len hx hy
    have := ht.n6
    omega
  · simp
theorem nearI_len (p : List Int) (a : Int) : (nearI p a).length ≤ 6 := by
  unfold nearI
  split
  · rename_i h
    obtain ⟨ht, x, rfl, hx⟩ := okS_some h
    rw [Int.toNat_natCast]
    have := nearK_len p x p.length
    rw [nearK_all] at this
    have := ht.n6
    omega
  · simp
end Tm
end Go.Proofs.Ythjjidfoclcghaa
/- What the laws' own made answers: some tree. -/
namespace Go.Proofs.Ythjjidfoclcghaa
open Go.RowKit
set_option linter.unusedVariables false
set_option linter.unusedSimpArgs false

namespace Tm
theorem madeK_cong {n t : Nat} {x y : Nat → Nat} : ∀ k, (∀ i, i < k → x i = y i) → madeK n t x k = madeK n t y k
  | 0, _ => rfl
  | k + 1, h => by
    rw [madeK, madeK, madeK_cong k (fun i hi => h i (by omega))]
    unfold qM
    rw [h k (by omega)]
/-- A row behind so many, its numbers right. -/
def Mk (n t k : Nat) (pl : List Int) : Prop := ∃ x : Nat → Nat, (∀ i, 0 < i → i < k → x i < i) ∧ pl = madeK n t x k
theorem Mk.zero (n t : Nat) : Mk n t 0 (List.replicate n 0) := ⟨fun _ => 0, fun i _ h => by omega, rfl⟩
theorem Mk.root {n t : Nat} {pl : List Int} (h : Mk n t 0 pl) : Mk n t 1 (pl.set (sg n t 0) (-1)) := by
  obtain ⟨x, h1, rfl⟩ := h
  exact ⟨x, fun i h0 h2 => by omega, rfl⟩
theorem Mk.succ {n t k : Nat} {pl : List Int} (h : Mk n t (k + 1) pl) {y : Nat} (hy : y < k + 1) : Mk n t (k + 2) (pl.set (sg n t (k + 1)) (sg n t y : Int)) := by
  obtain ⟨x, h1, rfl⟩ := h
  refine ⟨fun i => if i = k + 1 then y else x i, fun i h0 h2 => ?_, ?_⟩
  · by_cases e : i = k + 1
    · simp [e]; omega
    · simp only [if_neg e]
      exact h1 i h0 (by omega)
  · show _ = (madeK n t _ (k + 1)).set _ _
    rw [madeK_cong (k + 1) (y := x) (fun i hi => if_neg (by omega))]
    unfold qM
    rw [if_neg (by omega)]
    simp
theorem Mk.len {n t k : Nat} {pl : List Int} (h : Mk n t k pl) : pl.length = n := by
  obtain ⟨x, _, rfl⟩ := h
  exact madeK_len n t x k
theorem Mk.tr {n t : Nat} {pl : List Int} (h : Mk n t n pl) (h1 : 1 ≤ n) (h6 : n ≤ 6) : Tr pl := by
  obtain ⟨x, hx, rfl⟩ := h
  exact made_tr h1 h6 hx
theorem Mk.first {n : Nat} {pl : List Int} (h : Mk n 0 n pl) (h1 : 1 ≤ n) : par pl 0 = -1 := by
  obtain ⟨x, hx, rfl⟩ := h
  have := madeK_get n 0 x h1 n (Nat.le_refl _) 0 (by omega)
  have e : sg n 0 0 = 0 := by unfold sg; simp
  rw [e] at this
  unfold par
  rw [this]
  rfl
end Tm

/-- What made leaves. -/
def MadeT (turn : Int) (m : Nat) (w : World) (e : Ending) (w' : World) : Prop := ∃ p g, e = .returned (.slice (some ⟨g, 0, none⟩) p.length p.length) ∧ Tm.Tr p ∧ p.length = min m 5 + 1 ∧ (turn = 0 → Tm.par p 0 = -1) ∧ OwnR KI w' w.heap.size (.slice (some ⟨g, 0, none⟩) p.length p.length) p ∧ Below w.heap.size w w'

end Go.Proofs.Ythjjidfoclcghaa
