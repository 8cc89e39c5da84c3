/- Trees by parents: plain mathematics: the row upward, the one way between two sites, sides, who is near, and how many. -/
import Derived.Test.YthjjidfoclcghaaGR7
import Derived.Test.YthjjidfoclcghaaProg
namespace Go.Proofs.Ythjjidfoclcghaa
set_option linter.unusedVariables false
set_option linter.unusedSimpArgs false
namespace Tm

/-- The parent of a site. -/
def par (p : List Int) (x : Nat) : Int := (p[x]?).getD (-1)
/-- So many steps up. -/
def stp (p : List Int) : Nat → Int → Int
  | 0, a => a
  | f + 1, a => if 0 ≤ a then stp p f (par p a.toNat) else a
/-- The sites from one up, of so many steps. -/
def upF (p : List Int) : Nat → Int → List Nat
  | 0, _ => []
  | f + 1, a => if 0 ≤ a then a.toNat :: upF p f (par p a.toNat) else []
def U (p : List Int) (a : Int) : List Nat := upF p 7 a
def chkT (p : List Int) : Bool := decide (1 ≤ p.length ∧ p.length ≤ 6) && p.all (fun x => decide (-1 ≤ x ∧ x < (p.length : Int))) && (List.range p.length).all (fun i => decide (stp p 7 (i : Int) = -1)) && decide (p.count (-1) = 1)
structure Tr (p : List Int) : Prop where
  n1 : 1 ≤ p.length
  n6 : p.length ≤ 6
  rg : ∀ x, x < p.length → -1 ≤ par p x ∧ par p x < (p.length : Int)
  rc : ∀ x, x < p.length → stp p 7 (x : Int) = -1
  rt : p.count (-1) = 1
theorem par_get (p : List Int) (x : Nat) (h : x < p.length) : par p x = p[x] := by simp [par, h]
theorem chkT_iff (p : List Int) : chkT p = true ↔ Tr p := by
  unfold chkT
  simp only [Bool.and_eq_true, decide_eq_true_eq, List.all_eq_true, List.mem_range]
  constructor
  · rintro ⟨⟨⟨⟨h1, h2⟩, h3⟩, h4⟩, h5⟩
    exact ⟨h1, h2, fun x hx => by rw [par_get p x hx]; exact h3 _ (List.getElem_mem hx), h4, h5⟩
  · rintro ⟨h1, h2, h3, h4, h5⟩
    refine ⟨⟨⟨⟨h1, h2⟩, fun x hx => ?_⟩, h4⟩, h5⟩
    obtain ⟨i, hi, rfl⟩ := List.getElem_of_mem hx
    have := h3 i hi
    rwa [par_get p i hi] at this
theorem upF_neg (p : List Int) (f : Nat) (a : Int) (h : a < 0) : upF p f a = [] := by
  cases f with
  | zero => rfl
  | succ f => rw [upF, if_neg (by omega)]
theorem stp_neg (p : List Int) (f : Nat) (a : Int) (h : a < 0) : stp p f a = a := by
  cases f with
  | zero => rfl
  | succ f => rw [stp, if_neg (by omega)]
theorem upF_stable (p : List Int) : ∀ (f : Nat) (a : Int), stp p f a < 0 → ∀ g, f ≤ g → upF p g a = upF p f a
  | 0, a, h, g, hg => by
    rw [stp] at h
    rw [upF_neg p g a h, upF_neg p 0 a h]
  | f + 1, a, h, g, hg => by
    by_cases ha : 0 ≤ a
    · rw [stp, if_pos ha] at h
      obtain ⟨g', rfl⟩ : ∃ g', g = g' + 1 := ⟨g - 1, by omega⟩
      rw [upF, upF, if_pos ha, if_pos ha, upF_stable p f _ h g' (by omega)]
    · rw [upF_neg p g a (by omega), upF_neg p _ a (by omega)]
theorem U_neg (p : List Int) {a : Int} (h : a < 0) : U p a = [] := upF_neg p 7 a h
section
variable {p : List Int} (h : Tr p)
include h
theorem Tr.step (x : Nat) (hx : x < p.length) : U p x = x :: U p (par p x) := by
  have h1 := h.rc x hx
  rw [stp, if_pos (by omega), Int.toNat_natCast] at h1
  show upF p 7 x = x :: upF p 7 (par p x)
  rw [upF, if_pos (by omega), Int.toNat_natCast, upF_stable p 6 _ (by omega) 7 (by omega)]
theorem Tr.lt (x : Nat) (hx : x < p.length) : par p x = -1 ∨ ∃ y : Nat, y < p.length ∧ par p x = (y : Int) := by
  have := h.rg x hx
  by_cases e : par p x = -1
  · exact .inl e
  · exact .inr ⟨(par p x).toNat, by omega, by omega⟩
/-- Whoever stands above one, stands there with all above him. -/
theorem Tr.suffix : ∀ (k x : Nat), (U p x).length = k → x < p.length → ∀ y, y ∈ U p x → y < p.length ∧ ∃ l, U p x = l ++ U p y
  | k, x, hk, hx, y, hy => by
    have hs := h.step x hx
    rw [hs] at hy hk
    rcases List.mem_cons.1 hy with rfl | hy
    · exact ⟨hx, [], rfl⟩
    · rcases h.lt x hx with e | ⟨z, hz, e⟩
      · rw [e, U_neg p (by omega)] at hy
        cases hy
      · rw [e] at hy hk hs
        have hlt : (U p z).length < k := by simp at hk; omega
        obtain ⟨h1, l, h2⟩ := Tr.suffix (U p z).length z rfl hz y hy
        exact ⟨h1, x :: l, by rw [hs, h2]; rfl⟩
  termination_by k => k
  decreasing_by all_goals omega
theorem Tr.suf {x y : Nat} (hx : x < p.length) (hy : y ∈ U p x) : y < p.length ∧ ∃ l, U p x = l ++ U p y := h.suffix _ x rfl hx y hy
theorem Tr.notin {x : Nat} (hx : x < p.length) : x ∉ U p (par p x) := by
  intro hy
  rcases h.lt x hx with e | ⟨z, hz, e⟩
  · rw [e, U_neg p (by omega)] at hy
    cases hy
  · rw [e] at hy
    obtain ⟨_, l, hl⟩ := h.suf hz hy
    have hs := h.step x hx
    rw [e] at hs
    have := congrArg List.length hl
    rw [hs] at this
    simp at this
    omega
theorem Tr.nodup : ∀ (k x : Nat), (U p x).length = k → x < p.length → (U p x).Nodup
  | k, x, hk, hx => by
    have hs := h.step x hx
    rw [hs] at hk ⊢
    refine List.nodup_cons.2 ⟨h.notin hx, ?_⟩
    rcases h.lt x hx with e | ⟨z, hz, e⟩
    · rw [e, U_neg p (by omega)]; exact List.nodup_nil
    · rw [e] at hk ⊢
      have hlt : (U p z).length < k := by simp at hk; omega
      exact Tr.nodup (U p z).length z rfl hz
  termination_by k => k
  decreasing_by all_goals omega
/-- The root. -/
theorem Tr.root : ∃ r, r < p.length ∧ par p r = -1 ∧ ∀ x, x < p.length → par p x = -1 → x = r := by
  have hc := h.rt
  have hm : (-1 : Int) ∈ p := List.count_pos_iff.1 (by omega)
  obtain ⟨r, hr, e⟩ := List.getElem_of_mem hm
  refine ⟨r, hr, by rw [par_get p r hr]; exact e, fun x hx hxe => ?_⟩
  rw [par_get p x hx] at hxe
  have two : ∀ i j : Nat, i < j → ∀ (hi : i < p.length) (hj : j < p.length), p[i] = -1 → p[j] = -1 → False := by
    intro i j hij hi hj h1 h2
    have e1 : p = p.take j ++ p.drop j := (List.take_append_drop j p).symm
    have c1 : 1 ≤ (p.take j).count (-1) := List.count_pos_iff.2 (List.mem_take_iff_getElem.2 ⟨i, by omega, by simpa using h1⟩)
    have c2 : 1 ≤ (p.drop j).count (-1) := List.count_pos_iff.2 (by rw [List.drop_eq_getElem_cons hj, h2]; simp)
    have := congrArg (List.count (-1)) e1
    rw [List.count_append] at this
    omega
  rcases Nat.lt_trichotomy x r with hl | hl | hl
  · exact (two x r hl hx hr hxe e).elim
  · exact hl
  · exact (two r x hl hr hx e hxe).elim
theorem Tr.rootin {r : Nat} (hr : par p r = -1) (hu : ∀ x, x < p.length → par p x = -1 → x = r) : ∀ (k x : Nat), (U p x).length = k → x < p.length → r ∈ U p x
  | k, x, hk, hx => by
    have hs := h.step x hx
    rw [hs] at hk ⊢
    rcases h.lt x hx with e | ⟨z, hz, e⟩
    · rw [hu x hx e]; exact List.mem_cons_self
    · rw [e] at hk ⊢
      have hlt : (U p z).length < k := by simp at hk; omega
      exact List.mem_cons_of_mem _ (Tr.rootin hr hu (U p z).length z rfl hz)
  termination_by k => k
  decreasing_by all_goals omega
end
/-- The first of a row that is in another, and what stands ahead. -/
def cutL (f : Nat → Bool) : List Nat → List Nat × List Nat
  | [] => ([], [])
  | x :: t => if f x then ([], x :: t) else ((cutL f t).map (x :: ·) id)
theorem cutL_eq (f : Nat → Bool) : ∀ l, (cutL f l).1 ++ (cutL f l).2 = l
  | [] => rfl
  | x :: t => by
    rw [cutL]
    split
    · rfl
    · simp [Prod.map, cutL_eq f t]
theorem cutL_no (f : Nat → Bool) : ∀ l, ∀ x ∈ (cutL f l).1, f x = false
  | [], x, h => by simp [cutL] at h
  | y :: t, x, h => by
    rw [cutL] at h
    split at h
    · simp at h
    · rename_i hf
      simp [Prod.map] at h
      rcases h with rfl | h
      · simpa using hf
      · exact cutL_no f t x h
theorem cutL_yes (f : Nat → Bool) : ∀ l, (∃ x ∈ l, f x = true) → ∃ s S, (cutL f l).2 = s :: S ∧ f s = true
  | [], h => by simp at h
  | y :: t, h => by
    rw [cutL]
    split
    · rename_i hf
      exact ⟨y, t, rfl, hf⟩
    · rename_i hf
      obtain ⟨x, hx, hfx⟩ := h
      rcases List.mem_cons.1 hx with rfl | hx
      · exact absurd hfx hf
      · exact cutL_yes f t ⟨x, hx, hfx⟩
/-- The way from one site to another: up to the first one that both come by, and down. -/
def way (p : List Int) (a b : Nat) : List Nat :=
  match (cutL (fun x => (U p b).contains x) (U p a)).2 with
  | [] => []
  | s :: _ => (cutL (fun x => (U p b).contains x) (U p a)).1 ++ s :: ((cutL (fun x => x == s) (U p b)).1).reverse
section
variable {p : List Int} (h : Tr p)
include h
/-- Two sites' rows upward meet. -/
theorem Tr.meet {a b : Nat} (ha : a < p.length) (hb : b < p.length) : ∃ (A : List Nat) (s : Nat) (S B : List Nat), U p a = A ++ s :: S ∧ U p b = B ++ s :: S ∧ (∀ x ∈ A, x ∉ U p b) ∧ (∀ x ∈ B, x ∉ U p a) ∧ way p a b = A ++ s :: B.reverse ∧ U p (s : Int) = s :: S ∧ s < p.length := by
  obtain ⟨r, hr, hre, hu⟩ := h.root
  have r1 := h.rootin hre hu _ a rfl ha
  have r2 := h.rootin hre hu _ b rfl hb
  obtain ⟨s, S, h1, h2⟩ := cutL_yes (fun x => (U p b).contains x) (U p a) ⟨r, r1, by simpa using r2⟩
  have e1 := cutL_eq (fun x => (U p b).contains x) (U p a)
  have n1 := cutL_no (fun x => (U p b).contains x) (U p a)
  rw [h1] at e1
  have hsb : s ∈ U p b := by simpa using h2
  have hsa : s ∈ U p a := by rw [← e1]; simp
  obtain ⟨hs, l, hl⟩ := h.suf ha hsa
  obtain ⟨_, l', hl'⟩ := h.suf hb hsb
  have hss := h.step s hs
  obtain ⟨s', S', h3, h4⟩ := cutL_yes (fun x => x == s) (U p b) ⟨s, hsb, by simp⟩
  have e2 := cutL_eq (fun x => x == s) (U p b)
  have n2 := cutL_no (fun x => x == s) (U p b)
  rw [h3] at e2
  obtain rfl : s' = s := by simpa using h4
  have nda := h.nodup _ a rfl ha
  have ndb := h.nodup _ b rfl hb
  -- what stands behind s is the same in both
  have key : ∀ (L l T : List Nat), (L ++ s' :: T).Nodup → L ++ s' :: T = l ++ U p s' → s' :: T = U p s' := by
    intro L l T nd e
    rw [hss] at e ⊢
    have : L = l := by
      induction L generalizing l with
      | nil =>
        cases l with
        | nil => rfl
        | cons y l =>
          simp at e
          obtain ⟨rfl, e⟩ := e
          rw [List.nil_append, List.nodup_cons] at nd
          exact absurd (by rw [e]; simp) nd.1
      | cons x L ih =>
        cases l with
        | nil =>
          simp at e
          obtain ⟨rfl, _⟩ := e
          rw [List.cons_append, List.nodup_cons] at nd
          exact absurd (by simp) nd.1
        | cons y l =>
          simp at e
          obtain ⟨rfl, e⟩ := e
          rw [List.cons_append, List.nodup_cons] at nd
          rw [ih l nd.2 e]
    subst this
    exact List.append_cancel_left e
  have kS := key _ l S (by rw [e1]; exact nda) (by rw [e1]; exact hl)
  have kS' := key _ l' S' (by rw [e2]; exact ndb) (by rw [e2]; exact hl')
  have hSS : S' = S := by
    have := kS.trans kS'.symm
    simpa using this.symm
  subst hSS
  refine ⟨_, s', S', (cutL (fun x => x == s') (U p b)).1, e1.symm, e2.symm, fun x hx => by have := n1 x hx; simpa using this, fun x hx hxa => ?_, ?_, kS.symm, hs⟩
  · -- a site of b's row ahead of s that is a's, too: then s stands behind it in both
    have hxb : x ∈ U p b := by rw [← e2]; exact List.mem_append_left _ hx
    rw [← e1] at hxa
    rcases List.mem_append.1 hxa with hxa | hxa
    · have := n1 x hxa
      simp at this
      exact this hxb
    · rw [← e2] at ndb
      have hd := List.nodup_append.1 ndb
      exact hd.2.2 x hx x hxa rfl
  · unfold way
    rw [h1]
end
set_option linter.unusedVariables false
theorem nodup_rev {l : List Nat} (h : l.Nodup) : l.reverse.Nodup := by
  unfold List.Nodup at h ⊢
  rw [List.pairwise_reverse]
  exact h.imp (fun h => h.symm)
theorem cutL_of (f : Nat → Bool) (s : Nat) (S : List Nat) (hs : f s = true) : ∀ A : List Nat, (∀ x ∈ A, f x = false) → cutL f (A ++ s :: S) = (A, s :: S)
  | [], _ => by rw [List.nil_append, cutL, if_pos hs]
  | x :: A, h => by
    rw [List.cons_append, cutL, if_neg (by rw [h x List.mem_cons_self]; simp), cutL_of f s S hs A (fun y hy => h y (List.mem_cons_of_mem _ hy))]
    rfl
theorem way_of {p : List Int} {a b s : Nat} {A B S S' : List Nat} (ha : U p a = A ++ s :: S) (hb : U p b = B ++ s :: S') (hA : ∀ x ∈ A, x ∉ U p b) (hB : s ∉ B) : way p a b = A ++ s :: B.reverse := by
  have h1 : cutL (fun x => (U p b).contains x) (U p a) = (A, s :: S) := by
    rw [ha]
    exact cutL_of _ s S (by rw [hb]; simp) A (fun x hx => by have := hA x hx; simpa using this)
  have h2 : cutL (fun x => x == s) (U p b) = (B, s :: S') := by
    rw [hb]
    exact cutL_of _ s S' (by simp) B (fun x hx => by
      have : x ≠ s := fun e => hB (e ▸ hx)
      simpa using this)
  unfold way
  rw [h1]
  simp only
  rw [h2]
/-- Two sites are near one another. -/
def adj (p : List Int) (x y : Nat) : Prop := par p x = (y : Int) ∨ par p y = (x : Int)
theorem adj_symm {p : List Int} {x y : Nat} (h : adj p x y) : adj p y x := h.symm
def adjs (p : List Int) : List Nat → Prop
  | [] => True
  | [_] => True
  | x :: y :: t => adj p x y ∧ adjs p (y :: t)
/-- A way on which none is twice. -/
structure Wk (p : List Int) (l : List Nat) (a b : Nat) : Prop where
  hd : l.head? = some a
  tl : l.getLast? = some b
  ad : adjs p l
  nd : l.Nodup
  lt : ∀ x ∈ l, x < p.length
theorem adjs_tail {p : List Int} {x : Nat} {t : List Nat} (h : adjs p (x :: t)) : adjs p t := by
  cases t with
  | nil => trivial
  | cons y t => exact h.2
theorem adjs_app {p : List Int} : ∀ {l r : List Nat}, adjs p (l ++ r) → adjs p l ∧ adjs p r
  | [], r, h => ⟨trivial, h⟩
  | x :: l, r, h => by
    obtain ⟨h1, h2⟩ := adjs_app (l := l) (r := r) (adjs_tail h)
    refine ⟨?_, h2⟩
    cases l with
    | nil => trivial
    | cons y l => exact ⟨h.1, h1⟩
theorem adjs_glue {p : List Int} : ∀ {l : List Nat} {x : Nat} {r : List Nat}, adjs p (l ++ [x]) → adjs p (x :: r) → adjs p (l ++ x :: r)
  | [], x, r, _, h => h
  | [y], x, r, h, h' => ⟨h.1, h'⟩
  | y :: z :: l, x, r, h, h' => ⟨h.1, adjs_glue (l := z :: l) h.2 h'⟩
theorem adjs_rev {p : List Int} : ∀ l : List Nat, adjs p l → adjs p l.reverse
  | [], _ => trivial
  | [_], _ => trivial
  | x :: y :: t, h => by
    have ih := adjs_rev (y :: t) h.2
    rw [List.reverse_cons] at ih ⊢
    rw [List.reverse_cons, List.append_assoc]
    exact adjs_glue (l := t.reverse) ih ⟨adj_symm h.1, trivial⟩
section
variable {p : List Int} (h : Tr p)
include h
theorem Tr.U_adjs : ∀ (k x : Nat), (U p x).length = k → x < p.length → adjs p (U p x)
  | k, x, hk, hx => by
    have hs := h.step x hx
    rw [hs] at hk ⊢
    rcases h.lt x hx with e | ⟨z, hz, e⟩
    · rw [e, U_neg p (by omega)]; trivial
    · rw [e] at hk ⊢
      have hlt : (U p z).length < k := by simp at hk; omega
      have ih := Tr.U_adjs (U p z).length z rfl hz
      have hz' := h.step z hz
      rw [hz'] at ih ⊢
      exact ⟨.inl e, ih⟩
  termination_by k => k
  decreasing_by all_goals omega
theorem Tr.way_wk {a b : Nat} (ha : a < p.length) (hb : b < p.length) : Wk p (way p a b) a b := by
  obtain ⟨A, s, S, B, h1, h2, h3, h4, h5, h6, h7⟩ := h.meet ha hb
  have sa := h.step a ha
  have sb := h.step b hb
  have nda := h.nodup _ a rfl ha
  have ndb := h.nodup _ b rfl hb
  have aa := h.U_adjs _ a rfl ha
  have ab := h.U_adjs _ b rfl hb
  rw [h5]
  have la : ∀ x ∈ U p a, x < p.length := fun x hx => (h.suf ha hx).1
  have lb : ∀ x ∈ U p b, x < p.length := fun x hx => (h.suf hb hx).1
  refine ⟨?_, ?_, ?_, ?_, ?_⟩
  · cases A with
    | nil => rw [h1] at sa; simp at sa; simp [sa.1]
    | cons y A => rw [h1] at sa; simp at sa; simp [sa.1]
  · rw [List.getLast?_append]
    cases B with
    | nil => rw [h2] at sb; simp at sb; simp [sb.1]
    | cons y B => rw [h2] at sb; simp at sb; simp [sb.1, List.getLast?_cons]
  · rw [h1] at aa
    rw [h2] at ab
    have e1 : A ++ s :: S = (A ++ [s]) ++ S := by simp
    have e2 : B ++ s :: S = (B ++ [s]) ++ S := by simp
    rw [e1] at aa
    rw [e2] at ab
    have r := adjs_rev _ (adjs_app ab).1
    rw [List.reverse_append] at r
    exact adjs_glue (adjs_app aa).1 r
  · rw [h1] at nda
    rw [h2] at ndb
    obtain ⟨na, nb, nc⟩ := List.nodup_append.1 nda
    obtain ⟨ma, mb, mc⟩ := List.nodup_append.1 ndb
    refine List.nodup_append.2 ⟨na, List.nodup_cons.2 ⟨fun hx => mc s (List.mem_reverse.1 hx) s List.mem_cons_self rfl, nodup_rev ma⟩, fun x hx y hy e => ?_⟩
    subst e
    rcases List.mem_cons.1 hy with rfl | hy
    · exact nc x hx x List.mem_cons_self rfl
    · exact h3 x hx (by rw [h2]; exact List.mem_append_left _ (List.mem_reverse.1 hy))
  · intro x hx
    rcases List.mem_append.1 hx with hx | hx
    · exact la x (by rw [h1]; exact List.mem_append_left _ hx)
    · rcases List.mem_cons.1 hx with rfl | hx
      · exact h7
      · exact lb x (by rw [h2]; exact List.mem_append_left _ (List.mem_reverse.1 hx))
theorem Tr.way_self {a : Nat} (ha : a < p.length) : way p a a = [a] := by
  have sa := h.step a ha
  exact way_of (A := []) (B := []) (s := a) (S := U p (par p a)) (S' := U p (par p a)) sa sa (by simp) (by simp)
/-- There is one way alone. -/
theorem Tr.only {b : Nat} (hb : b < p.length) : ∀ (l : List Nat) (a : Nat), Wk p l a b → l = way p a b
  | [], a, w => by have := w.hd; simp at this
  | [x], a, w => by
    have h1 := w.hd
    have h2 := w.tl
    simp at h1 h2
    subst h1
    subst h2
    exact (h.way_self (w.lt _ List.mem_cons_self)).symm
  | a' :: x :: t, a, w => by
    have e := w.hd
    simp at e
    subst e
    have ha : a' < p.length := w.lt _ List.mem_cons_self
    have hx : x < p.length := w.lt _ (by simp)
    have hnd := List.nodup_cons.1 w.nd
    have ih := Tr.only hb (x :: t) x ⟨rfl, by have := w.tl; rwa [List.getLast?_cons_cons] at this, w.ad.2, hnd.2, fun y hy => w.lt y (List.mem_cons_of_mem _ hy)⟩
    obtain ⟨A, s, S, B, h1, h2, h3, h4, h5, h6, h7⟩ := h.meet hx hb
    have sa := h.step a' ha
    have sx := h.step x hx
    have ndb := h.nodup _ b rfl hb
    rcases w.ad.1 with hu | hd
    · -- up
      rw [hu] at sa
      rw [ih]
      have hna : a' ∉ U p x := by have := h.notin ha; rwa [hu] at this
      have hab : a' ∉ U p b := by
        intro hm
        rw [h2] at hm
        rcases List.mem_append.1 hm with hm | hm
        · exact hnd.1 (by rw [ih, h5]; simp [hm])
        · exact hna (by rw [h1]; exact List.mem_append_right _ hm)
      rw [h2] at ndb
      have := way_of (p := p) (a := a') (b := b) (A := a' :: A) (s := s) (S := S) (B := B) (S' := S) (by rw [sa, h1]; rfl) h2 (fun y hy => by
        rcases List.mem_cons.1 hy with rfl | hy
        · exact hab
        · exact h3 y hy) (fun hm => (List.nodup_append.1 ndb).2.2 s hm s List.mem_cons_self rfl)
      rw [this, h5]
      rfl
    · -- down
      rw [hd] at sx
      cases A with
      | nil =>
        rw [h1] at sx
        simp at sx
        obtain ⟨rfl, rfl⟩ := sx
        have h2' : U p b = (B ++ [s]) ++ a' :: U p (par p a') := by rw [h2, sa]; simp
        rw [h2'] at ndb
        have := way_of (p := p) (a := a') (b := b) (A := []) (s := a') (S := U p (par p a')) (B := B ++ [s]) (S' := U p (par p a')) sa h2' (by simp) (fun hm => (List.nodup_append.1 ndb).2.2 a' hm a' List.mem_cons_self rfl)
        rw [ih, h5, this]
        simp
      | cons y A =>
        rw [h1] at sx
        simp at sx
        obtain ⟨rfl, sx⟩ := sx
        exfalso
        have hin : a' ∈ y :: t := by
          rw [ih, h5]
          rw [sa] at sx
          cases A with
          | nil => simp at sx; simp [sx.1]
          | cons z A => simp at sx; simp [sx.1]
        exact hnd.1 hin
end
theorem Wk.rev {p : List Int} {l : List Nat} {a b : Nat} (w : Wk p l a b) : Wk p l.reverse b a :=
  ⟨by rw [List.head?_reverse]; exact w.tl, by rw [List.getLast?_reverse]; exact w.hd, adjs_rev _ w.ad, nodup_rev w.nd, fun x hx => w.lt x (List.mem_reverse.1 hx)⟩
theorem Wk.left {p : List Int} {l1 l2 : List Nat} {a b m : Nat} (w : Wk p (l1 ++ m :: l2) a b) : Wk p (l1 ++ [m]) a m := by
  have e : l1 ++ m :: l2 = (l1 ++ [m]) ++ l2 := by simp
  have w' := w
  rw [e] at w'
  refine ⟨?_, by simp, (adjs_app w'.ad).1, (List.nodup_append.1 w'.nd).1, fun x hx => w'.lt x (List.mem_append_left _ hx)⟩
  have := w.hd
  cases l1 with
  | nil => simpa using this
  | cons y l1 => simpa using this
theorem Wk.right {p : List Int} {l1 l2 : List Nat} {a b m : Nat} (w : Wk p (l1 ++ m :: l2) a b) : Wk p (m :: l2) m b := by
  refine ⟨rfl, ?_, (adjs_app w.ad).2, (List.nodup_append.1 w.nd).2.1, fun x hx => w.lt x (List.mem_append_right _ hx)⟩
  have := w.tl
  rw [List.getLast?_append, List.getLast?_cons] at this
  rw [List.getLast?_cons]
  simpa using this
section
variable {p : List Int} (h : Tr p)
include h
theorem Tr.way_rev {a b : Nat} (ha : a < p.length) (hb : b < p.length) : way p b a = (way p a b).reverse :=
  (h.only ha _ b (h.way_wk ha hb).rev).symm
theorem Tr.halves {a b m : Nat} (ha : a < p.length) (hb : b < p.length) (hm : m ∈ way p a b) : (way p a m).length + (way p m b).length = (way p a b).length + 1 := by
  have w := h.way_wk ha hb
  obtain ⟨l1, l2, e⟩ := List.append_of_mem hm
  rw [e] at w ⊢
  have hml : m < p.length := w.lt m (by simp)
  rw [← h.only hml _ a w.left, ← h.only hb _ m w.right]
  simp
  omega
theorem Tr.adj_ne {x y : Nat} (hx : x < p.length) (hy : y < p.length) (hxy : adj p x y) : x ≠ y := by
  intro e
  subst e
  have := h.notin hx
  rcases hxy with e | e
  · rw [e, h.step x hx] at this
    simp at this
  · rw [e, h.step x hx] at this
    simp at this
theorem Tr.way_adj {x y : Nat} (hx : x < p.length) (hy : y < p.length) (hxy : adj p x y) : way p x y = [x, y] :=
  (h.only hy [x, y] x ⟨rfl, rfl, ⟨hxy, trivial⟩, by have := h.adj_ne hx hy hxy; simp [this], fun z hz => by
    simp at hz
    rcases hz with rfl | rfl <;> assumption⟩).symm
theorem Tr.way_cons {a b : Nat} (ha : a < p.length) (hb : b < p.length) : ∃ t, way p a b = a :: t := by
  have w := (h.way_wk ha hb).hd
  cases hw : way p a b with
  | nil => rw [hw] at w; cases w
  | cons x t => rw [hw] at w; simp at w; exact ⟨t, by rw [w]⟩
/-- The first step, from one site to another. -/
theorem Tr.step1 {a k : Nat} (ha : a < p.length) (hk : k < p.length) (hne : k ≠ a) : ∃ b t, way p a k = a :: b :: t ∧ b < p.length ∧ adj p a b ∧ way p b k = b :: t := by
  obtain ⟨t, e⟩ := h.way_cons ha hk
  have w := h.way_wk ha hk
  rw [e] at w
  cases t with
  | nil =>
    have := w.tl
    simp at this
    exact absurd this.symm hne
  | cons b t =>
    have hb : b < p.length := w.lt b (by simp)
    refine ⟨b, t, e, hb, w.ad.1, ?_⟩
    exact (h.only hk (b :: t) b (Wk.right (l1 := [a]) w)).symm
theorem Tr.self1 {a : Nat} (ha : a < p.length) : (way p a a)[1]? = none := by rw [h.way_self ha]; rfl
/-- Of two sites near one another each other site is on one's side alone. -/
theorem Tr.sides {a b k : Nat} (ha : a < p.length) (hb : b < p.length) (hk : k < p.length) (hab : adj p a b) : ((way p a k)[1]? = some b) ↔ ¬ ((way p b k)[1]? = some a) := by
  have hne := h.adj_ne ha hb hab
  constructor
  · intro h1 h2
    have hka : k ≠ a := by
      intro e
      rw [e, h.self1 ha] at h1
      cases h1
    obtain ⟨b', t, e1, hb', _, e2⟩ := h.step1 ha hk hka
    rw [e1] at h1
    simp at h1
    subst h1
    rw [e2] at h2
    have w := h.way_wk ha hk
    rw [e1] at w
    have nd := (List.nodup_cons.1 w.nd).1
    cases t with
    | nil => simp at h2
    | cons c t => simp at h2; subst h2; simp at nd
  · intro h2
    have w := h.way_wk ha hk
    by_cases hm : b ∈ way p a k
    · obtain ⟨l1, l2, e⟩ := List.append_of_mem hm
      rw [e] at w
      have := h.only hb _ a w.left
      rw [h.way_adj ha hb hab] at this
      have e3 : l1 = [a] := by
        have e4 : l1 ++ [b] = [a] ++ [b] := this
        exact List.append_cancel_right e4
      rw [e, e3]
      rfl
    · exfalso
      obtain ⟨t, e⟩ := h.way_cons ha hk
      have e5 : b :: way p a k = way p b k := h.only hk _ b ⟨rfl, by have := w.tl; rw [e] at this ⊢; rw [List.getLast?_cons_cons]; exact this, by rw [e]; exact ⟨adj_symm hab, by rw [← e]; exact w.ad⟩, List.nodup_cons.2 ⟨hm, w.nd⟩, fun x hx => by
        rcases List.mem_cons.1 hx with rfl | hx
        · exact hb
        · exact w.lt x hx⟩
      rw [← e5, e] at h2
      simp at h2
theorem Tr.far0 {a b : Nat} (ha : a < p.length) (hb : b < p.length) : (way p a b).length = 1 ↔ a = b := by
  constructor
  · intro h1
    rcases Nat.decEq b a with hne | e
    · obtain ⟨c, t, e1, _⟩ := h.step1 ha hb hne
      rw [e1] at h1
      simp at h1
    · exact e.symm
  · rintro rfl
    rw [h.way_self ha]
    rfl
theorem Tr.far1 {a b : Nat} (ha : a < p.length) (hb : b < p.length) : (way p a b).length = 2 ↔ adj p a b := by
  constructor
  · intro h1
    have hne : b ≠ a := by
      rintro rfl
      rw [h.way_self ha] at h1
      cases h1
    obtain ⟨c, t, e1, hc, hac, e2⟩ := h.step1 ha hb hne
    have w := h.way_wk ha hb
    rw [e1] at h1 w
    have ht : t = [] := List.length_eq_zero_iff.1 (by simpa using h1)
    subst ht
    have := w.tl
    simp at this
    rw [← this]
    exact hac
  · intro h1
    rw [h.way_adj ha hb h1]
    rfl
/-- A way has no more sites than there are. -/
theorem Tr.way_len {a b : Nat} (ha : a < p.length) (hb : b < p.length) : (way p a b).length ≤ p.length := by
  have w := h.way_wk ha hb
  have : ∀ (n : Nat) (l : List Nat), l.Nodup → (∀ x ∈ l, x < n) → l.length ≤ n := by
    intro n
    induction n with
    | zero => intro l _ hl; cases l with
      | nil => simp
      | cons x l => have := hl x List.mem_cons_self; omega
    | succ n ih =>
      intro l nd hl
      by_cases hm : n ∈ l
      · obtain ⟨l1, l2, rfl⟩ := List.append_of_mem hm
        obtain ⟨n1, n2, n3⟩ := List.nodup_append.1 nd
        have n2' := List.nodup_cons.1 n2
        have := ih (l1 ++ l2) (List.nodup_append.2 ⟨n1, n2'.2, fun x hx y hy => n3 x hx y (List.mem_cons_of_mem _ hy)⟩) (fun x hx => by
          have h1 := hl x (by rcases List.mem_append.1 hx with hx | hx <;> simp [hx])
          have h2 : x ≠ n := by
            rintro rfl
            rcases List.mem_append.1 hx with hx | hx
            · exact n3 x hx x List.mem_cons_self rfl
            · exact n2'.1 hx
          omega)
        simp at this ⊢
        omega
      · have := ih l nd (fun x hx => by
          have h1 := hl x hx
          have h2 : x ≠ n := fun e => hm (e ▸ hx)
          omega)
        omega
  exact this _ _ w.nd w.lt
end
/-- A set of sites, as a number. -/
def sumB (f : Nat → Bool) : Nat → Nat
  | 0 => 0
  | k + 1 => sumB f k + (if f k then 2 ^ k else 0)
theorem sumB_lt (f : Nat → Bool) : ∀ n, sumB f n < 2 ^ n
  | 0 => by simp [sumB]
  | n + 1 => by
    have := sumB_lt f n
    rw [sumB, Nat.pow_succ]
    split <;> omega
theorem sumB_bit (f : Nat → Bool) : ∀ n k, (sumB f n).testBit k = (decide (k < n) && f k)
  | 0, k => by simp [sumB]
  | n + 1, k => by
    have hlt := sumB_lt f n
    rw [sumB]
    by_cases hf : f n = true
    · rw [if_pos hf, Nat.add_comm]
      by_cases hk : k = n
      · subst hk
        rw [Nat.testBit_two_pow_add_eq, sumB_bit f k k]
        simp [hf]
      · by_cases hk2 : k < n
        · rw [Nat.testBit_two_pow_add_gt (by omega), sumB_bit f n k]
          simp [hk2, show k < n + 1 by omega]
        · have h1 : 2 ^ n + sumB f n < 2 ^ k := by
            have : 2 ^ (n + 1) ≤ 2 ^ k := Nat.pow_le_pow_right (by omega) (by omega)
            rw [Nat.pow_succ] at this
            omega
          rw [Nat.testBit_lt_two_pow h1]
          simp [show ¬ k < n + 1 by omega]
    · rw [if_neg hf, Nat.add_zero, sumB_bit f n k]
      by_cases hk : k = n
      · subst hk; simp [hf]
      · by_cases hk2 : k < n
        · simp [hk2, show k < n + 1 by omega]
        · simp [hk2, show ¬ k < n + 1 by omega]
theorem sumB_two {f g : Nat → Bool} {n : Nat} (h : ∀ k, k < n → f k = !(g k)) : sumB f n &&& sumB g n = 0 ∧ sumB f n ||| sumB g n = 2 ^ n - 1 := by
  constructor
  · refine Nat.eq_of_testBit_eq fun k => ?_
    rw [Nat.testBit_and, sumB_bit, sumB_bit, Nat.zero_testBit]
    by_cases hk : k < n
    · rw [h k hk]; cases g k <;> simp
    · simp [hk]
  · refine Nat.eq_of_testBit_eq fun k => ?_
    rw [Nat.testBit_or, sumB_bit, sumB_bit, Nat.testBit_two_pow_sub_one]
    by_cases hk : k < n
    · rw [h k hk]; cases g k <;> simp [hk]
    · simp [hk]
theorem sumB_pos {f : Nat → Bool} {n k : Nat} (hk : k < n) (h : f k = true) : 0 < sumB f n := by
  rcases Nat.eq_zero_or_pos (sumB f n) with e | e
  · have := sumB_bit f n k
    rw [e, h] at this
    simp [hk] at this
  · exact e
/-- Does the way begin with that step? -/
def via (p : List Int) (a b k : Nat) : Bool := (way p a k)[1]? == some b
def sideN (p : List Int) (a b : Nat) : Nat := sumB (via p a b) p.length
theorem via_iff {p : List Int} {a b k : Nat} : via p a b k = true ↔ (way p a k)[1]? = some b := by simp [via]
/-- Who is near. -/
def nearL (p : List Int) (a : Nat) : List Nat := (List.range p.length).filter fun i => decide (par p a = (i : Int)) || decide (par p i = (a : Int))
theorem nearL_mem {p : List Int} {a i : Nat} : i ∈ nearL p a ↔ i < p.length ∧ adj p a i := by
  unfold nearL adj
  simp [List.mem_filter]
theorem nearL_rise (p : List Int) (a : Nat) : (nearL p a).Pairwise (· < ·) := List.Pairwise.filter _ List.pairwise_lt_range
section
variable {p : List Int} (h : Tr p)
include h
theorem Tr.sides2 {a b : Nat} (ha : a < p.length) (hb : b < p.length) (hab : adj p a b) : sideN p a b &&& sideN p b a = 0 ∧ sideN p a b ||| sideN p b a = 2 ^ p.length - 1 := by
  refine sumB_two fun k hk => ?_
  have := h.sides ha hb hk hab
  rw [← via_iff, ← via_iff] at this
  cases h1 : via p a b k <;> cases h2 : via p b a k <;> simp_all
theorem Tr.via_self {a b : Nat} (ha : a < p.length) : via p a b a = false := by
  have := h.self1 ha
  unfold via
  rw [this]
  rfl
theorem Tr.via_one {a k : Nat} (ha : a < p.length) (hk : k < p.length) (hne : k ≠ a) : ∃ b, b ∈ nearL p a ∧ via p a b k = true ∧ ∀ c, via p a c k = true → c = b := by
  obtain ⟨b, t, e, hb, hab, _⟩ := h.step1 ha hk hne
  refine ⟨b, nearL_mem.2 ⟨hb, hab⟩, by rw [via_iff, e]; rfl, fun c hc => ?_⟩
  rw [via_iff, e] at hc
  simpa using hc.symm
theorem Tr.via_near {a b : Nat} (ha : a < p.length) (hb : b < p.length) (hab : adj p a b) : via p a b b = true := by
  rw [via_iff, h.way_adj ha hb hab]
  rfl
theorem Tr.via_adj {a b k : Nat} (ha : a < p.length) (hk : k < p.length) (hv : via p a b k = true) : b < p.length ∧ adj p a b := by
  by_cases hne : k = a
  · subst hne; rw [h.via_self ha] at hv; cases hv
  · obtain ⟨c, t, e, hc, hac, _⟩ := h.step1 ha hk hne
    rw [via_iff, e] at hv
    have : c = b := by simpa using hv
    subst this
    exact ⟨hc, hac⟩
end
/-- So many, summed. -/
def sm (f : Nat → Nat) : Nat → Nat
  | 0 => 0
  | k + 1 => sm f k + f k
theorem sm_add (f g : Nat → Nat) : ∀ n, sm (fun i => f i + g i) n = sm f n + sm g n
  | 0 => rfl
  | n + 1 => by rw [sm, sm, sm, sm_add f g n]; omega
theorem sm_cong {f g : Nat → Nat} : ∀ n, (∀ i, i < n → f i = g i) → sm f n = sm g n
  | 0, _ => rfl
  | n + 1, h => by rw [sm, sm, sm_cong n (fun i hi => h i (by omega)), h n (by omega)]
theorem sm_zero : ∀ n, sm (fun _ => 0) n = 0
  | 0 => rfl
  | n + 1 => by rw [sm, sm_zero n]
theorem sm_swap (f : Nat → Nat → Nat) (m : Nat) : ∀ n, sm (fun i => sm (f i) m) n = sm (fun k => sm (fun i => f i k) n) m
  | 0 => (sm_zero m).symm
  | n + 1 => by
    rw [sm, sm_swap f m n, ← sm_add]
    exact sm_cong m (fun k _ => rfl)
theorem sm_one (v : Nat) : ∀ n, sm (fun k => if v = k then 1 else 0) n = if v < n then 1 else 0
  | 0 => rfl
  | n + 1 => by
    rw [sm, sm_one v n]
    by_cases h1 : v < n
    · rw [if_pos h1, if_neg (by omega), if_pos (by omega)]
    · by_cases h2 : v = n
      · rw [if_neg h1, if_pos h2, if_pos (by omega)]
      · rw [if_neg h1, if_neg h2, if_neg (by omega)]
theorem len_filter (f : Nat → Bool) : ∀ n, ((List.range n).filter f).length = sm (fun k => if f k then 1 else 0) n
  | 0 => rfl
  | n + 1 => by
    rw [List.range_succ, List.filter_append, List.length_append, len_filter f n, sm]
    cases hf : f n <;> simp [hf]
theorem Tr.pairs {p : List Int} (h : Tr p) : sm (fun i => (nearL p i).length) p.length = 2 * (p.length - 1) := by
  obtain ⟨r, hr, hre, hu⟩ := h.root
  have e1 : sm (fun i => (nearL p i).length) p.length = sm (fun i => sm (fun k => (if par p i = (k : Int) then 1 else 0) + (if par p k = (i : Int) then 1 else 0)) p.length) p.length := by
    refine sm_cong _ fun i hi => ?_
    unfold nearL
    rw [len_filter]
    refine sm_cong _ fun k hk => ?_
    by_cases h1 : par p i = (k : Int)
    · by_cases h2 : par p k = (i : Int)
      · exfalso
        have := h.notin hi
        rw [h1, h.step k hk, h2, h.step i hi] at this
        simp at this
      · simp [h1, h2]
    · by_cases h2 : par p k = (i : Int) <;> simp [h1, h2]
  have e2 : sm (fun i => sm (fun k => if par p i = (k : Int) then 1 else 0) p.length) p.length + 1 = p.length := by
    have e3 : sm (fun i => sm (fun k => if par p i = (k : Int) then 1 else 0) p.length) p.length + sm (fun i => if r = i then 1 else 0) p.length = sm (fun _ => 1) p.length := by
      rw [← sm_add]
      refine sm_cong _ fun i hi => ?_
      rcases h.lt i hi with e | ⟨z, hz, e⟩
      · rw [hu i hi e, if_pos rfl, hre]
        rw [sm_cong p.length (g := fun _ => 0) (fun k _ => if_neg (by omega)), sm_zero]
      · have hne : r ≠ i := by rintro rfl; rw [hre] at e; omega
        rw [if_neg hne, e]
        rw [sm_cong p.length (g := fun k => if z = k then 1 else 0) (fun k _ => by
          by_cases hzk : z = k
          · rw [if_pos hzk, if_pos (by omega)]
          · rw [if_neg hzk, if_neg (by omega)]), sm_one, if_pos hz]
    rw [sm_one, if_pos hr] at e3
    rw [e3]
    have : ∀ n, sm (fun _ => 1) n = n := by
      intro n
      induction n with
      | zero => rfl
      | succ n ih => rw [sm, ih]
    exact this _
  have e4 := sm_swap (fun i k => if par p i = (k : Int) then 1 else 0) p.length p.length
  rw [e1]
  have e5 : sm (fun i => sm (fun k => (if par p i = (k : Int) then 1 else 0) + (if par p k = (i : Int) then 1 else 0)) p.length) p.length = sm (fun i => sm (fun k => if par p i = (k : Int) then 1 else 0) p.length) p.length + sm (fun i => sm (fun k => if par p k = (i : Int) then 1 else 0) p.length) p.length := by
    rw [← sm_add]
    exact sm_cong _ fun i _ => sm_add _ _ _
  rw [e5, ← e4]
  omega
theorem count_one {p : List Int} {v : Int} {r : Nat} (hr : r < p.length) (e : p[r] = v) (hu : ∀ x (hx : x < p.length), p[x] = v → x = r) : p.count v = 1 := by
  have e1 : p = p.take r ++ v :: p.drop (r + 1) := by
    rw [← e, ← List.drop_eq_getElem_cons hr, List.take_append_drop]
  have c1 : (p.take r).count v = 0 := List.count_eq_zero.2 (fun hm => by
    obtain ⟨i, hi, hv⟩ := List.mem_take_iff_getElem.1 hm
    have := hu i (by omega) hv
    omega)
  have c2 : (p.drop (r + 1)).count v = 0 := List.count_eq_zero.2 (fun hm => by
    obtain ⟨i, hi, hv⟩ := List.getElem_of_mem hm
    rw [List.getElem_drop] at hv
    have := hu (r + 1 + i) (by simp at hi; omega) hv
    omega)
  have := congrArg (List.count v) e1
  rw [List.count_append, List.count_cons_self, c1, c2] at this
  omega
theorem stp_mono (p : List Int) : ∀ (f : Nat) (a : Int), stp p f a = -1 → ∀ g, f ≤ g → stp p g a = -1
  | 0, a, h, g, _ => by
    rw [stp] at h
    rw [stp_neg p g a (by omega), h]
  | f + 1, a, h, g, hg => by
    by_cases ha : 0 ≤ a
    · rw [stp, if_pos ha] at h
      obtain ⟨g', rfl⟩ : ∃ g', g = g' + 1 := ⟨g - 1, by omega⟩
      rw [stp, if_pos ha]
      exact stp_mono p f _ h g' (by omega)
    · rw [stp, if_neg ha] at h
      rw [stp_neg p g a (by omega), h]
/-- A site's other name. -/
def sg (n t i : Nat) : Nat := (i + t) % n
theorem sg_lt {n t i : Nat} (hn : 0 < n) : sg n t i < n := Nat.mod_lt _ hn
theorem sg_inj {n t i j : Nat} (hi : i < n) (hj : j < n) (h : sg n t i = sg n t j) : i = j := by
  unfold sg at h
  have ht := Nat.mod_lt t (show 0 < n by omega)
  rw [Nat.add_mod, Nat.add_mod j t, Nat.mod_eq_of_lt hi, Nat.mod_eq_of_lt hj] at h
  generalize t % n = u at ht h
  by_cases h1 : i + u < n
  · rw [Nat.mod_eq_of_lt h1] at h
    by_cases h2 : j + u < n
    · rw [Nat.mod_eq_of_lt h2] at h; omega
    · rw [Nat.mod_eq_sub_mod (by omega), Nat.mod_eq_of_lt (by omega)] at h; omega
  · rw [Nat.mod_eq_sub_mod (by omega), Nat.mod_eq_of_lt (by omega)] at h
    by_cases h2 : j + u < n
    · rw [Nat.mod_eq_of_lt h2] at h; omega
    · rw [Nat.mod_eq_sub_mod (by omega), Nat.mod_eq_of_lt (by omega)] at h; omega
theorem sg_sur {n t y : Nat} (hy : y < n) : ∃ i, i < n ∧ sg n t i = y := by
  have ht := Nat.mod_lt t (show 0 < n by omega)
  unfold sg
  by_cases h : t % n ≤ y
  · refine ⟨y - t % n, by omega, ?_⟩
    rw [Nat.add_mod, Nat.mod_eq_of_lt (show y - t % n < n by omega), show y - t % n + t % n = y by omega, Nat.mod_eq_of_lt hy]
  · refine ⟨y + n - t % n, by omega, ?_⟩
    rw [Nat.add_mod, Nat.mod_eq_of_lt (show y + n - t % n < n by omega), show y + n - t % n + t % n = y + n by omega, Nat.add_mod_right, Nat.mod_eq_of_lt hy]
/-- The parent that is written, and the row behind so many. -/
def qM (n t : Nat) (x : Nat → Nat) (i : Nat) : Int := if i = 0 then -1 else (sg n t (x i) : Int)
def madeK (n t : Nat) (x : Nat → Nat) : Nat → List Int
  | 0 => List.replicate n 0
  | k + 1 => (madeK n t x k).set (sg n t k) (qM n t x k)
theorem madeK_len (n t : Nat) (x : Nat → Nat) : ∀ k, (madeK n t x k).length = n
  | 0 => by simp [madeK]
  | k + 1 => by rw [madeK, List.length_set, madeK_len n t x k]
theorem madeK_get (n t : Nat) (x : Nat → Nat) (hn : 0 < n) : ∀ k, k ≤ n → ∀ i, i < k → (madeK n t x k)[sg n t i]? = some (qM n t x i)
  | 0, _, i, hi => by omega
  | k + 1, hk, i, hi => by
    rw [madeK]
    by_cases e : i = k
    · subst e
      rw [List.getElem?_set_self (by rw [madeK_len]; exact sg_lt hn)]
    · have hne : sg n t k ≠ sg n t i := fun h => e (sg_inj (by omega) (by omega) h).symm
      rw [List.getElem?_set_ne hne]
      exact madeK_get n t x hn k (by omega) i (by omega)
theorem made_tr {n t : Nat} {x : Nat → Nat} (h1 : 1 ≤ n) (h6 : n ≤ 6) (hx : ∀ i, 0 < i → i < n → x i < i) : Tr (madeK n t x n) := by
  have hl := madeK_len n t x n
  have hg : ∀ i, i < n → par (madeK n t x n) (sg n t i) = qM n t x i := fun i hi => by
    unfold par
    rw [madeK_get n t x (by omega) n (Nat.le_refl _) i hi]
    rfl
  have hq : ∀ i, i < n → -1 ≤ qM n t x i ∧ qM n t x i < (n : Int) ∧ (qM n t x i = -1 → i = 0) := fun i hi => by
    unfold qM
    by_cases e : i = 0
    · rw [if_pos e]; exact ⟨by omega, by omega, fun _ => e⟩
    · rw [if_neg e]
      have := sg_lt (t := t) (i := x i) (show 0 < n by omega)
      exact ⟨by omega, by omega, fun h => by omega⟩
  have hst : ∀ i, i < n → stp (madeK n t x n) (i + 1) (sg n t i : Int) = -1 := by
    intro i
    induction i using Nat.strongRecOn with
    | _ i ih =>
      intro hi
      rw [stp, if_pos (by omega), Int.toNat_natCast, hg i hi]
      unfold qM
      by_cases e : i = 0
      · rw [if_pos e]; exact stp_neg _ _ _ (by omega)
      · rw [if_neg e]
        have hxi := hx i (by omega) hi
        exact stp_mono _ _ _ (ih (x i) hxi (by omega)) i (by omega)
  refine ⟨by omega, by omega, fun y hy => ?_, fun y hy => ?_, ?_⟩
  · rw [hl] at hy ⊢
    obtain ⟨i, hi, rfl⟩ := sg_sur (t := t) hy
    rw [hg i hi]
    exact ⟨(hq i hi).1, (hq i hi).2.1⟩
  · rw [hl] at hy
    obtain ⟨i, hi, rfl⟩ := sg_sur (t := t) hy
    exact stp_mono _ _ _ (hst i hi) 7 (by omega)
  · have h0 := sg_lt (t := t) (i := 0) (show 0 < n by omega)
    have hg' : ∀ i (hi : i < n) (hs : sg n t i < (madeK n t x n).length), (madeK n t x n)[sg n t i] = qM n t x i := fun i hi hs => by
      rw [← par_get _ _ hs]; exact hg i hi
    refine count_one (r := sg n t 0) (by omega) (by rw [hg' 0 (by omega)]; rfl) (fun y hy hv => ?_)
    obtain ⟨i, hi, rfl⟩ := sg_sur (n := n) (t := t) (y := y) (by omega)
    rw [hg' i hi] at hv
    rw [(hq i hi).2.2 hv]
theorem par_set {p : List Int} {a x : Nat} {v : Int} (ha : a < p.length) : par (p.set a v) x = if x = a then v else par p x := by
  unfold par
  by_cases e : x = a
  · subst e
    rw [List.getElem?_set_self ha, if_pos rfl]
    rfl
  · rw [List.getElem?_set_ne (fun h => e h.symm), if_neg e]
theorem chkT_no {p : List Int} (h : Tr p → False) : chkT p = false := by
  cases hc : chkT p with
  | false => rfl
  | true => exact (h ((chkT_iff p).1 hc)).elim
theorem set_two {p : List Int} {a r : Nat} (ha : a < p.length) (hr : r < p.length) (e : par p r = -1) (hne : r ≠ a) : chkT (p.set a (-1)) = false :=
  chkT_no fun h => by
    obtain ⟨z, _, _, hu⟩ := h.root
    have h1 := hu a (by rw [List.length_set]; exact ha) (by rw [par_set ha, if_pos rfl])
    have h2 := hu r (by rw [List.length_set]; exact hr) (by rw [par_set ha, if_neg hne]; exact e)
    omega
theorem set_own {p : List Int} {a : Nat} (ha : a < p.length) : chkT (p.set a (a : Int)) = false :=
  chkT_no fun h => by
    have hl : a < (p.set a (a : Int)).length := by rw [List.length_set]; exact ha
    have h1 := h.notin hl
    rw [par_set ha, if_pos rfl, h.step a hl] at h1
    simp at h1
theorem set_none {p : List Int} (h : Tr p) {r : Nat} {v : Int} (hr : r < p.length) (e : par p r = -1) (hv : 0 ≤ v) : chkT (p.set r v) = false :=
  chkT_no fun h' => by
    obtain ⟨q, hq, hqe, hqu⟩ := h.root
    obtain ⟨z, hz, hze, _⟩ := h'.root
    rw [List.length_set] at hz
    rw [par_set hr] at hze
    by_cases hzr : z = r
    · rw [if_pos hzr] at hze; omega
    · rw [if_neg hzr] at hze
      have h1 := hqu z hz hze
      have h2 := hqu r hr e
      omega
theorem chkT_nil : chkT [] = false := rfl
/-- What the document's functions answer, of whatever numbers. -/
def okS (p : List Int) (a : Int) : Bool := chkT p && decide (0 ≤ a ∧ a < (p.length : Int))
def pathI (p : List Int) (a b : Int) : List Nat := if okS p a && okS p b then way p a.toNat b.toNat else []
def viaI (p : List Int) (a b k : Int) : Bool := match ((pathI p a k)[1]? : Option Nat) with | some x => decide ((x : Int) = b) | none => false
def sideI (p : List Int) (a b : Int) : Nat := if chkT p then sumB (fun k => viaI p a b (k : Int)) p.length else 0
def nearI (p : List Int) (a : Int) : List Nat := if okS p a then nearL p a.toNat else []
def farI (p : List Int) (a b : Int) : Int := ((pathI p a b).length : Int) - 1
theorem okS_nat {p : List Int} (h : chkT p = true) {a : Nat} (ha : a < p.length) : okS p (a : Int) = true := by
  unfold okS
  rw [h, decide_eq_true (by omega)]
  rfl
theorem pathI_nat {p : List Int} (h : chkT p = true) {a b : Nat} (ha : a < p.length) (hb : b < p.length) : pathI p (a : Int) (b : Int) = way p a b := by
  unfold pathI
  rw [okS_nat h ha, okS_nat h hb]
  simp
theorem okS_some {p : List Int} {a : Int} (h : okS p a = true) : Tr p ∧ ∃ x : Nat, a = (x : Int) ∧ x < p.length := by
  unfold okS at h
  simp only [Bool.and_eq_true, decide_eq_true_eq] at h
  exact ⟨(chkT_iff p).1 h.1, a.toNat, by omega, by omega⟩
theorem sumB_cong {f g : Nat → Bool} : ∀ n, (∀ k, k < n → f k = g k) → sumB f n = sumB g n
  | 0, _ => rfl
  | n + 1, h => by rw [sumB, sumB, sumB_cong n (fun k hk => h k (by omega)), h n (by omega)]
theorem sideI_nat {p : List Int} (h : chkT p = true) {a b : Nat} (ha : a < p.length) : sideI p (a : Int) (b : Int) = sideN p a b := by
  unfold sideI sideN
  rw [if_pos h]
  refine sumB_cong _ fun k hk => ?_
  unfold viaI via
  rw [pathI_nat h ha hk]
  cases hw : (way p a k)[1]? with
  | none => rfl
  | some x =>
    simp only
    rw [Bool.eq_iff_iff]
    simp
    omega
/-- Of a site that is not near, the side is empty. -/
theorem sideI_far {p : List Int} {a b : Int} (h : ∀ x : Nat, b = (x : Int) → okS p a = true → ¬ adj p a.toNat x) : sideI p a b = 0 := by
  unfold sideI
  split
  · rename_i hc
    have : ∀ n, n ≤ p.length → sumB (fun k => viaI p a b (k : Int)) n = 0 := by
      intro n
      induction n with
      | zero => intro _; rfl
      | succ n ih =>
        intro hn
        rw [sumB, ih (by omega)]
        have : viaI p a b (n : Int) = false := by
          unfold viaI pathI
          by_cases ho : okS p a = true
          · obtain ⟨ht, x, rfl, hx⟩ := okS_some ho
            rw [ho, okS_nat hc (show n < p.length by omega)]
            simp only [Bool.and_self, if_true, Int.toNat_natCast]
            cases hw : (way p x n)[1]? with
            | none => rfl
            | some y =>
              simp only
              refine decide_eq_false fun e => ?_
              have hv : via p x y n = true := by rw [via_iff]; exact hw
              exact h y e.symm ho (by rw [Int.toNat_natCast]; exact (ht.via_adj hx (by omega) hv).2)
          · have ho' : okS p a = false := by simpa using ho
            rw [ho']
            rfl
        rw [if_neg (by simp [this])]
    exact this _ (Nat.le_refl _)
  · rfl
end Tm
end Go.Proofs.Ythjjidfoclcghaa
