/- Texts of this proof, one behind the other: QuMath, Kinds. -/
import Derived.Test.YtfmedinhlmiaeaaGQ21
/- The versions that the statements of layer 14 make: plain mathematics, as layer 5's, of versions as layer 6 has them. -/
namespace Go.Proofs.Ytfmedinhlmiaeaa
open Go.RowKit
set_option linter.unusedVariables false
set_option linter.unusedSimpArgs false

def Wv.dep (v : Wv) : De := (v.key, v.st)
/-- The first version of a dependency. -/
def fnd (l : List Wv) (d : De) : Option Wv := l.find? fun v => decide (v.key = d.1 ∧ v.st = d.2)
def pastOf (l : List Wv) (d : De) : List De := match fnd l d with | none => [] | some v => v.past
def covB (p q : List De) : Bool := !(q.any fun d => Sm.less (gtD p d.1) d.2)
def clB (p : List De) (l : List Wv) : Bool := p.all fun d => (fnd l d).isSome && covB p (pastOf l d)
structure Snd (l : List Wv) : Prop where
  chk : ∀ v ∈ l, chkD v.past = true
  ok : ∀ v ∈ l, Sm.ok v.st.1 v.st.2 = true
  cl : ∀ v ∈ l, clB v.past l = true
  lt : ∀ v ∈ l, ∀ d ∈ v.past, Sm.less d.2 v.st = true
  one : l.Pairwise fun a b => ¬ (a.key = b.key ∧ a.st = b.st)

theorem chkD_srt {l : List De} (h : chkD l = true) : Srt l := by
  simp [chkD] at h
  exact h.2
theorem nodup_len {α : Type} : ∀ {l m : List α}, l.Nodup → (∀ a ∈ l, a ∈ m) → l.length ≤ m.length
  | [], m, _, _ => by simp
  | a :: l, m, h, hs => by
    obtain ⟨m1, m2, rfl⟩ := List.append_of_mem (hs a (by simp))
    obtain ⟨hna, hnd⟩ := List.nodup_cons.1 h
    have := nodup_len (l := l) (m := m1 ++ m2) hnd (fun x hx => by
      have h1 := hs x (List.mem_cons_of_mem _ hx)
      rw [List.mem_append, List.mem_cons] at h1
      rw [List.mem_append]
      rcases h1 with h1 | rfl | h1
      · exact .inl h1
      · exact absurd hx hna
      · exact .inr h1)
    simp at this ⊢
    omega
theorem Snd.srt {l : List Wv} (h : Snd l) {v : Wv} (hv : v ∈ l) : Srt v.past := (chkD_srt (h.chk v hv))
theorem fnd_some {l : List Wv} {d : De} {v : Wv} (h : fnd l d = some v) : v ∈ l ∧ v.key = d.1 ∧ v.st = d.2 := by
  refine ⟨List.mem_of_find?_eq_some h, ?_⟩
  have := List.find?_some h
  simpa using this
theorem fnd_is {l : List Wv} {v : Wv} (hv : v ∈ l) : ∃ u, fnd l v.dep = some u := by
  cases h : fnd l v.dep with
  | some u => exact ⟨u, rfl⟩
  | none =>
    have := List.find?_eq_none.1 h v hv
    simp [Wv.dep] at this
theorem fnd_one {l : List Wv} (h : Snd l) {v : Wv} (hv : v ∈ l) : fnd l v.dep = some v := by
  obtain ⟨u, hu⟩ := fnd_is hv
  obtain ⟨h1, h2, h3⟩ := fnd_some hu
  rw [hu]
  congr 1
  by_cases e : u = v
  · exact e
  · exfalso
    have key := List.pairwise_iff_getElem.1 h.one
    obtain ⟨i, hi, rfl⟩ := List.mem_iff_getElem.1 h1
    obtain ⟨j, hj, rfl⟩ := List.mem_iff_getElem.1 hv
    rcases Nat.lt_trichotomy i j with q | q | q
    · exact key i j hi hj q ⟨h2, h3⟩
    · subst q; exact e rfl
    · exact key j i hj hi q ⟨h2.symm, h3.symm⟩
theorem okD_gt {d : De} (h : okD d = true) : Sm.less (0, 0) d.2 = true := by
  have := okD_pos h
  rw [Sm.less_iff]
  left
  show (0 : Int) < d.2.1
  omega
theorem gtD_at {l : List De} (h : Srt l) {k : ByteArray} {s : Int × Int} (hp : Sm.less (0, 0) s = true) (hg : Sm.less (gtD l k) s = false) : ∃ d ∈ l, d.1 = k ∧ gtD l k = d.2 := by
  by_cases e : ∃ y ∈ l, y.1 = k
  · obtain ⟨y, hy, rfl⟩ := e
    exact ⟨y, hy, rfl, gtD_mem h hy⟩
  · rw [gtD_no (fun y hy he => e ⟨y, hy, he⟩), hp] at hg
    cases hg
theorem cov_iff {p q : List De} : covB p q = true ↔ ∀ d ∈ q, Sm.less (gtD p d.1) d.2 = false := by
  simp [covB]
theorem cov_mem {p q : List De} (hp : Srt p) (h : covB p q = true) {d : De} (hd : d ∈ q) (ho : okD d = true) : ∃ m ∈ p, m.1 = d.1 ∧ Sm.less m.2 d.2 = false := by
  have h1 := cov_iff.1 h d hd
  obtain ⟨m, hm, h2, h3⟩ := gtD_at hp (okD_gt ho) h1
  exact ⟨m, hm, h2, by rw [← h3]; exact h1⟩
theorem cov_trans {p q r : List De} (hp : Srt p) (hq : Srt q) (h1 : covB p q = true) (h2 : covB q r = true) (hr : ∀ d ∈ r, okD d = true) : covB p r = true := by
  refine cov_iff.2 fun d hd => ?_
  obtain ⟨m, hm, e, hl⟩ := cov_mem hq h2 hd (hr d hd)
  have h3 := cov_iff.1 h1 m hm
  rw [e] at h3
  exact Sm.le_trans hl h3
theorem cov_self {p : List De} (hp : Srt p) : covB p p = true := cov_iff.2 fun d hd => by rw [gtD_mem hp hd]; exact Sm.less_self _
theorem cl_iff {p : List De} {l : List Wv} : clB p l = true ↔ ∀ d ∈ p, ∃ v, fnd l d = some v ∧ covB p v.past = true := by
  unfold clB
  rw [List.all_eq_true]
  constructor
  · intro h d hd
    have := h d hd
    rw [Bool.and_eq_true] at this
    cases hf : fnd l d with
    | none => rw [hf] at this; simp at this
    | some v =>
      refine ⟨v, rfl, ?_⟩
      have h2 := this.2
      unfold pastOf at h2
      rw [hf] at h2
      exact h2
  · intro h d hd
    obtain ⟨v, h1, h2⟩ := h d hd
    unfold pastOf
    rw [h1]
    simpa using h2
/-- What covers all of f, and lies in it, is what f makes. -/
theorem merge_of {f p : List De} (hp : Srt p) (hin : ∀ m ∈ p, m ∈ f) (hcov : ∀ e ∈ f, okD e = true → Sm.less (gtD p e.1) e.2 = false) : IsMerge f p := by
  refine ⟨hp, fun m => ⟨fun hm => ⟨hin m hm, hp.1 m hm, fun e he ho hk => ?_⟩, fun ⟨hm, ho, hmax⟩ => ?_⟩, fun e he ho => ?_⟩
  · have := hcov e he ho
    rw [hk, gtD_mem hp hm] at this
    exact this
  · have h1 := hcov m hm ho
    obtain ⟨d, hd, e, hg⟩ := gtD_at hp (okD_gt ho) h1
    have h2 := hmax d (hin d hd) (hp.1 d hd) e
    rw [hg] at h1
    rw [show m = d from Prod.ext e.symm (Sm.le_antisymm h1 h2)]
    exact hd
  · obtain ⟨d, hd, e', _⟩ := gtD_at hp (okD_gt ho) (hcov e he ho)
    exact ⟨d, hd, e'⟩
theorem merge_cov {f p : List De} (h : IsMerge f p) {e : De} (he : e ∈ f) (ho : okD e = true) : Sm.less (gtD p e.1) e.2 = false := by
  obtain ⟨x, hx, hk⟩ := h.rep e he ho
  rw [← hk, gtD_mem h.srt hx]
  exact ((h.mem x).1 hx).2.2 e he ho hk.symm

/-- A write by plain numbers. -/
structure Wr where
  key : Int
  site : Int
  saw : List Int
def keyAt (i : Nat) : ByteArray := ⟨#[UInt8.ofNat (97 + 3 * i)]⟩
def sawI (q : Int) (n : Nat) : Nat := (((q.tmod (n : Int)) + (n : Int)).tmod (n : Int)).toNat
theorem sawI_lt (q : Int) {n : Nat} (h : 0 < n) : sawI q n < n := by
  have a2 := Int.lt_tmod_of_pos q (b := (n : Int)) (by omega)
  have b1 := Int.tmod_lt_of_pos (q.tmod (n : Int) + (n : Int)) (b := (n : Int)) (by omega)
  have b2 := Int.tmod_nonneg (n : Int) (a := q.tmod (n : Int) + (n : Int)) (by omega)
  unfold sawI
  omega
/-- One more that was seen. -/
def sawOne (out : List Wv) (p : List De) (q : Int) : List De :=
  match out[sawI q out.length]? with
  | none => p
  | some v => mergeR [p, v.past, [v.dep]]
def sawP (out : List Wv) (l : List Int) : List De := l.foldl (sawOne out) []
def maxN (p : List De) : Int := p.foldl (fun n d => if n < d.2.1 then d.2.1 else n) 0
def mkX (out : List Wv) (w : Wr) : Wv := ⟨keyAt (w.key % 8).toNat, ⟨#[]⟩, false, (maxN (sawP out (w.saw.take 4)) + 1, w.site % 4), sawP out (w.saw.take 4)⟩
def mkS (out : List Wv) (w : Wr) : List Wv := if (fnd out (mkX out w).dep).isSome then out else out ++ [mkX out w]
def mkV (l : List Wr) : List Wv := (l.take 14).foldl mkS []
theorem key_ok {i : Nat} (h : i < 8) : Km.chk (keyAt i).data.toList = true := by
  have : ∀ i : Fin 8, Km.chk (keyAt i.1).data.toList = true := by decide +kernel
  exact this ⟨i, h⟩
theorem merge_left {f r g q : List De} (h : IsMerge f r) (h2 : IsMerge (r ++ g) q) : IsMerge (f ++ g) q := by
  refine merge_of h2.srt (fun m hm => ?_) (fun e he ho => ?_)
  · have := ((h2.mem m).1 hm).1
    rw [List.mem_append] at this ⊢
    rcases this with h3 | h3
    · exact .inl ((h.mem m).1 h3).1
    · exact .inr h3
  · rw [List.mem_append] at he
    rcases he with he | he
    · have h3 := merge_cov h he ho
      obtain ⟨x, hx, e1, hg⟩ := gtD_at h.srt (okD_gt ho) h3
      have h4 := merge_cov h2 (e := x) (by simp [hx]) (h.srt.1 x hx)
      rw [e1] at h4
      rw [hg] at h3
      exact Sm.le_trans h3 h4
    · exact merge_cov h2 (by simp [he]) ho
theorem merge3 {f p a b : List De} (h : IsMerge f p) : IsMerge (f ++ (a ++ b)) (mergeR [p, a, b]) := by
  have := mergeR_spec [p, a, b]
  simp only [List.flatten_cons, List.flatten_nil, List.append_nil] at this
  exact merge_left h this
theorem fnd_more {l : List Wv} {d : De} {v : Wv} (h : fnd l d = some v) (m : List Wv) : fnd (l ++ m) d = some v := by
  unfold fnd at h ⊢
  rw [List.find?_append, h]
  rfl
theorem cl_more {p : List De} {l : List Wv} (h : clB p l = true) (m : List Wv) : clB p (l ++ m) = true :=
  cl_iff.2 fun d hd => by
    obtain ⟨v, h1, h2⟩ := cl_iff.1 h d hd
    exact ⟨v, fnd_more h1 m, h2⟩
/-- A past that is closed, with a version of the list put to it, is closed. -/
theorem saw_closed {out : List Wv} (hs : Snd out) {p : List De} (hp : Srt p) (hc : clB p out = true) {v : Wv} (hv : v ∈ out) : Srt (mergeR [p, v.past, [v.dep]]) ∧ clB (mergeR [p, v.past, [v.dep]]) out = true := by
  have hm := merge3 (a := v.past) (b := [v.dep]) (IsMerge.self hp)
  refine ⟨hm.srt, cl_iff.2 fun d hd => ?_⟩
  have c1 : covB (mergeR [p, v.past, [v.dep]]) p = true := cov_iff.2 fun e he => merge_cov hm (by simp [he]) (hp.1 e he)
  have c2 : covB (mergeR [p, v.past, [v.dep]]) v.past = true := cov_iff.2 fun e he => merge_cov hm (by simp [he]) ((hs.srt hv).1 e he)
  have hin := ((hm.mem d).1 hd).1
  rw [List.mem_append, List.mem_append, List.mem_singleton] at hin
  rcases hin with h1 | h1 | rfl
  · obtain ⟨u, hu, hcov⟩ := cl_iff.1 hc d h1
    exact ⟨u, hu, cov_trans hm.srt hp c1 hcov (hs.srt (fnd_some hu).1).1⟩
  · obtain ⟨u, hu, hcov⟩ := cl_iff.1 (hs.cl v hv) d h1
    exact ⟨u, hu, cov_trans hm.srt (hs.srt hv) c2 hcov (hs.srt (fnd_some hu).1).1⟩
  · exact ⟨v, fnd_one hs hv, c2⟩
theorem sawOne_closed {out : List Wv} (hs : Snd out) {p : List De} (hp : Srt p) (hc : clB p out = true) (q : Int) : Srt (sawOne out p q) ∧ clB (sawOne out p q) out = true := by
  unfold sawOne
  cases h : out[sawI q out.length]? with
  | none => exact ⟨hp, hc⟩
  | some v => exact saw_closed hs hp hc (List.mem_of_getElem? h)
theorem sawP_go {out : List Wv} (hs : Snd out) : ∀ (l : List Int) (p : List De), Srt p → clB p out = true → Srt (l.foldl (sawOne out) p) ∧ clB (l.foldl (sawOne out) p) out = true
  | [], p, hp, hc => ⟨hp, hc⟩
  | q :: l, p, hp, hc => by
    obtain ⟨h1, h2⟩ := sawOne_closed hs hp hc q
    exact sawP_go hs l _ h1 h2
theorem cl_nil (l : List Wv) : clB [] l = true := rfl
theorem sawP_closed {out : List Wv} (hs : Snd out) (l : List Int) : Srt (sawP out l) ∧ clB (sawP out l) out = true := sawP_go hs l [] Srt.nil (cl_nil out)

theorem maxN_go : ∀ (p : List De) (n : Int), n ≤ p.foldl (fun n d => if n < d.2.1 then d.2.1 else n) n ∧ (∀ d ∈ p, d.2.1 ≤ p.foldl (fun n d => if n < d.2.1 then d.2.1 else n) n) ∧ ∀ B, n ≤ B → (∀ d ∈ p, d.2.1 ≤ B) → p.foldl (fun n d => if n < d.2.1 then d.2.1 else n) n ≤ B
  | [], n => ⟨by simp, by simp, fun B h _ => by simpa using h⟩
  | d :: p, n => by
    obtain ⟨h1, h2, h3⟩ := maxN_go p (if n < d.2.1 then d.2.1 else n)
    rw [List.foldl_cons]
    have hk : n ≤ (if n < d.2.1 then d.2.1 else n) ∧ d.2.1 ≤ (if n < d.2.1 then d.2.1 else n) ∧ ((if n < d.2.1 then d.2.1 else n) = n ∨ (if n < d.2.1 then d.2.1 else n) = d.2.1) := by split <;> omega
    generalize (if n < d.2.1 then d.2.1 else n) = k at h1 h2 h3 hk ⊢
    refine ⟨by omega, ?_, fun B hB hall => h3 B ?_ (fun e he => hall e (List.mem_cons_of_mem _ he))⟩
    · intro e he
      rcases List.mem_cons.1 he with rfl | he
      · omega
      · exact h2 e he
    · have := hall d (by simp)
      omega
/-- What holds of the versions that were made so far. -/
structure Inv (out : List Wv) : Prop where
  snd : Snd out
  keys : ∀ v ∈ out, ∃ i, i < 8 ∧ v.key = keyAt i
  nums : ∀ v ∈ out, v.st.1 ≤ out.length
theorem Inv.dep {out : List Wv} (h : Inv out) {v : Wv} (hv : v ∈ out) : okD v.dep = true := by
  obtain ⟨i, hi, e⟩ := h.keys v hv
  unfold okD
  rw [Bool.and_eq_true]
  exact ⟨by rw [show v.dep.1 = v.key from rfl, e]; exact key_ok hi, h.snd.ok v hv⟩
theorem keys_len {p : List De} (hp : Srt p) (hk : ∀ d ∈ p, ∃ i, i < 8 ∧ d.1 = keyAt i) : p.length ≤ 8 := by
  have h1 : (p.map Prod.fst).Nodup := by
    unfold List.Nodup
    rw [List.pairwise_map]
    refine hp.2.imp ?_
    intro a b hab e
    rw [e, klt_irrefl] at hab
    cases hab
  have h2 := nodup_len (m := (List.range 8).map keyAt) h1 (fun a ha => by
    obtain ⟨d, hd, rfl⟩ := List.mem_map.1 ha
    obtain ⟨i, hi, e⟩ := hk d hd
    exact List.mem_map.2 ⟨i, List.mem_range.2 hi, e.symm⟩)
  simpa using h2
theorem inv_nil : Inv [] := ⟨⟨by simp, by simp, by simp, by simp, List.Pairwise.nil⟩, by simp, by simp⟩
theorem inv_step {out : List Wv} (h : Inv out) (hl : out.length < 14) (w : Wr) : Inv (mkS out w) ∧ (mkS out w).length ≤ out.length + 1 := by
  unfold mkS
  cases hf : fnd out (mkX out w).dep with
  | some u => exact ⟨by simpa using h, by simp⟩
  | none =>
    rw [if_neg (by simp)]
    obtain ⟨hp, hc⟩ := sawP_closed h.snd (w.saw.take 4)
    have hx : (mkX out w).past = sawP out (w.saw.take 4) := rfl
    have hxs : (mkX out w).st = (maxN (sawP out (w.saw.take 4)) + 1, w.site % 4) := rfl
    have hxk : (mkX out w).key = keyAt (w.key % 8).toNat := rfl
    generalize mkX out w = x at hf hx hxs hxk
    generalize sawP out (w.saw.take 4) = p at hp hc hx hxs
    obtain ⟨m1, m2, m3⟩ := maxN_go p 0
    change 0 ≤ maxN p at m1
    have hpk : ∀ d ∈ p, (∃ i, i < 8 ∧ d.1 = keyAt i) ∧ d.2.1 ≤ out.length := by
      intro d hd
      obtain ⟨v, hv, _⟩ := cl_iff.1 hc d hd
      obtain ⟨hvo, e1, e2⟩ := fnd_some hv
      obtain ⟨i, hi, e⟩ := h.keys v hvo
      have := h.nums v hvo
      exact ⟨⟨i, hi, by rw [← e1]; exact e⟩, by rw [← e2]; exact this⟩
    have hlen := keys_len hp (fun d hd => (hpk d hd).1)
    have hmax : maxN p ≤ out.length := m3 out.length (by omega) (fun d hd => (hpk d hd).2)
    have hle : ∀ d ∈ p, d.2.1 ≤ maxN p := m2
    refine ⟨⟨⟨?_, ?_, ?_, ?_, ?_⟩, ?_, ?_⟩, by simp⟩
    · intro v hv
      rw [List.mem_append, List.mem_singleton] at hv
      rcases hv with hv | rfl
      · exact h.snd.chk v hv
      · rw [hx, chkD, decide_eq_true hp, Bool.and_true]
        simp
        omega
    · intro v hv
      rw [List.mem_append, List.mem_singleton] at hv
      rcases hv with hv | rfl
      · exact h.snd.ok v hv
      · rw [hxs]
        simp only [Sm.ok, decide_eq_true_eq]
        omega
    · intro v hv
      rw [List.mem_append, List.mem_singleton] at hv
      rcases hv with hv | rfl
      · exact cl_more (h.snd.cl v hv) _
      · rw [hx]
        exact cl_more hc _
    · intro v hv d hd
      rw [List.mem_append, List.mem_singleton] at hv
      rcases hv with hv | rfl
      · exact h.snd.lt v hv d hd
      · rw [hx] at hd
        rw [hxs, Sm.less_iff]
        left
        have := hle d hd
        show d.2.1 < maxN p + 1
        omega
    · refine List.pairwise_append.2 ⟨h.snd.one, by simp, fun a ha b hb => ?_⟩
      rw [List.mem_singleton] at hb
      subst hb
      intro e
      have := List.find?_eq_none.1 hf a ha
      simp [Wv.dep, e.1, e.2] at this
    · intro v hv
      rw [List.mem_append, List.mem_singleton] at hv
      rcases hv with hv | rfl
      · exact h.keys v hv
      · exact ⟨_, by omega, hxk⟩
    · intro v hv
      rw [List.mem_append, List.mem_singleton] at hv
      rw [List.length_append, List.length_singleton]
      rcases hv with hv | rfl
      · have := h.nums v hv
        omega
      · rw [hxs]
        show maxN p + 1 ≤ _
        omega
theorem inv_go : ∀ (l : List Wr) (out : List Wv), Inv out → out.length + l.length ≤ 14 → Inv (l.foldl mkS out) ∧ (l.foldl mkS out).length ≤ out.length + l.length
  | [], out, h, _ => ⟨h, by simp⟩
  | w :: l, out, h, hl => by
    simp only [List.length_cons] at hl
    obtain ⟨h1, h2⟩ := inv_step h (by omega) w
    obtain ⟨h3, h4⟩ := inv_go l (mkS out w) h1 (by omega)
    exact ⟨h3, by simp only [List.length_cons, List.foldl_cons]; omega⟩
theorem mkV_inv (l : List Wr) : Inv (mkV l) ∧ (mkV l).length ≤ 14 := by
  obtain ⟨h1, h2⟩ := inv_go (l.take 14) [] inv_nil (by simp; omega)
  refine ⟨h1, ?_⟩
  have : (l.take 14).length ≤ 14 := by simp; omega
  simp at h2
  unfold mkV
  omega
/-- At most six dependencies, keys cut to 12 bytes, put together. -/
def k12 (k : ByteArray) : ByteArray := if 12 < k.size then k.extract 0 12 else k
theorem k12_size (k : ByteArray) : (k12 k).size ≤ 12 := by
  unfold k12
  split
  · simp
    omega
  · omega
def cutN (d : De) : De := (k12 d.1, d.2)
theorem i64_and7 (n : Int) : bits .and .i64 n 7 = n % 8 := by
  have e : bits .and .i64 n 7 = IntKind.i64.wrap ((BitVec.ofInt 64 n &&& BitVec.ofInt 64 7).toNat : Nat) := rfl
  have h : (BitVec.ofInt 64 n).toNat = _ := BitVec.toNat_ofInt n
  have l : (BitVec.ofInt 64 n &&& BitVec.ofInt 64 7).toNat = (BitVec.ofInt 64 n).toNat % 8 := by
    rw [BitVec.toNat_and, show (BitVec.ofInt 64 7).toNat = 2 ^ 3 - 1 by decide, Nat.and_two_pow_sub_one_eq_mod]
  rw [e, l, IntKind.wrap_i64]
  omega
theorem i64_and3 (n : Int) : bits .and .i64 n 3 = n % 4 := by
  have e : bits .and .i64 n 3 = IntKind.i64.wrap ((BitVec.ofInt 64 n &&& BitVec.ofInt 64 3).toNat : Nat) := rfl
  have h : (BitVec.ofInt 64 n).toNat = _ := BitVec.toNat_ofInt n
  have l : (BitVec.ofInt 64 n &&& BitVec.ofInt 64 3).toNat = (BitVec.ofInt 64 n).toNat % 4 := by
    rw [BitVec.toNat_and, show (BitVec.ofInt 64 3).toNat = 2 ^ 2 - 1 by decide, Nat.and_two_pow_sub_one_eq_mod]
  rw [e, l, IntKind.wrap_i64]
  omega
/-- A row of ints in memory. -/
def IntsIn (w : World) (a : Option Addr) (l : List Int) : Prop := ∀ i (h : i < l.length), ∃ b off, a = some ⟨b, off, none⟩ ∧ b < w.heap.size ∧ w.cell? ⟨b, off + i, none⟩ = some (.int .i64 l[i])
theorem IntsIn.below {w w' : World} {a : Option Addr} {l : List Int} (h : IntsIn w a l) (hb : Below w.heap.size w w') : IntsIn w' a l := by
  intro i hi
  obtain ⟨b, off, rfl, hlt, hc⟩ := h i hi
  exact ⟨b, off, rfl, by have := hb.size; omega, kcell hb hlt hc⟩
/-- A row of writes in memory. -/
def WrIn (w : World) (a : Option Addr) (ws : List Wr) : Prop :=
  ∀ i (h : i < ws.length), ∃ b off sa sc, a = some ⟨b, off, none⟩ ∧ b < w.heap.size ∧ w.cell? ⟨b, off + i * 3, none⟩ = some (.int .i64 ws[i].key) ∧ w.cell? ⟨b, off + i * 3 + 1, none⟩ = some (.int .i64 ws[i].site) ∧ w.cell? ⟨b, off + i * 3 + 2, none⟩ = some (.slice sa ws[i].saw.length sc) ∧ ws[i].saw.length ≤ 9223372036854775807 ∧ IntsIn w sa ws[i].saw
theorem WrIn.below {w w' : World} {a : Option Addr} {l : List Wr} (h : WrIn w a l) (hb : Below w.heap.size w w') : WrIn w' a l := by
  intro i hi
  obtain ⟨b, off, sa, sc, rfl, hlt, h0, h1, h2, h3, h4⟩ := h i hi
  exact ⟨b, off, sa, sc, rfl, by have := hb.size; omega, kcell hb hlt h0, kcell hb hlt h1, kcell hb hlt h2, h3, h4.below hb⟩
theorem mk_take (ws : List Wr) {k : Nat} (h : k < ws.length) : (ws.take (k + 1)).foldl mkS [] = mkS ((ws.take k).foldl mkS []) ws[k] := by
  rw [List.take_succ_eq_append_getElem h, List.foldl_append]
  rfl
theorem mk_inv (ws : List Wr) {k : Nat} (h : k ≤ 14) : Inv ((ws.take k).foldl mkS []) ∧ ((ws.take k).foldl mkS []).length ≤ 14 := by
  have hl := List.length_take_le k ws
  obtain ⟨h1, h2⟩ := inv_go (ws.take k) [] inv_nil (by simp; omega)
  exact ⟨h1, by simp at h2; omega⟩
theorem mk_all (ws : List Wr) {k : Nat} (hk : k ≤ ws.length) (h14 : k ≤ 14) (h : ¬ (k < ws.length ∧ k < 14)) : (ws.take k).foldl mkS [] = mkV ws := by
  unfold mkV
  by_cases e : k = 14
  · rw [e]
  · rw [List.take_of_length_le (by omega), List.take_of_length_le (by omega)]
theorem sawP_take (out : List Wv) (saw : List Int) {j : Nat} (h : j < saw.length) : sawP out (saw.take (j + 1)) = sawOne out (sawP out (saw.take j)) saw[j] := by
  unfold sawP
  rw [List.take_succ_eq_append_getElem h, List.foldl_append]
  rfl
theorem sawOne_at {out : List Wv} {p : List De} {q : Int} (h : 0 < out.length) : ∃ hi : sawI q out.length < out.length, sawOne out p q = mergeR [p, out[sawI q out.length].past, [out[sawI q out.length].dep]] := by
  have hi := sawI_lt q h
  refine ⟨hi, ?_⟩
  unfold sawOne
  rw [List.getElem?_eq_getElem hi]
theorem saw_all (saw : List Int) {j : Nat} (hj : j ≤ saw.length) (h4 : j ≤ 4) (h : ¬ (j < saw.length ∧ j < 4)) : saw.take j = saw.take 4 := by
  by_cases e : j = 4
  · rw [e]
  · rw [List.take_of_length_le (by omega), List.take_of_length_le (by omega)]
theorem sawI_eq (q : Int) {n : Nat} (h : 0 < n) (hn : n ≤ 1000) : IntKind.i64.wrap (q.tmod (n : Int)) = q.tmod (n : Int) ∧ IntKind.i64.wrap (q.tmod (n : Int) + (n : Int)) = q.tmod (n : Int) + (n : Int) ∧ (q.tmod (n : Int) + (n : Int)).tmod (n : Int) = (sawI q n : Int) ∧ IntKind.i64.wrap (sawI q n : Int) = (sawI q n : Int) := by
  have a1 := Int.tmod_lt_of_pos q (b := (n : Int)) (by omega)
  have a2 := Int.lt_tmod_of_pos q (b := (n : Int)) (by omega)
  have b2 := Int.tmod_nonneg (n : Int) (a := q.tmod (n : Int) + (n : Int)) (by omega)
  have hlt := sawI_lt q h
  refine ⟨IntWalk.i64_in _ (by omega), IntWalk.i64_in _ (by omega), ?_, IntWalk.i64_in _ (by omega)⟩
  unfold sawI
  omega


/-- At most so many dependencies, keys cut to 12 bytes, put together. -/
def fewN (n : Nat) (l : List De) : List De := addAll [] ((l.take n).map cutN)
theorem fewN_srt (n : Nat) (l : List De) : Srt (fewN n l) := (IsMerge.nil.all ((l.take n).map cutN)).srt
theorem fewN_len (n : Nat) (l : List De) : (fewN n l).length ≤ n := by
  have h := addAll_len ((l.take n).map cutN) []
  rw [List.length_map, List.length_take, List.length_nil] at h
  unfold fewN
  omega
theorem fwN_step (l : List De) (k : Nat) (h : k < l.length) : addAll [] ((l.take (k + 1)).map cutN) = addR (addAll [] ((l.take k).map cutN)) (cutN l[k]) := by
  rw [List.take_succ_eq_append_getElem h, List.map_append, List.map_singleton, addAll_snoc]
theorem fwN_all (n : Nat) (l : List De) (k : Nat) (hk : k ≤ l.length) (hh : k ≤ n) (hx : ¬ (k < l.length ∧ k < n)) : addAll [] ((l.take k).map cutN) = fewN n l := by
  unfold fewN
  by_cases e : k = n
  · rw [e]
  · rw [List.take_of_length_le (by omega), List.take_of_length_le (by omega)]
end Go.Proofs.Ytfmedinhlmiaeaa
/- Rows of ints, texts, ranges, uint64s: their kinds. -/
namespace Go.Proofs.Ytfmedinhlmiaeaa
open Go.RowKit
set_option linter.unusedVariables false
set_option linter.unusedSimpArgs false

def KI : RK Int where
  T := 3
  S := 53
  sz := 1
  bt := 8
  z := .int .i64 0
  enc x := [.int .i64 x]
theorem ki_ok : KI.Ok where
  len _ := rfl
  pos := by decide
  one x u hu := by simp [KI] at hu; subst hu; rfl
  und := Try.underlying53
  inf := by kernel_rfl
  zc := rfl
  bb := by decide
def KR : RK (ByteArray × ByteArray) where
  T := 67
  S := 36
  sz := 2
  bt := 32
  z := .agg #[.string ⟨#[]⟩, .string ⟨#[]⟩]
  enc x := [.string x.1, .string x.2]
theorem kr_ok : KR.Ok where
  len _ := rfl
  pos := by decide
  one x u hu := by
    simp [KR] at hu
    rcases hu with rfl | rfl <;> rfl
  und := Try.underlying36
  inf := by kernel_rfl
  zc := rfl
  bb := by decide
/-- An int of a row. -/
theorem RowIn.int {w : World} {a : Option Addr} {l : List Int} (h : RowIn KI w a l) (i : Nat) (hi : i < l.length) : ∃ b off, a = some ⟨b, off, none⟩ ∧ b < w.heap.size ∧ w.cell? ⟨b, off + i, none⟩ = some (.int .i64 l[i]) := by
  obtain ⟨b, off, e, hl, hc⟩ := h i hi
  have := hc 0 _ rfl
  rw [show KI.sz = 1 from rfl, Nat.mul_one, Nat.add_zero] at this
  exact ⟨b, off, e, hl, this⟩
theorem RowIn.rng {w : World} {a : Option Addr} {l : List (ByteArray × ByteArray)} (h : RowIn KR w a l) : RngIn w a l := by
  intro i hi
  obtain ⟨b, off, e, hl, hc⟩ := h i hi
  exact ⟨b, off, e, hl, hc 0 _ rfl, hc 1 _ rfl⟩
theorem RowAt.drew {α : Type} {K : RK α} {w : World} {v : Value} {l : List α} (h : RowAt K w v l) : RowAt K w.drew v l := h
end Go.Proofs.Ytfmedinhlmiaeaa
