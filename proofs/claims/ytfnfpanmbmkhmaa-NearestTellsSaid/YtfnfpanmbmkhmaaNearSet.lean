/- A version of a law's own row, written anew; what all of the past of such a row can have. -/
import Derived.Test.YtfnfpanmbmkhmaaGN517
namespace Go.Proofs.Ytfnfpanmbmkhmaa
open Go.RowKit Go.Maps
set_option linter.unusedVariables false
set_option linter.unusedSimpArgs false

theorem rKV_cons (x : Vp) (l : List Vp) : rV KV (x :: l) = .string x.1.key :: .string x.1.val :: .bool x.1.gone :: .int .i64 x.1.st.1 :: .int .i64 x.1.st.2 :: pu x :: rV KV l := rfl
theorem rKV_set (l : List Vp) (i : Nat) (x : Vp) (h : i < l.length) : ((((((rV KV l).set (i * 6) (.string x.1.key)).set (i * 6 + 1) (.string x.1.val)).set (i * 6 + 2) (.bool x.1.gone)).set (i * 6 + 3) (.int .i64 x.1.st.1)).set (i * 6 + 4) (.int .i64 x.1.st.2)).set (i * 6 + 5) (pu x) = rV KV (l.set i x) := by
  induction l generalizing i with
  | nil => simp at h
  | cons r t ih =>
    cases i with
    | zero => simp [rKV_cons]
    | succ i =>
      have := ih i (by simpa using h)
      rw [List.set_cons_succ, rKV_cons, rKV_cons, ← this, show (i + 1) * 6 = i * 6 + 1 + 1 + 1 + 1 + 1 + 1 by omega]
      simp
abbrev put6 (w : World) (g o : Nat) (x : Vp) : World := (((((w.setCell ⟨g, o, none⟩ (.string x.1.key)).setCell ⟨g, o + 1, none⟩ (.string x.1.val)).setCell ⟨g, o + 2, none⟩ (.bool x.1.gone)).setCell ⟨g, o + 3, none⟩ (.int .i64 x.1.st.1)).setCell ⟨g, o + 4, none⟩ (.int .i64 x.1.st.2)).setCell ⟨g, o + 5, none⟩ (pu x)
theorem put6_below {base g o : Nat} {w w' : World} (hb : Below base w w') (hg : base ≤ g) (x : Vp) : Below base w (put6 w' g o x) :=
  (((((hb.setCell hg _).setCell hg _).setCell hg _).setCell hg _).setCell hg _).setCell hg _
theorem put6_heap (w : World) (g o : Nat) (x : Vp) (k : Nat) (h : k ≠ g) : (put6 w g o x).heap[k]? = w.heap[k]? := by
  unfold put6
  rw [Below.heap_setCell _ _ _ _ h, Below.heap_setCell _ _ _ _ h, Below.heap_setCell _ _ _ _ h, Below.heap_setCell _ _ _ _ h, Below.heap_setCell _ _ _ _ h, Below.heap_setCell _ _ _ _ h]
theorem put6_size (w : World) (g o : Nat) (x : Vp) : (put6 w g o x).heap.size = w.heap.size := by simp [put6]
theorem VMade.set {w : World} {base g cap : Nat} {xs : List Vp} (h : VMade w base (.slice (some ⟨g, 0, none⟩) xs.length cap) xs) (k : Nat) (hk : k < xs.length) (x : Vp) (hp : DepAt w (pu x) x.1.past) (ho : Off (.slice (some ⟨g, 0, none⟩) xs.length cap) x) :
    VMade (put6 w g (k * 6) x) base (.slice (some ⟨g, 0, none⟩) xs.length cap) (xs.set k x) := by
  have hkept : KeptD (.slice (some ⟨g, 0, none⟩) xs.length cap) w (put6 w g (k * 6) x) := fun j _ hj => put6_heap w g _ x j (fun e => hj (by simp [Value.ownBlock, e]))
  have hsz := put6_size w g (k * 6) x
  refine ⟨?_, fun y hy => ?_, fun y hy => ?_⟩
  · have h6 := ((((((h.own.stored (k * 6) (.string x.1.key)).1.stored (k * 6 + 1) (.string x.1.val)).1.stored (k * 6 + 2) (.bool x.1.gone)).1.stored (k * 6 + 3) (.int .i64 x.1.st.1)).1.stored (k * 6 + 4) (.int .i64 x.1.st.2)).1.stored (k * 6 + 5) (pu x)).1
    unfold OwnR
    rw [← rKV_set xs k x hk, List.length_set]
    exact h6
  · rcases List.mem_or_eq_of_mem_set hy with h1 | rfl
    · exact (h.pst y h1).off (h.off y h1) (by omega) hkept
    · exact hp.off ho (by omega) hkept
  · rcases List.mem_or_eq_of_mem_set hy with h1 | rfl
    · exact h.off y h1
    · exact ho
theorem VMade.at {w : World} {base g n cap : Nat} {xs : List Vp} (h : VMade w base (.slice (some ⟨g, 0, none⟩) n cap) xs) (i : Nat) (hi : i < xs.length) : VerP w g (i * 6) xs[i].1 (pu xs[i]) := by
  obtain ⟨g', cap', e, _, _, _, hlt, hc⟩ := h.own.cell kv_ok i hi
  cases e
  refine VerP.of_row (fun j u hu => ?_)
  have := hc j u hu
  rw [Nat.zero_add] at this
  exact this
theorem VMade.fr {w : World} {base g cap : Nat} {xs : List Vp} (h : VMade w base (.slice (some ⟨g, 0, none⟩) xs.length cap) xs) (j : Nat) : w.frozen? ⟨g, j, none⟩ = false := h.own.frozenAt j
/-- Keys that such a row can have: the law's own, or one more. -/
def KeyOr (K k : ByteArray) : Prop := (∃ i, i < 8 ∧ k = keyAt i) ∨ k = K
structure Chg (K : ByteArray) (l : List Ve) : Prop where
  key : ∀ v ∈ l, KeyOr K v.key
  pst : ∀ v ∈ l, ∀ d ∈ v.past, KeyOr K d.1
theorem Inv.chg {l : List Ve} (h : Inv l) (K : ByteArray) : Chg K l := by
  refine ⟨fun v hv => .inl (h.keys v hv), fun v hv d hd => .inl ?_⟩
  obtain ⟨u, hu, _⟩ := cl_iff.1 (h.snd.cl v hv) d hd
  obtain ⟨h1, h2, _⟩ := fnd_some hu
  rw [← h2]
  exact h.keys u h1
theorem Chg.set {K : ByteArray} {l : List Ve} (h : Chg K l) (k : Nat) (v : Ve) (h1 : KeyOr K v.key) (h2 : ∀ d ∈ v.past, KeyOr K d.1) : Chg K (l.set k v) := by
  refine ⟨fun u hu => ?_, fun u hu => ?_⟩
  · rcases List.mem_or_eq_of_mem_set hu with h3 | rfl
    · exact h.key u h3
    · exact h1
  · rcases List.mem_or_eq_of_mem_set hu with h3 | rfl
    · exact h.pst u h3
    · exact h2
theorem keys9 {K : ByteArray} {p : List De} (hp : Srt p) (hk : ∀ d ∈ p, KeyOr K d.1) : p.length ≤ 9 := by
  have h1 : (p.map Prod.fst).Nodup := by
    unfold List.Nodup
    rw [List.pairwise_map]
    refine List.Pairwise.imp ?_ hp.2
    intro a b hab e
    rw [e, klt_irrefl] at hab
    cases hab
  have h2 := nodup_len (m := K :: (List.range 8).map keyAt) h1 (fun a ha => by
    obtain ⟨d, hd, rfl⟩ := List.mem_map.1 ha
    rcases hk d hd with ⟨i, hi, e⟩ | e
    · rw [e]
      exact List.mem_cons_of_mem _ (List.mem_map.2 ⟨i, by simpa using hi, rfl⟩)
    · rw [e]
      simp)
  simpa using h2
theorem Chg.all {K : ByteArray} {l : List Ve} (h : Chg K l) : (allV l).length ≤ 9 := by
  refine keys9 (K := K) (allV_srt l) (fun d hd => ?_)
  have h1 := ((allV_is l).mem d).1 hd |>.1
  unfold allF at h1
  rw [List.mem_flatMap] at h1
  obtain ⟨v, hv, h2⟩ := h1
  rw [List.mem_append, List.mem_singleton] at h2
  rcases h2 with h2 | rfl
  · exact h.pst v hv d h2
  · exact h.key v hv
theorem few_one (d : De) : ∀ e ∈ fewD [d], e.1 = k12 d.1 := by
  intro e he
  have h1 := ((IsMerge.nil.all (([d].take 6).map cutN)).mem e).1 he |>.1
  simp at h1
  rw [h1]
  rfl
end Go.Proofs.Ytfnfpanmbmkhmaa
