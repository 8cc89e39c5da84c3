/- Versions of words put in whatever order: mathematics. -/
import Derived.Test.YtjfmgplhcinkfaaGS28
import Derived.Test.YtjfmgplhcinkfaaChLaw
namespace Go.Proofs.Ytjfmgplhcinkfaa
open Go.RowKit
set_option linter.unusedVariables false
set_option linter.unusedSimpArgs false

theorem owns_all (k : ByteArray) : ownsK (rngsOf 0) k = true := by
  have h : rngsOf 0 = [(⟨#[]⟩, ⟨#[]⟩)] := rfl
  rw [h]
  have hh : Km.has [] [] (bts k) = true := by
    unfold Km.has
    rw [Km.bl_nil]
    rfl
  have : Km.fidx (tls [(⟨#[]⟩, ⟨#[]⟩)]) (bts k) = 0 := by
    refine Km.fidx_hit (k := 0) (by rw [tls_len]; simp) (fun j hj h0 => by omega) ?_
    exact hh
  unfold ownsK
  rw [this]
  rfl
theorem mid_rise {xs : List Vw} {x : Vw} (h : riseW xs) (hok : putOk xs x = true) : riseW (midC xs x) := by
  have hne : ∀ y ∈ xs, y.1.st ≠ x.1.st := fun y hy e => by
    have := put_free hok y hy
    simp [isS, e] at this
  unfold midC
  have hdr := drop_upN (p := notA x.1.st) (l := xs)
  have htk := take_upN (p := notA x.1.st) (l := xs)
  have hr0 : riseW (xs.take (upN (notA x.1.st) xs) ++ xs.drop (upN (notA x.1.st) xs)) := by rw [List.take_append_drop]; exact h
  rw [riseW, List.pairwise_append] at hr0
  have hA : ∀ a ∈ xs.take (upN (notA x.1.st) xs), Sm.less a.1.st x.1.st = true := fun a ha => by
    have hr := h.sublist (List.take_sublist (upN (notA x.1.st) xs) xs)
    cases hg : (xs.take (upN (notA x.1.st) xs)).getLast? with
    | none => rw [List.getLast?_eq_none_iff] at hg; rw [hg] at ha; simp at ha
    | some y =>
      obtain ⟨ys, e⟩ := List.getLast?_eq_some_iff.1 hg
      rw [hg] at htk
      obtain ⟨hy1, hy2⟩ := lastP_some htk.symm
      have hyl : Sm.less y.1.st x.1.st = true := by
        simp [notA] at hy2
        exact less_total hy2 (fun e => hne y hy1 e.symm)
      rw [e] at ha hr
      rw [List.pairwise_append] at hr
      rcases List.mem_append.1 ha with ha | ha
      · exact Sm.less_trans (hr.2.2 a ha y (by simp)) hyl
      · simp at ha
        rw [ha]
        exact hyl
  have hB : ∀ b ∈ xs.drop (upN (notA x.1.st) xs), Sm.less x.1.st b.1.st = true := fun b hb => by
    have := hdr b hb
    simpa [notA] using this
  rw [riseW, List.pairwise_append, List.pairwise_cons]
  refine ⟨hr0.1, ⟨hB, hr0.2.1⟩, fun a ha b hb => ?_⟩
  rcases List.mem_cons.1 hb with rfl | hb
  · exact hA a ha
  · exact hr0.2.2 a ha b hb
theorem mem_mid {xs : List Vw} {x y : Vw} : y ∈ midC xs x ↔ y ∈ xs ∨ y = x := by
  unfold midC
  rw [List.mem_append, List.mem_cons]
  constructor
  · rintro (h | h | h)
    · exact .inl (List.mem_of_mem_take h)
    · exact .inr h
    · exact .inl (List.mem_of_mem_drop h)
  · rintro (h | h)
    · rw [← List.take_append_drop (upN (notA x.1.st) xs) xs, List.mem_append] at h
      rcases h with h | h
      · exact .inl h
      · exact .inr (.inr h)
    · exact .inr (.inl h)

/-- The i-th version. -/
def ordE (l : List Int) (i : Nat) : Vw := verK (wordK (l.getD i 0)) (1 + (i : Int), 0) ⟨#[]⟩
structure OrdF (l : List Int) (P : Nat → Prop) (F : Ch) : Prop where
  mem : ∀ K y, y ∈ F K ↔ ∃ i, P i ∧ y = ordE l i ∧ y.1.key = K
  rise : ∀ K, riseW (F K)
theorem OrdF.none (l : List Int) : OrdF l (fun _ => False) (fun _ => []) := ⟨fun K y => by simp, fun K => List.Pairwise.nil⟩
theorem ordE_st (l : List Int) {i j : Nat} (h : (ordE l i).1.st = (ordE l j).1.st) : i = j := by
  have : (1 + (i : Int), (0 : Int)) = (1 + (j : Int), 0) := h
  simp at this
  omega
theorem ordE_ok (l : List Int) (i : Nat) (h : i < 1000) : okW (ordE l i).1 = true := by
  unfold ordE
  rw [verK_ok _ _ _ (by decide)]
  rw [show Km.chk (wordK (l.getD i 0)).data.toList = true from chk_word _]
  simp [Sm.ok]
  omega
theorem OrdF.put {l : List Int} {P : Nat → Prop} {F : Ch} {R : List (ByteArray × ByteArray)} (h : OrdF l P F) {j : Nat} (hj : ¬ P j) (hj20 : j < 1000) (hR : ∀ k, ownsK R k = true) :
    (ownsK R (ordE l j).1.key && putOk (F (ordE l j).1.key) (ordE l j)) = true ∧ OrdF l (fun i => P i ∨ i = j) (putF R F (ordE l j)) := by
  have hok : putOk (F (ordE l j).1.key) (ordE l j) = true := by
    have h1 : (lastP (isS (ordE l j).1.st) (F (ordE l j).1.key)).isSome = false := by
      cases e : lastP (isS (ordE l j).1.st) (F (ordE l j).1.key) with
      | none => rfl
      | some y =>
        obtain ⟨hy, hs⟩ := lastP_some e
        obtain ⟨i, hi, rfl, _⟩ := (h.mem _ _).1 hy
        simp [isS] at hs
        exact absurd (ordE_st l hs ▸ hi) hj
    have h2 : fitK (F (ordE l j).1.key) (ordE l j) = true := by
      cases e : F (ordE l j).1.key with
      | nil => rfl
      | cons y r =>
        have hy : y ∈ F (ordE l j).1.key := by rw [e]; simp
        obtain ⟨i, hi, h3, h4⟩ := (h.mem _ _).1 hy
        unfold fitK
        simp [h4]
    unfold putOk
    rw [h1, h2, ordE_ok l j hj20]
    rfl
  have hc : (ownsK R (ordE l j).1.key && putOk (F (ordE l j).1.key) (ordE l j)) = true := by rw [hR, hok]; rfl
  refine ⟨hc, ?_⟩
  rw [putF_yes hc]
  refine ⟨fun K y => ?_, fun K => ?_⟩
  · by_cases e : K = (ordE l j).1.key
    · subst e
      rw [updF_same, mem_mid, h.mem]
      constructor
      · rintro (⟨i, hi, h3, h4⟩ | rfl)
        · exact ⟨i, .inl hi, h3, h4⟩
        · exact ⟨j, .inr rfl, rfl, rfl⟩
      · rintro ⟨i, hi | rfl, h3, h4⟩
        · exact .inl ⟨i, hi, h3, h4⟩
        · exact .inr h3
    · rw [updF_other _ _ e, h.mem]
      constructor
      · rintro ⟨i, hi, h3, h4⟩
        exact ⟨i, .inl hi, h3, h4⟩
      · rintro ⟨i, hi | rfl, h3, h4⟩
        · exact ⟨i, hi, h3, h4⟩
        · exact absurd (by rw [← h4, h3]) e
  · by_cases e : K = (ordE l j).1.key
    · subst e
      rw [updF_same]
      exact mid_rise (h.rise _) hok
    · rw [updF_other _ _ e]
      exact h.rise K
theorem OrdF.same {l : List Int} {P Q : Nat → Prop} {F G : Ch} (h : OrdF l P F) (h' : OrdF l Q G) (hpq : ∀ i, P i ↔ Q i) : F = G := by
  funext K
  refine chn_uniq (h.rise K) (h'.rise K) fun y => ?_
  rw [h.mem, h'.mem]
  constructor
  · rintro ⟨i, hi, h3⟩
    exact ⟨i, (hpq i).1 hi, h3⟩
  · rintro ⟨i, hi, h3⟩
    exact ⟨i, (hpq i).2 hi, h3⟩
end Go.Proofs.Ytjfmgplhcinkfaa
