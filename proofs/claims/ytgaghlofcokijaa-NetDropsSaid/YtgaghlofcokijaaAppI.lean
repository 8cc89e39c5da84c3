/- A row of ints appended to a row of one's own. -/
import Derived.Test.YtgaghlofcokijaaKinds
namespace Go.Proofs.Ytgaghlofcokijaa
open Go.RowKit
set_option linter.unusedVariables false
set_option linter.unusedSimpArgs false

theorem ki_news {w : World} {x : Addr} {l : List Int} (h : RowIn KI w (some x) l) : ∀ j u, (rV KI l)[j]? = some u → w.cell? (x.add j) = some u := by
  intro j u hj
  have hlt : j < (rV KI l).length := (List.getElem?_eq_some_iff.1 hj).1
  rw [rV_len ki_ok, show KI.sz = 1 from rfl, Nat.mul_one] at hlt
  obtain ⟨b, off, e, _, hc⟩ := h.int j hlt
  cases e
  have hg := rV_get ki_ok l j hlt 0 ki_ok.pos
  rw [show KI.sz = 1 from rfl, Nat.mul_one, Nat.add_zero, hj] at hg
  rw [Addr.add_lit, hc]
  exact hg.symm
theorem ki_one (l : List Int) : ∀ u ∈ rV KI l, u.oneCell' = true := by
  intro u hu
  simp only [rV, List.mem_flatMap] at hu
  obtain ⟨p, _, hp⟩ := hu
  exact ki_ok.one p u hp
theorem rV_app {α : Type} (K : RK α) (l m : List α) : rV K (l ++ m) = rV K l ++ rV K m := by simp [rV]
theorem wp_appI {ops : Array Oper} {rest : List Oper} {o : Oper} {a : Act} {Q : Exit → Act → World → Prop} {w : World} (hgd : o.guard = none) (s x : Operand)
    (hop : o.op = .call { callee := .builtin .append, args := #[s, x], argTypes := #[40, 40] })
    (base : Nat) (v u : Value) (l m : List Int) (hs : a.eval s = v) (hown : OwnR KI w base v l) (hx : a.eval x = u) (hu : RowAt KI w u m) (hl : l.length + m.length ≤ 1000000) (hbs : base ≤ w.heap.size)
    (h : ∀ v' w', OwnR KI w' base v' (l ++ m) → Below base w w' → KeptD v w w' → wpList Try.prog ops Q rest (a.put o.dst v') w') :
    wpList Try.prog ops Q (o :: rest) a w := by
  obtain ⟨i0, hi, hz0, hz1, hz2⟩ := info_parts ki_ok.inf
  obtain ⟨b, cap, rfl, hcap, hmx, hnil, hr⟩ := hu
  cases b with
  | some b =>
    refine wpList_append_own _ hgd s x 40 hop base 3 i0 _ 1 8 Try.underlying40 hi hz0 hz1 hz2 rfl (by decide) v l.length (rV KI l) hs hown b m.length cap (rV KI m) hx (rV_len ki_ok m) (ki_news hr) (ki_one m) (by unfold maxLen; omega) (by omega) hbs ?_
    intro v' w' ho hg hn
    exact h v' w' (by unfold OwnR; rw [rV_app, List.length_append]; exact ho) ((Below.refl base w).grown hg hbs (fun k hk => (hown.lt k hk).1)) (fun j hj hne => hg.block j hj (fun e => hne e.symm))
  | none =>
    have hc0 := hnil rfl
    obtain rfl : m = [] := List.length_eq_zero_iff.1 (by omega)
    subst hc0
    refine wpList_append_own_none hgd s x 40 hop base 3 i0 1 Try.underlying40 hi v l.length (rV KI l) hs hown hx ?_
    exact h v w (by rw [List.append_nil]; exact hown) (Below.refl _ _) (fun _ _ _ => rfl)

end Go.Proofs.Ytgaghlofcokijaa
