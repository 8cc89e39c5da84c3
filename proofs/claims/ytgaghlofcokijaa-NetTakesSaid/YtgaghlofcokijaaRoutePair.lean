/- Rows of steps: pairs of ints. -/
import Derived.Test.YtgaghlofcokijaaKinds
import Derived.WalkSmall
import Derived.ChangeKeysEq
import Derived.Deep.RegionHeld3
import Derived.Deep.AppendLies
namespace Go.Proofs.Ytgaghlofcokijaa
open Go.RowKit
set_option linter.unusedVariables false
set_option linter.unusedSimpArgs false

theorem own_lit9 {α : Type} {K : RK α} (hK : K.Ok) (w : World) (base n : Nat) (l : List α) (cs : Array Value) (hcs : cs.toList = rV K l) (hn : l.length = n) (hb : base ≤ w.heap.size) (hm : n ≤ 1000) : OwnR K (w.alloc (.cells cs K.T)) base (.slice (some ⟨w.heap.size, 0, none⟩) n n) l := by
  subst hn
  have hl := rV_len hK l
  refine ⟨by rw [hl], .inr ⟨w.heap.size, l.length, cs, rfl, hb, heap_alloc_new w _, Nat.le_refl _, by unfold maxLen; omega, ?_, ?_⟩⟩
  · rw [← hl, ← hcs]; simp
  · rw [hcs, ← hl, List.take_length]
theorem OwnR.keptP {α : Type} {K : RK α} {w w' : World} {base : Nat} {v u : Value} {l : List α} (h : OwnR K w base v l) (hk : KeptD u w w') (hd : ∀ g, v.ownBlock = some g → u.ownBlock ≠ some g) : OwnR K w' base v l :=
  h.block fun g e => hk g (h.lt g e).2 (hd g e)
theorem step_push9 {α : Type} {K : RK α} (hK : K.Ok) {ops : Array Oper} {o : Oper} {a : Act} {KK : Act → World → Prop} {Q : Exit → Act → World → Prop} {E : Prop} {wr : World} (hgd : o.guard = none) (s x : Operand)
    (hop : o.op = .call { callee := .builtin .append, args := #[s, x], argTypes := #[K.S, K.S] })
    (base : Nat) (v : Value) (l : List α) (y : α) (cs : Array Value) (hcs : cs.toList = K.enc y) (hs : a.eval s = v) (hown : OwnR K wr base v l) (hx : a.eval x = .slice (some ⟨wr.heap.size, 0, none⟩) 1 1) (hl : l.length ≤ 1000000) (hbs : base ≤ wr.heap.size)
    (h : ∀ g cap w', OwnR K w' base (.slice (some ⟨g, 0, none⟩) (l.length + 1) cap) (l ++ [y]) → Below base wr w' → KeptD v wr w' → (v.ownBlock = some g ∨ wr.heap.size ≤ g) → g < w'.heap.size → KK (a.put o.dst (.slice (some ⟨g, 0, none⟩) (l.length + 1) cap)) w') :
    if Region.wanted o (yielded ops a.tmps) = true then Oper.wp Try.prog o a (wr.alloc (.cells cs K.T)) KK Q else E := by
  obtain ⟨i0, hi, hz0, hz1, hz2⟩ := info_parts hK.inf
  have hbb := hK.bb
  refine step_append_lies _ hgd s x K.S hop base K.T i0 _ K.sz K.bt hK.und hi hz0 hz1 hz2 hK.zc hK.pos v l.length (rV K l) hs (hown.alloc _) ⟨wr.heap.size, 0, none⟩ 1 1 (K.enc y) hx (by rw [hK.len, Nat.one_mul])
    (fun j u hu => World.news_of_block (cs := cs) (t := K.T) (fr := (0, 0)) (heap_alloc_new wr _) j u (by rw [hcs]; exact hu)) (hK.one y) (by omega) (by unfold maxLen; omega) (Nat.le_trans (Nat.mul_le_mul (show l.length + 1 ≤ 1000001 by omega) hbb) (by decide)) (by simp; omega) (wr.heap.size + 1) (by simp) ?_
  intro g cap w' ho hg hat hlt
  refine h g cap w' (by unfold OwnR; rw [rV_snoc]; simpa using ho) (((Below.refl base wr).alloc hbs _).grown hg (by simp; omega) (fun k hk => (hown.lt k hk).1)) (fun j hj hne => ?_) (by rcases hat with h1 | h1; exact .inl h1; exact .inr (by omega)) hlt
  rw [hg.block j (by simp; omega) (fun e => hne e.symm)]
  exact Below.heap_alloc _ _ _ hj
theorem OwnR.intAt {w : World} {base b off n cap : Nat} {l : List Int} (h : OwnR KI w base (.slice (some ⟨b, off, none⟩) n cap) l) (i : Nat) (hi : i < l.length) : w.cell? ⟨b, off + i, none⟩ = some (.int .i64 l[i]) := by
  obtain ⟨b', off', e, _, hc⟩ := (RowIn.of_own ki_ok h).int i hi
  cases e
  exact hc
theorem eq_pair (w : World) (k l k' l' : Int) : (binOp .eql 61 (.agg #[.int .i64 k, .int .i64 l]) (.agg #[.int .i64 k', .int .i64 l'])).run Try.prog w = .ok (.bool (decide ((k, l) = (k', l')))) w := by
  obtain ⟨i, hi⟩ : ∃ i, Try.prog.info? 3 = some i := by
    have := Try.underlying3
    unfold Program.underlying at this
    cases h : Try.prog.info? 3 with
    | none => rw [h] at this; simp at this
    | some i => exact ⟨i, rfl⟩
  have hc : Try.prog.cellsOf 3 = 1 := by kernel_rfl
  rw [run_eql_struct, run_equalIn_array w 9999 _ _ Try.underlying61 hi, hc]
  simp [go_sem, Op.eqItems, List.range, List.range.loop, Try.underlying3]
  by_cases h1 : k = k' <;> by_cases h2 : l = l' <;> simp [h1, h2]
theorem ne_pair (w : World) (k l k' l' : Int) : (binOp .neq 61 (.agg #[.int .i64 k, .int .i64 l]) (.agg #[.int .i64 k', .int .i64 l'])).run Try.prog w = .ok (.bool (!decide ((k, l) = (k', l')))) w := by
  have h := eq_pair w k l k' l'
  rw [run_eql_struct] at h
  rw [run_neq_struct]
  generalize (Op.equalIn 10000 _ _ _).run _ _ = r at h
  cases r with
  | ok b w1 => simp at h ⊢; simp [h]
  | halt x w1 => simp at h
end Go.Proofs.Ytgaghlofcokijaa
