/- Rows that were cut: a block may hold more than the slice can reach. -/
import Derived.Test.YtgaghlofcokijaaLinkMem
import Derived.Test.YtgaghlofcokijaaNetMath
import Derived.Deep.AppendLies
namespace Go.Proofs.Ytgaghlofcokijaa
open Go.RowKit
set_option linter.unusedVariables false
set_option linter.unusedSimpArgs false

/-- A row of packets of one's own: the block holds as many places as the slice can reach, or more. -/
def OwnQ (w : World) (v : Value) (l : List (Int × ByteArray)) : Prop :=
  (v = .slice none 0 0 ∧ l = []) ∨
  ∃ g cap cur, v = .slice (some ⟨g, 0, none⟩) l.length cap ∧ w.heap[g]? = some (.cells cur KPk.T (0, 0)) ∧ l.length ≤ cap ∧ cap ≤ maxLen ∧ cap * 2 ≤ cur.size ∧ cur.toList.take (l.length * 2) = rV KPk l
theorem OwnQ.nil (w : World) : OwnQ w (.slice none 0 0) [] := .inl ⟨rfl, rfl⟩
theorem OwnQ.shape {w : World} {v : Value} {l : List (Int × ByteArray)} (h : OwnQ w v l) : ∃ a c, v = .slice a l.length c := by
  rcases h with ⟨rfl, rfl⟩ | ⟨g, cap, cur, rfl, _⟩
  · exact ⟨_, _, rfl⟩
  · exact ⟨_, _, rfl⟩
theorem OwnQ.lt {w : World} {v : Value} {l : List (Int × ByteArray)} (h : OwnQ w v l) : ∀ g, v.ownBlock = some g → g < w.heap.size := by
  intro g hg
  rcases h with ⟨rfl, rfl⟩ | ⟨g', cap, cur, rfl, hb, _⟩
  · simp [Value.ownBlock] at hg
  · simp [Value.ownBlock] at hg
    subst hg
    exact (Array.getElem?_eq_some_iff.1 hb).1
theorem OwnQ.block {w w' : World} {v : Value} {l : List (Int × ByteArray)} (h : OwnQ w v l) (hb : ∀ g, v.ownBlock = some g → w'.heap[g]? = w.heap[g]?) : OwnQ w' v l := by
  rcases h with h0 | ⟨g, cap, cur, rfl, hg, r⟩
  · exact .inl h0
  · exact .inr ⟨g, cap, cur, rfl, (hb g rfl).trans hg, r⟩
theorem OwnQ.below {w w' : World} {v : Value} {l : List (Int × ByteArray)} (h : OwnQ w v l) (hb : Below w.heap.size w w') : OwnQ w' v l := h.block fun g e => hb.block g (h.lt g e)
theorem OwnQ.mv {P : Nat → Prop} {w w' : World} {v : Value} {l : List (Int × ByteArray)} (h : OwnQ w v l) (hb : Mv P w w') (hp : ∀ g, v.ownBlock = some g → ¬ P g) : OwnQ w' v l := h.block fun g e => hb.block g (h.lt g e) (hp g e)
theorem OwnQ.caps {w : World} {a : Option Addr} {n cap : Nat} {l : List (Int × ByteArray)} (h : OwnQ w (.slice a n cap) l) : n = l.length ∧ n ≤ cap ∧ cap ≤ maxLen ∧ (a = none → cap = 0) := by
  rcases h with ⟨e, rfl⟩ | ⟨g, cap', cur, e, _, h1, h2, _⟩
  · cases e
    exact ⟨rfl, Nat.le_refl _, by unfold maxLen; omega, fun _ => rfl⟩
  · cases e
    exact ⟨rfl, h1, h2, by simp⟩
/-- What is read of it. -/
theorem OwnQ.cells {w : World} {g cap : Nat} {n : Nat} {l : List (Int × ByteArray)} (h : OwnQ w (.slice (some ⟨g, 0, none⟩) n cap) l) : ∀ j u, (rV KPk l)[j]? = some u → w.cell? ⟨g, j, none⟩ = some u := by
  intro j u hu
  rcases h with ⟨e, rfl⟩ | ⟨g', cap', cur, e, hg, h1, h2, h3, ht⟩
  · cases e
  · cases e
    have hj : j < l.length * 2 := by
      have := (List.getElem?_eq_some_iff.1 hu).1
      rw [rV_len kpk_ok] at this
      exact this
    rw [← ht, List.getElem?_take, if_pos hj, Array.getElem?_toList] at hu
    simp [World.cell?, hg, hu]
theorem OwnQ.at {w : World} {g n cap : Nat} {l : List (Int × ByteArray)} (h : OwnQ w (.slice (some ⟨g, 0, none⟩) n cap) l) (i : Nat) (hi : i < l.length) :
    w.cell? ⟨g, i * 2, none⟩ = some (.int .i64 l[i].1) ∧ w.cell? ⟨g, i * 2 + 1, none⟩ = some (.string l[i].2) := by
  have h0 := rV_get kpk_ok l i hi 0 (by decide)
  have h1 := rV_get kpk_ok l i hi 1 (by decide)
  exact ⟨h.cells _ _ h0, h.cells _ _ h1⟩
theorem OwnQ.pos {w : World} {v : Value} {l : List (Int × ByteArray)} (h : OwnQ w v l) (hl : 0 < l.length) : ∃ g cap, v = .slice (some ⟨g, 0, none⟩) l.length cap ∧ l.length ≤ cap ∧ cap ≤ maxLen := by
  rcases h with ⟨_, rfl⟩ | ⟨g, cap, cur, e, _, h1, h2, _⟩
  · simp at hl
  · exact ⟨g, cap, e, h1, h2⟩
theorem OwnQ.fr {w : World} {g n cap : Nat} {l : List (Int × ByteArray)} (h : OwnQ w (.slice (some ⟨g, 0, none⟩) n cap) l) (j : Nat) : w.frozen? ⟨g, j, none⟩ = false := by
  rcases h with ⟨e, rfl⟩ | ⟨g', cap', cur, e, hg, _⟩
  · cases e
  · cases e
    simp [World.frozen?, hg]
theorem OwnQ.row {w : World} {a : Option Addr} {n cap : Nat} {l : List (Int × ByteArray)} (h : OwnQ w (.slice a n cap) l) : RowIn KPk w a l := by
  intro i hi
  rcases h with ⟨e, rfl⟩ | ⟨g', cap', cur, e, hg, h1, h2, h3, ht⟩
  · simp at hi
  · cases e
    refine ⟨g', 0, rfl, (Array.getElem?_eq_some_iff.1 hg).1, fun j u hu => ?_⟩
    have hq : OwnQ w (.slice (some ⟨g', 0, none⟩) l.length cap) l := .inr ⟨g', cap, cur, rfl, hg, h1, h2, h3, ht⟩
    rw [Nat.zero_add]
    refine hq.cells _ _ ?_
    rw [rV_get kpk_ok l i hi j (by rw [← kpk_ok.len l[i]]; exact (List.getElem?_eq_some_iff.1 hu).1)]
    exact hu
theorem OwnQ.of_own {w : World} {base : Nat} {v : Value} {l : List (Int × ByteArray)} (h : OwnR KPk w base v l) : OwnQ w v l := by
  rcases h.2 with ⟨rfl, h0⟩ | ⟨g, cap, cur, rfl, hb, hg, hn, hm, hs, ht⟩
  · exact .inl ⟨rfl, List.length_eq_zero_iff.1 h0⟩
  · exact .inr ⟨g, cap, cur, rfl, hg, hn, hm, Nat.le_of_eq hs.symm, ht⟩
/-- A row that was cut at its k-th place, so that nothing can be appended in place. -/
theorem OwnQ.cut {w : World} {g n cap : Nat} {l : List (Int × ByteArray)} (h : OwnQ w (.slice (some ⟨g, 0, none⟩) n cap) l) (k : Nat) (hk : k ≤ l.length) : OwnQ w (.slice (some ⟨g, 0, none⟩) k k) (l.take k) := by
  rcases h with ⟨e, rfl⟩ | ⟨g', cap', cur, e, hg, h1, h2, h3, ht⟩
  · cases e
  · cases e
    have hl : (l.take k).length = k := by rw [List.length_take]; omega
    refine .inr ⟨g, k, cur, by rw [hl], hg, by omega, by omega, by omega, ?_⟩
    have e1 : rV KPk (l.take k) = (rV KPk l).take (k * 2) := by
      have e2 : rV KPk l = rV KPk (l.take k) ++ rV KPk (l.drop k) := by
        unfold rV
        rw [← List.flatMap_append, List.take_append_drop]
      rw [e2, List.take_left' (by rw [rV_len kpk_ok, hl]; rfl)]
    rw [hl, e1, ← ht, List.take_take, Nat.min_eq_left (by omega)]
/-- One packet written anew. -/
theorem pk_set (l : List (Int × ByteArray)) (i : Nat) (x : Int) (d : ByteArray) : ((rV KPk l).set (i * 2) (.int .i64 x)).set (i * 2 + 1) (.string d) = rV KPk (l.set i (x, d)) := by
  induction l generalizing i with
  | nil => simp [rV]
  | cons r t ih =>
    have e : ∀ (y : Int × ByteArray) (t : List (Int × ByteArray)), rV KPk (y :: t) = .int .i64 y.1 :: .string y.2 :: rV KPk t := fun y t => rfl
    cases i with
    | zero => rw [e, List.set_cons_zero]; rfl
    | succ i =>
      have := ih i
      rw [List.set_cons_succ, e r t, e r (t.set i (x, d)), ← this, show (i + 1) * 2 = i * 2 + 1 + 1 by omega]
      rfl
theorem OwnQ.put {w : World} {g n cap : Nat} {l : List (Int × ByteArray)} (h : OwnQ w (.slice (some ⟨g, 0, none⟩) n cap) l) (i : Nat) (x : Int) (d : ByteArray) :
    OwnQ ((w.setCell ⟨g, i * 2, none⟩ (.int .i64 x)).setCell ⟨g, i * 2 + 1, none⟩ (.string d)) (.slice (some ⟨g, 0, none⟩) n cap) (l.set i (x, d)) := by
  rcases h with ⟨e, rfl⟩ | ⟨g', cap', cur, e, hg, h1, h2, h3, ht⟩
  · cases e
  · cases e
    have hg1 := heap_setCell_same w g (i * 2) cur KPk.T (.int .i64 x) hg
    have hg2 := heap_setCell_same _ g (i * 2 + 1) _ KPk.T (.string d) hg1
    refine .inr ⟨g, cap, _, by rw [List.length_set], hg2, by rw [List.length_set]; exact h1, h2, by simpa using h3, ?_⟩
    rw [Array.toList_setIfInBounds, Array.toList_setIfInBounds, List.length_set, ← pk_set, ← ht, List.take_set, List.take_set]
/-- What can be appended to a row of one's own, and what comes of it. -/
theorem run_appendQ {w : World} (ty : TypeId) (v : Value) (l : List (Int × ByteArray)) (hown : OwnQ w v l) (a : Addr) (c : Nat) (ns : List (Int × ByteArray)) (hr : ∀ j u, (rV KPk ns)[j]? = some u → w.cell? (a.add j) = some u)
    (hl : l.length + ns.length ≤ 1000000) :
    ∃ v' w', (Builtin.append_ #[KPk.S, KPk.S] ty #[v, .slice (some a) ns.length c]).run Try.prog w = .ok v' w' ∧ OwnQ w' v' (l ++ ns) ∧ w.grownBy w' v.ownBlock ∧ (v'.ownBlock = v.ownBlock ∨ v'.ownBlock = some w.heap.size) := by
  obtain ⟨i0, hi, hz0, hz1, hz2⟩ := info_parts kpk_ok.inf
  have hs : i0.size = 2 := hz1
  have hby : i0.bytes = 24 := hz2
  have hnl : (rV KPk ns).length = ns.length * i0.size := by rw [rV_len kpk_ok, hs]; rfl
  have h1 : ∀ u ∈ rV KPk ns, u.oneCell' = true := fun u hu => by
    unfold rV at hu
    obtain ⟨x, _, hx⟩ := List.mem_flatMap.1 hu
    exact kpk_ok.one x u hx
  have happ : rV KPk (l ++ ns) = rV KPk l ++ rV KPk ns := by unfold rV; rw [List.flatMap_append]
  have hzs : KPk.z.cells.size = 2 := rfl
  have grown : ∀ (old : Nat), old < l.length + ns.length → ∀ (row : Option Nat),
      OwnQ (w.drew.alloc (.cells ((rV KPk l).toArray ++ (rV KPk ns).toArray ++ Builtin.zeroCells KPk.z.cells (grownCap w (l.length + ns.length) old KPk.T - (l.length + ns.length))) KPk.T))
        (.slice (some ⟨w.heap.size, 0, none⟩) (l.length + ns.length) (grownCap w (l.length + ns.length) old KPk.T)) (l ++ ns) ∧
      w.grownBy (w.drew.alloc (.cells ((rV KPk l).toArray ++ (rV KPk ns).toArray ++ Builtin.zeroCells KPk.z.cells (grownCap w (l.length + ns.length) old KPk.T - (l.length + ns.length))) KPk.T)) row := by
    intro old ho row
    have hge := grownCap_ge w (l.length + ns.length) old KPk.T
    have hcm : grownCap w (l.length + ns.length) old KPk.T ≤ maxLen := grownCap_le_maxLen w (l.length + ns.length) old KPk.T (by unfold maxLen; omega)
    refine ⟨.inr ⟨w.heap.size, _, _, by rw [List.length_append], heap_alloc_new w.drew _, by rw [List.length_append]; exact hge, hcm, ?_, ?_⟩, ⟨rfl, rfl, rfl, by simp, fun k hk _ => Below.heap_alloc w.drew _ k hk⟩⟩
    · simp only [Array.size_append, List.size_toArray, size_zeroCells, hzs, rV_len kpk_ok]
      show _ ≤ l.length * 2 + ns.length * 2 + _ * 2
      omega
    · simp only [Array.toList_append, List.append_assoc]
      rw [← List.append_assoc, ← happ]
      exact List.take_left' (by rw [rV_len kpk_ok]; rfl)
  rcases hown with ⟨rfl, rfl⟩ | ⟨g, cap, cur, rfl, hg, hnc, hcm, hcs, htake⟩
  · by_cases hm : ns.length = 0
    · obtain rfl := List.length_eq_zero_iff.1 hm
      refine ⟨.slice none 0 0, w, ?_, OwnQ.nil w, ⟨rfl, rfl, rfl, Nat.le_refl _, fun _ _ _ => rfl⟩, .inl rfl⟩
      have hi' : Try.prog.info? 53 = some i0 := hi
      simp [Builtin.append_, run_underlying kpk_ok.und, sizeOf, typeInfo, hi, Builtin.lenOf, Builtin.firstCells, loadCells, loadCellsFrom]
    · have hr := run_append_nil (P := Try.prog) w KPk.S ty KPk.T i0 KPk.z kpk_ok.und hi hz0 a ns.length c (rV KPk ns) hnl hr (by omega) (by omega) (by rw [hby]; simp at hl; omega)
      have hgr := grown 0 (by omega) (Value.ownBlock (.slice none 0 0))
      simp only [List.length_nil, Nat.zero_add, List.nil_append, Array.empty_append, rV_nil] at hgr ⊢
      exact ⟨_, _, hr, hgr.1, hgr.2, .inr rfl⟩
  · by_cases hroom : l.length + ns.length ≤ cap
    · have hfit : l.length * i0.size + (rV KPk ns).length ≤ cur.size := by rw [hnl, hs]; omega
      have hr := run_append_room (P := Try.prog) w KPk.S ty KPk.T i0 kpk_ok.und hi g l.length cap cur hg a ns.length c (rV KPk ns) hnl hr h1 hroom hfit
      refine ⟨_, _, hr, .inr ⟨g, cap, _, by rw [List.length_append], setRow_heap w g cur _ KPk.T _ hg, by rw [List.length_append]; exact hroom, hcm, ?_, ?_⟩, ⟨rfl, rfl, rfl, by simp, fun k _ hk => setRow_other w g k _ (fun e => hk (by simp [Value.ownBlock, e]))⟩, .inl rfl⟩
      · simp only [List.size_toArray, List.length_append, List.length_take, List.length_drop, Array.length_toList]
        omega
      · rw [hs, htake, ← happ]
        exact List.take_left' (by rw [rV_len kpk_ok]; rfl)
    · have hq : OwnQ w (.slice (some ⟨g, 0, none⟩) l.length cap) l := .inr ⟨g, cap, cur, rfl, hg, hnc, hcm, hcs, htake⟩
      have holds : ∀ j u, (rV KPk l)[j]? = some u → w.cell? ((⟨g, 0, none⟩ : Addr).add j) = some u := fun j u hu => by rw [Addr.add_lit, Nat.zero_add]; exact hq.cells j u hu
      have hr := run_append_grow (P := Try.prog) w KPk.S ty KPk.T i0 KPk.z kpk_ok.und hi hz0 ⟨g, 0, none⟩ l.length cap (rV KPk l) (by rw [rV_len kpk_ok, hs]; rfl) holds a ns.length c (rV KPk ns) hnl hr (by omega) (by omega) (growslice_fits (by omega) (by rw [hby]; omega))
      have hgr := grown cap (by omega) (Value.ownBlock (.slice (some ⟨g, 0, none⟩) l.length cap))
      exact ⟨_, _, hr, hgr.1, hgr.2, .inr rfl⟩
/-- At a step of a region that draws. -/
theorem step_appendQ {ops : Array Oper} {o : Oper} {a : Act} {K : Act → World → Prop} {Q : Exit → Act → World → Prop} {E : Prop} {w : World} (hgd : o.guard = none) (s x : Operand)
    (ho : o.op = .call { callee := .builtin .append, args := #[s, x], argTypes := #[KPk.S, KPk.S] })
    (v : Value) (l : List (Int × ByteArray)) (hs : a.eval s = v) (hown : OwnQ w v l) (ad : Addr) (n c : Nat) (ns : List (Int × ByteArray)) (hn : ns.length = n) (hx : a.eval x = .slice (some ad) n c) (hr : ∀ j u, (rV KPk ns)[j]? = some u → w.cell? (ad.add j) = some u) (hl : l.length + ns.length ≤ 1000000)
    (h : ∀ b k w', OwnQ w' (.slice b (l ++ ns).length k) (l ++ ns) → w.grownBy w' v.ownBlock → ((Value.slice b (l ++ ns).length k).ownBlock = v.ownBlock ∨ (Value.slice b (l ++ ns).length k).ownBlock = some w.heap.size) → K (a.put o.dst (.slice b (l ++ ns).length k)) w') :
    if Region.wanted o (yielded ops a.tmps) = true then Oper.wp Try.prog o a w K Q else E := by
  have hw : Region.wanted o (yielded ops a.tmps) = true := by simp [Region.wanted, hgd]
  rw [if_pos hw]
  subst hn
  obtain ⟨v', w', hrun, h2, h3, h4⟩ := run_appendQ (w := w) o.type v l hown ad c ns hr hl
  obtain ⟨b, k, rfl⟩ := h2.shape
  unfold Oper.wp execOp
  simp only [ho, resolve, invoke, builtin, Sem.run_bind, Sem.run_pure, Result.andThen_ok, List.map_toArray, List.map_cons, List.map_nil, hs, hx, hrun]
  exact h b k w' h2 h3 h4
end Go.Proofs.Ytgaghlofcokijaa
