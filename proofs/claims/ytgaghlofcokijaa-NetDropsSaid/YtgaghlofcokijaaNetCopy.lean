/- Packets copied within a sender, places of it cleared. -/
import Derived.Test.YtgaghlofcokijaaLinkEnds
import Derived.Test.YtgaghlofcokijaaNetMv
import Derived.Laws.CopyOwn
import Derived.Lib.SlBuf
namespace Go.Proofs.Ytgaghlofcokijaa
open Go.RowKit
set_option linter.unusedVariables false
set_option linter.unusedSimpArgs false

/-- A row's cells, as they stand. -/
theorem RowIn.news {α : Type} {K : RK α} (hK : K.Ok) {w : World} {x : Addr} {l : List α} (h : RowIn K w (some x) l) : ∀ j u, (rV K l)[j]? = some u → w.cell? (x.add j) = some u := by
  intro j u hj
  have hlt : j < (rV K l).length := (List.getElem?_eq_some_iff.1 hj).1
  rw [rV_len hK] at hlt
  have hp := hK.pos
  have hi : j / K.sz < l.length := (Nat.div_lt_iff_lt_mul hp).2 hlt
  have hm := Nat.mod_lt j hp
  have ej : j / K.sz * K.sz + j % K.sz = j := Nat.div_add_mod' j K.sz
  obtain ⟨b, off, e, _, hc⟩ := h (j / K.sz) hi
  cases e
  have hg := rV_get hK l (j / K.sz) hi (j % K.sz) hm
  rw [ej, hj] at hg
  have := hc (j % K.sz) u hg.symm
  rw [Nat.add_assoc, ej] at this
  rw [Addr.add_lit]
  exact this

theorem SnP.many {b : Nat} {N C : Int} : ∀ (l : List (Int × ByteArray)) (o : Nat) (w : World) (pc : Nat → Int) (pd : Nat → ByteArray), SnP w b N C pc pd → o + l.length ≤ 8 →
    ∃ pc' pd', SnP (w.setCells b (1 + o * 2) (rV KPk l)) b N C pc' pd' ∧ (∀ i, i < o → pc' i = pc i ∧ pd' i = pd i) ∧ (∀ i (h : i < l.length), pc' (o + i) = l[i].1 ∧ pd' (o + i) = l[i].2) ∧ MvS b w (w.setCells b (1 + o * 2) (rV KPk l))
  | [], o, w, pc, pd, h, ho => ⟨pc, pd, h, fun i hi => ⟨rfl, rfl⟩, fun i hi => absurd hi (by simp), MvS.refl _ _⟩
  | (x, d) :: l, o, w, pc, pd, h, ho => by
    have hk : o < 8 := by simp at ho; omega
    obtain ⟨pc', pd', h1, h2, h3, h4⟩ := SnP.many l (o + 1) _ _ _ (h.put hk x d) (by simp at ho; omega)
    have e : w.setCells b (1 + o * 2) (rV KPk ((x, d) :: l)) = ((w.setCell ⟨b, 1 + o * 2, none⟩ (.int .i64 x)).setCell ⟨b, 1 + o * 2 + 1, none⟩ (.string d)).setCells b (1 + (o + 1) * 2) (rV KPk l) := by
      rw [show 1 + (o + 1) * 2 = 1 + o * 2 + 1 + 1 by omega]
      rfl
    rw [e]
    refine ⟨pc', pd', h1, fun i hi => ?_, fun i hi => ?_, (((MvS.refl b w).set (o := 1 + o * 2) (by omega) _).set (o := 1 + o * 2 + 1) (by omega) _).trans h4⟩
    · have := h2 i (by omega)
      simp only [if_neg (show i ≠ o by omega)] at this
      exact this
    · cases i with
      | zero =>
        have := h2 o (by omega)
        simp only [if_pos] at this
        simpa using this
      | succ i =>
        have := h3 i (by simpa using hi)
        rw [show o + 1 + i = o + (i + 1) by omega] at this
        simpa using this

theorem step_builtin_run {P : Program} {ops : Array Oper} {o : Oper} {a : Act} {w : World} {K : Act → World → Prop} {Q : Exit → Act → World → Prop} {E : Prop} (hgd : o.guard = none) (d s : Operand) (t t' : TypeId)
    (ho : o.op = .call { callee := .builtin .copy, args := #[d, s], argTypes := #[t, t'] }) (v u : Value) (hd : a.eval d = v) (hs : a.eval s = u) {v' : Value} {w' : World}
    (hr : (Builtin.copy_ #[t, t'] o.type #[v, u]).run P w = .ok v' w') (h : K (a.put o.dst v') w') : if Region.wanted o (yielded ops a.tmps) = true then Oper.wp P o a w K Q else E := by
  rw [if_pos (by simp [Region.wanted, hgd])]
  exact Lib.wp_copy_run w d s t t' ho v u hd hs hr h
theorem step_clear_run {P : Program} {ops : Array Oper} {o : Oper} {a : Act} {w : World} {K : Act → World → Prop} {Q : Exit → Act → World → Prop} {E : Prop} (hgd : o.guard = none) (s : Operand) (t : TypeId)
    (ho : o.op = .call { callee := .builtin .clear, args := #[s], argTypes := #[t] }) (u : Value) (hs : a.eval s = u) {v' : Value} {w' : World}
    (hr : (Builtin.clear_ #[t] o.type #[u]).run P w = .ok v' w') (h : K (a.put o.dst v') w') : if Region.wanted o (yielded ops a.tmps) = true then Oper.wp P o a w K Q else E := by
  rw [if_pos (by simp [Region.wanted, hgd])]
  unfold Oper.wp execOp
  simp only [ho, resolve, invoke, builtin, Sem.run_bind, Sem.run_pure, Result.andThen_ok, List.map_toArray, List.map_cons, List.map_nil, hs, hr]
  exact h

/-- The packets from the k-th on, copied to the first place. -/
theorem copy_pk {w : World} {b ans k : Nat} {N C : Int} {op : List ByteArray} {pc : Nat → Int} {pd : Nat → ByteArray} (h : SnP w b N C pc pd) (h8 : op.length ≤ 8) (hh : ∀ i (h : i < op.length), pc i = ((ans + i : Nat) : Int) ∧ pd i = op[i]) (hk : k ≤ op.length) :
    ∃ w4, (∀ ty a sc, (k < op.length → a = ⟨b, 1 + k * 2, none⟩) → (Builtin.copy_ #[37, 37] ty #[.slice (some ⟨b, 1, none⟩) 8 8, .slice (some a) (op.length - k) sc]).run Try.prog w = .ok (.int .i64 ((op.length - k : Nat) : Int)) w4) ∧
      (∃ pc' pd', SnP w4 b N C pc' pd' ∧ ∀ i (h : i < op.length - k), pc' i = ((ans + k + i : Nat) : Int) ∧ pd' i = op[k + i]) ∧ MvS b w w4 := by
  obtain ⟨i0, hi, hz0, hz1, hz2⟩ := info_parts kpk_ok.inf
  have hlen : (Lk.pk (ans + k) (op.drop k)).length = op.length - k := by rw [Lk.pk_len, List.length_drop]
  obtain ⟨pc', pd', h1, _, h3, h4⟩ := SnP.many (Lk.pk (ans + k) (op.drop k)) 0 w pc pd h (by rw [hlen]; omega)
  refine ⟨_, fun ty a sc ha => ?_, ⟨pc', pd', h1, fun i hi => ?_⟩, h4⟩
  · have hrow : k < op.length → RowIn KPk w (some ⟨b, 1 + k * 2, none⟩) (Lk.pk (ans + k) (op.drop k)) := fun hk i hi => by
      rw [hlen] at hi
      obtain ⟨e0, e1⟩ := hh (k + i) (by omega)
      refine ⟨b, 1 + k * 2, rfl, h.lt, fun j u hu => ?_⟩
      have hj : j < 2 := (List.getElem?_eq_some_iff.1 hu).1
      rw [Lk.pk_get] at hu
      have x0 := h.ci (k + i) (by omega)
      have x1 := h.cd (k + i) (by omega)
      rw [e0] at x0
      rw [e1] at x1
      rcases (show j = 0 ∨ j = 1 by omega) with rfl | rfl
      · simp only [KPk, List.getElem?_cons_zero, Option.some.injEq] at hu
        subst hu
        rw [show 1 + k * 2 + i * KPk.sz + 0 = 1 + (k + i) * 2 by show 1 + k * 2 + i * 2 + 0 = _; omega, show ans + k + i = ans + (k + i) by omega]
        exact x0
      · simp only [KPk, List.getElem?_cons_succ, List.getElem?_cons_zero, Option.some.injEq, List.getElem_drop] at hu
        subst hu
        rw [show 1 + k * 2 + i * KPk.sz + 1 = 1 + (k + i) * 2 + 1 by show 1 + k * 2 + i * 2 + 1 = _; omega]
        exact x1
    have hl : (loadCells a ((op.length - k) * 2)).run Try.prog w = .ok (rV KPk (Lk.pk (ans + k) (op.drop k))).toArray w := by
      have := run_loadCells_list (P := Try.prog) w a (rV KPk (Lk.pk (ans + k) (op.drop k))) (fun j v hj => by
        by_cases hk2 : k < op.length
        · rw [ha hk2]
          exact (hrow hk2).news kpk_ok j v hj
        · have hlt := (List.getElem?_eq_some_iff.1 hj).1
          rw [rV_len kpk_ok, hlen] at hlt
          exact absurd hlt (by rw [show op.length - k = 0 by omega]; simp))
      rw [rV_len kpk_ok, hlen] at this
      exact this
    have hst := run_storeCells_cells (P := Try.prog) b 1 (rV KPk (Lk.pk (ans + k) (op.drop k))) 0 w (fun j hj => by
        rw [rV_len kpk_ok, hlen] at hj
        have hj' : j < (op.length - k) * 2 := hj
        rcases (show j % 2 = 0 ∨ j % 2 = 1 by omega) with e | e
        · rw [show 1 + 0 + j = 1 + (j / 2) * 2 by omega, h.ci (j / 2) (by omega)]; rfl
        · rw [show 1 + 0 + j = 1 + (j / 2) * 2 + 1 by omega, h.cd (j / 2) (by omega)]; rfl) (fun j _ => h.f _) (fun v hv => by
        unfold rV at hv
        obtain ⟨x, _, hx⟩ := List.mem_flatMap.1 hv
        exact kpk_ok.one x v hx)
    have hs : i0.size = 2 := hz1
    have hi' : Try.prog.info? 53 = some i0 := hi
    have hm : Nat.min (op.length - k) 8 = op.length - k := Nat.min_eq_left (by omega)
    simp [Builtin.copy_, run_underlying Try.underlying37, Builtin.lenOf, Builtin.firstCells, sizeOf, typeInfo, hi', hs, hl, hst, hm, goInt]
  · obtain ⟨e0, e1⟩ := h3 i (by rw [hlen]; exact hi)
    rw [Lk.pk_get] at e0 e1
    rw [Nat.zero_add] at e0 e1
    exact ⟨e0, by rw [e1]; simp⟩

theorem zero_pk (n : Nat) (h : n ≤ 8) : (Builtin.zeroCells #[.int .i64 0, .string ⟨#[]⟩] n).toList = rV KPk (List.replicate n ((0 : Int), (⟨#[]⟩ : ByteArray))) := by
  have : n = 0 ∨ n = 1 ∨ n = 2 ∨ n = 3 ∨ n = 4 ∨ n = 5 ∨ n = 6 ∨ n = 7 ∨ n = 8 := by omega
  rcases this with rfl | rfl | rfl | rfl | rfl | rfl | rfl | rfl | rfl <;> simp [Builtin.zeroCells, rV, KPk, Array.range, List.replicate]
/-- The places from the m-th on cleared. -/
theorem clear_pk {w : World} {b m : Nat} {N C : Int} {pc : Nat → Int} {pd : Nat → ByteArray} (h : SnP w b N C pc pd) (hm : m ≤ 8) :
    ∃ w5, (∀ ty a sc, (m < 8 → a = ⟨b, 1 + m * 2, none⟩) → (Builtin.clear_ #[37] ty #[.slice (some a) (8 - m) sc]).run Try.prog w = .ok (.tuple #[]) w5) ∧
      (∃ pc' pd', SnP w5 b N C pc' pd' ∧ ∀ i, i < m → pc' i = pc i ∧ pd' i = pd i) ∧ MvS b w w5 := by
  obtain ⟨pc', pd', h1, h2, _, h4⟩ := SnP.many (List.replicate (8 - m) ((0 : Int), (⟨#[]⟩ : ByteArray))) m w pc pd h (by rw [List.length_replicate]; omega)
  refine ⟨_, fun ty a sc ha => ?_, ⟨pc', pd', h1, h2⟩, h4⟩
  have hlen : (rV KPk (List.replicate (8 - m) ((0 : Int), (⟨#[]⟩ : ByteArray)))).length = (8 - m) * 2 := by rw [rV_len kpk_ok, List.length_replicate]; rfl
  have hv : ∀ w, (zeroValue 53).run Try.prog w = .ok (.agg #[.int .i64 0, .string ⟨#[]⟩]) w := Try.zeroValue53
  by_cases h8 : m = 8
  · subst h8
    simp [Builtin.clear_, run_underlying Try.underlying37]
    rfl
  · rw [ha (by omega)]
    have hst := run_storeCells_cells (P := Try.prog) b (1 + m * 2) (rV KPk (List.replicate (8 - m) ((0 : Int), (⟨#[]⟩ : ByteArray)))) 0 w (fun j hj => by
        rw [hlen] at hj
        rcases (show j % 2 = 0 ∨ j % 2 = 1 by omega) with e | e
        · rw [show 1 + m * 2 + 0 + j = 1 + (m + j / 2) * 2 by omega, h.ci (m + j / 2) (by omega)]; rfl
        · rw [show 1 + m * 2 + 0 + j = 1 + (m + j / 2) * 2 + 1 by omega, h.cd (m + j / 2) (by omega)]; rfl) (fun j _ => h.f _) (fun v hv => by
        unfold rV at hv
        obtain ⟨x, _, hx⟩ := List.mem_flatMap.1 hv
        exact kpk_ok.one x v hx)
    rw [Nat.add_zero] at hst
    have hz := zero_pk (8 - m) (by omega)
    obtain ⟨r, hr⟩ : ∃ r, 8 - m = r + 1 := ⟨7 - m, by omega⟩
    rw [hr] at hz hst ⊢
    simp [Builtin.clear_, run_underlying Try.underlying37, hv, Value.cells, hz, hst]
end Go.Proofs.Ytgaghlofcokijaa
