/- Texts of this proof, one behind the other: Gen, ChRow, QuFull. -/
import Derived.Test.YtfmedinhlmiaeaaGQ10
/- Rows of elements of whatever kind that a call makes: read, appended to. -/
namespace Go.Proofs.Ytfmedinhlmiaeaa
open Go.RowKit
set_option linter.unusedVariables false

/-- A kind of row: the numbers of the element's type and of the slice's, cells and bytes of an element, its zero value, how an element lies. -/
structure RK (α : Type) where
  T : TypeId
  S : TypeId
  sz : Nat
  bt : Nat
  z : Value
  enc : α → List Value
structure RK.Ok {α : Type} (K : RK α) : Prop where
  len : ∀ x, (K.enc x).length = K.sz
  pos : 0 < K.sz
  one : ∀ x, ∀ u ∈ K.enc x, u.oneCell' = true
  und : Try.prog.underlying K.S = some (.slice K.T)
  inf : (Try.prog.info? K.T).map (fun i => (i.zero, i.size, i.bytes)) = some (some K.z, K.sz, K.bt)
  zc : K.z.cells.size = K.sz
  bb : K.bt ≤ 1000
section
variable {α : Type} {K : RK α}
def rV (K : RK α) (l : List α) : List Value := l.flatMap K.enc
theorem rV_nil : rV K [] = [] := rfl
theorem rV_snoc (l : List α) (x : α) : rV K (l ++ [x]) = rV K l ++ K.enc x := by simp [rV]
theorem rV_len (hK : K.Ok) (l : List α) : (rV K l).length = l.length * K.sz := by
  unfold rV
  induction l with
  | nil => simp
  | cons x l ih => rw [List.flatMap_cons, List.length_append, ih, hK.len, List.length_cons, Nat.succ_mul, Nat.add_comm]
theorem rV_get (hK : K.Ok) (l : List α) : ∀ (i : Nat) (h : i < l.length) (j : Nat), j < K.sz → (rV K l)[i * K.sz + j]? = (K.enc l[i])[j]? := by
  induction l with
  | nil => intro i h; simp at h
  | cons x l ih =>
    intro i h j hj
    have e : rV K (x :: l) = K.enc x ++ rV K l := by simp [rV]
    rw [e]
    cases i with
    | zero =>
      rw [List.getElem?_append_left (by rw [hK.len]; omega)]
      simp
    | succ i =>
      have e1 : (i + 1) * K.sz + j = K.sz + (i * K.sz + j) := by rw [Nat.succ_mul]; omega
      rw [List.getElem?_append_right (by rw [hK.len, e1]; omega), hK.len, e1, Nat.add_sub_cancel_left]
      exact ih i (by simpa using h) j hj
/-- A row of the call's own. -/
abbrev OwnR (K : RK α) (w : World) (base : Nat) (v : Value) (l : List α) : Prop := w.ownsRow base K.T K.sz v l.length (rV K l)
theorem OwnR.nil (K : RK α) (w : World) (base : Nat) : OwnR K w base (.slice none 0 0) [] := ⟨by simp [rV], .inl ⟨rfl, rfl⟩⟩
theorem OwnR.block {w w' : World} {base : Nat} {v : Value} {l : List α} (h : OwnR K w base v l) (hb : ∀ g, v.ownBlock = some g → w'.heap[g]? = w.heap[g]?) : OwnR K w' base v l := by
  refine ⟨h.1, ?_⟩
  rcases h.2 with h0 | ⟨g, cap, cur, rfl, hbg, hg, r⟩
  · exact .inl h0
  · exact .inr ⟨g, cap, cur, rfl, hbg, (hb g rfl).trans hg, r⟩
theorem OwnR.below {w w' : World} {base : Nat} {v : Value} {l : List α} (h : OwnR K w base v l) (hb : Below w.heap.size w w') : OwnR K w' base v l :=
  h.block (fun g e => hb.5 g (h.lt g e).2)
theorem OwnR.mono {w : World} {base base' : Nat} {v : Value} {l : List α} (h : OwnR K w base v l) (hb : base' ≤ base) : OwnR K w base' v l := by
  refine ⟨h.1, ?_⟩
  rcases h.2 with h0 | ⟨g, cap, cur, rfl, hbg, r⟩
  · exact .inl h0
  · exact .inr ⟨g, cap, cur, rfl, by omega, r⟩
theorem OwnR.shape {w : World} {base : Nat} {v : Value} {l : List α} (h : OwnR K w base v l) : ∃ a c, v = .slice a l.length c := by
  rcases h.2 with ⟨rfl, h0⟩ | ⟨g, cap, cur, rfl, _⟩
  · exact ⟨none, 0, by rw [h0]⟩
  · exact ⟨_, _, rfl⟩
theorem OwnR.len {w : World} {base : Nat} {a : Option Addr} {n c : Nat} {l : List α} (h : OwnR K w base (.slice a n c) l) : n = l.length := by
  obtain ⟨_, _, e⟩ := h.shape
  cases e
  rfl
theorem OwnR.lt' {w : World} {base : Nat} {v : Value} {l : List α} (h : OwnR K w base v l) {k : Nat} (hk : w.heap.size ≤ k) : v.ownBlock ≠ some k := fun e => by have := (h.lt k e).2; omega
theorem OwnR.lo {w : World} {base : Nat} {v : Value} {l : List α} (h : OwnR K w base v l) {k : Nat} (hk : k < base) : v.ownBlock ≠ some k := fun e => by have := (h.lt k e).1; omega
/-- What is read of it. -/
theorem OwnR.cell (hK : K.Ok) {w : World} {base : Nat} {v : Value} {l : List α} (h : OwnR K w base v l) (i : Nat) (hi : i < l.length) :
    ∃ g cap, v = .slice (some ⟨g, 0, none⟩) l.length cap ∧ l.length ≤ cap ∧ cap ≤ maxLen ∧ base ≤ g ∧ g < w.heap.size ∧ ∀ j u, (K.enc l[i])[j]? = some u → w.cell? ⟨g, 0 + i * K.sz + j, none⟩ = some u := by
  rcases h.2 with ⟨rfl, h0⟩ | ⟨g, cap, cur, rfl, hb, hg, hn, hm, hs, ht⟩
  · omega
  · refine ⟨g, cap, rfl, hn, hm, hb, (Array.getElem?_eq_some_iff.1 hg).1, fun j u hu => ?_⟩
    have hj : j < K.sz := by rw [← hK.len l[i]]; exact (List.getElem?_eq_some_iff.1 hu).1
    have hk := rV_get hK l i hi j hj
    rw [hu, ← ht, List.getElem?_take, if_pos (by
      have h1 : (i + 1) * K.sz ≤ l.length * K.sz := Nat.mul_le_mul_right _ hi
      rw [Nat.succ_mul] at h1
      omega), Array.getElem?_toList] at hk
    rw [Nat.zero_add]
    simp [World.cell?, hg, hk]
theorem OwnR.caps {w : World} {base : Nat} {a : Option Addr} {n cap : Nat} {l : List α} (h : OwnR K w base (.slice a n cap) l) : n ≤ cap ∧ cap ≤ maxLen ∧ (a = none → cap = 0) := by
  rcases h.2 with ⟨e, h0⟩ | ⟨g, cap', cur, e, hb, hg, hn, hm, hs, ht⟩
  · cases e
    exact ⟨by omega, by unfold maxLen; omega, fun _ => rfl⟩
  · cases e
    exact ⟨hn, hm, by simp⟩
/-- One element appended. -/
theorem wp_pushR (hK : K.Ok) {ops : Array Oper} {rest : List Oper} {o : Oper} {a : Act} {Q : Exit → Act → World → Prop} {wr : World} (hgd : o.guard = none) (s x : Operand)
    (hop : o.op = .call { callee := .builtin .append, args := #[s, x], argTypes := #[K.S, K.S] })
    (base : Nat) (v : Value) (l : List α) (y : α) (cs : Array Value) (hcs : cs.toList = K.enc y) (hs : a.eval s = v) (hown : OwnR K wr base v l) (hx : a.eval x = .slice (some ⟨wr.heap.size, 0, none⟩) 1 1) (hl : l.length ≤ 1000000) (hbs : base ≤ wr.heap.size)
    (h : ∀ g cap w', OwnR K w' base (.slice (some ⟨g, 0, none⟩) (l.length + 1) cap) (l ++ [y]) → Below base wr w' → KeptD v wr w' → (v.ownBlock = some g ∨ wr.heap.size ≤ g) → g < w'.heap.size → wpList Try.prog ops Q rest (a.put o.dst (.slice (some ⟨g, 0, none⟩) (l.length + 1) cap)) w') :
    wpList Try.prog ops Q (o :: rest) a (wr.alloc (.cells cs K.T)) := by
  obtain ⟨i0, hi, hz0, hz1, hz2⟩ := info_parts hK.inf
  have hbb := hK.bb
  refine wpList_append_lies _ hgd s x K.S hop base K.T i0 _ K.sz K.bt hK.und hi hz0 hz1 hz2 hK.zc hK.pos v l.length (rV K l) hs (hown.alloc _) ⟨wr.heap.size, 0, none⟩ 1 1 (K.enc y) hx (by rw [hK.len, Nat.one_mul])
    (fun j u hu => World.news_of_block (cs := cs) (t := K.T) (fr := (0, 0)) (heap_alloc_new wr _) j u (by rw [hcs]; exact hu)) (hK.one y) (by omega) (by unfold maxLen; omega) (Nat.le_trans (Nat.mul_le_mul (show l.length + 1 ≤ 1000001 by omega) hbb) (by decide)) (by simp; omega) (wr.heap.size + 1) (by simp) ?_
  intro g cap w' ho hg hat hlt
  refine h g cap w' (by unfold OwnR; rw [rV_snoc]; simpa using ho) (((Below.refl base wr).alloc hbs _).grown hg (by simp; omega) (fun k hk => (hown.lt k hk).1)) (fun j hj hne => ?_) (by rcases hat with h1 | h1; exact .inl h1; exact .inr (by omega)) hlt
  rw [hg.block j (by simp; omega) (fun e => hne e.symm)]
  exact Below.heap_alloc _ _ _ hj
/-- The same, as the run of the operation. -/
theorem run_pushR (hK : K.Ok) {wr : World} (ty : TypeId) (base : Nat) (v : Value) (l : List α) (y : α) (cs : Array Value) (hcs : cs.toList = K.enc y) (hown : OwnR K wr base v l) (hl : l.length ≤ 1000000) (hbs : base ≤ wr.heap.size) :
    ∃ g cap w', (Builtin.append_ #[K.S, K.S] ty #[v, .slice (some ⟨wr.heap.size, 0, none⟩) 1 1]).run Try.prog (wr.alloc (.cells cs K.T)) = .ok (.slice (some ⟨g, 0, none⟩) (l.length + 1) cap) w' ∧ OwnR K w' base (.slice (some ⟨g, 0, none⟩) (l.length + 1) cap) (l ++ [y]) ∧ Below base wr w' ∧ KeptD v wr w' ∧ (v.ownBlock = some g ∨ wr.heap.size ≤ g) ∧ g < w'.heap.size := by
  obtain ⟨i0, hi, hz0, hz1, hz2⟩ := info_parts hK.inf
  have hbb := hK.bb
  obtain ⟨g, cap, w', hrun, ho, hg, hat, hlt⟩ := run_append_lies (wr.alloc (.cells cs K.T)) K.S ty base K.T i0 _ K.sz K.bt hK.und hi hz0 hz1 hz2 hK.zc hK.pos v l.length (rV K l) (hown.alloc _) ⟨wr.heap.size, 0, none⟩ 1 1 (K.enc y) (by rw [hK.len, Nat.one_mul])
    (fun j u hu => World.news_of_block (cs := cs) (t := K.T) (fr := (0, 0)) (heap_alloc_new wr _) j u (by rw [hcs]; exact hu)) (hK.one y) (by omega) (by unfold maxLen; omega) (Nat.le_trans (Nat.mul_le_mul (show l.length + 1 ≤ 1000001 by omega) hbb) (by decide)) (by simp; omega) (wr.heap.size + 1) (by simp)
  refine ⟨g, cap, w', hrun, by unfold OwnR; rw [rV_snoc]; simpa using ho, ((Below.refl base wr).alloc hbs _).grown hg (by simp; omega) (fun k hk => (hown.lt k hk).1), fun j hj hne => ?_, by rcases hat with h1 | h1; exact .inl h1; exact .inr (by omega), hlt⟩
  rw [hg.block j (by simp; omega) (fun e => hne e.symm)]
  exact Below.heap_alloc _ _ _ hj
end

/-- A row of elements read in memory. -/
def RowIn {α : Type} (K : RK α) (w : World) (a : Option Addr) (l : List α) : Prop :=
  ∀ i (h : i < l.length), ∃ b off, a = some ⟨b, off, none⟩ ∧ b < w.heap.size ∧ ∀ j u, (K.enc l[i])[j]? = some u → w.cell? ⟨b, off + i * K.sz + j, none⟩ = some u
theorem RowIn.below {α : Type} {K : RK α} {w w' : World} {a : Option Addr} {l : List α} (h : RowIn K w a l) (hb : Below w.heap.size w w') : RowIn K w' a l := by
  intro i hi
  obtain ⟨b, off, rfl, hlt, hc⟩ := h i hi
  exact ⟨b, off, rfl, by have := hb.size; omega, fun j u hu => kcell hb hlt (hc j u hu)⟩
theorem RowIn.of_own {α : Type} {K : RK α} (hK : K.Ok) {w : World} {base : Nat} {a : Option Addr} {n c : Nat} {l : List α} (h : OwnR K w base (.slice a n c) l) : RowIn K w a l := by
  intro i hi
  obtain ⟨g, cap, e, _, _, _, hlt, hc⟩ := h.cell hK i hi
  cases e
  exact ⟨g, 0, rfl, hlt, hc⟩
/-- A slice that reads as these elements. -/
def RowAt {α : Type} (K : RK α) (w : World) (v : Value) (l : List α) : Prop := ∃ a cap, v = .slice a l.length cap ∧ l.length ≤ cap ∧ cap ≤ maxLen ∧ (a = none → cap = 0) ∧ RowIn K w a l
theorem RowAt.below {α : Type} {K : RK α} {w w' : World} {v : Value} {l : List α} (h : RowAt K w v l) (hb : Below w.heap.size w w') : RowAt K w' v l := by
  obtain ⟨a, cap, rfl, h1, h2, h3, hr⟩ := h
  exact ⟨a, cap, rfl, h1, h2, h3, hr.below hb⟩
theorem RowAt.of_own {α : Type} {K : RK α} (hK : K.Ok) {w : World} {base : Nat} {v : Value} {l : List α} (h : OwnR K w base v l) : RowAt K w v l := by
  obtain ⟨a, c, rfl⟩ := h.shape
  obtain ⟨h1, h2, h3⟩ := h.caps
  exact ⟨a, c, rfl, h1, h2, h3, RowIn.of_own hK h⟩
end Go.Proofs.Ytfmedinhlmiaeaa
/- Rows of versions in memory, each with the slice that is its past. -/
namespace Go.Proofs.Ytfmedinhlmiaeaa
open Go.RowKit
set_option linter.unusedVariables false
set_option linter.unusedSimpArgs false

/-- A version, and where its past lies. -/
abbrev Vw := Wv × (Option Addr × Nat)
def pw (x : Vw) : Value := .slice x.2.1 x.1.past.length x.2.2
def vw0 : Vw := (wz, none, 0)
abbrev wcs (x : Vw) : Array Value := wvs x.1 (pw x)
abbrev wV (x : Vw) : Value := .agg (wcs x)
theorem pw_vw0 : pw vw0 = .slice none 0 0 := rfl
def wL (x : Vw) : List Value := [.string x.1.key, .string x.1.val, .bool x.1.gone, .int .i64 x.1.st.1, .int .i64 x.1.st.2, pw x]
def KW : RK Vw where
  T := 27
  S := 31
  sz := 6
  bt := 80
  z := .agg #[.string ⟨#[]⟩, .string ⟨#[]⟩, .bool false, .int .i64 0, .int .i64 0, .slice none 0 0]
  enc := wL
theorem kw_ok : KW.Ok where
  len _ := rfl
  pos := by decide
  one x u hu := by
    simp [KW, wL] at hu
    rcases hu with rfl | rfl | rfl | rfl | rfl | rfl <;> rfl
  und := Try.underlying31
  inf := by kernel_rfl
  zc := rfl
  bb := by decide
/-- A version at a place in memory. -/
structure VwQ (w : World) (b o : Nat) (x : Vw) : Prop where
  c0 : w.cell? ⟨b, o, none⟩ = some (.string x.1.key)
  c1 : w.cell? ⟨b, o + 1, none⟩ = some (.string x.1.val)
  c2 : w.cell? ⟨b, o + 2, none⟩ = some (.bool x.1.gone)
  c3 : w.cell? ⟨b, o + 3, none⟩ = some (.int .i64 x.1.st.1)
  c4 : w.cell? ⟨b, o + 4, none⟩ = some (.int .i64 x.1.st.2)
  c5 : w.cell? ⟨b, o + 5, none⟩ = some (pw x)
theorem VwQ.of_row {w : World} {b o : Nat} {x : Vw} (h : ∀ j u, (KW.enc x)[j]? = some u → w.cell? ⟨b, o + j, none⟩ = some u) : VwQ w b o x :=
  ⟨h 0 _ rfl, h 1 _ rfl, h 2 _ rfl, h 3 _ rfl, h 4 _ rfl, h 5 _ rfl⟩
theorem VwQ.keep {w w' : World} {b o : Nat} {x : Vw} (h : VwQ w b o x) (hb : Below w.heap.size w w') : VwQ w' b o x :=
  ⟨kc hb h.c0, kc hb h.c1, kc hb h.c2, kc hb h.c3, kc hb h.c4, kc hb h.c5⟩
theorem VwQ.block {w w' : World} {b o : Nat} {x : Vw} (h : VwQ w b o x) (hb : w'.heap[b]? = w.heap[b]?) : VwQ w' b o x := by
  refine ⟨?_, ?_, ?_, ?_, ?_, ?_⟩ <;> rw [World.cell?_of_block hb]
  · exact h.c0
  · exact h.c1
  · exact h.c2
  · exact h.c3
  · exact h.c4
  · exact h.c5
theorem VwP.q {w : World} {b : Nat} {x : Vw} (h : VwP w b x.1 (pw x)) : VwQ w b 0 x := ⟨h.c0, h.c1, h.c2, h.c3, h.c4, h.c5⟩
/-- What is asked of a version. -/
def VwB (w : World) (x : Vw) : Prop := WvB w x.1 (pw x) ∧ In64 x.1.st
theorem VwB.below {w w' : World} {x : Vw} (h : VwB w x) (hb : Below w.heap.size w w') : VwB w' x := ⟨h.1.below hb, h.2⟩
/-- A slice that reads as these versions; their pasts read as they are. -/
def WRow (w : World) (v : Value) (xs : List Vw) : Prop := RowAt KW w v xs ∧ ∀ x ∈ xs, VwB w x
theorem WRow.below {w w' : World} {v : Value} {xs : List Vw} (h : WRow w v xs) (hb : Below w.heap.size w w') : WRow w' v xs := ⟨h.1.below hb, fun x hx => (h.2 x hx).below hb⟩
theorem WRow.drew {w : World} {v : Value} {xs : List Vw} (h : WRow w v xs) : WRow w.drew v xs := h.below ((Below.refl _ w).drew)
theorem WRow.nil (w : World) : WRow w (.slice none 0 0) [] := ⟨⟨none, 0, rfl, by simp, by simp, by simp, fun i h => absurd h (by simp)⟩, by simp⟩
theorem WRow.shape {w : World} {v : Value} {xs : List Vw} (h : WRow w v xs) : ∃ a c, v = .slice a xs.length c ∧ xs.length ≤ c ∧ c ≤ maxLen ∧ (a = none → c = 0) := by
  obtain ⟨⟨a, c, rfl, h1, h2, h3, _⟩, _⟩ := h
  exact ⟨a, c, rfl, h1, h2, h3⟩
theorem WRow.at {w : World} {a : Option Addr} {n c : Nat} {xs : List Vw} (h : WRow w (.slice a n c) xs) (i : Nat) (hi : i < xs.length) : ∃ b off, a = some ⟨b, off, none⟩ ∧ b < w.heap.size ∧ VwQ w b (off + i * 6) xs[i] ∧ VwB w xs[i] := by
  obtain ⟨⟨a', c', e, _, _, _, hr⟩, hp⟩ := h
  cases e
  obtain ⟨b, off, rfl, hlt, hc⟩ := hr i hi
  exact ⟨b, off, rfl, hlt, VwQ.of_row hc, hp _ (List.getElem_mem hi)⟩
theorem WRow.of_own {w : World} {base : Nat} {v : Value} {xs : List Vw} (h : OwnR KW w base v xs) (hp : ∀ x ∈ xs, VwB w x) : WRow w v xs := ⟨RowAt.of_own kw_ok h, hp⟩
theorem WRow.rin {w : World} {a : Option Addr} {n c : Nat} {xs : List Vw} (h : WRow w (.slice a n c) xs) : RowIn KW w a xs := by
  obtain ⟨⟨a', c', e, _, _, _, hr⟩, hp⟩ := h
  cases e
  exact hr
theorem RowIn.takeR {α : Type} {K : RK α} {w : World} {a : Option Addr} {l : List α} (h : RowIn K w a l) (k : Nat) : RowIn K w a (l.take k) := by
  intro i hi
  have hi' : i < l.length := by simp at hi; omega
  obtain ⟨b, off, e, hlt, hc⟩ := h i hi'
  exact ⟨b, off, e, hlt, by simpa using hc⟩
theorem RowIn.dropR {α : Type} {K : RK α} {w : World} {b off : Nat} {l : List α} (h : RowIn K w (some ⟨b, off, none⟩) l) (k : Nat) : RowIn K w (some ⟨b, off + k * K.sz, none⟩) (l.drop k) := by
  intro i hi
  have hi' : k + i < l.length := by simp at hi; omega
  obtain ⟨b', off', e, hlt, hc⟩ := h (k + i) hi'
  cases e
  rw [show off + (k + i) * K.sz = off + k * K.sz + i * K.sz by rw [Nat.add_mul]; omega] at hc
  exact ⟨b, off + k * K.sz, rfl, hlt, by simpa using hc⟩
/-- The first ones of a row. -/
theorem WRow.take {w : World} {a : Option Addr} {n c : Nat} {xs : List Vw} (h : WRow w (.slice a n c) xs) (k : Nat) (hk : k ≤ xs.length) : WRow w (.slice a k c) (xs.take k) := by
  obtain ⟨⟨a', c', e, h1, h2, h3, hr⟩, hp⟩ := h
  cases e
  refine ⟨⟨a, c, by rw [List.length_take, Nat.min_eq_left hk], by rw [List.length_take]; omega, h2, h3, hr.takeR k⟩, fun x hx => hp x (List.mem_of_mem_take hx)⟩
/-- A row that lies ahead of what a call makes is as it was. -/
theorem WRow.low {w : World} {a : Option Addr} {n c : Nat} {xs : List Vw} (h : WRow w (.slice a n c) xs) (h0 : 0 < xs.length) : ∃ b off, a = some ⟨b, off, none⟩ ∧ b < w.heap.size := by
  obtain ⟨b, off, e, hlt, _⟩ := h.at 0 h0
  exact ⟨b, off, e, hlt⟩
/-- All that is read of a row of any kind. -/
theorem RowIn.newsR {α : Type} {K : RK α} (hK : K.Ok) {w : World} {x : Addr} {l : List α} (h : RowIn K w (some x) l) : ∀ j u, (rV K l)[j]? = some u → w.cell? (x.add j) = some u := by
  intro j u hj
  have hlt : j < (rV K l).length := (List.getElem?_eq_some_iff.1 hj).1
  rw [rV_len hK] at hlt
  have hpos := hK.pos
  have hd : j / K.sz < l.length := Nat.div_lt_of_lt_mul (by rw [Nat.mul_comm]; exact hlt)
  have hm : j % K.sz < K.sz := Nat.mod_lt _ hpos
  obtain ⟨b, off, e, _, hc⟩ := h (j / K.sz) hd
  cases e
  have hg := rV_get hK l (j / K.sz) hd (j % K.sz) hm
  have ej : j / K.sz * K.sz + j % K.sz = j := by rw [Nat.mul_comm]; exact Nat.div_add_mod j K.sz
  rw [ej, hj] at hg
  have := hc (j % K.sz) u hg.symm
  rw [Addr.add_lit]
  rw [Nat.add_assoc, ej] at this
  exact this
theorem rV_oneR {α : Type} {K : RK α} (hK : K.Ok) (l : List α) : ∀ u ∈ rV K l, u.oneCell' = true := by
  intro u hu
  simp only [rV, List.mem_flatMap] at hu
  obtain ⟨p, _, hp⟩ := hu
  exact hK.one p u hp
theorem rV_appR {α : Type} (K : RK α) (l m : List α) : rV K (l ++ m) = rV K l ++ rV K m := by simp [rV]
/-- A row appended to a row of one's own. -/
theorem wp_appR {α : Type} {K : RK α} (hK : K.Ok) {ops : Array Oper} {rest : List Oper} {o : Oper} {a : Act} {Q : Exit → Act → World → Prop} {w : World} (hgd : o.guard = none) (s x : Operand)
    (hop : o.op = .call { callee := .builtin .append, args := #[s, x], argTypes := #[K.S, K.S] })
    (base : Nat) (v u : Value) (l m : List α) (hs : a.eval s = v) (hown : OwnR K w base v l) (hx : a.eval x = u) (hu : RowAt K w u m) (hl : l.length + m.length ≤ 1000000) (hbs : base ≤ w.heap.size)
    (h : ∀ v' w', OwnR K w' base v' (l ++ m) → Below base w w' → KeptD v w w' → wpList Try.prog ops Q rest (a.put o.dst v') w') :
    wpList Try.prog ops Q (o :: rest) a w := by
  obtain ⟨i0, hi, hz0, hz1, hz2⟩ := info_parts hK.inf
  obtain ⟨b, cap, rfl, hcap, hmx, hnil, hr⟩ := hu
  have hbb := hK.bb
  cases b with
  | some b =>
    refine wpList_append_own _ hgd s x K.S hop base K.T i0 _ K.sz K.bt hK.und hi hz0 hz1 hz2 hK.zc hK.pos v l.length (rV K l) hs hown b m.length cap (rV K m) hx (rV_len hK m) (hr.newsR hK) (rV_oneR hK m) (by unfold maxLen; omega) (Nat.le_trans (Nat.mul_le_mul hl hbb) (by decide)) hbs ?_
    intro v' w' ho hg hn
    exact h v' w' (by unfold OwnR; rw [rV_appR, List.length_append]; exact ho) ((Below.refl base w).grown hg hbs (fun k hk => (hown.lt k hk).1)) (fun j hj hne => hg.block j hj (fun e => hne e.symm))
  | none =>
    have hc0 := hnil rfl
    obtain rfl : m = [] := List.length_eq_zero_iff.1 (by omega)
    subst hc0
    refine wpList_append_own_none hgd s x K.S hop base K.T i0 K.sz hK.und hi v l.length (rV K l) hs hown hx ?_
    exact h v w (by rw [List.append_nil]; exact hown) (Below.refl _ _) (fun _ _ _ => rfl)
end Go.Proofs.Ytfmedinhlmiaeaa
/- A row that cannot grow in place, with one more element behind it: all lies in new memory. -/
namespace Go.Proofs.Ytfmedinhlmiaeaa
open Go.RowKit
set_option linter.unusedVariables false
set_option linter.unusedSimpArgs false

set_option maxRecDepth 100000 in
theorem run_full {α : Type} {K : RK α} (hK : K.Ok) {wr : World} (ty : TypeId) (a : Option Addr) (l : List α) (y : α) (cs : Array Value) (hcs : cs.toList = K.enc y) (hr : RowIn K wr a l) (hn : a = none → l = []) (hl : l.length ≤ 100000) :
    ∃ g cap w', (Builtin.append_ #[K.S, K.S] ty #[.slice a l.length l.length, .slice (some ⟨wr.heap.size, 0, none⟩) 1 1]).run Try.prog (wr.alloc (.cells cs K.T)) = .ok (.slice (some ⟨g, 0, none⟩) (l.length + 1) cap) w' ∧ OwnR K w' wr.heap.size (.slice (some ⟨g, 0, none⟩) (l.length + 1) cap) (l ++ [y]) ∧ Below wr.heap.size wr w' := by
  obtain ⟨i0, hi, hz0, hz1, hz2⟩ := info_parts hK.inf
  have hbb := hK.bb
  have hb0 : Below wr.heap.size wr (wr.alloc (.cells cs K.T)) := balloc (Below.refl _ _) _
  have hcl : (K.enc y).length = 1 * i0.size := by rw [hK.len, hz1, Nat.one_mul]
  have hnew : ∀ j u, (K.enc y)[j]? = some u → (wr.alloc (.cells cs K.T)).cell? ((⟨wr.heap.size, 0, none⟩ : Addr).add j) = some u := fun j u hu => World.news_of_block (cs := cs) (t := K.T) (fr := (0, 0)) (heap_alloc_new wr _) j u (by rw [hcs]; exact hu)
  have hm : (l.length + 1) * K.bt ≤ 100001 * 1000 := Nat.mul_le_mul (by omega) hbb
  obtain ⟨W, hW⟩ : ∃ W, wr.alloc (.cells cs K.T) = W := ⟨_, rfl⟩
  have hWs : W.heap.size = wr.heap.size + 1 := by rw [← hW]; simp
  rw [hW] at hb0 hnew ⊢
  have grown : ∀ old : Nat, old < l.length + 1 →
      OwnR K (W.drew.alloc (.cells ((rV K l).toArray ++ (K.enc y).toArray ++ Builtin.zeroCells K.z.cells (grownCap W (l.length + 1) old K.T - (l.length + 1))) K.T)) wr.heap.size (.slice (some ⟨W.heap.size, 0, none⟩) (l.length + 1) (grownCap W (l.length + 1) old K.T)) (l ++ [y]) ∧
      Below wr.heap.size wr (W.drew.alloc (.cells ((rV K l).toArray ++ (K.enc y).toArray ++ Builtin.zeroCells K.z.cells (grownCap W (l.length + 1) old K.T - (l.length + 1))) K.T)) := by
    intro old ho
    have hge := grownCap_ge W (l.length + 1) old K.T
    have hcm : grownCap W (l.length + 1) old K.T ≤ maxLen := grownCap_le_maxLen W (l.length + 1) old K.T (by unfold maxLen; omega)
    have hrl : (rV K (l ++ [y])).length = (l ++ [y]).length * K.sz := rV_len hK _
    refine ⟨⟨hrl, .inr ⟨W.heap.size, _, _, by simp, by omega, heap_alloc_new W.drew _, by simp; exact hge, hcm, ?_, ?_⟩⟩, (hb0.drew).alloc (by have := hWs; show wr.heap.size ≤ W.heap.size; omega) _⟩
    · have e1 : (Builtin.zeroCells K.z.cells (grownCap W (l.length + 1) old K.T - (l.length + 1))).size = (grownCap W (l.length + 1) old K.T - (l.length + 1)) * K.sz := by rw [size_zeroCells, hK.zc]
      simp only [Array.size_append, List.size_toArray, e1, rV_len hK, hK.len]
      have e2 : grownCap W (l.length + 1) old K.T * K.sz = (l.length + 1 + (grownCap W (l.length + 1) old K.T - (l.length + 1))) * K.sz := by congr 1; omega
      rw [e2, Nat.add_mul, Nat.add_mul, Nat.one_mul]
    · simp only [Array.toList_append, List.append_assoc]
      rw [← List.append_assoc, ← rV_snoc]
      exact List.take_left' hrl
  cases a with
  | none =>
    obtain rfl := hn rfl
    have hrun := run_append_nil (P := Try.prog) W K.S ty K.T i0 K.z hK.und hi hz0 ⟨wr.heap.size, 0, none⟩ 1 1 (K.enc y) hcl hnew (by omega) (by omega) (by rw [hz2]; omega)
    have hgr := grown 0 (by omega)
    simp only [List.length_nil, Nat.zero_add, List.nil_append, Array.empty_append, rV_nil] at hgr ⊢
    exact ⟨_, _, _, hrun, hgr.1, hgr.2⟩
  | some b =>
    have hold : ∀ j u, (rV K l)[j]? = some u → W.cell? (b.add j) = some u := fun j u hu => (hr.below hb0).newsR hK j u hu
    have hrun := run_append_grow (P := Try.prog) W K.S ty K.T i0 K.z hK.und hi hz0 b l.length l.length (rV K l) (by rw [rV_len hK, hz1]) hold ⟨wr.heap.size, 0, none⟩ 1 1 (K.enc y) hcl hnew (by omega) (by omega) (growslice_fits (by omega) (by rw [hz2]; omega))
    have hgr := grown l.length (by omega)
    exact ⟨_, _, _, hrun, hgr.1, hgr.2⟩
/-- The same, at a step of a region that draws. -/
theorem step_full {α : Type} {K : RK α} (hK : K.Ok) {ops : Array Oper} {o : Oper} {ac : Act} {KK : Act → World → Prop} {Q : Exit → Act → World → Prop} {E : Prop} {wr : World} (hgd : o.guard = none) (s x : Operand)
    (hop : o.op = .call { callee := .builtin .append, args := #[s, x], argTypes := #[K.S, K.S] })
    (a : Option Addr) (l : List α) (y : α) (cs : Array Value) (hcs : cs.toList = K.enc y) (hr : RowIn K wr a l) (hn : a = none → l = []) (hl : l.length ≤ 100000) (hs : ac.eval s = .slice a l.length l.length) (hx : ac.eval x = .slice (some ⟨wr.heap.size, 0, none⟩) 1 1)
    (h : ∀ g cap w', OwnR K w' wr.heap.size (.slice (some ⟨g, 0, none⟩) (l.length + 1) cap) (l ++ [y]) → Below wr.heap.size wr w' → KK (ac.put o.dst (.slice (some ⟨g, 0, none⟩) (l.length + 1) cap)) w') :
    if Region.wanted o (yielded ops ac.tmps) = true then Oper.wp Try.prog o ac (wr.alloc (.cells cs K.T)) KK Q else E := by
  have hw : Region.wanted o (yielded ops ac.tmps) = true := by simp [Region.wanted, hgd]
  rw [if_pos hw]
  obtain ⟨g, cap, w', hrun, h2, h3⟩ := run_full hK (wr := wr) o.type a l y cs hcs hr hn hl
  unfold Oper.wp execOp
  simp only [hop, resolve, invoke, builtin, Sem.run_bind, Sem.run_pure, Result.andThen_ok, List.map_toArray, List.map_cons, List.map_nil, hs, hx, hrun]
  exact h g cap w' h2 h3
end Go.Proofs.Ytfmedinhlmiaeaa
