/- Texts of this proof, one behind the other: Gen, ChRow, WireSame, ChMath. -/
import Derived.Test.YtjfmgplhcinkfaaGreatGP7
/- Rows of elements of whatever kind that a call makes: read, appended to. -/
namespace Go.Proofs.YtjfmgplhcinkfaaGreat
open Go.RowKit
set_option linter.unusedVariables false

/-- A kind of row: the numbers of the element's type and of the slice's, cells and bytes of an element, its zero value, how an element lies. -/
structure RK (α : Type) where
  T : TypeId
  S : TypeId
  sz : Nat
  bt : Nat
  z : Value
  enc : α → List Value
structure RK.Ok {α : Type} (K : RK α) : Prop where
  len : ∀ x, (K.enc x).length = K.sz
  pos : 0 < K.sz
  one : ∀ x, ∀ u ∈ K.enc x, u.oneCell' = true
  und : Tryz.prog.underlying K.S = some (.slice K.T)
  inf : (Tryz.prog.info? K.T).map (fun i => (i.zero, i.size, i.bytes)) = some (some K.z, K.sz, K.bt)
  zc : K.z.cells.size = K.sz
  bb : K.bt ≤ 1000
section
variable {α : Type} {K : RK α}
def rV (K : RK α) (l : List α) : List Value := l.flatMap K.enc
theorem rV_nil : rV K [] = [] := rfl
theorem rV_snoc (l : List α) (x : α) : rV K (l ++ [x]) = rV K l ++ K.enc x := by simp [rV]
theorem rV_len (hK : K.Ok) (l : List α) : (rV K l).length = l.length * K.sz := by
  unfold rV
  induction l with
  | nil => simp
  | cons x l ih => rw [List.flatMap_cons, List.length_append, ih, hK.len, List.length_cons, Nat.succ_mul, Nat.add_comm]
theorem rV_get (hK : K.Ok) (l : List α) : ∀ (i : Nat) (h : i < l.length) (j : Nat), j < K.sz → (rV K l)[i * K.sz + j]? = (K.enc l[i])[j]? := by
  induction l with
  | nil => intro i h; simp at h
  | cons x l ih =>
    intro i h j hj
    have e : rV K (x :: l) = K.enc x ++ rV K l := by simp [rV]
    rw [e]
    cases i with
    | zero =>
      rw [List.getElem?_append_left (by rw [hK.len]; omega)]
      simp
    | succ i =>
      have e1 : (i + 1) * K.sz + j = K.sz + (i * K.sz + j) := by rw [Nat.succ_mul]; omega
      rw [List.getElem?_append_right (by rw [hK.len, e1]; omega), hK.len, e1, Nat.add_sub_cancel_left]
      exact ih i (by simpa using h) j hj
/-- A row of the call's own. -/
abbrev OwnR (K : RK α) (w : World) (base : Nat) (v : Value) (l : List α) : Prop := w.ownsRow base K.T K.sz v l.length (rV K l)
theorem OwnR.nil (K : RK α) (w : World) (base : Nat) : OwnR K w base (.slice none 0 0) [] := ⟨by simp [rV], .inl ⟨rfl, rfl⟩⟩
theorem OwnR.block {w w' : World} {base : Nat} {v : Value} {l : List α} (h : OwnR K w base v l) (hb : ∀ g, v.ownBlock = some g → w'.heap[g]? = w.heap[g]?) : OwnR K w' base v l := by
  refine ⟨h.1, ?_⟩
  rcases h.2 with h0 | ⟨g, cap, cur, rfl, hbg, hg, r⟩
  · exact .inl h0
  · exact .inr ⟨g, cap, cur, rfl, hbg, (hb g rfl).trans hg, r⟩
theorem OwnR.below {w w' : World} {base : Nat} {v : Value} {l : List α} (h : OwnR K w base v l) (hb : Below w.heap.size w w') : OwnR K w' base v l :=
  h.block (fun g e => hb.5 g (h.lt g e).2)
theorem OwnR.mono {w : World} {base base' : Nat} {v : Value} {l : List α} (h : OwnR K w base v l) (hb : base' ≤ base) : OwnR K w base' v l := by
  refine ⟨h.1, ?_⟩
  rcases h.2 with h0 | ⟨g, cap, cur, rfl, hbg, r⟩
  · exact .inl h0
  · exact .inr ⟨g, cap, cur, rfl, by omega, r⟩
theorem OwnR.shape {w : World} {base : Nat} {v : Value} {l : List α} (h : OwnR K w base v l) : ∃ a c, v = .slice a l.length c := by
  rcases h.2 with ⟨rfl, h0⟩ | ⟨g, cap, cur, rfl, _⟩
  · exact ⟨none, 0, by rw [h0]⟩
  · exact ⟨_, _, rfl⟩
theorem OwnR.len {w : World} {base : Nat} {a : Option Addr} {n c : Nat} {l : List α} (h : OwnR K w base (.slice a n c) l) : n = l.length := by
  obtain ⟨_, _, e⟩ := h.shape
  cases e
  rfl
theorem OwnR.lt' {w : World} {base : Nat} {v : Value} {l : List α} (h : OwnR K w base v l) {k : Nat} (hk : w.heap.size ≤ k) : v.ownBlock ≠ some k := fun e => by have := (h.lt k e).2; omega
theorem OwnR.lo {w : World} {base : Nat} {v : Value} {l : List α} (h : OwnR K w base v l) {k : Nat} (hk : k < base) : v.ownBlock ≠ some k := fun e => by have := (h.lt k e).1; omega
/-- What is read of it. -/
theorem OwnR.cell (hK : K.Ok) {w : World} {base : Nat} {v : Value} {l : List α} (h : OwnR K w base v l) (i : Nat) (hi : i < l.length) :
    ∃ g cap, v = .slice (some ⟨g, 0, none⟩) l.length cap ∧ l.length ≤ cap ∧ cap ≤ maxLen ∧ base ≤ g ∧ g < w.heap.size ∧ ∀ j u, (K.enc l[i])[j]? = some u → w.cell? ⟨g, 0 + i * K.sz + j, none⟩ = some u := by
  rcases h.2 with ⟨rfl, h0⟩ | ⟨g, cap, cur, rfl, hb, hg, hn, hm, hs, ht⟩
  · omega
  · refine ⟨g, cap, rfl, hn, hm, hb, (Array.getElem?_eq_some_iff.1 hg).1, fun j u hu => ?_⟩
    have hj : j < K.sz := by rw [← hK.len l[i]]; exact (List.getElem?_eq_some_iff.1 hu).1
    have hk := rV_get hK l i hi j hj
    rw [hu, ← ht, List.getElem?_take, if_pos (by
      have h1 : (i + 1) * K.sz ≤ l.length * K.sz := Nat.mul_le_mul_right _ hi
      rw [Nat.succ_mul] at h1
      omega), Array.getElem?_toList] at hk
    rw [Nat.zero_add]
    simp [World.cell?, hg, hk]
theorem OwnR.caps {w : World} {base : Nat} {a : Option Addr} {n cap : Nat} {l : List α} (h : OwnR K w base (.slice a n cap) l) : n ≤ cap ∧ cap ≤ maxLen ∧ (a = none → cap = 0) := by
  rcases h.2 with ⟨e, h0⟩ | ⟨g, cap', cur, e, hb, hg, hn, hm, hs, ht⟩
  · cases e
    exact ⟨by omega, by unfold maxLen; omega, fun _ => rfl⟩
  · cases e
    exact ⟨hn, hm, by simp⟩
/-- One element appended. -/
theorem wp_pushR (hK : K.Ok) {ops : Array Oper} {rest : List Oper} {o : Oper} {a : Act} {Q : Exit → Act → World → Prop} {wr : World} (hgd : o.guard = none) (s x : Operand)
    (hop : o.op = .call { callee := .builtin .append, args := #[s, x], argTypes := #[K.S, K.S] })
    (base : Nat) (v : Value) (l : List α) (y : α) (cs : Array Value) (hcs : cs.toList = K.enc y) (hs : a.eval s = v) (hown : OwnR K wr base v l) (hx : a.eval x = .slice (some ⟨wr.heap.size, 0, none⟩) 1 1) (hl : l.length ≤ 1000000) (hbs : base ≤ wr.heap.size)
    (h : ∀ g cap w', OwnR K w' base (.slice (some ⟨g, 0, none⟩) (l.length + 1) cap) (l ++ [y]) → Below base wr w' → KeptD v wr w' → (v.ownBlock = some g ∨ wr.heap.size ≤ g) → g < w'.heap.size → wpList Tryz.prog ops Q rest (a.put o.dst (.slice (some ⟨g, 0, none⟩) (l.length + 1) cap)) w') :
    wpList Tryz.prog ops Q (o :: rest) a (wr.alloc (.cells cs K.T)) := by
  obtain ⟨i0, hi, hz0, hz1, hz2⟩ := info_parts hK.inf
  have hbb := hK.bb
  refine wpList_append_lies _ hgd s x K.S hop base K.T i0 _ K.sz K.bt hK.und hi hz0 hz1 hz2 hK.zc hK.pos v l.length (rV K l) hs (hown.alloc _) ⟨wr.heap.size, 0, none⟩ 1 1 (K.enc y) hx (by rw [hK.len, Nat.one_mul])
    (fun j u hu => World.news_of_block (cs := cs) (t := K.T) (fr := (0, 0)) (heap_alloc_new wr _) j u (by rw [hcs]; exact hu)) (hK.one y) (by omega) (by unfold maxLen; omega) (Nat.le_trans (Nat.mul_le_mul (show l.length + 1 ≤ 1000001 by omega) hbb) (by decide)) (by simp; omega) (wr.heap.size + 1) (by simp) ?_
  intro g cap w' ho hg hat hlt
  refine h g cap w' (by unfold OwnR; rw [rV_snoc]; simpa using ho) (((Below.refl base wr).alloc hbs _).grown hg (by simp; omega) (fun k hk => (hown.lt k hk).1)) (fun j hj hne => ?_) (by rcases hat with h1 | h1; exact .inl h1; exact .inr (by omega)) hlt
  rw [hg.block j (by simp; omega) (fun e => hne e.symm)]
  exact Below.heap_alloc _ _ _ hj
/-- The same, as the run of the operation. -/
theorem run_pushR (hK : K.Ok) {wr : World} (ty : TypeId) (base : Nat) (v : Value) (l : List α) (y : α) (cs : Array Value) (hcs : cs.toList = K.enc y) (hown : OwnR K wr base v l) (hl : l.length ≤ 1000000) (hbs : base ≤ wr.heap.size) :
    ∃ g cap w', (Builtin.append_ #[K.S, K.S] ty #[v, .slice (some ⟨wr.heap.size, 0, none⟩) 1 1]).run Tryz.prog (wr.alloc (.cells cs K.T)) = .ok (.slice (some ⟨g, 0, none⟩) (l.length + 1) cap) w' ∧ OwnR K w' base (.slice (some ⟨g, 0, none⟩) (l.length + 1) cap) (l ++ [y]) ∧ Below base wr w' ∧ KeptD v wr w' ∧ (v.ownBlock = some g ∨ wr.heap.size ≤ g) ∧ g < w'.heap.size := by
  obtain ⟨i0, hi, hz0, hz1, hz2⟩ := info_parts hK.inf
  have hbb := hK.bb
  obtain ⟨g, cap, w', hrun, ho, hg, hat, hlt⟩ := run_append_lies (wr.alloc (.cells cs K.T)) K.S ty base K.T i0 _ K.sz K.bt hK.und hi hz0 hz1 hz2 hK.zc hK.pos v l.length (rV K l) (hown.alloc _) ⟨wr.heap.size, 0, none⟩ 1 1 (K.enc y) (by rw [hK.len, Nat.one_mul])
    (fun j u hu => World.news_of_block (cs := cs) (t := K.T) (fr := (0, 0)) (heap_alloc_new wr _) j u (by rw [hcs]; exact hu)) (hK.one y) (by omega) (by unfold maxLen; omega) (Nat.le_trans (Nat.mul_le_mul (show l.length + 1 ≤ 1000001 by omega) hbb) (by decide)) (by simp; omega) (wr.heap.size + 1) (by simp)
  refine ⟨g, cap, w', hrun, by unfold OwnR; rw [rV_snoc]; simpa using ho, ((Below.refl base wr).alloc hbs _).grown hg (by simp; omega) (fun k hk => (hown.lt k hk).1), fun j hj hne => ?_, by rcases hat with h1 | h1; exact .inl h1; exact .inr (by omega), hlt⟩
  rw [hg.block j (by simp; omega) (fun e => hne e.symm)]
  exact Below.heap_alloc _ _ _ hj
end

/-- A row of elements read in memory. -/
def RowIn {α : Type} (K : RK α) (w : World) (a : Option Addr) (l : List α) : Prop :=
  ∀ i (h : i < l.length), ∃ b off, a = some ⟨b, off, none⟩ ∧ b < w.heap.size ∧ ∀ j u, (K.enc l[i])[j]? = some u → w.cell? ⟨b, off + i * K.sz + j, none⟩ = some u
theorem RowIn.below {α : Type} {K : RK α} {w w' : World} {a : Option Addr} {l : List α} (h : RowIn K w a l) (hb : Below w.heap.size w w') : RowIn K w' a l := by
  intro i hi
  obtain ⟨b, off, rfl, hlt, hc⟩ := h i hi
  exact ⟨b, off, rfl, by have := hb.size; omega, fun j u hu => kcell hb hlt (hc j u hu)⟩
theorem RowIn.of_own {α : Type} {K : RK α} (hK : K.Ok) {w : World} {base : Nat} {a : Option Addr} {n c : Nat} {l : List α} (h : OwnR K w base (.slice a n c) l) : RowIn K w a l := by
  intro i hi
  obtain ⟨g, cap, e, _, _, _, hlt, hc⟩ := h.cell hK i hi
  cases e
  exact ⟨g, 0, rfl, hlt, hc⟩
/-- A slice that reads as these elements. -/
def RowAt {α : Type} (K : RK α) (w : World) (v : Value) (l : List α) : Prop := ∃ a cap, v = .slice a l.length cap ∧ l.length ≤ cap ∧ cap ≤ maxLen ∧ (a = none → cap = 0) ∧ RowIn K w a l
theorem RowAt.below {α : Type} {K : RK α} {w w' : World} {v : Value} {l : List α} (h : RowAt K w v l) (hb : Below w.heap.size w w') : RowAt K w' v l := by
  obtain ⟨a, cap, rfl, h1, h2, h3, hr⟩ := h
  exact ⟨a, cap, rfl, h1, h2, h3, hr.below hb⟩
theorem RowAt.of_own {α : Type} {K : RK α} (hK : K.Ok) {w : World} {base : Nat} {v : Value} {l : List α} (h : OwnR K w base v l) : RowAt K w v l := by
  obtain ⟨a, c, rfl⟩ := h.shape
  obtain ⟨h1, h2, h3⟩ := h.caps
  exact ⟨a, c, rfl, h1, h2, h3, RowIn.of_own hK h⟩
end Go.Proofs.YtjfmgplhcinkfaaGreat
/- Rows of versions in memory, each with the slice that is its past. -/
namespace Go.Proofs.YtjfmgplhcinkfaaGreat
open Go.RowKit
set_option linter.unusedVariables false
set_option linter.unusedSimpArgs false

/-- A version, and where its past lies. -/
abbrev Vw := Wv × (Option Addr × Nat)
def pw (x : Vw) : Value := .slice x.2.1 x.1.past.length x.2.2
def vw0 : Vw := (wz, none, 0)
abbrev wcs (x : Vw) : Array Value := wvs x.1 (pw x)
abbrev wV (x : Vw) : Value := .agg (wcs x)
theorem pw_vw0 : pw vw0 = .slice none 0 0 := rfl
def wL (x : Vw) : List Value := [.string x.1.key, .string x.1.val, .bool x.1.gone, .int .i64 x.1.st.1, .int .i64 x.1.st.2, pw x]
def KW : RK Vw where
  T := 36
  S := 47
  sz := 6
  bt := 80
  z := .agg #[.string ⟨#[]⟩, .string ⟨#[]⟩, .bool false, .int .i64 0, .int .i64 0, .slice none 0 0]
  enc := wL
theorem kw_ok : KW.Ok where
  len _ := rfl
  pos := by decide
  one x u hu := by
    simp [KW, wL] at hu
    rcases hu with rfl | rfl | rfl | rfl | rfl | rfl <;> rfl
  und := Tryz.underlying47
  inf := by kernel_rfl
  zc := rfl
  bb := by decide
/-- A version at a place in memory. -/
structure VwQ (w : World) (b o : Nat) (x : Vw) : Prop where
  c0 : w.cell? ⟨b, o, none⟩ = some (.string x.1.key)
  c1 : w.cell? ⟨b, o + 1, none⟩ = some (.string x.1.val)
  c2 : w.cell? ⟨b, o + 2, none⟩ = some (.bool x.1.gone)
  c3 : w.cell? ⟨b, o + 3, none⟩ = some (.int .i64 x.1.st.1)
  c4 : w.cell? ⟨b, o + 4, none⟩ = some (.int .i64 x.1.st.2)
  c5 : w.cell? ⟨b, o + 5, none⟩ = some (pw x)
theorem VwQ.of_row {w : World} {b o : Nat} {x : Vw} (h : ∀ j u, (KW.enc x)[j]? = some u → w.cell? ⟨b, o + j, none⟩ = some u) : VwQ w b o x :=
  ⟨h 0 _ rfl, h 1 _ rfl, h 2 _ rfl, h 3 _ rfl, h 4 _ rfl, h 5 _ rfl⟩
theorem VwQ.keep {w w' : World} {b o : Nat} {x : Vw} (h : VwQ w b o x) (hb : Below w.heap.size w w') : VwQ w' b o x :=
  ⟨kc hb h.c0, kc hb h.c1, kc hb h.c2, kc hb h.c3, kc hb h.c4, kc hb h.c5⟩
theorem VwQ.block {w w' : World} {b o : Nat} {x : Vw} (h : VwQ w b o x) (hb : w'.heap[b]? = w.heap[b]?) : VwQ w' b o x := by
  refine ⟨?_, ?_, ?_, ?_, ?_, ?_⟩ <;> rw [World.cell?_of_block hb]
  · exact h.c0
  · exact h.c1
  · exact h.c2
  · exact h.c3
  · exact h.c4
  · exact h.c5
theorem VwP.q {w : World} {b : Nat} {x : Vw} (h : VwP w b x.1 (pw x)) : VwQ w b 0 x := ⟨h.c0, h.c1, h.c2, h.c3, h.c4, h.c5⟩
/-- What is asked of a version. -/
def VwB (w : World) (x : Vw) : Prop := WvB w x.1 (pw x) ∧ In64 x.1.st
theorem VwB.below {w w' : World} {x : Vw} (h : VwB w x) (hb : Below w.heap.size w w') : VwB w' x := ⟨h.1.below hb, h.2⟩
/-- A slice that reads as these versions; their pasts read as they are. -/
def WRow (w : World) (v : Value) (xs : List Vw) : Prop := RowAt KW w v xs ∧ ∀ x ∈ xs, VwB w x
theorem WRow.below {w w' : World} {v : Value} {xs : List Vw} (h : WRow w v xs) (hb : Below w.heap.size w w') : WRow w' v xs := ⟨h.1.below hb, fun x hx => (h.2 x hx).below hb⟩
theorem WRow.drew {w : World} {v : Value} {xs : List Vw} (h : WRow w v xs) : WRow w.drew v xs := h.below ((Below.refl _ w).drew)
theorem WRow.nil (w : World) : WRow w (.slice none 0 0) [] := ⟨⟨none, 0, rfl, by simp, by simp, by simp, fun i h => absurd h (by simp)⟩, by simp⟩
theorem WRow.shape {w : World} {v : Value} {xs : List Vw} (h : WRow w v xs) : ∃ a c, v = .slice a xs.length c ∧ xs.length ≤ c ∧ c ≤ maxLen ∧ (a = none → c = 0) := by
  obtain ⟨⟨a, c, rfl, h1, h2, h3, _⟩, _⟩ := h
  exact ⟨a, c, rfl, h1, h2, h3⟩
theorem WRow.at {w : World} {a : Option Addr} {n c : Nat} {xs : List Vw} (h : WRow w (.slice a n c) xs) (i : Nat) (hi : i < xs.length) : ∃ b off, a = some ⟨b, off, none⟩ ∧ b < w.heap.size ∧ VwQ w b (off + i * 6) xs[i] ∧ VwB w xs[i] := by
  obtain ⟨⟨a', c', e, _, _, _, hr⟩, hp⟩ := h
  cases e
  obtain ⟨b, off, rfl, hlt, hc⟩ := hr i hi
  exact ⟨b, off, rfl, hlt, VwQ.of_row hc, hp _ (List.getElem_mem hi)⟩
theorem WRow.of_own {w : World} {base : Nat} {v : Value} {xs : List Vw} (h : OwnR KW w base v xs) (hp : ∀ x ∈ xs, VwB w x) : WRow w v xs := ⟨RowAt.of_own kw_ok h, hp⟩
theorem WRow.rin {w : World} {a : Option Addr} {n c : Nat} {xs : List Vw} (h : WRow w (.slice a n c) xs) : RowIn KW w a xs := by
  obtain ⟨⟨a', c', e, _, _, _, hr⟩, hp⟩ := h
  cases e
  exact hr
theorem RowIn.takeR {α : Type} {K : RK α} {w : World} {a : Option Addr} {l : List α} (h : RowIn K w a l) (k : Nat) : RowIn K w a (l.take k) := by
  intro i hi
  have hi' : i < l.length := by simp at hi; omega
  obtain ⟨b, off, e, hlt, hc⟩ := h i hi'
  exact ⟨b, off, e, hlt, by simpa using hc⟩
theorem RowIn.dropR {α : Type} {K : RK α} {w : World} {b off : Nat} {l : List α} (h : RowIn K w (some ⟨b, off, none⟩) l) (k : Nat) : RowIn K w (some ⟨b, off + k * K.sz, none⟩) (l.drop k) := by
  intro i hi
  have hi' : k + i < l.length := by simp at hi; omega
  obtain ⟨b', off', e, hlt, hc⟩ := h (k + i) hi'
  cases e
  rw [show off + (k + i) * K.sz = off + k * K.sz + i * K.sz by rw [Nat.add_mul]; omega] at hc
  exact ⟨b, off + k * K.sz, rfl, hlt, by simpa using hc⟩
/-- The first ones of a row. -/
theorem WRow.take {w : World} {a : Option Addr} {n c : Nat} {xs : List Vw} (h : WRow w (.slice a n c) xs) (k : Nat) (hk : k ≤ xs.length) : WRow w (.slice a k c) (xs.take k) := by
  obtain ⟨⟨a', c', e, h1, h2, h3, hr⟩, hp⟩ := h
  cases e
  refine ⟨⟨a, c, by rw [List.length_take, Nat.min_eq_left hk], by rw [List.length_take]; omega, h2, h3, hr.takeR k⟩, fun x hx => hp x (List.mem_of_mem_take hx)⟩
/-- A row that lies ahead of what a call makes is as it was. -/
theorem WRow.low {w : World} {a : Option Addr} {n c : Nat} {xs : List Vw} (h : WRow w (.slice a n c) xs) (h0 : 0 < xs.length) : ∃ b off, a = some ⟨b, off, none⟩ ∧ b < w.heap.size := by
  obtain ⟨b, off, e, hlt, _⟩ := h.at 0 h0
  exact ⟨b, off, e, hlt⟩
/-- All that is read of a row of any kind. -/
theorem RowIn.newsR {α : Type} {K : RK α} (hK : K.Ok) {w : World} {x : Addr} {l : List α} (h : RowIn K w (some x) l) : ∀ j u, (rV K l)[j]? = some u → w.cell? (x.add j) = some u := by
  intro j u hj
  have hlt : j < (rV K l).length := (List.getElem?_eq_some_iff.1 hj).1
  rw [rV_len hK] at hlt
  have hpos := hK.pos
  have hd : j / K.sz < l.length := Nat.div_lt_of_lt_mul (by rw [Nat.mul_comm]; exact hlt)
  have hm : j % K.sz < K.sz := Nat.mod_lt _ hpos
  obtain ⟨b, off, e, _, hc⟩ := h (j / K.sz) hd
  cases e
  have hg := rV_get hK l (j / K.sz) hd (j % K.sz) hm
  have ej : j / K.sz * K.sz + j % K.sz = j := by rw [Nat.mul_comm]; exact Nat.div_add_mod j K.sz
  rw [ej, hj] at hg
  have := hc (j % K.sz) u hg.symm
  rw [Addr.add_lit]
  rw [Nat.add_assoc, ej] at this
  exact this
theorem rV_oneR {α : Type} {K : RK α} (hK : K.Ok) (l : List α) : ∀ u ∈ rV K l, u.oneCell' = true := by
  intro u hu
  simp only [rV, List.mem_flatMap] at hu
  obtain ⟨p, _, hp⟩ := hu
  exact hK.one p u hp
theorem rV_appR {α : Type} (K : RK α) (l m : List α) : rV K (l ++ m) = rV K l ++ rV K m := by simp [rV]
/-- A row appended to a row of one's own. -/
theorem wp_appR {α : Type} {K : RK α} (hK : K.Ok) {ops : Array Oper} {rest : List Oper} {o : Oper} {a : Act} {Q : Exit → Act → World → Prop} {w : World} (hgd : o.guard = none) (s x : Operand)
    (hop : o.op = .call { callee := .builtin .append, args := #[s, x], argTypes := #[K.S, K.S] })
    (base : Nat) (v u : Value) (l m : List α) (hs : a.eval s = v) (hown : OwnR K w base v l) (hx : a.eval x = u) (hu : RowAt K w u m) (hl : l.length + m.length ≤ 1000000) (hbs : base ≤ w.heap.size)
    (h : ∀ v' w', OwnR K w' base v' (l ++ m) → Below base w w' → KeptD v w w' → wpList Tryz.prog ops Q rest (a.put o.dst v') w') :
    wpList Tryz.prog ops Q (o :: rest) a w := by
  obtain ⟨i0, hi, hz0, hz1, hz2⟩ := info_parts hK.inf
  obtain ⟨b, cap, rfl, hcap, hmx, hnil, hr⟩ := hu
  have hbb := hK.bb
  cases b with
  | some b =>
    refine wpList_append_own _ hgd s x K.S hop base K.T i0 _ K.sz K.bt hK.und hi hz0 hz1 hz2 hK.zc hK.pos v l.length (rV K l) hs hown b m.length cap (rV K m) hx (rV_len hK m) (hr.newsR hK) (rV_oneR hK m) (by unfold maxLen; omega) (Nat.le_trans (Nat.mul_le_mul hl hbb) (by decide)) hbs ?_
    intro v' w' ho hg hn
    exact h v' w' (by unfold OwnR; rw [rV_appR, List.length_append]; exact ho) ((Below.refl base w).grown hg hbs (fun k hk => (hown.lt k hk).1)) (fun j hj hne => hg.block j hj (fun e => hne e.symm))
  | none =>
    have hc0 := hnil rfl
    obtain rfl : m = [] := List.length_eq_zero_iff.1 (by omega)
    subst hc0
    refine wpList_append_own_none hgd s x K.S hop base K.T i0 K.sz hK.und hi v l.length (rV K l) hs hown hx ?_
    exact h v w (by rw [List.append_nil]; exact hown) (Below.refl _ _) (fun _ _ _ => rfl)
end Go.Proofs.YtjfmgplhcinkfaaGreat
/- What wire.Same and the document's Same answer of two versions. -/
namespace Go.Proofs.YtjfmgplhcinkfaaGreat
open Go.RowKit
set_option linter.unusedVariables false
set_option linter.unusedSimpArgs false

def sameW (a b : Wv) : Bool := decide (a.key = b.key) && (decide (a.val = b.val) && (decide (a.gone = b.gone) && (decide (a.st = b.st) && decide (a.past = b.past))))
theorem sameW_iff (a b : Wv) : sameW a b = true ↔ a = b := by
  obtain ⟨k, v, g, s, p⟩ := a
  obtain ⟨k', v', g', s', p'⟩ := b
  simp [sameW]
theorem sameW_self (a : Wv) : sameW a a = true := (sameW_iff a a).2 rfl

set_option maxRecDepth 100000 in
set_option maxHeartbeats 800000 in
theorem wsameB_any (v1 v2 : Wv) (u1 u2 : Value) (w : World) (h1 : WvB w v1 u1) (h2 : WvB w v2 u2) :
    Calls Tryz.prog 66 #[.agg (wvs v1 u1), .agg (wvs v2 u2)] w fun e w' => e = .returned (.bool (sameW v1 v2)) ∧ Below w.heap.size w w' := by
  have hb1 : Below w.heap.size w (w.alloc (.cells (wvs v1 u1) 36)) := balloc (Below.refl _ w) _
  have hV1 := VwP.new w v1 u1 36
  have hb2 := balloc (Below.refl _ (w.alloc (.cells (wvs v1 u1) 36))) (.cells (wvs v2 u2) 36)
  have hV2 := VwP.new (w.alloc (.cells (wvs v1 u1) 36)) v2 u2 36
  have hV1' := hV1.keep hb2
  have hA := (h1.below hb1).below hb2
  have hB := (h2.below hb1).below hb2
  have hbw := bstep hb1 hb2
  rw [World.size_alloc] at hV2
  have hps := fun W (k1 : WvB W v1 u1) (k2 : WvB W v2 u2) => same_any u1 u2 v1.past v2.past W h1.len k1.at_ k2.at_
  have heq := eq_stamp
  obtain ⟨a1, c1, hu1, _⟩ := h1.at_
  obtain ⟨a2, c2, hu2, _⟩ := h2.at_
  subst hu1 hu2
  clear h1 h2 hb1 hb2 hV1
  unfold sameW
  obtain ⟨key1, val1, gone1, ⟨n1, t1⟩, past1⟩ := v1
  obtain ⟨key2, val2, gone2, ⟨n2, t2⟩, past2⟩ := v2
  dsimp only [wvs] at *
  have heq1 := fun w' => heq w' n1 t1 n2 t2
  generalize decide (((n1, t1) : Int × Int) = (n2, t2)) = sb at *
  generalize decide (past1 = past2) = pb at *
  clear heq
  go_enter Tryz.func66, Tryz.ntmps66
  go_upto_region 1 with fail
  generalize (w.alloc (.cells #[.string key1, .string val1, .bool gone1, .int .i64 n1, .int .i64 t1, .slice a1 past1.length c1] 36)).alloc (.cells #[.string key2, .string val2, .bool gone2, .int .i64 n2, .int .i64 t2, .slice a2 past2.length c2] 36) = w2 at *
  have HA := Lib.hid hA
  have HB := Lib.hid hB
  have HBW := Lib.hid hbw
  have HV1 := Lib.hid hV1'
  have HV2 := Lib.hid hV2
  clear hA hB hbw hV1' hV2
  obtain ⟨x0, x1, x2, x3, x4, x5, _⟩ := HV1.out
  obtain ⟨y0, y1, y2, y3, y4, y5, _⟩ := HV2.out
  dsimp only at x0 x1 x2 x3 x4 y0 y1 y2 y3 y4
  by_cases hk : key1 = key2
  · subst hk
    by_cases hv : val1 = val2
    · subst hv
      rcases (show gone1 = gone2 ∨ (gone1 = true ∧ gone2 = false) ∨ (gone1 = false ∧ gone2 = true) by cases gone1 <;> cases gone2 <;> simp) with rfl | ⟨rfl, rfl⟩ | ⟨rfl, rfl⟩
      · cases sb with
        | false =>
          go_wp2
          go_ret
          exact ⟨ret_bool (by simp_all), HBW.out⟩
        | true =>
          go_wp2_with fail
          refine (hps _ HA.out HB.out).mono ?_
          rintro e w3 ⟨rfl, hb3⟩
          go_wp2
          go_ret
          exact ⟨ret_bool (by simp), bstep HBW.out hb3⟩
      · skip
        go_wp2
        go_ret
        exact ⟨ret_bool (by simp_all), HBW.out⟩
      · skip
        go_wp2
        go_ret
        exact ⟨ret_bool (by simp_all), HBW.out⟩
    · have hvl : ¬ val1.toList = val2.toList := fun h => hv (ba_inj (by rw [← Lib.toList_data, ← Lib.toList_data]; exact h))
      go_wp2
      go_ret
      exact ⟨ret_bool (by simp_all), HBW.out⟩
  · have hkl : ¬ key1.toList = key2.toList := fun h => hk (ba_inj (by rw [← Lib.toList_data, ← Lib.toList_data]; exact h))
    go_wp2
    go_ret
    exact ⟨ret_bool (by simp_all), HBW.out⟩

set_option maxRecDepth 100000 in
set_option maxHeartbeats 800000 in
theorem refWSameB_any (v1 v2 : Wv) (u1 u2 : Value) (w : World) (h1 : WvB w v1 u1) (h2 : WvB w v2 u2) :
    Calls Tryz.prog 15 #[.agg (wvs v1 u1), .agg (wvs v2 u2)] w fun e w' => e = .returned (.bool (sameW v1 v2)) ∧ Below w.heap.size w w' := by
  have hb1 : Below w.heap.size w (w.alloc (.cells (wvs v1 u1) 36)) := balloc (Below.refl _ w) _
  have hV1 := VwP.new w v1 u1 36
  have hb2 := balloc (Below.refl _ (w.alloc (.cells (wvs v1 u1) 36))) (.cells (wvs v2 u2) 36)
  have hV2 := VwP.new (w.alloc (.cells (wvs v1 u1) 36)) v2 u2 36
  have hV1' := hV1.keep hb2
  have hA := (h1.below hb1).below hb2
  have hB := (h2.below hb1).below hb2
  have hbw := bstep hb1 hb2
  rw [World.size_alloc] at hV2
  have hps := fun W (k1 : WvB W v1 u1) (k2 : WvB W v2 u2) => refPSame_any u1 u2 v1.past v2.past W h1.len k1.at_ k2.at_
  have heq := eq_stamp
  obtain ⟨a1, c1, hu1, _⟩ := h1.at_
  obtain ⟨a2, c2, hu2, _⟩ := h2.at_
  subst hu1 hu2
  clear h1 h2 hb1 hb2 hV1
  unfold sameW
  obtain ⟨key1, val1, gone1, ⟨n1, t1⟩, past1⟩ := v1
  obtain ⟨key2, val2, gone2, ⟨n2, t2⟩, past2⟩ := v2
  dsimp only [wvs] at *
  have heq1 := fun w' => heq w' n1 t1 n2 t2
  generalize decide (((n1, t1) : Int × Int) = (n2, t2)) = sb at *
  generalize decide (past1 = past2) = pb at *
  clear heq
  go_enter Tryz.func15, Tryz.ntmps15
  go_upto_region 1 with fail
  generalize (w.alloc (.cells #[.string key1, .string val1, .bool gone1, .int .i64 n1, .int .i64 t1, .slice a1 past1.length c1] 36)).alloc (.cells #[.string key2, .string val2, .bool gone2, .int .i64 n2, .int .i64 t2, .slice a2 past2.length c2] 36) = w2 at *
  have HA := Lib.hid hA
  have HB := Lib.hid hB
  have HBW := Lib.hid hbw
  have HV1 := Lib.hid hV1'
  have HV2 := Lib.hid hV2
  clear hA hB hbw hV1' hV2
  obtain ⟨x0, x1, x2, x3, x4, x5, _⟩ := HV1.out
  obtain ⟨y0, y1, y2, y3, y4, y5, _⟩ := HV2.out
  dsimp only at x0 x1 x2 x3 x4 y0 y1 y2 y3 y4
  go_wp2_with fail
  refine (hps _ HA.out HB.out).mono ?_
  rintro e w3 ⟨rfl, hb3⟩
  have HV1' := Lib.hid (HV1.out.keep hb3)
  have HV2' := Lib.hid (HV2.out.keep hb3)
  have HBW' := Lib.hid (bstep HBW.out hb3)
  clear x0 x1 x2 x3 x4 x5 y0 y1 y2 y3 y4 y5 HV1 HV2 HBW HA HB hb3 hps
  obtain ⟨x0, x1, x2, x3, x4, x5, _⟩ := HV1'.out
  obtain ⟨y0, y1, y2, y3, y4, y5, _⟩ := HV2'.out
  dsimp only at x0 x1 x2 x3 x4 y0 y1 y2 y3 y4
  cases pb with
  | false =>
    go_wp2
    go_ret
    exact ⟨ret_bool (by simp), HBW'.out⟩
  | true =>
    by_cases hk : key1 = key2
    · subst hk
      by_cases hv : val1 = val2
      · subst hv
        rcases (show gone1 = gone2 ∨ (gone1 = true ∧ gone2 = false) ∨ (gone1 = false ∧ gone2 = true) by cases gone1 <;> cases gone2 <;> simp) with rfl | ⟨rfl, rfl⟩ | ⟨rfl, rfl⟩
        · cases sb with
          | false =>
            go_wp2
            go_ret
            exact ⟨ret_bool (by simp_all), HBW'.out⟩
          | true =>
            go_wp2
            go_ret
            exact ⟨ret_bool (by simp_all), HBW'.out⟩
        · skip
          go_wp2
          go_ret
          exact ⟨ret_bool (by simp_all), HBW'.out⟩
        · skip
          go_wp2
          go_ret
          exact ⟨ret_bool (by simp_all), HBW'.out⟩
      · have hvl : ¬ val1.toList = val2.toList := fun h => hv (ba_inj (by rw [← Lib.toList_data, ← Lib.toList_data]; exact h))
        go_wp2
        go_ret
        exact ⟨ret_bool (by simp_all), HBW'.out⟩
    · have hkl : ¬ key1.toList = key2.toList := fun h => hk (ba_inj (by rw [← Lib.toList_data, ← Lib.toList_data]; exact h))
      go_wp2
      go_ret
      exact ⟨ret_bool (by simp_all), HBW'.out⟩
theorem wsame_any (v1 v2 : Wv) (u1 u2 : Value) (w : World) (h1 : WvOk w v1 u1) (h2 : WvOk w v2 u2) :
    Calls Tryz.prog 66 #[.agg (wvs v1 u1), .agg (wvs v2 u2)] w fun e w' => e = .returned (.bool (sameW v1 v2)) ∧ Below w.heap.size w w' := wsameB_any v1 v2 u1 u2 w h1.big h2.big
theorem refWSame_any (v1 v2 : Wv) (u1 u2 : Value) (w : World) (h1 : WvOk w v1 u1) (h2 : WvOk w v2 u2) :
    Calls Tryz.prog 15 #[.agg (wvs v1 u1), .agg (wvs v2 u2)] w fun e w' => e = .returned (.bool (sameW v1 v2)) ∧ Below w.heap.size w w' := refWSameB_any v1 v2 u1 u2 w h1.big h2.big
end Go.Proofs.YtjfmgplhcinkfaaGreat
/- Chains of versions: plain mathematics. -/
namespace Go.Proofs.YtjfmgplhcinkfaaGreat
open Go.RowKit
set_option linter.unusedVariables false
set_option linter.unusedSimpArgs false

theorem rev_ind {α : Type} {P : List α → Prop} (h0 : P []) (h1 : ∀ l x, P l → P (l ++ [x])) (l : List α) : P l := by
  have key : ∀ r : List α, P r.reverse := by
    intro r
    induction r with
    | nil => exact h0
    | cons x r ih => rw [List.reverse_cons]; exact h1 _ _ ih
  have := key l.reverse
  rwa [List.reverse_reverse] at this

/-- How many there are up to the last one that p takes, and that one. -/
def upN (p : Vw → Bool) (l : List Vw) : Nat := l.length - l.reverse.findIdx p
/-- The last one that p takes. -/
def lastP (p : Vw → Bool) (l : List Vw) : Option Vw := (l.filter p).getLast?
section
variable {p K : Vw → Bool} {l : List Vw} {x y : Vw}
theorem upN_nil : upN p [] = 0 := rfl
theorem upN_yes (h : p x = true) : upN p (l ++ [x]) = l.length + 1 := by
  unfold upN
  rw [List.reverse_append]
  simp [List.findIdx_cons, h]
theorem upN_no (h : p x = false) : upN p (l ++ [x]) = upN p l := by
  unfold upN
  rw [List.reverse_append]
  simp [List.findIdx_cons, h]
theorem upN_le : upN p l ≤ l.length := by
  unfold upN
  omega
theorem upN_take_yes {q : Nat} (hq : q < l.length) (h : p l[q] = true) : upN p (l.take (q + 1)) = q + 1 := by
  rw [List.take_succ_eq_append_getElem hq, upN_yes h, List.length_take]
  omega
theorem upN_take_no {q : Nat} (hq : q < l.length) (h : p l[q] = false) : upN p (l.take (q + 1)) = upN p (l.take q) := by
  rw [List.take_succ_eq_append_getElem hq, upN_no h]
theorem lastP_yes (h : p x = true) : lastP p (l ++ [x]) = some x := by simp [lastP, List.filter_append, h]
theorem lastP_no (h : p x = false) : lastP p (l ++ [x]) = lastP p l := by simp [lastP, List.filter_append, h]
theorem take_upN : (l.take (upN p l)).getLast? = lastP p l := by
  induction l using rev_ind with
  | h0 => rfl
  | h1 l x ih =>
    cases h : p x with
    | true => rw [upN_yes h, lastP_yes h, List.take_of_length_le (by simp)]; simp
    | false => rw [upN_no h, lastP_no h, List.take_append_of_le_length upN_le, ih]
theorem drop_upN : ∀ b ∈ l.drop (upN p l), p b = false := by
  induction l using rev_ind with
  | h0 => simp
  | h1 l x ih =>
    cases h : p x with
    | true => rw [upN_yes h, List.drop_of_length_le (by simp)]; simp
    | false =>
      rw [upN_no h, List.drop_append_of_le_length upN_le]
      intro b hb
      rcases List.mem_append.1 hb with hb | hb
      · exact ih b hb
      · simp at hb
        rw [hb]
        exact h
theorem lastP_some (h : lastP p l = some y) : y ∈ l ∧ p y = true := by
  have := List.mem_of_getLast? h
  exact List.mem_filter.1 this
theorem lastP_none (h : lastP p l = none) : ∀ x ∈ l, p x = false := by
  unfold lastP at h
  rw [List.getLast?_eq_none_iff, List.filter_eq_nil_iff] at h
  intro x hx
  simpa using h x hx
theorem lastP_split (h : lastP p l = some y) : ∃ A B, l = A ++ y :: B ∧ p y = true ∧ ∀ b ∈ B, p b = false := by
  induction l using rev_ind with
  | h0 => simp [lastP] at h
  | h1 l x ih =>
    cases e : p x with
    | true =>
      rw [lastP_yes e] at h
      cases h
      exact ⟨l, [], rfl, e, by simp⟩
    | false =>
      rw [lastP_no e] at h
      obtain ⟨A, B, rfl, h1, h2⟩ := ih h
      refine ⟨A, B ++ [x], by simp, h1, fun b hb => ?_⟩
      rcases List.mem_append.1 hb with hb | hb
      · exact h2 b hb
      · simp at hb
        rw [hb]
        exact e
theorem lastP_of_split {A B : List Vw} (h : l = A ++ y :: B) (hy : p y = true) (hB : ∀ b ∈ B, p b = false) : lastP p l = some y := by
  subst h
  have : B.filter p = [] := List.filter_eq_nil_iff.2 (fun b hb => by simp [hB b hb])
  simp [lastP, List.filter_append, List.filter_cons, hy, this]
theorem getLast_filter (h : ∀ y, l.getLast? = some y → K y = true) : (l.filter K).getLast? = l.getLast? := by
  cases e : l.getLast? with
  | none =>
    rw [List.getLast?_eq_none_iff] at e
    subst e
    rfl
  | some y =>
    have hy := h y e
    obtain ⟨ys, rfl⟩ := List.getLast?_eq_some_iff.1 e
    simp [List.filter_append, hy]
theorem lastP_filter (h : ∀ y, lastP p l = some y → K y = true) : lastP p (l.filter K) = lastP p l := by
  unfold lastP at *
  rw [List.filter_filter]
  have : l.filter (fun a => p a && K a) = (l.filter p).filter K := by rw [List.filter_filter]; congr 1; funext a; exact Bool.and_comm _ _
  rw [this]
  exact getLast_filter h
end

/-- Not behind a stamp; of a stamp. -/
def notA (s : Int × Int) (x : Vw) : Bool := !Sm.less s x.1.st
def isS (s : Int × Int) (x : Vw) : Bool := decide (x.1.st = s)
/-- Is it the one? -/
def isW (o : Option Vw) (x : Vw) : Bool := match o with | none => false | some h => sameW x.1 h.1
/-- Is it kept? -/
def keepB (xs : List Vw) (s : Int × Int) (pins : List (Int × Int)) (x : Vw) : Bool :=
  isW xs.getLast? x || decide (x.1.st ∈ pins) || !Sm.less x.1.st s || isW (lastP (notA s) xs) x
def cleanL (xs : List Vw) (s : Int × Int) (pins : List (Int × Int)) : List Vw := xs.filter (keepB xs s pins)
theorem isW_self (x : Vw) : isW (some x) x = true := sameW_self x.1

theorem less_le {a b c : Int × Int} (h : Sm.less a b = false) (k : Sm.less a c = true) : Sm.less b c = true := by
  rw [Sm.less_false] at h
  rw [Sm.less_iff] at *
  omega
theorem less_asymm {a b : Int × Int} (h : Sm.less a b = true) : Sm.less b a = false := by
  rw [Sm.less_iff] at h
  rw [Sm.less_false]
  omega
theorem less_total {a b : Int × Int} (h : Sm.less a b = false) (hne : a ≠ b) : Sm.less b a = true := by
  rw [Sm.less_false] at h
  rw [Sm.less_iff]
  rcases h with h | ⟨h1, h2⟩
  · exact .inl h
  · refine .inr ⟨h1.symm, ?_⟩
    have : a.2 ≠ b.2 := fun e => hne (Sm.pair_ext h1 e)
    omega
section
variable {c : List Vw} {s : Int × Int} {pins : List (Int × Int)}
theorem clean_head : (cleanL c s pins).getLast? = c.getLast? :=
  getLast_filter fun y hy => by
    unfold keepB
    rw [hy, isW_self]
    rfl
theorem clean_at {q : Int × Int} (hq : q ∈ pins) : lastP (isS q) (cleanL c s pins) = lastP (isS q) c :=
  lastP_filter fun y hy => by
    have := (lastP_some hy).2
    simp [isS] at this
    unfold keepB
    simp [this, hq]
theorem clean_below {t : Int × Int} (ht : Sm.less t s = false) : lastP (notA t) (cleanL c s pins) = lastP (notA t) c :=
  lastP_filter fun y hy => by
    unfold keepB
    cases e : Sm.less y.1.st s with
    | false => simp
    | true =>
      obtain ⟨A, B, h1, h2, h3⟩ := lastP_split hy
      have : lastP (notA s) c = some y := lastP_of_split h1 (by unfold notA; rw [less_asymm e]; rfl) (fun b hb => by
        have := h3 b hb
        unfold notA at this ⊢
        simp at this ⊢
        exact less_le ht this)
      rw [this, isW_self]
      simp
theorem clean_keep : keepB (cleanL c s pins) s pins = keepB c s pins := by
  funext x
  unfold keepB
  rw [clean_head, clean_below (Sm.less_self s)]
theorem clean_again : cleanL (cleanL c s pins) s pins = cleanL c s pins := by
  show (cleanL c s pins).filter _ = _
  rw [clean_keep]
  unfold cleanL
  rw [List.filter_filter]
  congr 1
  funext x
  exact Bool.and_self _
theorem clean_len : (cleanL c s pins).length ≤ c.length := List.length_filter_le _ _
end

/-- What Check asks, one behind the other. -/
def chk1 : Option Vw → List Vw → Bool
  | _, [] => true
  | p, v :: r => okW v.1 && (match p with | none => true | some u => decide (u.1.key = v.1.key) && Sm.less u.1.st v.1.st) && chk1 (some v) r
/-- What the document's Check asks. -/
def chk2 (k : ByteArray) : Option Vw → List Vw → Bool
  | _, [] => true
  | p, v :: r => okW v.1 && decide (v.1.key = k) && (match p with | none => true | some u => Sm.less u.1.st v.1.st) && chk2 k (some v) r
theorem chk1_chk2 : ∀ (l : List Vw) (u : Vw), chk1 (some u) l = chk2 u.1.key (some u) l
  | [], u => rfl
  | v :: r, u => by
    unfold chk1 chk2
    by_cases h : u.1.key = v.1.key
    · rw [chk1_chk2 r v, h]
      cases okW v.1 <;> simp [h]
    · have h' : ¬ v.1.key = u.1.key := fun e => h e.symm
      simp [h, h']
def hdK (l : List Vw) : ByteArray := match l with | [] => ⟨#[]⟩ | x :: _ => x.1.key
theorem chk_same (l : List Vw) : chk1 none l = chk2 (hdK l) none l := by
  cases l with
  | nil => rfl
  | cons v r =>
    unfold chk1 chk2 hdK
    rw [chk1_chk2 r v]
    simp

def kA : ByteArray := ⟨#[97]⟩
abbrev riseW (xs : List Vw) : Prop := xs.Pairwise fun a b => Sm.less a.1.st b.1.st = true
/-- A chain of key a. -/
structure Chn (xs : List Vw) : Prop where
  ok : ∀ x ∈ xs, okW x.1 = true
  key : ∀ x ∈ xs, x.1.key = kA
  rise : riseW xs
theorem Chn.nil : Chn [] := ⟨by simp, by simp, List.Pairwise.nil⟩
theorem Chn.filter {xs : List Vw} (h : Chn xs) (K : Vw → Bool) : Chn (xs.filter K) :=
  ⟨fun x hx => h.ok x ((List.mem_filter.1 hx).1), fun x hx => h.key x ((List.mem_filter.1 hx).1), h.rise.filter K⟩
theorem chk1_chn : ∀ (l : List Vw) (u : Vw), (∀ x ∈ l, okW x.1 = true) → (∀ x ∈ l, x.1.key = kA) → u.1.key = kA → riseW (u :: l) → chk1 (some u) l = true
  | [], u, _, _, _, _ => rfl
  | v :: r, u, h1, h2, h3, h4 => by
    rw [riseW, List.pairwise_cons] at h4
    unfold chk1
    rw [h1 v (by simp), chk1_chn r v (fun x hx => h1 x (by simp [hx])) (fun x hx => h2 x (by simp [hx])) (h2 v (by simp)) h4.2]
    simp [h4.1 v (by simp), h3, h2 v (by simp)]
theorem Chn.chk {xs : List Vw} (h : Chn xs) : chk1 none xs = true := by
  cases xs with
  | nil => rfl
  | cons v r =>
    unfold chk1
    rw [h.ok v (by simp), chk1_chn r v (fun x hx => h.ok x (by simp [hx])) (fun x hx => h.key x (by simp [hx])) (h.key v (by simp)) h.rise]
    simp
/-- One put between. -/
theorem Chn.mid {A B : List Vw} {x : Vw} (h : Chn (A ++ B)) (hx : okW x.1 = true) (hk : x.1.key = kA) (hA : ∀ a ∈ A, Sm.less a.1.st x.1.st = true) (hB : ∀ b ∈ B, Sm.less x.1.st b.1.st = true) : Chn (A ++ x :: B) := by
  have hr := h.rise
  rw [riseW, List.pairwise_append] at hr
  refine ⟨fun y hy => ?_, fun y hy => ?_, ?_⟩
  · rw [List.mem_append, List.mem_cons] at hy
    rcases hy with hy | rfl | hy
    · exact h.ok y (by simp [hy])
    · exact hx
    · exact h.ok y (by simp [hy])
  · rw [List.mem_append, List.mem_cons] at hy
    rcases hy with hy | rfl | hy
    · exact h.key y (by simp [hy])
    · exact hk
    · exact h.key y (by simp [hy])
  · rw [riseW, List.pairwise_append, List.pairwise_cons]
    refine ⟨hr.1, ⟨hB, hr.2.1⟩, fun a ha b hb => ?_⟩
    rcases List.mem_cons.1 hb with rfl | hb
    · exact hA a ha
    · exact hr.2.2 a ha b hb

/-- What Put makes of a row. -/
def fitK (xs : List Vw) (x : Vw) : Bool := match xs with | [] => true | y :: _ => decide (y.1.key = x.1.key)
def putOk (xs : List Vw) (x : Vw) : Bool := !(lastP (isS x.1.st) xs).isSome && okW x.1 && fitK xs x
def midC (xs : List Vw) (x : Vw) : List Vw := xs.take (upN (notA x.1.st) xs) ++ x :: xs.drop (upN (notA x.1.st) xs)
def putC (xs : List Vw) (x : Vw) : List Vw := if putOk xs x = true then midC xs x else xs
/-- What the document's Put makes of it. -/
def gtW (x y : Vw) : Bool := Sm.less x.1.st y.1.st
def insB (x : Vw) (l : List Vw) : List Vw := l.takeWhile (fun y => !gtW x y) ++ x :: l.dropWhile (fun y => !gtW x y)
def putOkR (xs : List Vw) (x : Vw) : Bool := okW x.1 && fitK xs x && !xs.any (isS x.1.st)
def putR (xs : List Vw) (x : Vw) : List Vw := if putOkR xs x = true then insB x xs else xs
/-- The row that the document's Put has made out of the first ones. -/
def outR (x : Vw) (l : List Vw) : List Vw := if l.any (gtW x) = true then insB x l else l
theorem insB_any {x y : Vw} {l : List Vw} (h : l.any (gtW x) = true) : insB x (l ++ [y]) = insB x l ++ [y] := by
  unfold insB
  obtain ⟨z, hz, hg⟩ := List.any_eq_true.1 h
  have hne : ¬ ∀ a ∈ l, (fun y => !gtW x y) a = true := fun k => by have := k z hz; simp [hg] at this
  have h1 : (l ++ [y]).takeWhile (fun y => !gtW x y) = l.takeWhile (fun y => !gtW x y) := by
    clear h hz
    induction l with
    | nil => exact absurd (by simp) hne
    | cons a l ih =>
      by_cases e : gtW x a = true
      · simp [List.takeWhile_cons, e]
      · have e' : gtW x a = false := by simpa using e
        simp [List.takeWhile_cons, e']
        refine ih (fun k => hne (fun b hb => ?_))
        rcases List.mem_cons.1 hb with rfl | hb
        · simp [e']
        · exact k b hb
  have h2 : (l ++ [y]).dropWhile (fun y => !gtW x y) = l.dropWhile (fun y => !gtW x y) ++ [y] := by
    clear h hz h1
    induction l with
    | nil => exact absurd (by simp) hne
    | cons a l ih =>
      by_cases e : gtW x a = true
      · simp [List.dropWhile_cons, e]
      · have e' : gtW x a = false := by simpa using e
        simp [List.dropWhile_cons, e']
        refine ih (fun k => hne (fun b hb => ?_))
        rcases List.mem_cons.1 hb with rfl | hb
        · simp [e']
        · exact k b hb
  rw [h1, h2]
  simp
theorem insB_none {x : Vw} {l : List Vw} (h : l.any (gtW x) = false) : insB x l = l ++ [x] := by
  unfold insB
  have hall : ∀ a ∈ l, (fun y => !gtW x y) a = true := fun a ha => by
    have := List.any_eq_false.1 h a ha
    simp at this
    simp [this]
  have h1 := List.takeWhile_append_of_pos (l₂ := []) hall
  have h2 := List.dropWhile_append_of_pos (l₂ := []) hall
  rw [List.append_nil] at h1 h2
  rw [h1, h2]
  simp
theorem outR_nil (x : Vw) : outR x [] = [] := rfl
/-- One round: the put one, if it is its turn, then the row's own. -/
theorem outR_any {x y : Vw} {l : List Vw} (h : l.any (gtW x) = true) : outR x (l ++ [y]) = outR x l ++ [y] := by
  unfold outR
  rw [List.any_append, h, if_pos rfl, Bool.true_or, if_pos rfl, insB_any h]
theorem outR_now {x y : Vw} {l : List Vw} (h : l.any (gtW x) = false) (hy : gtW x y = true) : outR x (l ++ [y]) = outR x l ++ [x] ++ [y] := by
  unfold outR
  rw [List.any_append, h]
  simp [hy, insB]
  have hall : ∀ a ∈ l, (fun y => !gtW x y) a = true := fun a ha => by
    have := List.any_eq_false.1 h a ha
    simp at this
    simp [this]
  rw [List.takeWhile_append_of_pos hall, List.dropWhile_append_of_pos hall]
  simp [List.takeWhile_cons, List.dropWhile_cons, hy]
theorem outR_not {x y : Vw} {l : List Vw} (h : l.any (gtW x) = false) (hy : gtW x y = false) : outR x (l ++ [y]) = outR x l ++ [y] := by
  unfold outR
  rw [List.any_append, h]
  simp [hy]
theorem outR_end {x : Vw} {l : List Vw} : insB x l = if l.any (gtW x) = true then outR x l else outR x l ++ [x] := by
  unfold outR
  cases h : l.any (gtW x) with
  | true => simp
  | false => simp [insB_none h]
end Go.Proofs.YtjfmgplhcinkfaaGreat
