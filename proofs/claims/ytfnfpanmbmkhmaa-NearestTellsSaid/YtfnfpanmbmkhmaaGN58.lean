/- Texts of this proof, one behind the other: Gen, MapF, MapD, NearV, PastSame. -/
import Derived.Test.YtfnfpanmbmkhmaaGN57
import Derived.Maps.OwnSet
import Derived.Maps.OwnOps
import Derived.Maps.Views
import Derived.DeepKeys4
import Derived.StringKeys
import Derived.Lib.Hide
import Derived.Deep.QuietTactic
import Derived.BigQuiet
/- Rows of elements of whatever kind that a call makes: read, appended to. -/
namespace Go.Proofs.Ytfnfpanmbmkhmaa
open Go.RowKit
set_option linter.unusedVariables false

/-- A kind of row: the numbers of the element's type and of the slice's, cells and bytes of an element, its zero value, how an element lies. -/
structure RK (α : Type) where
  T : TypeId
  S : TypeId
  sz : Nat
  bt : Nat
  z : Value
  enc : α → List Value
structure RK.Ok {α : Type} (K : RK α) : Prop where
  len : ∀ x, (K.enc x).length = K.sz
  pos : 0 < K.sz
  one : ∀ x, ∀ u ∈ K.enc x, u.oneCell' = true
  und : Try.prog.underlying K.S = some (.slice K.T)
  inf : (Try.prog.info? K.T).map (fun i => (i.zero, i.size, i.bytes)) = some (some K.z, K.sz, K.bt)
  zc : K.z.cells.size = K.sz
  bb : K.bt ≤ 1000
section
variable {α : Type} {K : RK α}
def rV (K : RK α) (l : List α) : List Value := l.flatMap K.enc
theorem rV_nil : rV K [] = [] := rfl
theorem rV_snoc (l : List α) (x : α) : rV K (l ++ [x]) = rV K l ++ K.enc x := by simp [rV]
theorem rV_len (hK : K.Ok) (l : List α) : (rV K l).length = l.length * K.sz := by
  unfold rV
  induction l with
  | nil => simp
  | cons x l ih => rw [List.flatMap_cons, List.length_append, ih, hK.len, List.length_cons, Nat.succ_mul, Nat.add_comm]
theorem rV_get (hK : K.Ok) (l : List α) : ∀ (i : Nat) (h : i < l.length) (j : Nat), j < K.sz → (rV K l)[i * K.sz + j]? = (K.enc l[i])[j]? := by
  induction l with
  | nil => intro i h; simp at h
  | cons x l ih =>
    intro i h j hj
    have e : rV K (x :: l) = K.enc x ++ rV K l := by simp [rV]
    rw [e]
    cases i with
    | zero =>
      rw [List.getElem?_append_left (by rw [hK.len]; omega)]
      simp
    | succ i =>
      have e1 : (i + 1) * K.sz + j = K.sz + (i * K.sz + j) := by rw [Nat.succ_mul]; omega
      rw [List.getElem?_append_right (by rw [hK.len, e1]; omega), hK.len, e1, Nat.add_sub_cancel_left]
      exact ih i (by simpa using h) j hj
/-- A row of the call's own. -/
abbrev OwnR (K : RK α) (w : World) (base : Nat) (v : Value) (l : List α) : Prop := w.ownsRow base K.T K.sz v l.length (rV K l)
theorem OwnR.nil (K : RK α) (w : World) (base : Nat) : OwnR K w base (.slice none 0 0) [] := ⟨by simp [rV], .inl ⟨rfl, rfl⟩⟩
theorem OwnR.block {w w' : World} {base : Nat} {v : Value} {l : List α} (h : OwnR K w base v l) (hb : ∀ g, v.ownBlock = some g → w'.heap[g]? = w.heap[g]?) : OwnR K w' base v l := by
  refine ⟨h.1, ?_⟩
  rcases h.2 with h0 | ⟨g, cap, cur, rfl, hbg, hg, r⟩
  · exact .inl h0
  · exact .inr ⟨g, cap, cur, rfl, hbg, (hb g rfl).trans hg, r⟩
theorem OwnR.below {w w' : World} {base : Nat} {v : Value} {l : List α} (h : OwnR K w base v l) (hb : Below w.heap.size w w') : OwnR K w' base v l :=
  h.block (fun g e => hb.5 g (h.lt g e).2)
theorem OwnR.mono {w : World} {base base' : Nat} {v : Value} {l : List α} (h : OwnR K w base v l) (hb : base' ≤ base) : OwnR K w base' v l := by
  refine ⟨h.1, ?_⟩
  rcases h.2 with h0 | ⟨g, cap, cur, rfl, hbg, r⟩
  · exact .inl h0
  · exact .inr ⟨g, cap, cur, rfl, by omega, r⟩
theorem OwnR.shape {w : World} {base : Nat} {v : Value} {l : List α} (h : OwnR K w base v l) : ∃ a c, v = .slice a l.length c := by
  rcases h.2 with ⟨rfl, h0⟩ | ⟨g, cap, cur, rfl, _⟩
  · exact ⟨none, 0, by rw [h0]⟩
  · exact ⟨_, _, rfl⟩
theorem OwnR.len {w : World} {base : Nat} {a : Option Addr} {n c : Nat} {l : List α} (h : OwnR K w base (.slice a n c) l) : n = l.length := by
  obtain ⟨_, _, e⟩ := h.shape
  cases e
  rfl
theorem OwnR.lt' {w : World} {base : Nat} {v : Value} {l : List α} (h : OwnR K w base v l) {k : Nat} (hk : w.heap.size ≤ k) : v.ownBlock ≠ some k := fun e => by have := (h.lt k e).2; omega
theorem OwnR.lo {w : World} {base : Nat} {v : Value} {l : List α} (h : OwnR K w base v l) {k : Nat} (hk : k < base) : v.ownBlock ≠ some k := fun e => by have := (h.lt k e).1; omega
/-- What is read of it. -/
theorem OwnR.cell (hK : K.Ok) {w : World} {base : Nat} {v : Value} {l : List α} (h : OwnR K w base v l) (i : Nat) (hi : i < l.length) :
    ∃ g cap, v = .slice (some ⟨g, 0, none⟩) l.length cap ∧ l.length ≤ cap ∧ cap ≤ maxLen ∧ base ≤ g ∧ g < w.heap.size ∧ ∀ j u, (K.enc l[i])[j]? = some u → w.cell? ⟨g, 0 + i * K.sz + j, none⟩ = some u := by
  rcases h.2 with ⟨rfl, h0⟩ | ⟨g, cap, cur, rfl, hb, hg, hn, hm, hs, ht⟩
  · omega
  · refine ⟨g, cap, rfl, hn, hm, hb, (Array.getElem?_eq_some_iff.1 hg).1, fun j u hu => ?_⟩
    have hj : j < K.sz := by rw [← hK.len l[i]]; exact (List.getElem?_eq_some_iff.1 hu).1
    have hk := rV_get hK l i hi j hj
    rw [hu, ← ht, List.getElem?_take, if_pos (by
      have h1 : (i + 1) * K.sz ≤ l.length * K.sz := Nat.mul_le_mul_right _ hi
      rw [Nat.succ_mul] at h1
      omega), Array.getElem?_toList] at hk
    rw [Nat.zero_add]
    simp [World.cell?, hg, hk]
theorem OwnR.caps {w : World} {base : Nat} {a : Option Addr} {n cap : Nat} {l : List α} (h : OwnR K w base (.slice a n cap) l) : n ≤ cap ∧ cap ≤ maxLen ∧ (a = none → cap = 0) := by
  rcases h.2 with ⟨e, h0⟩ | ⟨g, cap', cur, e, hb, hg, hn, hm, hs, ht⟩
  · cases e
    exact ⟨by omega, by unfold maxLen; omega, fun _ => rfl⟩
  · cases e
    exact ⟨hn, hm, by simp⟩
/-- One element appended. -/
theorem wp_pushR (hK : K.Ok) {ops : Array Oper} {rest : List Oper} {o : Oper} {a : Act} {Q : Exit → Act → World → Prop} {wr : World} (hgd : o.guard = none) (s x : Operand)
    (hop : o.op = .call { callee := .builtin .append, args := #[s, x], argTypes := #[K.S, K.S] })
    (base : Nat) (v : Value) (l : List α) (y : α) (cs : Array Value) (hcs : cs.toList = K.enc y) (hs : a.eval s = v) (hown : OwnR K wr base v l) (hx : a.eval x = .slice (some ⟨wr.heap.size, 0, none⟩) 1 1) (hl : l.length ≤ 1000000) (hbs : base ≤ wr.heap.size)
    (h : ∀ g cap w', OwnR K w' base (.slice (some ⟨g, 0, none⟩) (l.length + 1) cap) (l ++ [y]) → Below base wr w' → KeptD v wr w' → (v.ownBlock = some g ∨ wr.heap.size ≤ g) → g < w'.heap.size → wpList Try.prog ops Q rest (a.put o.dst (.slice (some ⟨g, 0, none⟩) (l.length + 1) cap)) w') :
    wpList Try.prog ops Q (o :: rest) a (wr.alloc (.cells cs K.T)) := by
  obtain ⟨i0, hi, hz0, hz1, hz2⟩ := info_parts hK.inf
  have hbb := hK.bb
  refine wpList_append_lies _ hgd s x K.S hop base K.T i0 _ K.sz K.bt hK.und hi hz0 hz1 hz2 hK.zc hK.pos v l.length (rV K l) hs (hown.alloc _) ⟨wr.heap.size, 0, none⟩ 1 1 (K.enc y) hx (by rw [hK.len, Nat.one_mul])
    (fun j u hu => World.news_of_block (cs := cs) (t := K.T) (fr := (0, 0)) (heap_alloc_new wr _) j u (by rw [hcs]; exact hu)) (hK.one y) (by omega) (by unfold maxLen; omega) (Nat.le_trans (Nat.mul_le_mul (show l.length + 1 ≤ 1000001 by omega) hbb) (by decide)) (by simp; omega) (wr.heap.size + 1) (by simp) ?_
  intro g cap w' ho hg hat hlt
  refine h g cap w' (by unfold OwnR; rw [rV_snoc]; simpa using ho) (((Below.refl base wr).alloc hbs _).grown hg (by simp; omega) (fun k hk => (hown.lt k hk).1)) (fun j hj hne => ?_) (by rcases hat with h1 | h1; exact .inl h1; exact .inr (by omega)) hlt
  rw [hg.block j (by simp; omega) (fun e => hne e.symm)]
  exact Below.heap_alloc _ _ _ hj
/-- The same, as the run of the operation. -/
theorem run_pushR (hK : K.Ok) {wr : World} (ty : TypeId) (base : Nat) (v : Value) (l : List α) (y : α) (cs : Array Value) (hcs : cs.toList = K.enc y) (hown : OwnR K wr base v l) (hl : l.length ≤ 1000000) (hbs : base ≤ wr.heap.size) :
    ∃ g cap w', (Builtin.append_ #[K.S, K.S] ty #[v, .slice (some ⟨wr.heap.size, 0, none⟩) 1 1]).run Try.prog (wr.alloc (.cells cs K.T)) = .ok (.slice (some ⟨g, 0, none⟩) (l.length + 1) cap) w' ∧ OwnR K w' base (.slice (some ⟨g, 0, none⟩) (l.length + 1) cap) (l ++ [y]) ∧ Below base wr w' ∧ KeptD v wr w' ∧ (v.ownBlock = some g ∨ wr.heap.size ≤ g) ∧ g < w'.heap.size := by
  obtain ⟨i0, hi, hz0, hz1, hz2⟩ := info_parts hK.inf
  have hbb := hK.bb
  obtain ⟨g, cap, w', hrun, ho, hg, hat, hlt⟩ := run_append_lies (wr.alloc (.cells cs K.T)) K.S ty base K.T i0 _ K.sz K.bt hK.und hi hz0 hz1 hz2 hK.zc hK.pos v l.length (rV K l) (hown.alloc _) ⟨wr.heap.size, 0, none⟩ 1 1 (K.enc y) (by rw [hK.len, Nat.one_mul])
    (fun j u hu => World.news_of_block (cs := cs) (t := K.T) (fr := (0, 0)) (heap_alloc_new wr _) j u (by rw [hcs]; exact hu)) (hK.one y) (by omega) (by unfold maxLen; omega) (Nat.le_trans (Nat.mul_le_mul (show l.length + 1 ≤ 1000001 by omega) hbb) (by decide)) (by simp; omega) (wr.heap.size + 1) (by simp)
  refine ⟨g, cap, w', hrun, by unfold OwnR; rw [rV_snoc]; simpa using ho, ((Below.refl base wr).alloc hbs _).grown hg (by simp; omega) (fun k hk => (hown.lt k hk).1), fun j hj hne => ?_, by rcases hat with h1 | h1; exact .inl h1; exact .inr (by omega), hlt⟩
  rw [hg.block j (by simp; omega) (fun e => hne e.symm)]
  exact Below.heap_alloc _ _ _ hj
end

/-- A row of elements read in memory. -/
def RowIn {α : Type} (K : RK α) (w : World) (a : Option Addr) (l : List α) : Prop :=
  ∀ i (h : i < l.length), ∃ b off, a = some ⟨b, off, none⟩ ∧ b < w.heap.size ∧ ∀ j u, (K.enc l[i])[j]? = some u → w.cell? ⟨b, off + i * K.sz + j, none⟩ = some u
theorem RowIn.below {α : Type} {K : RK α} {w w' : World} {a : Option Addr} {l : List α} (h : RowIn K w a l) (hb : Below w.heap.size w w') : RowIn K w' a l := by
  intro i hi
  obtain ⟨b, off, rfl, hlt, hc⟩ := h i hi
  exact ⟨b, off, rfl, by have := hb.size; omega, fun j u hu => kcell hb hlt (hc j u hu)⟩
theorem RowIn.of_own {α : Type} {K : RK α} (hK : K.Ok) {w : World} {base : Nat} {a : Option Addr} {n c : Nat} {l : List α} (h : OwnR K w base (.slice a n c) l) : RowIn K w a l := by
  intro i hi
  obtain ⟨g, cap, e, _, _, _, hlt, hc⟩ := h.cell hK i hi
  cases e
  exact ⟨g, 0, rfl, hlt, hc⟩
/-- A slice that reads as these elements. -/
def RowAt {α : Type} (K : RK α) (w : World) (v : Value) (l : List α) : Prop := ∃ a cap, v = .slice a l.length cap ∧ l.length ≤ cap ∧ cap ≤ maxLen ∧ (a = none → cap = 0) ∧ RowIn K w a l
theorem RowAt.below {α : Type} {K : RK α} {w w' : World} {v : Value} {l : List α} (h : RowAt K w v l) (hb : Below w.heap.size w w') : RowAt K w' v l := by
  obtain ⟨a, cap, rfl, h1, h2, h3, hr⟩ := h
  exact ⟨a, cap, rfl, h1, h2, h3, hr.below hb⟩
theorem RowAt.of_own {α : Type} {K : RK α} (hK : K.Ok) {w : World} {base : Nat} {v : Value} {l : List α} (h : OwnR K w base v l) : RowAt K w v l := by
  obtain ⟨a, c, rfl⟩ := h.shape
  obtain ⟨h1, h2, h3⟩ := h.caps
  exact ⟨a, c, rfl, h1, h2, h3, RowIn.of_own hK h⟩
end Go.Proofs.Ytfnfpanmbmkhmaa
/- Maps of the call's own, as functions of their keys: keys of whatever type, elements of whatever type. -/
namespace Go.Proofs.Ytfnfpanmbmkhmaa
open Go.RowKit Go.Maps
set_option linter.unusedVariables false
set_option linter.unusedSimpArgs false

/-- An element reads as itself. -/
def hvR (v : Value) : Option (DataW Value × List MemPlace) := some (.held v, [])
/-- Block b is a map of n entries with keys of type k; f: what lies at each key. -/
def MapF (w : World) (k : TypeId) (b n : Nat) (f : Lit → Option Value) : Prop :=
  ∃ D, w.ownsMap Try.prog k hvR b n D ∧ Maps.size D = n ∧ ∀ l, WideAt.IsKeyLit l → Maps.has D l = (f l).isSome ∧ ∀ z, D.atKey l (.held z) = .held ((f l).getD z)
theorem MapF.made (w : World) (k : TypeId) : MapF (w.alloc (.map #[] 0)) k w.heap.size 0 (fun _ => none) :=
  ⟨.map [], World.ownsMap_made w Try.prog k hvR, rfl, fun l _ => ⟨rfl, fun z => rfl⟩⟩
theorem MapF.lt {w : World} {k : TypeId} {b n : Nat} {f : Lit → Option Value} (h : MapF w k b n f) : b < w.heap.size := by
  obtain ⟨D, ho, _⟩ := h
  exact ho.lt
theorem MapF.block {w w' : World} {k : TypeId} {b n : Nat} {f : Lit → Option Value} (h : MapF w k b n f) (hb : w'.heap[b]? = w.heap[b]?) : MapF w' k b n f := by
  obtain ⟨D, ⟨es, clock, h1, h2⟩, h3⟩ := h
  exact ⟨D, ⟨es, clock, hb.trans h1, h2⟩, h3⟩
theorem MapF.below {w w' : World} {k : TypeId} {b n : Nat} {f : Lit → Option Value} (h : MapF w k b n f) (hb : Below w.heap.size w w') : MapF w' k b n f := h.block (hb.block b h.lt)
theorem MapF.map {w : World} {k : TypeId} {b n : Nat} {f : Lit → Option Value} (h : MapF w k b n f) : ∃ es clock, w.heap[b]? = some (.map es clock) := by
  obtain ⟨D, ⟨es, clock, h1, h2⟩, h3⟩ := h
  exact ⟨es, clock, h1⟩
section
variable {w : World} {k t e : TypeId} {b n : Nat} {f : Lit → Option Value}
theorem MapF.look (h : MapF w k b n f) (K : Keyed Try.prog k) (ht : Try.prog.underlying t = some (.map k e)) {z : Value} (hz : (zeroValue e).run Try.prog w = .ok z w) {key : Value} {kl : Lit} (hkey : keyOf Try.prog k key = some kl) :
    (Instr.lookup t (.map (some b)) key false).run Try.prog w = .ok ((f kl).getD z) w := by
  obtain ⟨D, ho, hn, hf⟩ := h
  obtain ⟨v, ps, hrun, hv⟩ := ho.lookup K ht hz (zd := .held z) (zp := []) rfl hkey
  rw [(hf kl (K.key hkey)).2 z] at hv
  unfold hvR at hv
  simp at hv
  rw [hrun, hv.1]
theorem MapF.lookOk (h : MapF w k b n f) (K : Keyed Try.prog k) (ht : Try.prog.underlying t = some (.map k e)) {z : Value} (hz : (zeroValue e).run Try.prog w = .ok z w) {key : Value} {kl : Lit} (hkey : keyOf Try.prog k key = some kl) :
    (Instr.lookup t (.map (some b)) key true).run Try.prog w = .ok (.tuple #[(f kl).getD z, .bool (f kl).isSome]) w := by
  obtain ⟨D, ho, hn, hf⟩ := h
  obtain ⟨v, ps, hrun, hv⟩ := ho.look_ok K ht hz (zd := .held z) (zp := []) rfl hkey
  rw [(hf kl (K.key hkey)).2 z] at hv
  unfold hvR at hv
  simp at hv
  rw [hrun, hv.1, (hf kl (K.key hkey)).1]
theorem MapF.len (h : MapF w k b n f) (ht : Try.prog.underlying t = some (.map k e)) (ty : TypeId) : (Builtin.len_ #[t] ty #[.map (some b)]).run Try.prog w = .ok (.int .i64 n) w := by
  obtain ⟨D, ho, hn, hf⟩ := h
  rw [ho.len ht ty, hn]
/-- What a store makes of it. -/
def SetF (f : Lit → Option Value) (kl : Lit) (v : Value) (f' : Lit → Option Value) : Prop := f' kl = some v ∧ ∀ l, l ≠ kl → f' l = f l
theorem MapF.store (h : MapF w k b n f) (K : Keyed Try.prog k) (ht : Try.prog.underlying t = some (.map k e)) (hn : n < maxLen) {key val : Value} {kl : Lit} (hkey : keyOf Try.prog k key = some kl) :
    ∃ w', (Instr.mapUpdate t (.map (some b)) key val).run Try.prog w = .ok () w' ∧ (∃ f', MapF w' k b (if (f kl).isSome then n else n + 1) f' ∧ SetF f kl val f') ∧ w.mapTurned w' b := by
  obtain ⟨D, ho, hsz, hf⟩ := h
  obtain ⟨w', hrun, ho', ht'⟩ := ho.store (d := .held val) (ps := []) K ht hn hkey rfl
  have hmap := ho.isMap
  have hk := K.key hkey
  have hsz2 : Maps.size (D.put kl (.held val)) = if (f kl).isSome then n else n + 1 := by
    have h1 := Maps.size_put (k := kl) (ho.tidy K) (.held val)
    rw [h1, hsz, (hf kl hk).1]
  have hex : ∃ f' : Lit → Option Value, SetF f kl val f' := by
    classical exact ⟨fun l => if l = kl then some val else f l, by simp, fun l hl => by simp [hl]⟩
  obtain ⟨f', hs1, hs2⟩ := hex
  refine ⟨w', hrun, ⟨f', ⟨D.put kl (.held val), ?_, hsz2, fun l hl => ?_⟩, hs1, hs2⟩, ht'⟩
  · obtain ⟨es, clock, g1, g2, g3, g4⟩ := ho'
    refine ⟨es, clock, g1, g2, ?_, g4⟩
    have : Maps.size (D.put kl (.held val)) = es.size := by rw [g4]; simp [Maps.size, length_sorted]
    omega
  · by_cases e : l = kl
    · subst e
      rw [hs1]
      exact ⟨Maps.has_put_same hmap hl _, fun z => Maps.atKey_put_same hmap hl _ _⟩
    · rw [hs2 l e]
      exact ⟨(Maps.has_put_other e _).trans (hf l hl).1, fun z => (Maps.atKey_put_other e _ _).trans ((hf l hl).2 z)⟩
end
set_option maxRecDepth 100000 in
/-- The store at the operation. -/
theorem wp_mapSet {w : World} {k t e : TypeId} {b n : Nat} {f : Lit → Option Value} {ops : Array Oper} {rest : List Oper} {o : Oper} {a : Act} {Q : Exit → Act → World → Prop}
    (hg : o.guard = none) (m x v : Operand) (hop : o.op = Op.mapUpdate t m x v) (K : Keyed Try.prog k) (ht : Try.prog.underlying t = some (.map k e)) (hm : a.eval m = .map (some b)) (hown : MapF w k b n f) (hn : n < maxLen)
    (key val : Value) (kl : Lit) (hx : a.eval x = key) (hv : a.eval v = val) (hkey : keyOf Try.prog k key = some kl)
    (hK : ∀ w' f', MapF w' k b (if (f kl).isSome then n else n + 1) f' → SetF f kl val f' → w.mapTurned w' b → wpList Try.prog ops Q rest (a.put o.dst undef) w') :
    wpList Try.prog ops Q (o :: rest) a w := by
  refine wpList_plain hg fun K' hK' => ?_
  obtain ⟨w', hrun, ⟨f', r1, r3⟩, r2⟩ := hown.store (val := val) K ht hn hkey
  unfold Oper.wp
  simp [execOp, hop, hm, hx, hv, hrun, Result.andThen]
  exact hK' _ _ (hK w' f' r1 r3 r2)
/-- What a store into a map leaves as it was. -/
theorem turned_block {w w' : World} {b : Nat} (h : w.mapTurned w' b) (k : Nat) (hk : k ≠ b) : w'.heap[k]? = w.heap[k]? := by
  obtain ⟨es, clock, es', clock', h1, rfl⟩ := h
  exact ChangeMaps.heap_setBlock_other h1 _ hk
theorem turned_size {w w' : World} {b : Nat} (h : w.mapTurned w' b) : w'.heap.size = w.heap.size := by
  obtain ⟨es, clock, es', clock', h1, rfl⟩ := h
  simp [ChangeMaps.setBlock]
theorem turned_below {w w' : World} {b base : Nat} (h : w.mapTurned w' b) (hb : base ≤ b) (hs : base ≤ w.heap.size) : Below base w w' :=
  (Below.refl base w).grown h.grown hs (fun k e => by cases e; exact hb)

/-! Keys that are dependencies. -/
/-- A dependency that can be a key: no text is longer, no number greater, than a machine's. -/
def KeyD (d : De) : Prop := d.1.size ≤ maxLen ∧ In64 d.2
def kD (d : De) : Lit := .string (keyBytes [.string d.1.data.toList, .int .i64 d.2.1, .int .i64 d.2.2])
theorem keyed_dep : Keyed Try.prog 26 :=
  Keyed.of_law (deep_law_laid (by kernel_rfl) (m := 3) (by omega) (of_decide_eq_true (by kernel_rfl)) (by kernel_rfl) (by rw [Try.underlying26]))
theorem wf_i64 {n : Int} (h : -9223372036854775808 ≤ n ∧ n ≤ 9223372036854775807) : (Lit.int .i64 n).wf = true := by
  simp only [Lit.wf, Bool.and_eq_true, decide_eq_true_eq]
  exact h
theorem lits_dep (m : Nat) (x : ByteArray) (y z : Int) (h1 : x.size ≤ maxLen) (w1 : (Lit.int .i64 y).wf = true) (w2 : (Lit.int .i64 z).wf = true) :
    Try.prog.keyLits (m + 3) 26 [.string x, .int .i64 y, .int .i64 z] = some [.string x.data.toList, .int .i64 y, .int .i64 z] := by
  have c1 : Try.prog.cellsOf 26 = 3 := by kernel_rfl
  have c2 : Try.prog.cellsOf 24 = 2 := by kernel_rfl
  have c3 : Try.prog.cellsOf 9 = 1 := by kernel_rfl
  have c4 : Try.prog.cellsOf 3 = 1 := by kernel_rfl
  simp [Program.keyLits, Try.underlying26, Try.underlying24, Try.underlying9, Try.underlying3, c1, c2, c3, c4, h1, w1, w2]
  rw [if_pos (by intro i hi; rcases (show i = 0 ∨ i = 1 by omega) with rfl | rfl <;> simp)]
  rfl
theorem key_dep {d : De} (h : KeyD d) : keyOf Try.prog 26 (dv d) = some (kD d) := by
  obtain ⟨x, y, z⟩ := d
  obtain ⟨h1, h2, h3⟩ := h
  have hk : Try.prog.keyType 26 = true := by kernel_rfl
  have hf : (dv (x, y, z)).formed Try.prog 26 = true := by
    have hc : Try.prog.cellsOf 26 = 3 := by kernel_rfl
    simp [dv, Value.formed, Try.underlying26, hc]
  have w1 := wf_i64 h2
  have w2 := wf_i64 h3
  have hl := lits_dep (Try.prog.types.size - 2) x y z h1 w1 w2
  rw [show Try.prog.types.size - 2 + 3 = Try.prog.types.size + 1 by have : 2 ≤ Try.prog.types.size := of_decide_eq_true (by kernel_rfl); omega] at hl
  have hc : (dv (x, y, z)).cells.toList = [.string x, .int .i64 y, .int .i64 z] := rfl
  simp only [keyOf, Try.underlying26, hk, hf, hc, hl]
  rfl
theorem kD_inj {d d' : De} (h : KeyD d) (h' : KeyD d') (e : kD d = kD d') : d = d' := by
  have h1 := key_dep h
  have h2 := key_dep h'
  rw [← e] at h2
  have := keyed_dep.inj h1 h2
  obtain ⟨x, y, z⟩ := d
  obtain ⟨x', y', z'⟩ := d'
  simp [dv] at this
  simp [this]
end Go.Proofs.Ytfnfpanmbmkhmaa
/- Maps whose keys are dependencies, or texts. -/
namespace Go.Proofs.Ytfnfpanmbmkhmaa
open Go.RowKit Go.Maps
set_option linter.unusedVariables false
set_option linter.unusedSimpArgs false

/-- Block b is a map of n entries; g: what lies at each dependency. -/
def MapD (w : World) (b n : Nat) (g : De → Option Value) : Prop := ∃ f, MapF w 26 b n f ∧ ∀ d, KeyD d → f (kD d) = g d
theorem MapD.made (w : World) : MapD (w.alloc (.map #[] 0)) w.heap.size 0 (fun _ => none) := ⟨_, MapF.made w _, fun d _ => rfl⟩
theorem MapD.lt {w : World} {b n : Nat} {g : De → Option Value} (h : MapD w b n g) : b < w.heap.size := by
  obtain ⟨f, h1, _⟩ := h
  exact h1.lt
theorem MapD.block {w w' : World} {b n : Nat} {g : De → Option Value} (h : MapD w b n g) (hb : w'.heap[b]? = w.heap[b]?) : MapD w' b n g := by
  obtain ⟨f, h1, h2⟩ := h
  exact ⟨f, h1.block hb, h2⟩
theorem MapD.below {w w' : World} {b n : Nat} {g : De → Option Value} (h : MapD w b n g) (hb : Below w.heap.size w w') : MapD w' b n g := h.block (hb.block b h.lt)
theorem MapD.congr {w : World} {b n : Nat} {g g' : De → Option Value} (h : MapD w b n g) (e : ∀ d, KeyD d → g d = g' d) : MapD w b n g' := by
  obtain ⟨f, h1, h2⟩ := h
  exact ⟨f, h1, fun d hd => (h2 d hd).trans (e d hd)⟩
section
variable {w : World} {t e : TypeId} {b n : Nat} {g : De → Option Value}
theorem MapD.look (h : MapD w b n g) (ht : Try.prog.underlying t = some (.map 26 e)) {z : Value} (hz : (zeroValue e).run Try.prog w = .ok z w) {x : ByteArray} {y s : Int} (hk : KeyD (x, y, s)) :
    (Instr.lookup t (.map (some b)) (.agg #[.string x, .int .i64 y, .int .i64 s]) false).run Try.prog w = .ok ((g (x, y, s)).getD z) w := by
  obtain ⟨f, h1, h2⟩ := h
  have := h1.look (key := dv (x, y, s)) (kl := kD (x, y, s)) keyed_dep ht hz (key_dep hk)
  rw [h2 _ hk] at this
  exact this
theorem MapD.lookOk (h : MapD w b n g) (ht : Try.prog.underlying t = some (.map 26 e)) {z : Value} (hz : (zeroValue e).run Try.prog w = .ok z w) {x : ByteArray} {y s : Int} (hk : KeyD (x, y, s)) :
    (Instr.lookup t (.map (some b)) (.agg #[.string x, .int .i64 y, .int .i64 s]) true).run Try.prog w = .ok (.tuple #[(g (x, y, s)).getD z, .bool (g (x, y, s)).isSome]) w := by
  obtain ⟨f, h1, h2⟩ := h
  have := h1.lookOk (key := dv (x, y, s)) (kl := kD (x, y, s)) keyed_dep ht hz (key_dep hk)
  rw [h2 _ hk] at this
  exact this
theorem MapD.len (h : MapD w b n g) (ht : Try.prog.underlying t = some (.map 26 e)) (ty : TypeId) : (Builtin.len_ #[t] ty #[.map (some b)]).run Try.prog w = .ok (.int .i64 n) w := by
  obtain ⟨f, h1, h2⟩ := h
  exact h1.len ht ty
theorem MapD.store (h : MapD w b n g) (ht : Try.prog.underlying t = some (.map 26 e)) (hn : n < maxLen) {x : ByteArray} {y s : Int} (hk : KeyD (x, y, s)) (val : Value) :
    ∃ w', (Instr.mapUpdate t (.map (some b)) (.agg #[.string x, .int .i64 y, .int .i64 s]) val).run Try.prog w = .ok () w' ∧ MapD w' b (if (g (x, y, s)).isSome then n else n + 1) (fun d => if d = (x, y, s) then some val else g d) ∧ w.mapTurned w' b := by
  obtain ⟨f, h1, h2⟩ := h
  obtain ⟨w', hrun, ⟨f', r1, r3, r4⟩, r2⟩ := h1.store (val := val) keyed_dep ht hn (key_dep hk)
  refine ⟨w', hrun, ⟨f', by rw [← h2 _ hk]; exact r1, fun d hd => ?_⟩, r2⟩
  dsimp only
  by_cases e : d = (x, y, s)
  · rw [if_pos e, e]; exact r3
  · rw [if_neg e, ← h2 _ hd]; exact r4 _ (fun e' => e (kD_inj hd hk e'))
end
set_option maxRecDepth 100000 in
/-- The store at the operation. -/
theorem wp_mapSetD {w : World} {t e : TypeId} {b n : Nat} {g : De → Option Value} {ops : Array Oper} {rest : List Oper} {o : Oper} {a : Act} {Q : Exit → Act → World → Prop}
    (hg : o.guard = none) (m x v : Operand) (hop : o.op = Op.mapUpdate t m x v) (ht : Try.prog.underlying t = some (.map 26 e)) (hm : a.eval m = .map (some b)) (hown : MapD w b n g) (hn : n < maxLen)
    (k : ByteArray) (y s : Int) (val : Value) (hx : a.eval x = .agg #[.string k, .int .i64 y, .int .i64 s]) (hv : a.eval v = val) (hk : KeyD (k, y, s))
    (hK : ∀ w', MapD w' b (if (g (k, y, s)).isSome then n else n + 1) (fun d => if d = (k, y, s) then some val else g d) → w.mapTurned w' b → wpList Try.prog ops Q rest (a.put o.dst undef) w') :
    wpList Try.prog ops Q (o :: rest) a w := by
  refine wpList_plain hg fun K' hK' => ?_
  obtain ⟨w', hrun, r1, r2⟩ := hown.store ht hn hk val
  unfold Oper.wp
  simp [execOp, hop, hm, hx, hv, hrun, Result.andThen]
  exact hK' _ _ (hK w' r1 r2)

/-- Block b is a map of n entries; g: what lies at each text. -/
def MapS (w : World) (b n : Nat) (g : ByteArray → Option Value) : Prop := ∃ f, MapF w 9 b n f ∧ ∀ s : ByteArray, s.size ≤ maxLen → f (.string s.data.toList) = g s
theorem MapS.made (w : World) : MapS (w.alloc (.map #[] 0)) w.heap.size 0 (fun _ => none) := ⟨_, MapF.made w _, fun d _ => rfl⟩
theorem MapS.lt {w : World} {b n : Nat} {g : ByteArray → Option Value} (h : MapS w b n g) : b < w.heap.size := by
  obtain ⟨f, h1, _⟩ := h
  exact h1.lt
theorem MapS.block {w w' : World} {b n : Nat} {g : ByteArray → Option Value} (h : MapS w b n g) (hb : w'.heap[b]? = w.heap[b]?) : MapS w' b n g := by
  obtain ⟨f, h1, h2⟩ := h
  exact ⟨f, h1.block hb, h2⟩
theorem MapS.below {w w' : World} {b n : Nat} {g : ByteArray → Option Value} (h : MapS w b n g) (hb : Below w.heap.size w w') : MapS w' b n g := h.block (hb.block b h.lt)
section
variable {w : World} {t e : TypeId} {b n : Nat} {g : ByteArray → Option Value}
theorem MapS.look (h : MapS w b n g) (ht : Try.prog.underlying t = some (.map 9 e)) {z : Value} (hz : (zeroValue e).run Try.prog w = .ok z w) {x : ByteArray} (hk : x.size ≤ maxLen) :
    (Instr.lookup t (.map (some b)) (.string x) false).run Try.prog w = .ok ((g x).getD z) w := by
  obtain ⟨f, h1, h2⟩ := h
  rw [← h2 _ hk]
  exact h1.look (Maps.string_keyed Try.underlying9) ht hz (WideMaps.keyOf_string_mk Try.underlying9 hk)
theorem MapS.lookOk (h : MapS w b n g) (ht : Try.prog.underlying t = some (.map 9 e)) {z : Value} (hz : (zeroValue e).run Try.prog w = .ok z w) {x : ByteArray} (hk : x.size ≤ maxLen) :
    (Instr.lookup t (.map (some b)) (.string x) true).run Try.prog w = .ok (.tuple #[(g x).getD z, .bool (g x).isSome]) w := by
  obtain ⟨f, h1, h2⟩ := h
  rw [← h2 _ hk]
  exact h1.lookOk (Maps.string_keyed Try.underlying9) ht hz (WideMaps.keyOf_string_mk Try.underlying9 hk)
theorem MapS.store (h : MapS w b n g) (ht : Try.prog.underlying t = some (.map 9 e)) (hn : n < maxLen) {x : ByteArray} (hk : x.size ≤ maxLen) (val : Value) :
    ∃ w', (Instr.mapUpdate t (.map (some b)) (.string x) val).run Try.prog w = .ok () w' ∧ MapS w' b (if (g x).isSome then n else n + 1) (fun d => if d = x then some val else g d) ∧ w.mapTurned w' b := by
  obtain ⟨f, h1, h2⟩ := h
  obtain ⟨w', hrun, ⟨f', r1, r3, r4⟩, r2⟩ := h1.store (val := val) (Maps.string_keyed Try.underlying9) ht hn (WideMaps.keyOf_string_mk Try.underlying9 hk)
  refine ⟨w', hrun, ⟨f', by rw [← h2 _ hk]; exact r1, fun d hd => ?_⟩, r2⟩
  dsimp only
  by_cases e : d = x
  · rw [if_pos e, e]; exact r3
  · rw [if_neg e, ← h2 _ hd]; exact r4 _ (fun e' => e (ba_inj (by simpa using e')))
end
set_option maxRecDepth 100000 in
/-- The store at the operation. -/
theorem wp_mapSetS {w : World} {t e : TypeId} {b n : Nat} {g : ByteArray → Option Value} {ops : Array Oper} {rest : List Oper} {o : Oper} {a : Act} {Q : Exit → Act → World → Prop}
    (hg : o.guard = none) (m x v : Operand) (hop : o.op = Op.mapUpdate t m x v) (ht : Try.prog.underlying t = some (.map 9 e)) (hm : a.eval m = .map (some b)) (hown : MapS w b n g) (hn : n < maxLen)
    (k : ByteArray) (val : Value) (hx : a.eval x = .string k) (hv : a.eval v = val) (hk : k.size ≤ maxLen)
    (hK : ∀ w', MapS w' b (if (g k).isSome then n else n + 1) (fun d => if d = k then some val else g d) → w.mapTurned w' b → wpList Try.prog ops Q rest (a.put o.dst undef) w') :
    wpList Try.prog ops Q (o :: rest) a w := by
  refine wpList_plain hg fun K' hK' => ?_
  obtain ⟨w', hrun, r1, r2⟩ := hown.store ht hn hk val
  unfold Oper.wp
  simp [execOp, hop, hm, hx, hv, hrun, Result.andThen]
  exact hK' _ _ (hK w' r1 r2)
end Go.Proofs.Ytfnfpanmbmkhmaa
/- Rows of versions in memory, each with the slice that is its past. -/
namespace Go.Proofs.Ytfnfpanmbmkhmaa
open Go.RowKit Go.Maps
set_option linter.unusedVariables false
set_option linter.unusedSimpArgs false

/-- A version, and where its past lies. -/
abbrev Vp := Ve × (Option Addr × Nat)
def pu (x : Vp) : Value := .slice x.2.1 x.1.past.length x.2.2
def vz : Vp := (ve0, none, 0)
abbrev vcs (x : Vp) : Array Value := #[.string x.1.key, .string x.1.val, .bool x.1.gone, .int .i64 x.1.st.1, .int .i64 x.1.st.2, pu x]
abbrev vv (x : Vp) : Value := .agg (vcs x)
theorem pu_vz : pu vz = .slice none 0 0 := rfl
def KV : RK Vp where
  T := 34
  S := 31
  sz := 6
  bt := 80
  z := .agg #[.string ⟨#[]⟩, .string ⟨#[]⟩, .bool false, .int .i64 0, .int .i64 0, .slice none 0 0]
  enc x := verC x.1 (pu x)
theorem kv_ok : KV.Ok where
  len _ := rfl
  pos := by decide
  one x u hu := by
    simp [KV, verC] at hu
    rcases hu with rfl | rfl | rfl | rfl | rfl | rfl <;> rfl
  und := Try.underlying31
  inf := by kernel_rfl
  zc := rfl
  bb := by decide
/-- How a version lies in a row. -/
theorem VerP.of_row {w : World} {b o : Nat} {x : Vp} (h : ∀ j u, (KV.enc x)[j]? = some u → w.cell? ⟨b, o + j, none⟩ = some u) : VerP w b o x.1 (pu x) :=
  ⟨h 0 _ rfl, h 1 _ rfl, h 2 _ rfl, h 3 _ rfl, h 4 _ rfl, h 5 _ rfl⟩
/-- A slice that reads as these versions; their pasts read as they are. -/
def VRow (w : World) (v : Value) (xs : List Vp) : Prop := RowAt KV w v xs ∧ ∀ x ∈ xs, DepAt w (pu x) x.1.past
theorem VRow.below {w w' : World} {v : Value} {xs : List Vp} (h : VRow w v xs) (hb : Below w.heap.size w w') : VRow w' v xs := ⟨h.1.below hb, fun x hx => (h.2 x hx).below hb⟩
theorem VRow.drew {w : World} {v : Value} {xs : List Vp} (h : VRow w v xs) : VRow w.drew v xs := h
theorem VRow.nil (w : World) : VRow w (.slice none 0 0) [] := ⟨⟨none, 0, rfl, by simp, by simp, by simp, fun i h => absurd h (by simp)⟩, by simp⟩
theorem VRow.shape {w : World} {v : Value} {xs : List Vp} (h : VRow w v xs) : ∃ a c, v = .slice a xs.length c ∧ xs.length ≤ c ∧ c ≤ maxLen := by
  obtain ⟨⟨a, c, rfl, h1, h2, _⟩, _⟩ := h
  exact ⟨a, c, rfl, h1, h2⟩
theorem VRow.at {w : World} {a : Option Addr} {n c : Nat} {xs : List Vp} (h : VRow w (.slice a n c) xs) (i : Nat) (hi : i < xs.length) : ∃ b off, a = some ⟨b, off, none⟩ ∧ b < w.heap.size ∧ VerP w b (off + i * 6) xs[i].1 (pu xs[i]) ∧ DepAt w (pu xs[i]) xs[i].1.past := by
  obtain ⟨⟨a', c', e, _, _, _, hr⟩, hp⟩ := h
  cases e
  obtain ⟨b, off, rfl, hlt, hc⟩ := hr i hi
  exact ⟨b, off, rfl, hlt, VerP.of_row hc, hp _ (List.getElem_mem hi)⟩
theorem VRow.of_own {w : World} {base : Nat} {v : Value} {xs : List Vp} (h : OwnR KV w base v xs) (hp : ∀ x ∈ xs, DepAt w (pu x) x.1.past) : VRow w v xs := ⟨RowAt.of_own kv_ok h, hp⟩
/-- The first version of a dependency. -/
def fndP (xs : List Vp) (d : De) : Option Vp := xs.find? fun x => decide (x.1.key = d.1 ∧ x.1.st = d.2)
theorem fndP_fnd (xs : List Vp) (d : De) : (fndP xs d).map Prod.fst = fnd (xs.map Prod.fst) d := by
  unfold fndP fnd
  rw [List.find?_map]
  rfl
theorem fndP_some {xs : List Vp} {d : De} {x : Vp} (h : fndP xs d = some x) : x ∈ xs ∧ x.1.dep = d := by
  refine ⟨List.mem_of_find?_eq_some h, ?_⟩
  have := List.find?_some h
  simp at this
  exact Prod.ext this.1 this.2
theorem fndP_isSome (xs : List Vp) (d : De) : (fndP xs d).isSome = (fnd (xs.map Prod.fst) d).isSome := by
  rw [← fndP_fnd, Option.isSome_map]
theorem fndP_past (xs : List Vp) (d : De) : ((fndP xs d).getD vz).1.past = pastOf (xs.map Prod.fst) d := by
  unfold pastOf
  rw [← fndP_fnd]
  cases fndP xs d <;> rfl
/-- What is asked of versions: no text is longer, no number greater, than a machine's; pasts are in order, and short. -/
structure VOk (v : Ve) : Prop where
  ks : v.key.size ≤ 9223372036854775807
  st : In64 v.st
  srt : Srt v.past
  len : v.past.length ≤ 50
theorem VOk.key {v : Ve} (h : VOk v) : KeyD v.dep := ⟨by unfold maxLen; exact h.ks, h.st⟩
/-- A variable of a version's type. -/
structure VarV (w : World) (b : Nat) (x : Vp) : Prop where
  p : VerP w b 0 x.1 (pu x)
  f : ∀ j, j < 6 → w.frozen? ⟨b, j, none⟩ = false
theorem VarV.new (w : World) (x : Vp) (T : TypeId) : VarV (w.alloc (.cells (vcs x) T)) w.heap.size x :=
  ⟨⟨by simp, by simp, by simp, by simp, by simp, by simp⟩, fun j hj => by simp⟩
theorem VarV.lt {w : World} {b : Nat} {x : Vp} (h : VarV w b x) : b < w.heap.size := lt_of_cellN h.p.c0
theorem VarV.keep {w w' : World} {b : Nat} {x : Vp} (h : VarV w b x) (hb : Below w.heap.size w w') : VarV w' b x :=
  ⟨h.p.keep hb, fun j hj => (hb.frozen (p := ⟨b, j, none⟩) h.lt).trans (h.f j hj)⟩
theorem VarV.block {w w' : World} {b : Nat} {x : Vp} (h : VarV w b x) (hb : w'.heap[b]? = w.heap[b]?) : VarV w' b x :=
  ⟨h.p.block hb, fun j hj => by rw [World.frozen?_of_block hb]; exact h.f j hj⟩
end Go.Proofs.Ytfnfpanmbmkhmaa
/- What slices.Equal, past.Same and the document's Same answer. -/
namespace Go.Proofs.Ytfnfpanmbmkhmaa
open Go.RowKit
set_option linter.unusedVariables false

/-- Two dependencies compared as structs. -/
theorem eq_dep (w : World) (k : ByteArray) (n s : Int) (k' : ByteArray) (m t : Int) : (binOp .eql 26 (.agg #[.string k, .int .i64 n, .int .i64 s]) (.agg #[.string k', .int .i64 m, .int .i64 t])).run Try.prog w = .ok (.bool (decide (((k, n, s) : De) = (k', m, t)))) w := by
  rw [run_eql_struct, run_equalIn_agg w 9999 26 _ _ (by kernel_rfl) (by kernel_rfl)]
  unfold Program.fieldsOf
  rw [Try.underlying26]
  simp [go_sem, Try.underlying3, Try.underlying9]
  have hk : k.toList = k'.toList ↔ k = k' := by
    rw [Lib.toList_data, Lib.toList_data]
    exact ⟨fun h => ByteArray.ext (Array.toList_inj.1 h), fun h => by rw [h]⟩
  by_cases h1 : k = k' <;> by_cases h2 : n = m <;> by_cases h3 : s = t <;> simp [hk, h1, h2, h3]
theorem ne_dep (w : World) (k : ByteArray) (n s : Int) (k' : ByteArray) (m t : Int) : (binOp .neq 26 (.agg #[.string k, .int .i64 n, .int .i64 s]) (.agg #[.string k', .int .i64 m, .int .i64 t])).run Try.prog w = .ok (.bool (!decide (((k, n, s) : De) = (k', m, t)))) w := by
  have h := eq_dep w k n s k' m t
  rw [run_eql_struct] at h
  rw [run_neq_struct]
  generalize (Op.equalIn 10000 _ _ _).run _ _ = r at h
  cases r with
  | ok b w1 => simp at h ⊢; simp [h]
  | halt x w1 => simp at h
theorem bdrewN (w : World) (n : Nat) : Below w.heap.size w (w.drewN n) := ⟨rfl, rfl, rfl, Nat.le_refl _, fun _ _ => rfl⟩

set_option maxRecDepth 100000 in
set_option maxHeartbeats 1600000 in
theorem refPSame_any (v1 v2 : Value) (l m : List De) (w : World) (hl : l.length ≤ 1000000) (h1 : DepAt w v1 l) (h2 : DepAt w v2 m) :
    Calls Try.prog 13 #[v1, v2] w fun e w' => e = .returned (.bool (decide (l = m))) ∧ Below w.heap.size w w' := by
  obtain ⟨a, ca, rfl, _, _, _, h1⟩ := h1
  obtain ⟨b, cb, rfl, _, _, _, h2⟩ := h2
  have HA := Lib.hid h1
  have HB := Lib.hid h2
  clear h1 h2
  by_cases hlen : l.length = m.length
  · rw [← hlen]
    have HN := Lib.hid hlen
    clear hlen
    have hnn : (l.length != l.length) = false := by simp
    have hni : ((l.length : Int) != (l.length : Int)) = false := by simp
    go_enter Try.func13, Try.ntmps13
    go_wp2
    go_loopw [5] (fun i wr => ∃ k n : Nat, k ≤ l.length ∧ i = .int .i64 k ∧ l.take k = m.take k ∧ wr = w.drewN n) (fun i _ => l.length - (intOf i).toNat)
    case atStart => exact ⟨0, 0, by omega, rfl, by simp, rfl⟩
    case round =>
      obtain ⟨k, n, hk, rfl, hst, rfl⟩ := hrel
      have HS := Lib.hid hst
      clear hst
      by_cases hlt : k < l.length
      · have hlm : k < m.length := by rw [← HN.out]; exact hlt
        obtain ⟨b1, o1, rfl, _, c10, c11, c12⟩ := HA.out k hlt
        obtain ⟨b2, o2, rfl, _, c20, c21, c22⟩ := HB.out k hlm
        have HL := Lib.hid (List.take_succ_eq_append_getElem hlt)
        have HM := Lib.hid (List.take_succ_eq_append_getElem hlm)
        have HNE : Hid (l[k] ≠ m[k] → l ≠ m) := Lib.hid (fun h e => h (by subst e; rfl))
        generalize l[k] = x at c10 c11 c12 HL HNE
        generalize m[k] = y at c20 c21 c22 HM HNE
        obtain ⟨x0, x1, x2⟩ := x
        obtain ⟨y0, y1, y2⟩ := y
        dsimp only at c10 c11 c12 c20 c21 c22
        have hne := fun w' => ne_dep w' x0 x1 x2 y0 y1 y2
        clear hlm
        by_cases hxy : ((x0, x1, x2) : De) = (y0, y1, y2)
        · have hd : (decide (((x0, x1, x2) : De) = (y0, y1, y2))) = true := by simpa using hxy
          rw [hd] at hne
          have HX := Lib.hid hxy
          clear hxy hd
          go_wp2_with fail
          go_quiet (fail)
          go_wp2
          go_roundw
          case rel => exact ⟨k + 1, _, by omega, by go_num, by rw [HL.out, HM.out, HS.out, HX.out], rfl⟩
          case measure => simp [intOf]; omega
        · have hd : (decide (((x0, x1, x2) : De) = (y0, y1, y2))) = false := by simpa using hxy
          rw [hd] at hne
          have HX := Lib.hid hxy
          clear hxy hd
          go_wp2_with fail
          go_quiet (fail)
          go_wp2
          go_ret
          exact ⟨ret_bool (decide_eq_false (HNE.out HX.out)).symm, bstep (bdrewN w _) (bdrewN _ _)⟩
      · obtain rfl : k = l.length := by omega
        have HE : Hid (l = m) := Lib.hid (by have h := HS.out; rw [List.take_of_length_le (Nat.le_refl _), HN.out, List.take_of_length_le (Nat.le_refl _)] at h; exact h)
        go_wp2
        go_ret
        exact ⟨ret_bool (decide_eq_true HE.out).symm, bdrewN w _⟩
  · have hnn : (l.length != m.length) = true := by simpa using hlen
    have hni : ((l.length : Int) != (m.length : Int)) = true := by simp; omega
    rw [show decide (l = m) = false from decide_eq_false (fun e => hlen (by rw [e]))]
    have hx : ¬ (l.length : Int) = (m.length : Int) := by omega
    go_enter Try.func13, Try.ntmps13
    go_wp2
    go_ret
    exact ⟨rfl, Below.refl _ _⟩

end Go.Proofs.Ytfnfpanmbmkhmaa
