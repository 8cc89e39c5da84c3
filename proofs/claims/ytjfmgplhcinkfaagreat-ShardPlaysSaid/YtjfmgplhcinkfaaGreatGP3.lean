/- Texts of this proof, one behind the other: PastRows, MapF, KeysRef, KeysRef2, StampRef. -/
import Derived.Test.YtjfmgplhcinkfaaGreatGP2
import Derived.Deep.AppendLies
import Derived.Maps.OwnSet
import Derived.Maps.OwnOps
import Derived.Maps.Views
import Derived.DeepKeys4
import Derived.StringKeys
import Derived.Lib.Hide
/- Dependencies in memory: rows that are read, and rows that a call makes. -/
namespace Go.Proofs.YtjfmgplhcinkfaaGreat
open Go.RowKit
set_option linter.unusedVariables false

/-- A dependency: its key, its stamp's number, its stamp's site. -/
abbrev De := ByteArray × Int × Int
abbrev dv (d : De) : Value := .agg #[.string d.1, .int .i64 d.2.1, .int .i64 d.2.2]
def dV (l : List De) : List Value := l.flatMap fun d => [.string d.1, .int .i64 d.2.1, .int .i64 d.2.2]
theorem dV_nil : dV [] = [] := rfl
theorem dV_cons (d : De) (l : List De) : dV (d :: l) = .string d.1 :: .int .i64 d.2.1 :: .int .i64 d.2.2 :: dV l := by simp [dV]
theorem dV_len (l : List De) : (dV l).length = l.length * 3 := by
  induction l with
  | nil => rfl
  | cons r t ih => rw [dV_cons]; simp [ih]; omega
theorem dV_get (l : List De) (i : Nat) (h : i < l.length) : (dV l)[i * 3]? = some (.string l[i].1) ∧ (dV l)[i * 3 + 1]? = some (.int .i64 l[i].2.1) ∧ (dV l)[i * 3 + 2]? = some (.int .i64 l[i].2.2) := by
  induction l generalizing i with
  | nil => simp at h
  | cons r t ih =>
    rw [dV_cons]
    cases i with
    | zero => simp
    | succ i =>
      have := ih i (by simpa using h)
      rw [show (i + 1) * 3 = i * 3 + 1 + 1 + 1 by omega]
      simpa using this
theorem dV_append (l m : List De) : dV (l ++ m) = dV l ++ dV m := by simp [dV]
theorem dV_snoc (l : List De) (d : De) : dV (l ++ [d]) = dV l ++ [.string d.1, .int .i64 d.2.1, .int .i64 d.2.2] := by simp [dV]
theorem dV_one (l : List De) : ∀ u ∈ dV l, u.oneCell' = true := by
  intro u hu
  simp only [dV, List.mem_flatMap] at hu
  obtain ⟨p, _, hp⟩ := hu
  simp at hp
  rcases hp with rfl | rfl | rfl <;> rfl
theorem dV_take (l : List De) (k : Nat) : dV (l.take k) = (dV l).take (k * 3) := by
  induction l generalizing k with
  | nil => simp [dV]
  | cons r t ih =>
    cases k with
    | zero => simp [dV]
    | succ k =>
      rw [List.take_succ_cons, dV_cons, dV_cons, ih, show (k + 1) * 3 = k * 3 + 1 + 1 + 1 by omega]
      simp
theorem dV_set (l : List De) (i : Nat) (d : De) (h : i < l.length) : (((dV l).set (i * 3) (.string d.1)).set (i * 3 + 1) (.int .i64 d.2.1)).set (i * 3 + 2) (.int .i64 d.2.2) = dV (l.set i d) := by
  induction l generalizing i with
  | nil => simp at h
  | cons r t ih =>
    cases i with
    | zero => simp [dV_cons]
    | succ i =>
      have := ih i (by simpa using h)
      rw [List.set_cons_succ, dV_cons, dV_cons, ← this, show (i + 1) * 3 = i * 3 + 1 + 1 + 1 by omega]
      simp

theorem info_de : (Tryz.prog.info? 38).map (fun i => (i.zero, i.size, i.bytes)) = some (some (.agg #[.string ⟨#[]⟩, .int .i64 0, .int .i64 0]), 3, 32) := by kernel_rfl

/-- A row of dependencies in memory. -/
def DepIn (w : World) (a : Option Addr) (l : List De) : Prop :=
  ∀ i (h : i < l.length), ∃ b off, a = some ⟨b, off, none⟩ ∧ b < w.heap.size ∧ w.cell? ⟨b, off + i * 3, none⟩ = some (.string l[i].1) ∧ w.cell? ⟨b, off + i * 3 + 1, none⟩ = some (.int .i64 l[i].2.1) ∧ w.cell? ⟨b, off + i * 3 + 2, none⟩ = some (.int .i64 l[i].2.2)
theorem DepIn.nil (w : World) (a : Option Addr) : DepIn w a [] := fun i h => absurd h (by simp)
theorem DepIn.below {w w' : World} {a : Option Addr} {l : List De} (h : DepIn w a l) (hb : Below w.heap.size w w') : DepIn w' a l := by
  intro i hi
  obtain ⟨b, off, rfl, hlt, h0, h1, h2⟩ := h i hi
  exact ⟨b, off, rfl, by have := hb.size; omega, kcell hb hlt h0, kcell hb hlt h1, kcell hb hlt h2⟩
theorem DepIn.drew {w : World} {a : Option Addr} {l : List De} (h : DepIn w a l) : DepIn w.drew a l := h
theorem DepIn.alloc {w : World} {a : Option Addr} {l : List De} (h : DepIn w a l) (o : Obj) : DepIn (w.alloc o) a l := h.below (balloc (Below.refl _ _) _)
theorem DepIn.take {w : World} {a : Option Addr} {l : List De} (h : DepIn w a l) (k : Nat) : DepIn w a (l.take k) := by
  intro i hi
  have hi' : i < l.length := by simp at hi; omega
  obtain ⟨b, off, e, hlt, h0, h1, h2⟩ := h i hi'
  exact ⟨b, off, e, hlt, by simpa using h0, by simpa using h1, by simpa using h2⟩
theorem DepIn.drop {w : World} {b off : Nat} {l : List De} (h : DepIn w (some ⟨b, off, none⟩) l) (k : Nat) : DepIn w (some ⟨b, off + k * 3, none⟩) (l.drop k) := by
  intro i hi
  have hi' : k + i < l.length := by simp at hi; omega
  obtain ⟨b', off', e, hlt, h0, h1, h2⟩ := h (k + i) hi'
  cases e
  rw [show off + (k + i) * 3 = off + k * 3 + i * 3 by omega] at h0 h1 h2
  exact ⟨b, off + k * 3, rfl, hlt, by simpa using h0, by simpa using h1, by simpa using h2⟩
theorem DepIn.news {w : World} {x : Addr} {l : List De} (h : DepIn w (some x) l) : ∀ j u, (dV l)[j]? = some u → w.cell? (x.add j) = some u := by
  intro j u hj
  have hlt : j < (dV l).length := (List.getElem?_eq_some_iff.1 hj).1
  rw [dV_len] at hlt
  obtain ⟨b', off', e, _, h0, h1, h2⟩ := h (j / 3) (by omega)
  cases e
  obtain ⟨k0, k1, k2⟩ := dV_get l (j / 3) (by omega)
  rw [Addr.add_lit]
  rcases (show j = j / 3 * 3 ∨ j = j / 3 * 3 + 1 ∨ j = j / 3 * 3 + 2 by omega) with ej | ej | ej
  · rw [ej] at hj ⊢
    rw [k0] at hj
    cases hj
    exact h0
  · rw [ej] at hj ⊢
    rw [k1] at hj
    cases hj
    rw [← Nat.add_assoc]
    exact h1
  · rw [ej] at hj ⊢
    rw [k2] at hj
    cases hj
    rw [← Nat.add_assoc]
    exact h2

/-- A slice that reads as these dependencies. -/
def DepAt (w : World) (v : Value) (l : List De) : Prop := ∃ a cap, v = .slice a l.length cap ∧ l.length ≤ cap ∧ cap ≤ maxLen ∧ (a = none → cap = 0) ∧ DepIn w a l
theorem DepAt.nil (w : World) : DepAt w (.slice none 0 0) [] := ⟨none, 0, rfl, by simp, by simp, by simp, DepIn.nil _ _⟩
theorem DepAt.below {w w' : World} {v : Value} {l : List De} (h : DepAt w v l) (hb : Below w.heap.size w w') : DepAt w' v l := by
  obtain ⟨a, cap, rfl, h1, h2, h3, hr⟩ := h
  exact ⟨a, cap, rfl, h1, h2, h3, hr.below hb⟩
theorem DepAt.drew {w : World} {v : Value} {l : List De} (h : DepAt w v l) : DepAt w.drew v l := h
theorem DepAt.alloc {w : World} {v : Value} {l : List De} (h : DepAt w v l) (o : Obj) : DepAt (w.alloc o) v l := h.below (balloc (Below.refl _ _) _)
/-- A row of the call's own. -/
abbrev OwnD (w : World) (base : Nat) (v : Value) (l : List De) : Prop := w.ownsRow base 38 3 v l.length (dV l)
theorem DepAt.of_own {w : World} {base : Nat} {v : Value} {l : List De} (h : OwnD w base v l) : DepAt w v l := by
  rcases h.2 with ⟨rfl, h0⟩ | ⟨g, cap, cur, rfl, hb, hg, hn, hm, hs, ht⟩
  · obtain rfl : l = [] := List.length_eq_zero_iff.1 h0
    exact DepAt.nil w
  · have hlt : g < w.heap.size := (Array.getElem?_eq_some_iff.1 hg).1
    have key : ∀ j u, (dV l)[j]? = some u → w.cell? ⟨g, j, none⟩ = some u := by
      intro j u hj
      have hl : j < (dV l).length := (List.getElem?_eq_some_iff.1 hj).1
      rw [dV_len] at hl
      rw [← ht, List.getElem?_take, if_pos (by omega), Array.getElem?_toList] at hj
      simp [World.cell?, hg, hj]
    refine ⟨some ⟨g, 0, none⟩, cap, rfl, hn, hm, by simp, fun i hi => ?_⟩
    obtain ⟨k0, k1, k2⟩ := dV_get l i hi
    exact ⟨g, 0, rfl, hlt, by rw [Nat.zero_add]; exact key _ _ k0, by rw [Nat.zero_add]; exact key _ _ k1, by rw [Nat.zero_add]; exact key _ _ k2⟩
theorem OwnD.nil (w : World) (base : Nat) : OwnD w base (.slice none 0 0) [] := ⟨rfl, .inl ⟨rfl, rfl⟩⟩
theorem OwnD.below {w w' : World} {base : Nat} {v : Value} {l : List De} (h : OwnD w base v l) (hb : Below w.heap.size w w') : OwnD w' base v l := by
  refine ⟨h.1, ?_⟩
  rcases h.2 with h0 | ⟨g, cap, cur, rfl, hbg, hg, r⟩
  · exact .inl h0
  · exact .inr ⟨g, cap, cur, rfl, hbg, (hb.5 g (Array.getElem?_eq_some_iff.1 hg).1).trans hg, r⟩
theorem OwnD.mono {w : World} {base base' : Nat} {v : Value} {l : List De} (h : OwnD w base v l) (hb : base' ≤ base) : OwnD w base' v l := by
  refine ⟨h.1, ?_⟩
  rcases h.2 with h0 | ⟨g, cap, cur, rfl, hbg, r⟩
  · exact .inl h0
  · exact .inr ⟨g, cap, cur, rfl, by omega, r⟩
theorem OwnD.shape {w1 : World} {base : Nat} {v' : Value} {l : List De} (h : OwnD w1 base v' l) : ∃ a c, v' = .slice a l.length c := by
  rcases h.2 with ⟨rfl, h0⟩ | ⟨g, cap, cur, rfl, _⟩
  · exact ⟨none, 0, by rw [h0]⟩
  · exact ⟨_, _, rfl⟩
/-- One dependency appended to a row of the call's own. -/
theorem OwnD.push {base : Nat} {l : List De} {x : ByteArray} {y z : Int} {wr w1 : World} {v v' : Value} {T : TypeId} {X : Array Value} (hbs : base ≤ wr.heap.size)
    (ho : OwnD wr base v l) (ho' : w1.ownsRow base 38 3 v' (l.length + 1) (dV l ++ [.string x, .int .i64 y, .int .i64 z])) (hg : (wr.alloc (.cells X T)).grownBy w1 v.ownBlock) :
    OwnD w1 base v' (l ++ [(x, y, z)]) ∧ Below base wr w1 := by
  refine ⟨by unfold OwnD; rw [dV_snoc]; simpa using ho', ((Below.refl base wr).alloc hbs _).grown hg (by simp; omega) ?_⟩
  intro k hk
  exact (ho.lt k hk).1
end Go.Proofs.YtjfmgplhcinkfaaGreat
/- Maps of the call's own, as functions of their keys: keys of whatever type, elements of whatever type. -/
namespace Go.Proofs.YtjfmgplhcinkfaaGreat
open Go.RowKit Go.Maps
set_option linter.unusedVariables false
set_option linter.unusedSimpArgs false

/-- An element reads as itself. -/
def hvR (v : Value) : Option (DataW Value × List MemPlace) := some (.held v, [])
/-- Block b is a map of n entries with keys of type k; f: what lies at each key. -/
def MapF (w : World) (k : TypeId) (b n : Nat) (f : Lit → Option Value) : Prop :=
  ∃ D, w.ownsMap Tryz.prog k hvR b n D ∧ Maps.size D = n ∧ ∀ l, WideAt.IsKeyLit l → Maps.has D l = (f l).isSome ∧ ∀ z, D.atKey l (.held z) = .held ((f l).getD z)
theorem MapF.made (w : World) (k : TypeId) : MapF (w.alloc (.map #[] 0)) k w.heap.size 0 (fun _ => none) :=
  ⟨.map [], World.ownsMap_made w Tryz.prog k hvR, rfl, fun l _ => ⟨rfl, fun z => rfl⟩⟩
theorem MapF.lt {w : World} {k : TypeId} {b n : Nat} {f : Lit → Option Value} (h : MapF w k b n f) : b < w.heap.size := by
  obtain ⟨D, ho, _⟩ := h
  exact ho.lt
theorem MapF.block {w w' : World} {k : TypeId} {b n : Nat} {f : Lit → Option Value} (h : MapF w k b n f) (hb : w'.heap[b]? = w.heap[b]?) : MapF w' k b n f := by
  obtain ⟨D, ⟨es, clock, h1, h2⟩, h3⟩ := h
  exact ⟨D, ⟨es, clock, hb.trans h1, h2⟩, h3⟩
theorem MapF.below {w w' : World} {k : TypeId} {b n : Nat} {f : Lit → Option Value} (h : MapF w k b n f) (hb : Below w.heap.size w w') : MapF w' k b n f := h.block (hb.block b h.lt)
theorem MapF.map {w : World} {k : TypeId} {b n : Nat} {f : Lit → Option Value} (h : MapF w k b n f) : ∃ es clock, w.heap[b]? = some (.map es clock) := by
  obtain ⟨D, ⟨es, clock, h1, h2⟩, h3⟩ := h
  exact ⟨es, clock, h1⟩
section
variable {w : World} {k t e : TypeId} {b n : Nat} {f : Lit → Option Value}
theorem MapF.look (h : MapF w k b n f) (K : Keyed Tryz.prog k) (ht : Tryz.prog.underlying t = some (.map k e)) {z : Value} (hz : (zeroValue e).run Tryz.prog w = .ok z w) {key : Value} {kl : Lit} (hkey : keyOf Tryz.prog k key = some kl) :
    (Instr.lookup t (.map (some b)) key false).run Tryz.prog w = .ok ((f kl).getD z) w := by
  obtain ⟨D, ho, hn, hf⟩ := h
  obtain ⟨v, ps, hrun, hv⟩ := ho.lookup K ht hz (zd := .held z) (zp := []) rfl hkey
  rw [(hf kl (K.key hkey)).2 z] at hv
  unfold hvR at hv
  simp at hv
  rw [hrun, hv.1]
theorem MapF.lookOk (h : MapF w k b n f) (K : Keyed Tryz.prog k) (ht : Tryz.prog.underlying t = some (.map k e)) {z : Value} (hz : (zeroValue e).run Tryz.prog w = .ok z w) {key : Value} {kl : Lit} (hkey : keyOf Tryz.prog k key = some kl) :
    (Instr.lookup t (.map (some b)) key true).run Tryz.prog w = .ok (.tuple #[(f kl).getD z, .bool (f kl).isSome]) w := by
  obtain ⟨D, ho, hn, hf⟩ := h
  obtain ⟨v, ps, hrun, hv⟩ := ho.look_ok K ht hz (zd := .held z) (zp := []) rfl hkey
  rw [(hf kl (K.key hkey)).2 z] at hv
  unfold hvR at hv
  simp at hv
  rw [hrun, hv.1, (hf kl (K.key hkey)).1]
theorem MapF.len (h : MapF w k b n f) (ht : Tryz.prog.underlying t = some (.map k e)) (ty : TypeId) : (Builtin.len_ #[t] ty #[.map (some b)]).run Tryz.prog w = .ok (.int .i64 n) w := by
  obtain ⟨D, ho, hn, hf⟩ := h
  rw [ho.len ht ty, hn]
/-- What a store makes of it. -/
def SetF (f : Lit → Option Value) (kl : Lit) (v : Value) (f' : Lit → Option Value) : Prop := f' kl = some v ∧ ∀ l, l ≠ kl → f' l = f l
theorem MapF.store (h : MapF w k b n f) (K : Keyed Tryz.prog k) (ht : Tryz.prog.underlying t = some (.map k e)) (hn : n < maxLen) {key val : Value} {kl : Lit} (hkey : keyOf Tryz.prog k key = some kl) :
    ∃ w', (Instr.mapUpdate t (.map (some b)) key val).run Tryz.prog w = .ok () w' ∧ (∃ f', MapF w' k b (if (f kl).isSome then n else n + 1) f' ∧ SetF f kl val f') ∧ w.mapTurned w' b := by
  obtain ⟨D, ho, hsz, hf⟩ := h
  obtain ⟨w', hrun, ho', ht'⟩ := ho.store (d := .held val) (ps := []) K ht hn hkey rfl
  have hmap := ho.isMap
  have hk := K.key hkey
  have hsz2 : Maps.size (D.put kl (.held val)) = if (f kl).isSome then n else n + 1 := by
    have h1 := Maps.size_put (k := kl) (ho.tidy K) (.held val)
    rw [h1, hsz, (hf kl hk).1]
  have hex : ∃ f' : Lit → Option Value, SetF f kl val f' := by
    classical exact ⟨fun l => if l = kl then some val else f l, by simp, fun l hl => by simp [hl]⟩
  obtain ⟨f', hs1, hs2⟩ := hex
  refine ⟨w', hrun, ⟨f', ⟨D.put kl (.held val), ?_, hsz2, fun l hl => ?_⟩, hs1, hs2⟩, ht'⟩
  · obtain ⟨es, clock, g1, g2, g3, g4⟩ := ho'
    refine ⟨es, clock, g1, g2, ?_, g4⟩
    have : Maps.size (D.put kl (.held val)) = es.size := by rw [g4]; simp [Maps.size, length_sorted]
    omega
  · by_cases e : l = kl
    · subst e
      rw [hs1]
      exact ⟨Maps.has_put_same hmap hl _, fun z => Maps.atKey_put_same hmap hl _ _⟩
    · rw [hs2 l e]
      exact ⟨(Maps.has_put_other e _).trans (hf l hl).1, fun z => (Maps.atKey_put_other e _ _).trans ((hf l hl).2 z)⟩
end
set_option maxRecDepth 100000 in
/-- The store at the operation. -/
theorem wp_mapSet {w : World} {k t e : TypeId} {b n : Nat} {f : Lit → Option Value} {ops : Array Oper} {rest : List Oper} {o : Oper} {a : Act} {Q : Exit → Act → World → Prop}
    (hg : o.guard = none) (m x v : Operand) (hop : o.op = Op.mapUpdate t m x v) (K : Keyed Tryz.prog k) (ht : Tryz.prog.underlying t = some (.map k e)) (hm : a.eval m = .map (some b)) (hown : MapF w k b n f) (hn : n < maxLen)
    (key val : Value) (kl : Lit) (hx : a.eval x = key) (hv : a.eval v = val) (hkey : keyOf Tryz.prog k key = some kl)
    (hK : ∀ w' f', MapF w' k b (if (f kl).isSome then n else n + 1) f' → SetF f kl val f' → w.mapTurned w' b → wpList Tryz.prog ops Q rest (a.put o.dst undef) w') :
    wpList Tryz.prog ops Q (o :: rest) a w := by
  refine wpList_plain hg fun K' hK' => ?_
  obtain ⟨w', hrun, ⟨f', r1, r3⟩, r2⟩ := hown.store (val := val) K ht hn hkey
  unfold Oper.wp
  simp [execOp, hop, hm, hx, hv, hrun, Result.andThen]
  exact hK' _ _ (hK w' f' r1 r3 r2)
/-- What a store into a map leaves as it was. -/
theorem turned_block {w w' : World} {b : Nat} (h : w.mapTurned w' b) (k : Nat) (hk : k ≠ b) : w'.heap[k]? = w.heap[k]? := by
  obtain ⟨es, clock, es', clock', h1, rfl⟩ := h
  exact ChangeMaps.heap_setBlock_other h1 _ hk
theorem turned_size {w w' : World} {b : Nat} (h : w.mapTurned w' b) : w'.heap.size = w.heap.size := by
  obtain ⟨es, clock, es', clock', h1, rfl⟩ := h
  simp [ChangeMaps.setBlock]
theorem turned_below {w w' : World} {b base : Nat} (h : w.mapTurned w' b) (hb : base ≤ b) (hs : base ≤ w.heap.size) : Below base w w' :=
  (Below.refl base w).grown h.grown hs (fun k e => by cases e; exact hb)

/-! Keys that are dependencies. -/
/-- A dependency that can be a key: no text is longer, no number greater, than a machine's. -/
def KeyD (d : De) : Prop := d.1.size ≤ maxLen ∧ In64 d.2
def kD (d : De) : Lit := .string (keyBytes [.string d.1.data.toList, .int .i64 d.2.1, .int .i64 d.2.2])
theorem keyed_dep : Keyed Tryz.prog 38 :=
  Keyed.of_law (deep_law_laid (by kernel_rfl) (m := 3) (by omega) (of_decide_eq_true (by kernel_rfl)) (by kernel_rfl) (by rw [Tryz.underlying38]))
theorem wf_i64 {n : Int} (h : -9223372036854775808 ≤ n ∧ n ≤ 9223372036854775807) : (Lit.int .i64 n).wf = true := by
  simp only [Lit.wf, Bool.and_eq_true, decide_eq_true_eq]
  exact h
theorem lits_dep (m : Nat) (x : ByteArray) (y z : Int) (h1 : x.size ≤ maxLen) (w1 : (Lit.int .i64 y).wf = true) (w2 : (Lit.int .i64 z).wf = true) :
    Tryz.prog.keyLits (m + 3) 38 [.string x, .int .i64 y, .int .i64 z] = some [.string x.data.toList, .int .i64 y, .int .i64 z] := by
  have c1 : Tryz.prog.cellsOf 38 = 3 := by kernel_rfl
  have c2 : Tryz.prog.cellsOf 33 = 2 := by kernel_rfl
  have c3 : Tryz.prog.cellsOf 9 = 1 := by kernel_rfl
  have c4 : Tryz.prog.cellsOf 3 = 1 := by kernel_rfl
  simp [Program.keyLits, Tryz.underlying38, Tryz.underlying33, Tryz.underlying9, Tryz.underlying3, c1, c2, c3, c4, h1, w1, w2]
  rw [if_pos (by intro i hi; rcases (show i = 0 ∨ i = 1 by omega) with rfl | rfl <;> simp)]
  rfl
theorem key_dep {d : De} (h : KeyD d) : keyOf Tryz.prog 38 (dv d) = some (kD d) := by
  obtain ⟨x, y, z⟩ := d
  obtain ⟨h1, h2, h3⟩ := h
  have hk : Tryz.prog.keyType 38 = true := by kernel_rfl
  have hf : (dv (x, y, z)).formed Tryz.prog 38 = true := by
    have hc : Tryz.prog.cellsOf 38 = 3 := by kernel_rfl
    simp [dv, Value.formed, Tryz.underlying38, hc]
  have w1 := wf_i64 h2
  have w2 := wf_i64 h3
  have hl := lits_dep (Tryz.prog.types.size - 2) x y z h1 w1 w2
  rw [show Tryz.prog.types.size - 2 + 3 = Tryz.prog.types.size + 1 by have : 2 ≤ Tryz.prog.types.size := of_decide_eq_true (by kernel_rfl); omega] at hl
  have hc : (dv (x, y, z)).cells.toList = [.string x, .int .i64 y, .int .i64 z] := rfl
  simp only [keyOf, Tryz.underlying38, hk, hf, hc, hl]
  rfl
theorem kD_inj {d d' : De} (h : KeyD d) (h' : KeyD d') (e : kD d = kD d') : d = d' := by
  have h1 := key_dep h
  have h2 := key_dep h'
  rw [← e] at h2
  have := keyed_dep.inj h1 h2
  obtain ⟨x, y, z⟩ := d
  obtain ⟨x', y', z'⟩ := d'
  simp [dv] at this
  simp [this]
end Go.Proofs.YtjfmgplhcinkfaaGreat
/- What the document's Runes, Check, Good and Meet answer. -/
namespace Go.Proofs.YtjfmgplhcinkfaaGreat
open Go.RowKit
set_option linter.unusedVariables false

set_option maxRecDepth 100000 in
theorem refLong_any (c : Nat) (w : World) (hc : c < 256) :
    Calls Tryz.prog 106 #[.int .u8 c] w fun e w' => e = .returned (.int .i64 (Km.lead c)) ∧ w = w' := by
  go_enter Tryz.func106, Tryz.ntmps106
  go_wp2
  all_goals
    go_ret
    refine ⟨ret_int ?_, rfl⟩
    unfold Km.lead
    repeat' split
    all_goals omega

set_option maxRecDepth 100000 in
set_option maxHeartbeats 4000000 in
theorem refRunes_any (s : ByteArray) (w : World) (hs : s.size ≤ 9223372036854775807) :
    Calls Tryz.prog 91 #[.string s] w fun e w' => e = .returned (.int .i64 (Km.runesV s.data.toList)) ∧ w = w' := by
  go_enter Tryz.func91, Tryz.ntmps91
  go_wp2
  go_loop [3, 4] (fun n i => ∃ pos acc : Nat, pos ≤ s.size ∧ acc ≤ pos ∧ n = .int .i64 acc ∧ i = .int .i64 pos ∧ Km.cnt 0 s.data.toList = (Km.cnt 0 (s.data.toList.drop pos)).map (· + acc)) (fun _ i => s.size - (intOf i).toNat)
  case atStart => exact ⟨0, 0, by omega, by omega, rfl, rfl, by simp⟩
  case round =>
    obtain ⟨pos, acc, hp, hap, rfl, rfl, he⟩ := hrel
    have He := Lib.hid he
    clear he
    by_cases hlt : pos < s.size
    · have Hne := Lib.hid (drop_ne s pos hlt)
      go_wp2_with fail
      refine (refLong_any s[pos].toNat _ s[pos].toNat_lt).mono ?_
      rintro e w' ⟨rfl, rfl⟩
      have hn0 : s[pos].toNat = Km.nth (s.data.toList.drop pos) 0 := by rw [Km.nth_get s pos hlt, Km.nth_drop]; rfl
      have hdl := drop_len s pos hp
      have Hdl := Lib.hid hdl
      have Hk4 := Lib.hid (Km.lead_le s[pos].toNat)
      generalize hk : Km.lead s[pos].toNat = k at Hk4
      have hk4 : k ≤ 4 := Hk4.out
      have Hk : Hid (Km.lead (Km.nth (s.data.toList.drop pos) 0) = k) := by rw [← hn0]; exact Lib.hid hk
      have Hn0 := Lib.hid hn0
      clear hn0 hk hdl Hk4
      by_cases hk0 : k = 0
      · have h1 : ((k : Int) == 0) = true := by simpa using hk0
        have HK0 := Lib.hid hk0
        clear hk0
        go_wp2
        go_ret
        refine ⟨ret_int (cnt_none He.out Hne.out (.inl (Km.wid_bad_lead Hne.out (.inl ?_)))).symm, rfl⟩
        rw [Hk.out]; exact HK0.out
      have h1 : ((k : Int) == 0) = false := by simpa using hk0
      by_cases hk1 : s.size - pos < k
      · have h2 : decide ((s.size : Int) - (pos : Int) < (k : Int)) = true := by simp; omega
        have HK1 := Lib.hid hk1
        clear hk0 hk1
        go_wp2
        go_ret
        refine ⟨ret_int (cnt_none He.out Hne.out (.inl (Km.wid_bad_lead Hne.out (.inr ?_)))).symm, rfl⟩
        rw [Hk.out, Hdl.out]; exact HK1.out
      have h2 : decide ((s.size : Int) - (pos : Int) < (k : Int)) = false := by simp; omega
      have hk1' : pos + k ≤ s.size := by omega
      clear hk1
      go_wp2
      go_loop [6] (fun i => ∃ j : Nat, 1 ≤ j ∧ j ≤ k ∧ i = .int .i64 j ∧ ∀ m, 1 ≤ m → m < j → Km.okc (Km.nth (s.data.toList.drop pos) m)) (fun i => k - (intOf i).toNat)
      case atStart => exact ⟨1, by omega, by omega, rfl, fun m a b => by omega⟩
      case round =>
        obtain ⟨j, hj1, hjk, rfl, hall⟩ := hrel
        have HA := Lib.hid hall
        clear hall
        by_cases hj : j < k
        · have hlj : pos + j < s.size := by omega
          have hnj : s[pos + j].toNat = Km.nth (s.data.toList.drop pos) j := by rw [Km.nth_get s (pos + j) hlj, Km.nth_drop]
          have HNJ := Lib.hid hnj
          clear hnj
          by_cases ho : 128 ≤ s[pos + j].toNat ∧ s[pos + j].toNat ≤ 191
          · have HO := Lib.hid ho
            have t1 : decide ((s[pos + j].toNat : Int) < 128) = false := by simp; omega
            have t2 : decide ((191 : Int) < (s[pos + j].toNat : Int)) = false := by simp; omega
            clear ho
            go_wp2
            go_round
            case rel =>
              refine ⟨j + 1, by omega, by omega, by go_num, fun m a b => ?_⟩
              by_cases e : m = j
              · subst e; rw [← HNJ.out]; exact HO.out
              · exact HA.out m a (by omega)
            case measure => simp [intOf]; omega
          · have HO : Hid (¬ Km.okc (Km.nth (s.data.toList.drop pos) j)) := by rw [← HNJ.out]; exact Lib.hid ho
            have HW := Lib.hid (Km.wid_bad_cont Hne.out hj1 (by rw [Hk.out]; exact hj) HO.out)
            rcases (show s[pos + j].toNat < 128 ∨ (¬ s[pos + j].toNat < 128 ∧ 191 < s[pos + j].toNat) by omega) with h | ⟨h, h'⟩
            · have t1 : decide ((s[pos + j].toNat : Int) < 128) = true := by simp; omega
              clear ho h
              go_wp2
              go_ret
              exact ⟨ret_int (cnt_none He.out Hne.out (.inl HW.out)).symm, rfl⟩
            · have t1 : decide ((s[pos + j].toNat : Int) < 128) = false := by simp; omega
              have t2 : decide ((191 : Int) < (s[pos + j].toNat : Int)) = true := by simp; omega
              clear ho h h'
              go_wp2
              go_ret
              exact ⟨ret_int (cnt_none He.out Hne.out (.inl HW.out)).symm, rfl⟩
        · obtain rfl : j = k := by omega
          by_cases hsp : s[pos].toNat = 224 ∨ s[pos].toNat = 237 ∨ s[pos].toNat = 240 ∨ s[pos].toNat = 244
          · have hj2 : 2 ≤ j := by
              have e := Hk.out
              rw [← Hn0.out] at e
              rw [← e]
              rcases hsp with h | h | h | h <;> rw [h] <;> decide
            have hl1 : pos + 1 < s.size := by omega
            have hn1 : s[pos + 1].toNat = Km.nth (s.data.toList.drop pos) 1 := by rw [Km.nth_get s (pos + 1) hl1, Km.nth_drop]
            have HN1 := Lib.hid hn1
            clear hn1
            have HB : ∀ (h : Km.spec s[pos].toNat s[pos + 1].toNat), Hid (Km.wid (s.data.toList.drop pos) = 0) := fun h => by
              rw [Hn0.out, HN1.out] at h
              exact Lib.hid (Km.wid_bad_spec Hne.out h)
            have HG : ∀ (h : ¬ Km.spec s[pos].toNat s[pos + 1].toNat), Hid (Km.wid (s.data.toList.drop pos) = j) := fun h => by
              rw [Hn0.out, HN1.out] at h
              have := Km.wid_ok Hne.out (by rw [Hk.out, Hdl.out]; omega) (by rw [Hk.out]; exact HA.out) h
              rw [Hk.out] at this
              exact Lib.hid this
            have HB' := Lib.hid HB
            have HG' := Lib.hid HG
            clear HB HG
            rcases hsp with h | h | h | h
            · have q1 : ((s[pos].toNat : Int) == 224) = true := by simp; omega
              have q2 : ((s[pos].toNat : Int) == 237) = false := by simp; omega
              have q3 : ((s[pos].toNat : Int) == 240) = false := by simp; omega
              have q4 : ((s[pos].toNat : Int) == 244) = false := by simp; omega
              by_cases hx : s[pos + 1].toNat < 160
              · have HW := HB'.out (.inl ⟨h, hx⟩)
                have q5 : decide ((s[pos + 1].toNat : Int) < 160) = true := by simp; omega
                clear h hx
                go_wp2
                go_ret
                exact ⟨ret_int (cnt_none He.out Hne.out (.inl HW.out)).symm, rfl⟩
              · have HW := HG'.out (by unfold Km.spec; omega)
                have q5 : decide ((s[pos + 1].toNat : Int) < 160) = false := by simp; omega
                clear h hx
                go_wp2
                go_round
                case rel => exact ⟨pos + j, acc + 1, by omega, by omega, by go_num, by go_num, cnt_next He.out Hne.out (by rw [HW.out]; omega) (by omega) HW.out.symm⟩
                case measure => simp [intOf]; omega
            · have q1 : ((s[pos].toNat : Int) == 224) = false := by simp; omega
              have q2 : ((s[pos].toNat : Int) == 237) = true := by simp; omega
              have q3 : ((s[pos].toNat : Int) == 240) = false := by simp; omega
              have q4 : ((s[pos].toNat : Int) == 244) = false := by simp; omega
              by_cases hx : 159 < s[pos + 1].toNat
              · have HW := HB'.out (.inr (.inl ⟨h, hx⟩))
                have q5 : decide ((159 : Int) < (s[pos + 1].toNat : Int)) = true := by simp; omega
                clear h hx
                go_wp2
                go_ret
                exact ⟨ret_int (cnt_none He.out Hne.out (.inl HW.out)).symm, rfl⟩
              · have HW := HG'.out (by unfold Km.spec; omega)
                have q5 : decide ((159 : Int) < (s[pos + 1].toNat : Int)) = false := by simp; omega
                clear h hx
                go_wp2
                go_round
                case rel => exact ⟨pos + j, acc + 1, by omega, by omega, by go_num, by go_num, cnt_next He.out Hne.out (by rw [HW.out]; omega) (by omega) HW.out.symm⟩
                case measure => simp [intOf]; omega
            · have q1 : ((s[pos].toNat : Int) == 224) = false := by simp; omega
              have q2 : ((s[pos].toNat : Int) == 237) = false := by simp; omega
              have q3 : ((s[pos].toNat : Int) == 240) = true := by simp; omega
              have q4 : ((s[pos].toNat : Int) == 244) = false := by simp; omega
              by_cases hx : s[pos + 1].toNat < 144
              · have HW := HB'.out (.inr (.inr (.inl ⟨h, hx⟩)))
                have q5 : decide ((s[pos + 1].toNat : Int) < 144) = true := by simp; omega
                clear h hx
                go_wp2
                go_ret
                exact ⟨ret_int (cnt_none He.out Hne.out (.inl HW.out)).symm, rfl⟩
              · have HW := HG'.out (by unfold Km.spec; omega)
                have q5 : decide ((s[pos + 1].toNat : Int) < 144) = false := by simp; omega
                clear h hx
                go_wp2
                go_round
                case rel => exact ⟨pos + j, acc + 1, by omega, by omega, by go_num, by go_num, cnt_next He.out Hne.out (by rw [HW.out]; omega) (by omega) HW.out.symm⟩
                case measure => simp [intOf]; omega
            · have q1 : ((s[pos].toNat : Int) == 224) = false := by simp; omega
              have q2 : ((s[pos].toNat : Int) == 237) = false := by simp; omega
              have q3 : ((s[pos].toNat : Int) == 240) = false := by simp; omega
              have q4 : ((s[pos].toNat : Int) == 244) = true := by simp; omega
              by_cases hx : 143 < s[pos + 1].toNat
              · have HW := HB'.out (.inr (.inr (.inr ⟨h, hx⟩)))
                have q5 : decide ((143 : Int) < (s[pos + 1].toNat : Int)) = true := by simp; omega
                clear h hx
                go_wp2
                go_ret
                exact ⟨ret_int (cnt_none He.out Hne.out (.inl HW.out)).symm, rfl⟩
              · have HW := HG'.out (by unfold Km.spec; omega)
                have q5 : decide ((143 : Int) < (s[pos + 1].toNat : Int)) = false := by simp; omega
                clear h hx
                go_wp2
                go_round
                case rel => exact ⟨pos + j, acc + 1, by omega, by omega, by go_num, by go_num, cnt_next He.out Hne.out (by rw [HW.out]; omega) (by omega) HW.out.symm⟩
                case measure => simp [intOf]; omega
          · have q1 : ((s[pos].toNat : Int) == 224) = false := by simp; omega
            have q2 : ((s[pos].toNat : Int) == 237) = false := by simp; omega
            have q3 : ((s[pos].toNat : Int) == 240) = false := by simp; omega
            have q4 : ((s[pos].toNat : Int) == 244) = false := by simp; omega
            have HW : Hid (Km.wid (s.data.toList.drop pos) = j) := by
              have := Km.wid_ok Hne.out (by rw [Hk.out, Hdl.out]; omega) (by rw [Hk.out]; exact HA.out) (by rw [← Hn0.out]; unfold Km.spec; omega)
              rw [Hk.out] at this
              exact Lib.hid this
            clear hsp
            go_wp2
            go_round
            case rel => exact ⟨pos + j, acc + 1, by omega, by omega, by go_num, by go_num, cnt_next He.out Hne.out (by rw [HW.out]; omega) (by omega) HW.out.symm⟩
            case measure => simp [intOf]; omega
    · go_wp2
      go_ret
      refine ⟨ret_int ?_, rfl⟩
      exact (cnt_done He.out (drop_none s pos hlt) (by simpa using (show acc ≤ s.size by omega))).symm
end Go.Proofs.YtjfmgplhcinkfaaGreat
/- What the document's Check, Good and Meet answer. -/
namespace Go.Proofs.YtjfmgplhcinkfaaGreat
open Go.RowKit
set_option linter.unusedVariables false

namespace Km
theorem widN_cont {n b0 b1 b2 b3 : Nat} : (1 < widN n b0 b1 b2 b3 → 128 ≤ b1) ∧ (2 < widN n b0 b1 b2 b3 → 128 ≤ b2) ∧ (3 < widN n b0 b1 b2 b3 → 128 ≤ b3) ∧ widN n b0 b1 b2 b3 ≤ 4 := by
  unfold widN okc
  repeat' split
  all_goals omega
theorem wid_cont {l : List UInt8} {i : Nat} (h1 : 1 ≤ i) (h2 : i < wid l) : 128 ≤ nth l i := by
  by_cases h : l = []
  · subst h; simp [wid] at h2
  · rw [wid_eq h] at h2
    have hc := widN_cont (n := l.length) (b0 := nth l 0) (b1 := nth l 1) (b2 := nth l 2) (b3 := nth l 3)
    rcases (show i = 1 ∨ i = 2 ∨ i = 3 by omega) with rfl | rfl | rfl
    · exact hc.1 h2
    · exact hc.2.1 h2
    · exact hc.2.2.1 h2

/-- With a byte below 'low' there is none. -/
theorem cnt_low {low : Nat} (hlow : low ≤ 128) (l : List UInt8) (i : Nat) (hi : i < l.length) (hb : nth l i < low) : cnt low l = none := by
  induction hk : l.length using Nat.strongRecOn generalizing l i with
  | ind k ih =>
    have h0 : l ≠ [] := by rintro rfl; simp at hi
    by_cases hbad : wid l = 0 ∨ nth l 0 < low
    · exact cnt_bad h0 hbad
    · rw [cnt_go h0 (by omega) (by omega)]
      have hw : wid l ≤ i := by
        by_cases e : i = 0
        · subst e; omega
        · by_cases hlt : i < wid l
          · have := wid_cont (l := l) (i := i) (by omega) hlt
            omega
          · omega
      rw [ih (l.drop (wid l)).length (by simp; omega) (l.drop (wid l)) (i - wid l) (by simp; omega) (by rw [nth_drop]; rw [show wid l + (i - wid l) = i by omega]; exact hb) rfl]
      rfl
theorem cnt_high {low : Nat} (l : List UInt8) (h : ∀ i, i < l.length → low ≤ nth l i) : cnt low l = cnt 0 l := by
  induction hk : l.length using Nat.strongRecOn generalizing l with
  | ind k ih =>
    by_cases h0 : l = []
    · subst h0; rw [cnt_nil, cnt_nil]
    · have hp := List.length_pos_iff.2 h0
      by_cases hw : wid l = 0
      · rw [cnt_bad h0 (.inl hw), cnt_bad h0 (.inl hw)]
      · rw [cnt_go h0 (by omega) (h 0 hp), cnt_go h0 (by omega) (by omega)]
        rw [ih (l.drop (wid l)).length (by simp; omega) (l.drop (wid l)) (fun i hi => by rw [nth_drop]; exact h _ (by simp at hi; omega)) rfl]
theorem runesV_eq (l : List UInt8) : runesV l = match cnt 0 l with | none => -1 | some n => (n : Int) := by
  unfold runesV capV
  cases h : cnt 0 l with
  | none => rfl
  | some n => simp only []; rw [if_pos (cnt_le 0 l n h)]
theorem chk_low {l : List UInt8} {i : Nat} (hi : i < l.length) (hb : nth l i < 33) : chk l = false := by
  unfold chk
  rw [cnt_low (by omega) l i hi hb]
  rfl
theorem chk_high {l : List UInt8} (h : ∀ i, i < l.length → 33 ≤ nth l i) : chk l = (decide (1 ≤ runesV l) && decide (runesV l ≤ 8)) := by
  unfold chk
  rw [cnt_high l h, runesV_eq]
  cases cnt 0 l with
  | none => rfl
  | some n =>
    show decide (0 < capV 8 (some n)) = (decide (1 ≤ (n : Int)) && decide ((n : Int) ≤ 8))
    have hc : capV 8 (some n) = (if n ≤ 8 then (n : Int) else -1) := rfl
    rw [Bool.eq_iff_iff, decide_eq_true_iff, Bool.and_eq_true, decide_eq_true_iff, decide_eq_true_iff, hc]
    by_cases h8 : n ≤ 8
    · rw [if_pos h8]; omega
    · rw [if_neg h8]; omega
theorem meet_lt {f t f2 t2 : List UInt8} (hl : Op.bytesLess f f2 = true) : meet f t f2 t2 = (good f t && good f2 t2 && has f t f2) := by
  unfold meet
  have : has f2 t2 f = false := by unfold has; rw [hl]; rfl
  rw [this, Bool.or_false]
theorem meet_ge {f t f2 t2 : List UInt8} (hl : Op.bytesLess f f2 = false) : meet f t f2 t2 = (good f t && good f2 t2 && has f2 t2 f) := by
  unfold meet
  cases hg2 : good f2 t2 with
  | false => simp
  | true =>
    cases hh : has f t f2 with
    | false => rw [Bool.false_or]
    | true =>
      have h1 : Op.bytesLess f2 f = false := by unfold has at hh; simp at hh; exact hh.1
      have e := bl_tri hl h1
      subst e
      have : has f t2 f = true := by
        unfold good at hg2
        unfold has
        rw [bl_irrefl]
        simp at hg2 ⊢
        exact hg2.2
      rw [this]
      simp
end Km

set_option maxRecDepth 100000 in
set_option maxHeartbeats 800000 in
theorem refCheck_any (s : ByteArray) (w : World) (hs : s.size ≤ 9223372036854775807) :
    Calls Tryz.prog 79 #[.string s] w fun e w' => e = .returned (.bool (Km.chk s.data.toList)) ∧ w = w' := by
  go_enter Tryz.func79, Tryz.ntmps79
  go_wp2_with fail
  refine (refRunes_any s _ hs).mono ?_
  rintro e w1 ⟨rfl, rfl⟩
  generalize hn : Km.runesV s.data.toList = n
  have HN := Lib.hid hn
  clear hn
  go_wp2
  go_loop [4] (fun i => ∃ k : Nat, k ≤ s.size ∧ i = .int .i64 k ∧ ∀ j, j < k → 33 ≤ Km.nth s.data.toList j) (fun i => s.size - (intOf i).toNat)
  case atStart => exact ⟨0, by omega, rfl, fun j h => by omega⟩
  case round =>
    obtain ⟨k, hk, rfl, hall⟩ := hrel
    have HA := Lib.hid hall
    clear hall
    by_cases hlt : k < s.size
    · have HK := Lib.hid (Km.nth_get s k hlt)
      by_cases hb : s[k].toNat < 33
      · have t1 : decide ((s[k].toNat : Int) < 33) = true := by simp; omega
        have HB := Lib.hid hb
        clear hb
        go_wp2
        go_ret
        exact ⟨ret_bool (Km.chk_low (i := k) (by simpa using hlt) (by rw [← HK.out]; exact HB.out)).symm, rfl⟩
      · have t1 : decide ((s[k].toNat : Int) < 33) = false := by simp; omega
        have HB := Lib.hid hb
        clear hb
        go_wp2
        go_round
        case rel =>
          refine ⟨k + 1, by omega, by go_num, fun j hj => ?_⟩
          by_cases e : j = k
          · subst e; rw [← HK.out]; have := HB.out; omega
          · exact HA.out j (by omega)
        case measure => simp [intOf]; omega
    · obtain rfl : k = s.size := by omega
      have hc : Km.chk s.data.toList = (decide (1 ≤ n) && decide (n ≤ 8)) := by
        rw [← HN.out]
        exact Km.chk_high (fun i hi => HA.out i (by simpa using hi))
      have HC := Lib.hid hc
      clear hc
      by_cases h1 : 1 ≤ n
      · have t1 : decide (1 ≤ n) = true := by simpa using h1
        go_wp2
        go_ret
        refine ⟨ret_bool ?_, rfl⟩
        rw [HC.out, t1, Bool.true_and]
      · have t1 : decide (1 ≤ n) = false := by simpa using h1
        go_wp2
        go_ret
        refine ⟨ret_bool ?_, rfl⟩
        rw [HC.out, t1, Bool.false_and]

end Go.Proofs.YtjfmgplhcinkfaaGreat
/- What the document's own Check, Less, Next and Max of stamps answer. -/
namespace Go.Proofs.YtjfmgplhcinkfaaGreat
open Go.RowKit
set_option linter.unusedVariables false

set_option maxRecDepth 100000 in
set_option maxHeartbeats 400000 in
theorem refSCheck_any (n s : Int) (w : World) :
    Calls Tryz.prog 80 #[.agg #[.int .i64 n, .int .i64 s]] w fun e w' => e = .returned (.bool (Sm.ok n s)) ∧ Below w.heap.size w w' := by
  go_enter Tryz.func80, Tryz.ntmps80
  go_wp2
  all_goals
    go_ret
    refine ⟨ret_bool ?_, (Below.refl _ _).alloc (Nat.le_refl _) _⟩
    simp_all [Sm.ok] <;> omega

set_option maxRecDepth 100000 in
set_option maxHeartbeats 400000 in
theorem refLess_any (n s m t : Int) (w : World) :
    Calls Tryz.prog 60 #[.agg #[.int .i64 n, .int .i64 s], .agg #[.int .i64 m, .int .i64 t]] w fun e w' => e = .returned (.bool (Sm.less (n, s) (m, t))) ∧ Below w.heap.size w w' := by
  go_enter Tryz.func60, Tryz.ntmps60
  go_wp2
  all_goals
    go_ret
    refine ⟨ret_bool ?_, balloc (balloc (Below.refl _ w) _) _⟩
    simp_all [Sm.less]

end Go.Proofs.YtjfmgplhcinkfaaGreat
