/- Maps of the call's own, as functions of their keys: keys of whatever type, elements of whatever type. -/
import Derived.Test.YtgaghlofcokijaaPastRows
import Derived.Maps.OwnSet
import Derived.Maps.OwnOps
import Derived.Maps.Views
import Derived.DeepKeys4
import Derived.StringKeys
import Derived.Lib.Hide
namespace Go.Proofs.Ytgaghlofcokijaa
open Go.RowKit Go.Maps
set_option linter.unusedVariables false
set_option linter.unusedSimpArgs false

/-- An element reads as itself. -/
def hvR (v : Value) : Option (DataW Value × List MemPlace) := some (.held v, [])
/-- Block b is a map of n entries with keys of type k; f: what lies at each key. -/
def MapF (w : World) (k : TypeId) (b n : Nat) (f : Lit → Option Value) : Prop :=
  ∃ D, w.ownsMap Try.prog k hvR b n D ∧ Maps.size D = n ∧ ∀ l, WideAt.IsKeyLit l → Maps.has D l = (f l).isSome ∧ ∀ z, D.atKey l (.held z) = .held ((f l).getD z)
theorem MapF.made (w : World) (k : TypeId) : MapF (w.alloc (.map #[] 0)) k w.heap.size 0 (fun _ => none) :=
  ⟨.map [], World.ownsMap_made w Try.prog k hvR, rfl, fun l _ => ⟨rfl, fun z => rfl⟩⟩
theorem MapF.lt {w : World} {k : TypeId} {b n : Nat} {f : Lit → Option Value} (h : MapF w k b n f) : b < w.heap.size := by
  obtain ⟨D, ho, _⟩ := h
  exact ho.lt
theorem MapF.block {w w' : World} {k : TypeId} {b n : Nat} {f : Lit → Option Value} (h : MapF w k b n f) (hb : w'.heap[b]? = w.heap[b]?) : MapF w' k b n f := by
  obtain ⟨D, ⟨es, clock, h1, h2⟩, h3⟩ := h
  exact ⟨D, ⟨es, clock, hb.trans h1, h2⟩, h3⟩
theorem MapF.below {w w' : World} {k : TypeId} {b n : Nat} {f : Lit → Option Value} (h : MapF w k b n f) (hb : Below w.heap.size w w') : MapF w' k b n f := h.block (hb.block b h.lt)
theorem MapF.map {w : World} {k : TypeId} {b n : Nat} {f : Lit → Option Value} (h : MapF w k b n f) : ∃ es clock, w.heap[b]? = some (.map es clock) := by
  obtain ⟨D, ⟨es, clock, h1, h2⟩, h3⟩ := h
  exact ⟨es, clock, h1⟩
section
variable {w : World} {k t e : TypeId} {b n : Nat} {f : Lit → Option Value}
theorem MapF.look (h : MapF w k b n f) (K : Keyed Try.prog k) (ht : Try.prog.underlying t = some (.map k e)) {z : Value} (hz : (zeroValue e).run Try.prog w = .ok z w) {key : Value} {kl : Lit} (hkey : keyOf Try.prog k key = some kl) :
    (Instr.lookup t (.map (some b)) key false).run Try.prog w = .ok ((f kl).getD z) w := by
  obtain ⟨D, ho, hn, hf⟩ := h
  obtain ⟨v, ps, hrun, hv⟩ := ho.lookup K ht hz (zd := .held z) (zp := []) rfl hkey
  rw [(hf kl (K.key hkey)).2 z] at hv
  unfold hvR at hv
  simp at hv
  rw [hrun, hv.1]
theorem MapF.lookOk (h : MapF w k b n f) (K : Keyed Try.prog k) (ht : Try.prog.underlying t = some (.map k e)) {z : Value} (hz : (zeroValue e).run Try.prog w = .ok z w) {key : Value} {kl : Lit} (hkey : keyOf Try.prog k key = some kl) :
    (Instr.lookup t (.map (some b)) key true).run Try.prog w = .ok (.tuple #[(f kl).getD z, .bool (f kl).isSome]) w := by
  obtain ⟨D, ho, hn, hf⟩ := h
  obtain ⟨v, ps, hrun, hv⟩ := ho.look_ok K ht hz (zd := .held z) (zp := []) rfl hkey
  rw [(hf kl (K.key hkey)).2 z] at hv
  unfold hvR at hv
  simp at hv
  rw [hrun, hv.1, (hf kl (K.key hkey)).1]
theorem MapF.len (h : MapF w k b n f) (ht : Try.prog.underlying t = some (.map k e)) (ty : TypeId) : (Builtin.len_ #[t] ty #[.map (some b)]).run Try.prog w = .ok (.int .i64 n) w := by
  obtain ⟨D, ho, hn, hf⟩ := h
  rw [ho.len ht ty, hn]
/-- What a store makes of it. -/
def SetF (f : Lit → Option Value) (kl : Lit) (v : Value) (f' : Lit → Option Value) : Prop := f' kl = some v ∧ ∀ l, l ≠ kl → f' l = f l
theorem MapF.store (h : MapF w k b n f) (K : Keyed Try.prog k) (ht : Try.prog.underlying t = some (.map k e)) (hn : n < maxLen) {key val : Value} {kl : Lit} (hkey : keyOf Try.prog k key = some kl) :
    ∃ w', (Instr.mapUpdate t (.map (some b)) key val).run Try.prog w = .ok () w' ∧ (∃ f', MapF w' k b (if (f kl).isSome then n else n + 1) f' ∧ SetF f kl val f') ∧ w.mapTurned w' b := by
  obtain ⟨D, ho, hsz, hf⟩ := h
  obtain ⟨w', hrun, ho', ht'⟩ := ho.store (d := .held val) (ps := []) K ht hn hkey rfl
  have hmap := ho.isMap
  have hk := K.key hkey
  have hsz2 : Maps.size (D.put kl (.held val)) = if (f kl).isSome then n else n + 1 := by
    have h1 := Maps.size_put (k := kl) (ho.tidy K) (.held val)
    rw [h1, hsz, (hf kl hk).1]
  have hex : ∃ f' : Lit → Option Value, SetF f kl val f' := by
    classical exact ⟨fun l => if l = kl then some val else f l, by simp, fun l hl => by simp [hl]⟩
  obtain ⟨f', hs1, hs2⟩ := hex
  refine ⟨w', hrun, ⟨f', ⟨D.put kl (.held val), ?_, hsz2, fun l hl => ?_⟩, hs1, hs2⟩, ht'⟩
  · obtain ⟨es, clock, g1, g2, g3, g4⟩ := ho'
    refine ⟨es, clock, g1, g2, ?_, g4⟩
    have : Maps.size (D.put kl (.held val)) = es.size := by rw [g4]; simp [Maps.size, length_sorted]
    omega
  · by_cases e : l = kl
    · subst e
      rw [hs1]
      exact ⟨Maps.has_put_same hmap hl _, fun z => Maps.atKey_put_same hmap hl _ _⟩
    · rw [hs2 l e]
      exact ⟨(Maps.has_put_other e _).trans (hf l hl).1, fun z => (Maps.atKey_put_other e _ _).trans ((hf l hl).2 z)⟩
end
set_option maxRecDepth 100000 in
/-- The store at the operation. -/
theorem wp_mapSet {w : World} {k t e : TypeId} {b n : Nat} {f : Lit → Option Value} {ops : Array Oper} {rest : List Oper} {o : Oper} {a : Act} {Q : Exit → Act → World → Prop}
    (hg : o.guard = none) (m x v : Operand) (hop : o.op = Op.mapUpdate t m x v) (K : Keyed Try.prog k) (ht : Try.prog.underlying t = some (.map k e)) (hm : a.eval m = .map (some b)) (hown : MapF w k b n f) (hn : n < maxLen)
    (key val : Value) (kl : Lit) (hx : a.eval x = key) (hv : a.eval v = val) (hkey : keyOf Try.prog k key = some kl)
    (hK : ∀ w' f', MapF w' k b (if (f kl).isSome then n else n + 1) f' → SetF f kl val f' → w.mapTurned w' b → wpList Try.prog ops Q rest (a.put o.dst undef) w') :
    wpList Try.prog ops Q (o :: rest) a w := by
  refine wpList_plain hg fun K' hK' => ?_
  obtain ⟨w', hrun, ⟨f', r1, r3⟩, r2⟩ := hown.store (val := val) K ht hn hkey
  unfold Oper.wp
  simp [execOp, hop, hm, hx, hv, hrun, Result.andThen]
  exact hK' _ _ (hK w' f' r1 r3 r2)
/-- What a store into a map leaves as it was. -/
theorem turned_block {w w' : World} {b : Nat} (h : w.mapTurned w' b) (k : Nat) (hk : k ≠ b) : w'.heap[k]? = w.heap[k]? := by
  obtain ⟨es, clock, es', clock', h1, rfl⟩ := h
  exact ChangeMaps.heap_setBlock_other h1 _ hk
theorem turned_size {w w' : World} {b : Nat} (h : w.mapTurned w' b) : w'.heap.size = w.heap.size := by
  obtain ⟨es, clock, es', clock', h1, rfl⟩ := h
  simp [ChangeMaps.setBlock]
theorem turned_below {w w' : World} {b base : Nat} (h : w.mapTurned w' b) (hb : base ≤ b) (hs : base ≤ w.heap.size) : Below base w w' :=
  (Below.refl base w).grown h.grown hs (fun k e => by cases e; exact hb)

/-! Keys that are dependencies. -/
/-- A dependency that can be a key: no text is longer, no number greater, than a machine's. -/
def KeyD (d : De) : Prop := d.1.size ≤ maxLen ∧ In64 d.2
def kD (d : De) : Lit := .string (keyBytes [.string d.1.data.toList, .int .i64 d.2.1, .int .i64 d.2.2])
theorem wf_i64 {n : Int} (h : -9223372036854775808 ≤ n ∧ n ≤ 9223372036854775807) : (Lit.int .i64 n).wf = true := by
  simp only [Lit.wf, Bool.and_eq_true, decide_eq_true_eq]
  exact h
end Go.Proofs.Ytgaghlofcokijaa
