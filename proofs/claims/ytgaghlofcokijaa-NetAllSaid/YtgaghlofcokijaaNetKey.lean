/- Maps whose keys are pairs of ints. -/
import Derived.Test.YtgaghlofcokijaaMapF
import Derived.Test.YtgaghlofcokijaaRoutePair
namespace Go.Proofs.Ytgaghlofcokijaa
open Go.RowKit Go.Maps
set_option linter.unusedVariables false
set_option linter.unusedSimpArgs false

def kPr (p : Int × Int) : Lit := .string (keyBytes [.int .i64 p.1, .int .i64 p.2])
theorem keyed_pair : Keyed Try.prog 61 :=
  Keyed.of_law (deep_law_laid (by kernel_rfl) (m := 3) (by omega) (of_decide_eq_true (by kernel_rfl)) (by kernel_rfl) (by rw [Try.underlying61]))
theorem lits_pair (m : Nat) (y z : Int) (w1 : (Lit.int .i64 y).wf = true) (w2 : (Lit.int .i64 z).wf = true) :
    Try.prog.keyLits (m + 3) 61 [.int .i64 y, .int .i64 z] = some [.int .i64 y, .int .i64 z] := by
  have c1 : Try.prog.cellsOf 61 = 2 := by kernel_rfl
  have c4 : Try.prog.cellsOf 3 = 1 := by kernel_rfl
  simp [Program.keyLits, Try.underlying61, Try.underlying3, c1, c4, List.range, List.range.loop, w1, w2]
theorem key_pair {y z : Int} (h2 : In64 (y, z)) : keyOf Try.prog 61 (.agg #[.int .i64 y, .int .i64 z]) = some (kPr (y, z)) := by
  have hk : Try.prog.keyType 61 = true := by kernel_rfl
  have hf : (Value.agg #[.int .i64 y, .int .i64 z]).formed Try.prog 61 = true := by
    have hc : Try.prog.cellsOf 61 = 2 := by kernel_rfl
    simp [Value.formed, Try.underlying61, hc]
  have w1 := wf_i64 h2.1
  have w2 := wf_i64 h2.2
  have hl := lits_pair (Try.prog.types.size - 2) y z w1 w2
  rw [show Try.prog.types.size - 2 + 3 = Try.prog.types.size + 1 by have : 2 ≤ Try.prog.types.size := of_decide_eq_true (by kernel_rfl); omega] at hl
  have hc : (Value.agg #[.int .i64 y, .int .i64 z]).cells.toList = [.int .i64 y, .int .i64 z] := rfl
  simp only [keyOf, Try.underlying61, hk, hf, hc, hl]
  rfl
theorem kPr_inj {p q : Int × Int} (h : In64 p) (h' : In64 q) (e : kPr p = kPr q) : p = q := by
  obtain ⟨y, z⟩ := p
  obtain ⟨y', z'⟩ := q
  have h1 := key_pair h
  have h2 := key_pair h'
  rw [← e] at h2
  have := keyed_pair.inj h1 h2
  simp at this
  simp [this]

/-- Block b is a map of n entries; g: what lies at each pair. -/
def MapP (w : World) (b n : Nat) (g : Int × Int → Option Value) : Prop := ∃ f, MapF w 61 b n f ∧ (∀ d, In64 d → f (kPr d) = g d) ∧ ∀ l x, f l = some x → ∃ d, In64 d ∧ l = kPr d
theorem MapP.made (w : World) : MapP (w.alloc (.map #[] 0)) w.heap.size 0 (fun _ => none) := ⟨_, MapF.made w _, fun d _ => rfl, fun l x e => by simp at e⟩
theorem MapP.lt {w : World} {b n : Nat} {g : Int × Int → Option Value} (h : MapP w b n g) : b < w.heap.size := by
  obtain ⟨f, h1, _⟩ := h
  exact h1.lt
theorem MapP.block {w w' : World} {b n : Nat} {g : Int × Int → Option Value} (h : MapP w b n g) (hb : w'.heap[b]? = w.heap[b]?) : MapP w' b n g := by
  obtain ⟨f, h1, h2, h3⟩ := h
  exact ⟨f, h1.block hb, h2, h3⟩
theorem MapP.below {w w' : World} {b n : Nat} {g : Int × Int → Option Value} (h : MapP w b n g) (hb : Below w.heap.size w w') : MapP w' b n g := h.block (hb.block b h.lt)
theorem MapP.congr {w : World} {b n : Nat} {g g' : Int × Int → Option Value} (h : MapP w b n g) (e : ∀ d, In64 d → g d = g' d) : MapP w b n g' := by
  obtain ⟨f, h1, h2, h3⟩ := h
  exact ⟨f, h1, fun d hd => (h2 d hd).trans (e d hd), h3⟩
section
variable {w : World} {t e : TypeId} {b n : Nat} {g : Int × Int → Option Value}
theorem MapP.look (h : MapP w b n g) (ht : Try.prog.underlying t = some (.map 61 e)) {z : Value} (hz : (zeroValue e).run Try.prog w = .ok z w) {y s : Int} (hk : In64 (y, s)) :
    (Instr.lookup t (.map (some b)) (.agg #[.int .i64 y, .int .i64 s]) false).run Try.prog w = .ok ((g (y, s)).getD z) w := by
  obtain ⟨f, h1, h2, _⟩ := h
  have := h1.look (key := .agg #[.int .i64 y, .int .i64 s]) (kl := kPr (y, s)) keyed_pair ht hz (key_pair hk)
  rw [h2 _ hk] at this
  exact this
theorem MapP.store (h : MapP w b n g) (ht : Try.prog.underlying t = some (.map 61 e)) (hn : n < maxLen) {y s : Int} (hk : In64 (y, s)) (val : Value) :
    ∃ w', (Instr.mapUpdate t (.map (some b)) (.agg #[.int .i64 y, .int .i64 s]) val).run Try.prog w = .ok () w' ∧ MapP w' b (if (g (y, s)).isSome then n else n + 1) (fun d => if d = (y, s) then some val else g d) ∧ w.mapTurned w' b := by
  obtain ⟨f, h1, h2, h3⟩ := h
  obtain ⟨w', hrun, ⟨f', r1, r3, r4⟩, r2⟩ := h1.store (val := val) keyed_pair ht hn (key_pair hk)
  refine ⟨w', hrun, ⟨f', by rw [← h2 _ hk]; exact r1, fun d hd => ?_, fun l x e => ?_⟩, r2⟩
  · dsimp only
    by_cases e : d = (y, s)
    · rw [if_pos e, e]; exact r3
    · rw [if_neg e, ← h2 _ hd]; exact r4 _ (fun e' => e (kPr_inj hd hk e'))
  · by_cases e' : l = kPr (y, s)
    · exact ⟨_, hk, e'⟩
    · rw [r4 l e'] at e
      exact h3 l x e
end
set_option maxRecDepth 100000 in
/-- The store at the operation. -/
theorem wp_mapSetP {w : World} {t e : TypeId} {b n : Nat} {g : Int × Int → Option Value} {ops : Array Oper} {rest : List Oper} {o : Oper} {a : Act} {Q : Exit → Act → World → Prop}
    (hg : o.guard = none) (m x v : Operand) (hop : o.op = Op.mapUpdate t m x v) (ht : Try.prog.underlying t = some (.map 61 e)) (hm : a.eval m = .map (some b)) (hown : MapP w b n g) (hn : n < maxLen)
    (y s : Int) (val : Value) (hx : a.eval x = .agg #[.int .i64 y, .int .i64 s]) (hv : a.eval v = val) (hk : In64 (y, s))
    (hK : ∀ w', MapP w' b (if (g (y, s)).isSome then n else n + 1) (fun d => if d = (y, s) then some val else g d) → w.mapTurned w' b → wpList Try.prog ops Q rest (a.put o.dst undef) w') :
    wpList Try.prog ops Q (o :: rest) a w := by
  refine wpList_plain hg fun K' hK' => ?_
  obtain ⟨w', hrun, r1, r2⟩ := hown.store ht hn hk val
  unfold Oper.wp
  simp [execOp, hop, hm, hx, hv, hrun, Result.andThen]
  exact hK' _ _ (hK w' r1 r2)
end Go.Proofs.Ytgaghlofcokijaa
