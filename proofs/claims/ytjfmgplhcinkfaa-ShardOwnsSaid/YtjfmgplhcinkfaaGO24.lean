/- Texts of this proof, one behind the other: ShLaw2, MapD, ShGrp. -/
import Derived.Test.YtjfmgplhcinkfaaGO23
/- What the laws of shards ask: mathematics. -/
namespace Go.Proofs.Ytjfmgplhcinkfaa
open Go.RowKit
set_option linter.unusedVariables false
set_option linter.unusedSimpArgs false

theorem putF_yes {R : List (ByteArray × ByteArray)} {F : Ch} {x : Vw} (h : (ownsK R x.1.key && putOk (F x.1.key) x) = true) : putF R F x = updF F x.1.key (midC (F x.1.key) x) := by unfold putF; rw [if_pos h]
theorem put_free {xs : List Vw} {x : Vw} (h : putOk xs x = true) : ∀ y ∈ xs, isS x.1.st y = false := by
  unfold putOk at h
  rw [Bool.and_eq_true, Bool.and_eq_true] at h
  have h1 := h.1.1
  refine lastP_none ?_
  cases e : lastP (isS x.1.st) xs with
  | none => rfl
  | some y => rw [e] at h1; cases h1
theorem isS_self (x : Vw) : isS x.1.st x = true := by simp [isS]
theorem mid_at {xs : List Vw} {x : Vw} (h : putOk xs x = true) : lastP (isS x.1.st) (midC xs x) = some x :=
  lastP_of_split (A := xs.take (upN (notA x.1.st) xs)) (B := xs.drop (upN (notA x.1.st) xs)) rfl (isS_self x) (fun b hb => put_free h b (List.mem_of_mem_drop hb))
theorem put_at {R : List (ByteArray × ByteArray)} {F : Ch} {x : Vw} (h : (ownsK R x.1.key && putOk (F x.1.key) x) = true) : lastP (isS x.1.st) (putF R F x x.1.key) = some x := by
  rw [putF_yes h, updF_same]
  rw [Bool.and_eq_true] at h
  exact mid_at h.2
theorem put_again (R : List (ByteArray × ByteArray)) (F : Ch) (x : Vw) : (ownsK R x.1.key && putOk (putF R F x x.1.key) x) = false := by
  cases h : (ownsK R x.1.key && putOk (F x.1.key) x) with
  | false => rw [putF_no h]; exact h
  | true =>
    have : putOk (putF R F x x.1.key) x = false := by
      unfold putOk
      rw [put_at h]
      rfl
    rw [this]
    simp
theorem put_there {R : List (ByteArray × ByteArray)} {F : Ch} {x : Vw} (h : (ownsK R x.1.key && putOk (F x.1.key) x) = true) : (lastP (isS x.1.st) (F x.1.key)).isSome = false := by
  rw [Bool.and_eq_true] at h
  cases e : lastP (isS x.1.st) (F x.1.key) with
  | none => rfl
  | some y =>
    have h1 := lastP_some e
    rw [put_free h.2 y h1.1] at h1
    cases h1.2
theorem put_other (R : List (ByteArray × ByteArray)) (F : Ch) (x : Vw) {k : ByteArray} (hk : k ≠ x.1.key) : putF R F x k = F k := by
  unfold putF
  split
  · exact updF_other _ _ hk
  · rfl
theorem putF_bd {R : List (ByteArray × ByteArray)} {F : Ch} {x : Vw} (hF : ∀ W d, ∀ y ∈ F d, VwB W y) (hx : ∀ W, VwB W x) : ∀ W d, ∀ y ∈ putF R F x d, VwB W y := fun W d y hy => by
  rcases putF_mem hy with h | ⟨_, rfl, _⟩
  · exact hF W d y h
  · exact hx W
theorem putAll_bd {R : List (ByteArray × ByteArray)} {l : List O13} (h : ∀ o ∈ l, o.In) : ∀ W d, ∀ y ∈ putAll R l d, VwB W y := by
  induction l using rev_indS with
  | h0 => intro W d y hy; simp [putAll] at hy
  | h1 l o ih =>
    rw [putAll_snoc]
    exact putF_bd (ih (fun o' h' => h o' (by simp [h']))) (fun W => verO_bd o (h o (by simp)))
theorem putAll_past (R : List (ByteArray × ByteArray)) (l : List O13) : ∀ d, ∀ y ∈ putAll R l d, y.1.past = [] := by
  induction l using rev_indS with
  | h0 => intro d y hy; simp [putAll] at hy
  | h1 l o ih =>
    rw [putAll_snoc]
    intro d y hy
    rcases putF_mem hy with h | ⟨_, rfl, _⟩
    · exact ih d y h
    · exact verO_past o
/-- What is written apart from a shard leaves it. -/
theorem ShA.wrote {w w' : World} {A P : Nat → Prop} {N b : Nat} {R : List (ByteArray × ByteArray)} {F : Ch} (h : ShA w A N b R F) (hm : Mv P w w') (hP : ∀ j, P j → A j) (hp : ∀ d, ∀ x ∈ F d, x.1.past = []) : ShA w' A N b R F := by
  obtain ⟨S, L, h1, h2, h3⟩ := h
  exact ⟨S, L, h1.mv hm (fun j hj hpj => (h3 j (hP j hpj)).2 hj) (fun k x hx => PastIn.of_nil (hp k x hx)), h2, fun j hj => ⟨Nat.lt_of_lt_of_le (h3 j hj).1 hm.size, (h3 j hj).2⟩⟩
theorem vw0_bd {w : World} : VwB w vw0 := ⟨⟨by show (0 : Nat) ≤ _; omega, by show (0 : Nat) ≤ _; omega, by show (0 : Nat) ≤ 1000000; omega, (fun d hd => by cases hd), DepAt.nil w⟩, by show In64 (0, 0); unfold In64; omega⟩
theorem lastP_bd {w : World} {p : Vw → Bool} {l : List Vw} (h : ∀ x ∈ l, VwB w x) : VwB w ((lastP p l).getD vw0) := by
  cases e : lastP p l with
  | none => exact vw0_bd
  | some y => exact h y (lastP_some e).1
theorem kcell13 {w w' : World} {p : Addr} {u : Value} (hb : Below w.heap.size w w') (h : w.cell? p = some u) : w'.cell? p = some u := (hb.cell (World.block_lt_of_cell? w _ h)).trans h
theorem RowIn.op13 {w : World} {a : Option Addr} {l : List O13} (h : RowIn KO13 w a l) (i : Nat) (hi : i < l.length) : ∃ b off, a = some ⟨b, off, none⟩ ∧ b < w.heap.size ∧ ∀ j u, (cs13 l[i])[j]? = some u → w.cell? ⟨b, off + i * 14 + j, none⟩ = some u := h i hi
end Go.Proofs.Ytjfmgplhcinkfaa
/- Maps whose keys are dependencies, or texts. -/
namespace Go.Proofs.Ytjfmgplhcinkfaa
open Go.RowKit Go.Maps
set_option linter.unusedVariables false
set_option linter.unusedSimpArgs false

/-- Block b is a map of n entries; g: what lies at each dependency. -/
def MapD (w : World) (b n : Nat) (g : De → Option Value) : Prop := ∃ f, MapF w 34 b n f ∧ ∀ d, KeyD d → f (kD d) = g d
theorem MapD.made (w : World) : MapD (w.alloc (.map #[] 0)) w.heap.size 0 (fun _ => none) := ⟨_, MapF.made w _, fun d _ => rfl⟩
theorem MapD.lt {w : World} {b n : Nat} {g : De → Option Value} (h : MapD w b n g) : b < w.heap.size := by
  obtain ⟨f, h1, _⟩ := h
  exact h1.lt
theorem MapD.block {w w' : World} {b n : Nat} {g : De → Option Value} (h : MapD w b n g) (hb : w'.heap[b]? = w.heap[b]?) : MapD w' b n g := by
  obtain ⟨f, h1, h2⟩ := h
  exact ⟨f, h1.block hb, h2⟩
theorem MapD.below {w w' : World} {b n : Nat} {g : De → Option Value} (h : MapD w b n g) (hb : Below w.heap.size w w') : MapD w' b n g := h.block (hb.block b h.lt)
theorem MapD.congr {w : World} {b n : Nat} {g g' : De → Option Value} (h : MapD w b n g) (e : ∀ d, KeyD d → g d = g' d) : MapD w b n g' := by
  obtain ⟨f, h1, h2⟩ := h
  exact ⟨f, h1, fun d hd => (h2 d hd).trans (e d hd)⟩
section
variable {w : World} {t e : TypeId} {b n : Nat} {g : De → Option Value}
theorem MapD.look (h : MapD w b n g) (ht : Try.prog.underlying t = some (.map 34 e)) {z : Value} (hz : (zeroValue e).run Try.prog w = .ok z w) {x : ByteArray} {y s : Int} (hk : KeyD (x, y, s)) :
    (Instr.lookup t (.map (some b)) (.agg #[.string x, .int .i64 y, .int .i64 s]) false).run Try.prog w = .ok ((g (x, y, s)).getD z) w := by
  obtain ⟨f, h1, h2⟩ := h
  have := h1.look (key := dv (x, y, s)) (kl := kD (x, y, s)) keyed_dep ht hz (key_dep hk)
  rw [h2 _ hk] at this
  exact this
theorem MapD.lookOk (h : MapD w b n g) (ht : Try.prog.underlying t = some (.map 34 e)) {z : Value} (hz : (zeroValue e).run Try.prog w = .ok z w) {x : ByteArray} {y s : Int} (hk : KeyD (x, y, s)) :
    (Instr.lookup t (.map (some b)) (.agg #[.string x, .int .i64 y, .int .i64 s]) true).run Try.prog w = .ok (.tuple #[(g (x, y, s)).getD z, .bool (g (x, y, s)).isSome]) w := by
  obtain ⟨f, h1, h2⟩ := h
  have := h1.lookOk (key := dv (x, y, s)) (kl := kD (x, y, s)) keyed_dep ht hz (key_dep hk)
  rw [h2 _ hk] at this
  exact this
theorem MapD.len (h : MapD w b n g) (ht : Try.prog.underlying t = some (.map 34 e)) (ty : TypeId) : (Builtin.len_ #[t] ty #[.map (some b)]).run Try.prog w = .ok (.int .i64 n) w := by
  obtain ⟨f, h1, h2⟩ := h
  exact h1.len ht ty
theorem MapD.store (h : MapD w b n g) (ht : Try.prog.underlying t = some (.map 34 e)) (hn : n < maxLen) {x : ByteArray} {y s : Int} (hk : KeyD (x, y, s)) (val : Value) :
    ∃ w', (Instr.mapUpdate t (.map (some b)) (.agg #[.string x, .int .i64 y, .int .i64 s]) val).run Try.prog w = .ok () w' ∧ MapD w' b (if (g (x, y, s)).isSome then n else n + 1) (fun d => if d = (x, y, s) then some val else g d) ∧ w.mapTurned w' b := by
  obtain ⟨f, h1, h2⟩ := h
  obtain ⟨w', hrun, ⟨f', r1, r3, r4⟩, r2⟩ := h1.store (val := val) keyed_dep ht hn (key_dep hk)
  refine ⟨w', hrun, ⟨f', by rw [← h2 _ hk]; exact r1, fun d hd => ?_⟩, r2⟩
  dsimp only
  by_cases e : d = (x, y, s)
  · rw [if_pos e, e]; exact r3
  · rw [if_neg e, ← h2 _ hd]; exact r4 _ (fun e' => e (kD_inj hd hk e'))
end
set_option maxRecDepth 100000 in
/-- The store at the operation. -/
theorem wp_mapSetD {w : World} {t e : TypeId} {b n : Nat} {g : De → Option Value} {ops : Array Oper} {rest : List Oper} {o : Oper} {a : Act} {Q : Exit → Act → World → Prop}
    (hg : o.guard = none) (m x v : Operand) (hop : o.op = Op.mapUpdate t m x v) (ht : Try.prog.underlying t = some (.map 34 e)) (hm : a.eval m = .map (some b)) (hown : MapD w b n g) (hn : n < maxLen)
    (k : ByteArray) (y s : Int) (val : Value) (hx : a.eval x = .agg #[.string k, .int .i64 y, .int .i64 s]) (hv : a.eval v = val) (hk : KeyD (k, y, s))
    (hK : ∀ w', MapD w' b (if (g (k, y, s)).isSome then n else n + 1) (fun d => if d = (k, y, s) then some val else g d) → w.mapTurned w' b → wpList Try.prog ops Q rest (a.put o.dst undef) w') :
    wpList Try.prog ops Q (o :: rest) a w := by
  refine wpList_plain hg fun K' hK' => ?_
  obtain ⟨w', hrun, r1, r2⟩ := hown.store ht hn hk val
  unfold Oper.wp
  simp [execOp, hop, hm, hx, hv, hrun, Result.andThen]
  exact hK' _ _ (hK w' r1 r2)

/-- Block b is a map of n entries; g: what lies at each text. -/
def MapS (w : World) (b n : Nat) (g : ByteArray → Option Value) : Prop := ∃ f, MapF w 9 b n f ∧ ∀ s : ByteArray, s.size ≤ maxLen → f (.string s.data.toList) = g s
theorem MapS.made (w : World) : MapS (w.alloc (.map #[] 0)) w.heap.size 0 (fun _ => none) := ⟨_, MapF.made w _, fun d _ => rfl⟩
theorem MapS.lt {w : World} {b n : Nat} {g : ByteArray → Option Value} (h : MapS w b n g) : b < w.heap.size := by
  obtain ⟨f, h1, _⟩ := h
  exact h1.lt
theorem MapS.block {w w' : World} {b n : Nat} {g : ByteArray → Option Value} (h : MapS w b n g) (hb : w'.heap[b]? = w.heap[b]?) : MapS w' b n g := by
  obtain ⟨f, h1, h2⟩ := h
  exact ⟨f, h1.block hb, h2⟩
theorem MapS.below {w w' : World} {b n : Nat} {g : ByteArray → Option Value} (h : MapS w b n g) (hb : Below w.heap.size w w') : MapS w' b n g := h.block (hb.block b h.lt)
section
variable {w : World} {t e : TypeId} {b n : Nat} {g : ByteArray → Option Value}
theorem MapS.look (h : MapS w b n g) (ht : Try.prog.underlying t = some (.map 9 e)) {z : Value} (hz : (zeroValue e).run Try.prog w = .ok z w) {x : ByteArray} (hk : x.size ≤ maxLen) :
    (Instr.lookup t (.map (some b)) (.string x) false).run Try.prog w = .ok ((g x).getD z) w := by
  obtain ⟨f, h1, h2⟩ := h
  rw [← h2 _ hk]
  exact h1.look (Maps.string_keyed Try.underlying9) ht hz (WideMaps.keyOf_string_mk Try.underlying9 hk)
theorem MapS.lookOk (h : MapS w b n g) (ht : Try.prog.underlying t = some (.map 9 e)) {z : Value} (hz : (zeroValue e).run Try.prog w = .ok z w) {x : ByteArray} (hk : x.size ≤ maxLen) :
    (Instr.lookup t (.map (some b)) (.string x) true).run Try.prog w = .ok (.tuple #[(g x).getD z, .bool (g x).isSome]) w := by
  obtain ⟨f, h1, h2⟩ := h
  rw [← h2 _ hk]
  exact h1.lookOk (Maps.string_keyed Try.underlying9) ht hz (WideMaps.keyOf_string_mk Try.underlying9 hk)
theorem MapS.store (h : MapS w b n g) (ht : Try.prog.underlying t = some (.map 9 e)) (hn : n < maxLen) {x : ByteArray} (hk : x.size ≤ maxLen) (val : Value) :
    ∃ w', (Instr.mapUpdate t (.map (some b)) (.string x) val).run Try.prog w = .ok () w' ∧ MapS w' b (if (g x).isSome then n else n + 1) (fun d => if d = x then some val else g d) ∧ w.mapTurned w' b := by
  obtain ⟨f, h1, h2⟩ := h
  obtain ⟨w', hrun, ⟨f', r1, r3, r4⟩, r2⟩ := h1.store (val := val) (Maps.string_keyed Try.underlying9) ht hn (WideMaps.keyOf_string_mk Try.underlying9 hk)
  refine ⟨w', hrun, ⟨f', by rw [← h2 _ hk]; exact r1, fun d hd => ?_⟩, r2⟩
  dsimp only
  by_cases e : d = x
  · rw [if_pos e, e]; exact r3
  · rw [if_neg e, ← h2 _ hd]; exact r4 _ (fun e' => e (ba_inj (by simpa using e')))
end
set_option maxRecDepth 100000 in
/-- The store at the operation. -/
theorem wp_mapSetS {w : World} {t e : TypeId} {b n : Nat} {g : ByteArray → Option Value} {ops : Array Oper} {rest : List Oper} {o : Oper} {a : Act} {Q : Exit → Act → World → Prop}
    (hg : o.guard = none) (m x v : Operand) (hop : o.op = Op.mapUpdate t m x v) (ht : Try.prog.underlying t = some (.map 9 e)) (hm : a.eval m = .map (some b)) (hown : MapS w b n g) (hn : n < maxLen)
    (k : ByteArray) (val : Value) (hx : a.eval x = .string k) (hv : a.eval v = val) (hk : k.size ≤ maxLen)
    (hK : ∀ w', MapS w' b (if (g k).isSome then n else n + 1) (fun d => if d = k then some val else g d) → w.mapTurned w' b → wpList Try.prog ops Q rest (a.put o.dst undef) w') :
    wpList Try.prog ops Q (o :: rest) a w := by
  refine wpList_plain hg fun K' hK' => ?_
  obtain ⟨w', hrun, r1, r2⟩ := hown.store ht hn hk val
  unfold Oper.wp
  simp [execOp, hop, hm, hx, hv, hrun, Result.andThen]
  exact hK' _ _ (hK w' r1 r2)
end Go.Proofs.Ytjfmgplhcinkfaa
/- A map of rows of stamps, by texts: a stamp appended to the row of a text. -/
namespace Go.Proofs.Ytjfmgplhcinkfaa
open Go.RowKit Go.Maps
set_option linter.unusedVariables false
set_option linter.unusedSimpArgs false

def rowsK (cs : List (ByteArray × (Int × Int))) (k : ByteArray) : List (Int × Int) := (cs.filter fun c => decide (c.1 = k)).map Prod.snd
theorem rowsK_snoc (cs : List (ByteArray × (Int × Int))) (x : ByteArray) (c : (Int × Int)) (k : ByteArray) : rowsK (cs ++ [(x, c)]) k = if x = k then rowsK cs k ++ [c] else rowsK cs k := by
  unfold rowsK
  rw [List.filter_append, List.map_append]
  by_cases h : x = k <;> simp [h]
theorem rowsK_len (cs : List (ByteArray × (Int × Int))) (k : ByteArray) : (rowsK cs k).length ≤ cs.length := by
  unfold rowsK
  rw [List.length_map]
  exact List.length_filter_le _ _
abbrev nilT : Value := .slice none 0 0
/-- Block b is a map of rows of stamps by keys; the rows lie in blocks of their own, from base on. -/
structure Grp (w : World) (base b : Nat) (cs : List (ByteArray × (Int × Int))) (n : Nat) (g : ByteArray → Option Value) : Prop where
  mp : MapS w b n g
  n_le : n ≤ cs.length
  row : ∀ k : ByteArray, k.size ≤ maxLen → OwnR KT w base ((g k).getD nilT) (rowsK cs k)
  apart : ∀ k k' : ByteArray, k.size ≤ maxLen → k'.size ≤ maxLen → k ≠ k' → ∀ x, ((g k).getD nilT).ownBlock = some x → ((g k').getD nilT).ownBlock ≠ some x
theorem Grp.below {w w' : World} {base b : Nat} {cs : List (ByteArray × (Int × Int))} {n : Nat} {g : ByteArray → Option Value} (h : Grp w base b cs n g) (hb : Below w.heap.size w w') : Grp w' base b cs n g :=
  ⟨h.mp.below hb, h.n_le, fun k hk => (h.row k hk).below hb, h.apart⟩
theorem Grp.made (w : World) (base : Nat) : Grp (w.alloc (.map #[] 0)) base w.heap.size [] 0 (fun _ => none) :=
  ⟨MapS.made w, by simp, fun k _ => OwnR.nil _ _ _, fun k k' _ _ _ x h => by simp [Value.ownBlock] at h⟩
/-- One stamp more. -/
theorem Grp.push {w w1 w2 : World} {base b : Nat} {cs : List (ByteArray × (Int × Int))} {n : Nat} {g : ByteArray → Option Value} (h : Grp w base b cs n g) (hbb : b < base) {x : ByteArray} (hx : x.size ≤ maxLen) {c : (Int × Int)} {v' : Value} {q : Nat} (hq : v'.ownBlock = some q)
    (ho : OwnR KT w1 base v' (rowsK cs x ++ [c])) (hk : KeptD ((g x).getD nilT) w w1) (hat : ((g x).getD nilT).ownBlock = some q ∨ w.heap.size ≤ q)
    (hm : MapS w2 b (if (g x).isSome then n else n + 1) (fun d => if d = x then some v' else g d)) (ht : w1.mapTurned w2 b) :
    Grp w2 base b (cs ++ [(x, c)]) (if (g x).isSome then n else n + 1) (fun d => if d = x then some v' else g d) := by
  refine ⟨hm, ?_, fun k hk' => ?_, fun k k' h1 h2 hne y hy => ?_⟩
  · have := h.n_le
    rw [List.length_append]
    split <;> simp <;> omega
  · rw [rowsK_snoc]
    by_cases e : k = x
    · rw [if_pos e, if_pos e.symm, e]
      exact ho.block (fun q hq => turned_block ht q (by have := (ho.lt q hq).1; omega))
    · rw [if_neg e, if_neg (Ne.symm e)]
      have hr := h.row k hk'
      refine hr.block (fun q hq => ?_)
      rw [turned_block ht q (by have := (hr.lt q hq).1; omega)]
      exact hk q (hr.lt q hq).2 (h.apart k x hk' hx e q hq)
  · by_cases e : k = x
    · rw [if_pos e] at hy
      rw [if_neg (fun e' => hne (e.trans e'.symm))]
      simp only [Option.getD_some] at hy
      rw [hq] at hy
      cases hy
      rcases hat with h3 | h3
      · exact h.apart x k' hx h2 (by rw [← e]; exact hne) q h3
      · intro h4
        have := ((h.row k' h2).lt q h4).2
        omega
    · rw [if_neg e] at hy
      by_cases e' : k' = x
      · rw [if_pos e']
        simp only [Option.getD_some]
        rw [hq]
        intro h4
        cases h4
        rcases hat with h3 | h3
        · exact h.apart x k hx h1 (Ne.symm e) q h3 hy
        · have := ((h.row k h1).lt q hy).2
          omega
      · rw [if_neg e']
        exact h.apart k k' h1 h2 hne y hy
/-- No row lies in block j. -/
def Avoid (g : ByteArray → Option Value) (j : Nat) : Prop := ∀ k : ByteArray, k.size ≤ maxLen → ((g k).getD nilT).ownBlock ≠ some j
theorem Grp.avoid {w : World} {base b : Nat} {cs : List (ByteArray × (Int × Int))} {n : Nat} {g : ByteArray → Option Value} (h : Grp w base b cs n g) {j : Nat} (hj : w.heap.size ≤ j) : Avoid g j := fun k hk => (h.row k hk).lt' hj
/-- One stamp appended, and its row put into the map. -/
theorem Grp.add {w : World} {base b : Nat} {cs : List (ByteArray × (Int × Int))} {n : Nat} {g : ByteArray → Option Value} (h : Grp w base b cs n g) (hbb : b < base) (hbs : base ≤ w.heap.size) (hlen : cs.length ≤ 100000) {x : ByteArray} (hx : x.size ≤ maxLen) (c : (Int × Int)) (ty : TypeId) :
    ∃ q cap w1 w2 n' g', (Builtin.append_ #[75, 75] ty #[(g x).getD nilT, .slice (some ⟨w.heap.size, 0, none⟩) 1 1]).run Try.prog (w.alloc (.cells #[.int .i64 c.1, .int .i64 c.2] 29)) = .ok (.slice (some ⟨q, 0, none⟩) ((rowsK cs x).length + 1) cap) w1 ∧
      (Instr.mapUpdate 86 (.map (some b)) (.string x) (.slice (some ⟨q, 0, none⟩) ((rowsK cs x).length + 1) cap)).run Try.prog w1 = .ok () w2 ∧
      Grp w2 base b (cs ++ [(x, c)]) n' g' ∧ (∀ j, j < w.heap.size → Avoid g j → Avoid g' j ∧ w1.heap[j]? = w.heap[j]? ∧ (j ≠ b → w2.heap[j]? = w.heap[j]?)) ∧ Below b w w2 := by
  obtain ⟨q, cap, w1, hrun, ho, hbel, hkept, hat, hlt⟩ := run_pushR kt_ok (wr := w) ty base _ _ c #[.int .i64 c.1, .int .i64 c.2] rfl (h.row x hx) (by have := rowsK_len cs x; omega) hbs
  have hmb : w1.heap[b]? = w.heap[b]? := hkept b h.mp.lt (fun e => by have := ((h.row x hx).lt b e).1; omega)
  obtain ⟨w2, hrun2, hm2, ht2⟩ := (h.mp.block hmb).store Try.underlying86 (by have := h.n_le; unfold maxLen; omega) hx (.slice (some ⟨q, 0, none⟩) ((rowsK cs x).length + 1) cap)
  have hg := h.push hbb hx (q := q) rfl ho hkept hat hm2 ht2
  refine ⟨q, cap, w1, w2, _, _, hrun, hrun2, hg, fun j hj hav => ⟨fun k hk => ?_, hkept j hj (hav x hx), fun hjb => (turned_block ht2 j hjb).trans (hkept j hj (hav x hx))⟩, (hbel.mono (by omega)).trans (turned_below ht2 (Nat.le_refl _) (by have := hbel.size; omega))⟩
  dsimp only
  by_cases e : k = x
  · rw [if_pos e]
    intro h3
    have h4 : q = j := by simpa [Value.ownBlock] using h3
    rcases hat with h5 | h5
    · exact hav x hx (by rw [h5, h4])
    · omega
  · rw [if_neg e]
    exact hav k hk
theorem Grp.look {w : World} {base b : Nat} {cs : List (ByteArray × (Int × Int))} {n : Nat} {g : ByteArray → Option Value} (h : Grp w base b cs n g) {x : ByteArray} (hx : x.size ≤ maxLen) :
    (Instr.lookup 86 (.map (some b)) (.string x) false).run Try.prog w = .ok ((g x).getD nilT) w :=
  h.mp.look Try.underlying86 (Try.zeroValue75 _) hx
end Go.Proofs.Ytjfmgplhcinkfaa
