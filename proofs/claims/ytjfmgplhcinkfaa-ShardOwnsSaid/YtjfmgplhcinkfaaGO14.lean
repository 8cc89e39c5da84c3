/- Texts of this proof, one behind the other: ChMap, ChKeepC. -/
import Derived.Test.YtjfmgplhcinkfaaGO13
import Derived.WideKeyEntry
import Derived.Deep.DeepCutAuto
/- Maps whose keys are stamps; an element that is counted up. -/
namespace Go.Proofs.Ytjfmgplhcinkfaa
open Go.RowKit Go.Maps
set_option linter.unusedVariables false
set_option linter.unusedSimpArgs false

def kSt (p : Int × Int) : Lit := .string (keyBytes [.int .i64 p.1, .int .i64 p.2])
theorem law_st : Go.WideMaps.KeyLaw Try.prog 29 := deep_law_laid (by kernel_rfl) (m := 3) (by omega) (of_decide_eq_true (by kernel_rfl)) (by kernel_rfl) (by rw [Try.underlying29])
theorem keyed_st : Keyed Try.prog 29 := Keyed.of_law law_st
theorem lits_st (m : Nat) (y z : Int) (w1 : (Lit.int .i64 y).wf = true) (w2 : (Lit.int .i64 z).wf = true) :
    Try.prog.keyLits (m + 3) 29 [.int .i64 y, .int .i64 z] = some [.int .i64 y, .int .i64 z] := by
  have c1 : Try.prog.cellsOf 29 = 2 := by kernel_rfl
  have c4 : Try.prog.cellsOf 3 = 1 := by kernel_rfl
  simp [Program.keyLits, Try.underlying29, Try.underlying3, c1, c4, w1, w2]
theorem key_st {y z : Int} (h2 : In64 (y, z)) : keyOf Try.prog 29 (.agg #[.int .i64 y, .int .i64 z]) = some (kSt (y, z)) := by
  have hk : Try.prog.keyType 29 = true := by kernel_rfl
  have hf : (Value.agg #[.int .i64 y, .int .i64 z]).formed Try.prog 29 = true := by
    have hc : Try.prog.cellsOf 29 = 2 := by kernel_rfl
    simp [Value.formed, Try.underlying29, hc]
  have w1 := wf_i64 h2.1
  have w2 := wf_i64 h2.2
  have hl := lits_st (Try.prog.types.size - 2) y z w1 w2
  rw [show Try.prog.types.size - 2 + 3 = Try.prog.types.size + 1 by have : 2 ≤ Try.prog.types.size := of_decide_eq_true (by kernel_rfl); omega] at hl
  have hc : (Value.agg #[.int .i64 y, .int .i64 z]).cells.toList = [.int .i64 y, .int .i64 z] := rfl
  simp only [keyOf, Try.underlying29, hk, hf, hc, hl]
  rfl
theorem kSt_inj {p q : Int × Int} (h : In64 p) (h' : In64 q) (e : kSt p = kSt q) : p = q := by
  obtain ⟨y, z⟩ := p
  obtain ⟨y', z'⟩ := q
  have h1 := key_st h
  have h2 := key_st h'
  rw [← e] at h2
  have := keyed_st.inj h1 h2
  simp at this
  simp [this]

/-- Block b is a map of n entries; g: what lies at each stamp. -/
def MapT (w : World) (b n : Nat) (g : Int × Int → Option Value) : Prop := ∃ f, MapF w 29 b n f ∧ (∀ d, In64 d → f (kSt d) = g d) ∧ ∀ l x, f l = some x → ∃ d, In64 d ∧ l = kSt d
theorem MapT.made (w : World) : MapT (w.alloc (.map #[] 0)) w.heap.size 0 (fun _ => none) := ⟨_, MapF.made w _, fun d _ => rfl, fun l x e => by simp at e⟩
theorem MapT.lt {w : World} {b n : Nat} {g : Int × Int → Option Value} (h : MapT w b n g) : b < w.heap.size := by
  obtain ⟨f, h1, _⟩ := h
  exact h1.lt
theorem MapT.block {w w' : World} {b n : Nat} {g : Int × Int → Option Value} (h : MapT w b n g) (hb : w'.heap[b]? = w.heap[b]?) : MapT w' b n g := by
  obtain ⟨f, h1, h2, h3⟩ := h
  exact ⟨f, h1.block hb, h2, h3⟩
theorem MapT.below {w w' : World} {b n : Nat} {g : Int × Int → Option Value} (h : MapT w b n g) (hb : Below w.heap.size w w') : MapT w' b n g := h.block (hb.block b h.lt)
theorem MapT.congr {w : World} {b n : Nat} {g g' : Int × Int → Option Value} (h : MapT w b n g) (e : ∀ d, In64 d → g d = g' d) : MapT w b n g' := by
  obtain ⟨f, h1, h2, h3⟩ := h
  exact ⟨f, h1, fun d hd => (h2 d hd).trans (e d hd), h3⟩
section
variable {w : World} {t e : TypeId} {b n : Nat} {g : Int × Int → Option Value}
theorem MapT.look (h : MapT w b n g) (ht : Try.prog.underlying t = some (.map 29 e)) {z : Value} (hz : (zeroValue e).run Try.prog w = .ok z w) {y s : Int} (hk : In64 (y, s)) :
    (Instr.lookup t (.map (some b)) (.agg #[.int .i64 y, .int .i64 s]) false).run Try.prog w = .ok ((g (y, s)).getD z) w := by
  obtain ⟨f, h1, h2, _⟩ := h
  have := h1.look (key := .agg #[.int .i64 y, .int .i64 s]) (kl := kSt (y, s)) keyed_st ht hz (key_st hk)
  rw [h2 _ hk] at this
  exact this
theorem MapT.store (h : MapT w b n g) (ht : Try.prog.underlying t = some (.map 29 e)) (hn : n < maxLen) {y s : Int} (hk : In64 (y, s)) (val : Value) :
    ∃ w', (Instr.mapUpdate t (.map (some b)) (.agg #[.int .i64 y, .int .i64 s]) val).run Try.prog w = .ok () w' ∧ MapT w' b (if (g (y, s)).isSome then n else n + 1) (fun d => if d = (y, s) then some val else g d) ∧ w.mapTurned w' b := by
  obtain ⟨f, h1, h2, h3⟩ := h
  obtain ⟨w', hrun, ⟨f', r1, r3, r4⟩, r2⟩ := h1.store (val := val) keyed_st ht hn (key_st hk)
  refine ⟨w', hrun, ⟨f', by rw [← h2 _ hk]; exact r1, fun d hd => ?_, fun l x e => ?_⟩, r2⟩
  · dsimp only
    by_cases e : d = (y, s)
    · rw [if_pos e, e]; exact r3
    · rw [if_neg e, ← h2 _ hd]; exact r4 _ (fun e' => e (kSt_inj hd hk e'))
  · by_cases e' : l = kSt (y, s)
    · exact ⟨_, hk, e'⟩
    · rw [r4 l e'] at e
      exact h3 l x e
end

/-- 'm[k] = f(m[k])': the entry is made or found, then written: what a plain store makes of it. -/
theorem MapT.entry {w : World} {t e : TypeId} {b n : Nat} {g : Int × Int → Option Value} (h : MapT w b n g) (ht : Try.prog.underlying t = some (.map 29 e)) {z : Value} (hz : ∀ u : World, (zeroValue e).run Try.prog u = .ok z u) (hn : n < maxLen) {y s : Int} (hk : In64 (y, s)) (val : Value) :
    ∃ (v0 : Value) (st : Nat) (w1 w2 : World), (Instr.mapEntry t (.map (some b)) (.agg #[.int .i64 y, .int .i64 s])).run Try.prog w = .ok (.tuple #[v0, goInt st]) w1 ∧
      (Instr.entryStore t (.map (some b)) (goInt st) val).run Try.prog w1 = .ok () w2 ∧
      MapT w2 b (if (g (y, s)).isSome then n else n + 1) (fun d => if d = (y, s) then some val else g d) ∧ w.mapTurned w1 b ∧ w.mapTurned w2 b := by
  obtain ⟨w', hrun, h2, h3⟩ := h.store ht hn hk val
  obtain ⟨f, ⟨D, ⟨es, clock, hb, F, hs, hD⟩, _⟩, _⟩ := h
  obtain ⟨v0, st, es1, clock1, e1, _, e2⟩ := Go.WideElems.entry_then_store law_st ht hz hb F (key_st hk)
  have hb1 : (Go.ChangeMaps.setBlock w b (.map es1 clock1)).heap[b]? = some (.map es1 clock1) := Go.ChangeMaps.heap_setBlock_same hb _
  obtain ⟨es', clock', e3, e4⟩ := e2 _ val hb1
  rw [hrun] at e4
  have hw : w' = Go.ChangeMaps.setBlock w b (.map es' clock') := by injection e4
  have hss : Go.ChangeMaps.setBlock (Go.ChangeMaps.setBlock w b (.map es1 clock1)) b (.map es' clock') = w' := by
    rw [hw]
    simp [Go.ChangeMaps.setBlock]
  refine ⟨v0, st, _, w', e1, ?_, h2, ⟨es, clock, es1, clock1, hb, rfl⟩, h3⟩
  rw [e3, hss]
theorem modify_same {es : Array MapEntry} {j : Nat} {e0 : MapEntry} (hj : es[j]? = some e0) (f : MapEntry → MapEntry) (hf : f e0 = e0) : es.modify j f = es := by
  apply Array.ext_getElem?
  intro i
  rw [Array.getElem?_modify]
  by_cases h : j = i
  · subst h
    rw [if_pos rfl, hj]
    simp [hf]
  · rw [if_neg h]
/-- To find the entry, or to make it, is to store what lies there already. -/
theorem MapT.found {w : World} {t e : TypeId} {b n : Nat} {g : Int × Int → Option Value} (h : MapT w b n g) (ht : Try.prog.underlying t = some (.map 29 e)) {z : Value} (hz : ∀ u : World, (zeroValue e).run Try.prog u = .ok z u) {y s : Int} (hk : In64 (y, s)) :
    ∃ (v0 : Value) (st : Nat) (w1 : World), (Instr.mapEntry t (.map (some b)) (.agg #[.int .i64 y, .int .i64 s])).run Try.prog w = .ok (.tuple #[v0, goInt st]) w1 ∧
      (Instr.mapUpdate t (.map (some b)) (.agg #[.int .i64 y, .int .i64 s]) v0).run Try.prog w = .ok () w1 ∧
      (Instr.lookup t (.map (some b)) (.agg #[.int .i64 y, .int .i64 s]) false).run Try.prog w = .ok v0 w := by
  obtain ⟨f, ⟨D, ⟨es, clock, hb, F, hs, hD⟩, _⟩, _⟩ := h
  have hkey := key_st hk
  have hck := fun em => law_st.check w em hkey
  have hst := law_st.stays w hkey
  rcases law_st.find w hkey es.toList F.keys with ⟨h1, h2⟩ | ⟨j, e0, h1, h2, h3⟩
  · refine ⟨z, clock, Go.ChangeMaps.setBlock w b (.map (es.push ⟨.agg #[.int .i64 y, .int .i64 s], z, clock⟩) (clock + 1)), ?_, ?_, ?_⟩
    · simp [Instr.mapEntry, run_underlying ht, MapKept.run_getObj_map hb, hck, h1, hz, MapKept.run_setObj_map _ hb, Result.andThen, Go.ChangeMaps.setBlock]
    · simp [Instr.mapUpdate, run_underlying ht, MapKept.run_getObj_map hb, hck, h1, MapKept.run_setObj_map _ hb, Result.andThen, Go.ChangeMaps.setBlock]
    · simp [Instr.lookup, run_underlying ht, MapKept.run_getObj_map hb, hck, h1, hz, Result.andThen]
  · have hj : es[j]? = some e0 := by simpa using h2
    have m1 := modify_same hj (fun e => { e with key := .agg #[.int .i64 y, .int .i64 s] }) (by rw [← h3])
    have m2 := modify_same hj (fun e => { e with key := .agg #[.int .i64 y, .int .i64 s], val := e0.val }) (by rw [← h3])
    refine ⟨e0.val, e0.born, Go.ChangeMaps.setBlock w b (.map es clock), ?_, ?_, ?_⟩
    · simp [Instr.mapEntry, run_underlying ht, MapKept.run_getObj_map hb, hck, h1, hj, h3, hst, m1, MapKept.run_setObj_map _ hb, Result.andThen, Go.ChangeMaps.setBlock]
    · simp [Instr.mapUpdate, run_underlying ht, MapKept.run_getObj_map hb, hck, h1, hj, h3, hst, m2, MapKept.run_setObj_map _ hb, Result.andThen, Go.ChangeMaps.setBlock]
    · simp [Instr.lookup, run_underlying ht, MapKept.run_getObj_map hb, hck, h1, Result.andThen]
set_option maxRecDepth 100000 in
/-- All of 'm[k] = f(m[k])', whichever comes first, the look-up or the entry. -/
theorem MapT.bump {w : World} {t e : TypeId} {b n : Nat} {g : Int × Int → Option Value} (h : MapT w b n g) (ht : Try.prog.underlying t = some (.map 29 e)) {z : Value} (hz : ∀ u : World, (zeroValue e).run Try.prog u = .ok z u) (hn : n < maxLen) {y s : Int} (hk : In64 (y, s)) (val : Value) :
    ∃ (v0 : Value) (st : Nat) (w1 w2 : World), v0 = (g (y, s)).getD z ∧ (Instr.mapEntry t (.map (some b)) (.agg #[.int .i64 y, .int .i64 s])).run Try.prog w = .ok (.tuple #[v0, goInt st]) w1 ∧
      (Instr.lookup t (.map (some b)) (.agg #[.int .i64 y, .int .i64 s]) false).run Try.prog w = .ok v0 w ∧
      (Instr.lookup t (.map (some b)) (.agg #[.int .i64 y, .int .i64 s]) false).run Try.prog w1 = .ok v0 w1 ∧
      (Instr.entryStore t (.map (some b)) (goInt st) val).run Try.prog w1 = .ok () w2 ∧
      MapT w2 b (if (g (y, s)).isSome then n else n + 1) (fun d => if d = (y, s) then some val else g d) ∧ w.mapTurned w1 b ∧ w.mapTurned w2 b := by
  obtain ⟨v0, st, w1, w2, e1, e2, e3, e4, e5⟩ := h.entry ht hz hn hk val
  obtain ⟨v0', st', w1', f1, f2, f3⟩ := h.found ht hz hk
  rw [f1] at e1
  obtain ⟨ev, ew⟩ : v0' = v0 ∧ w1' = w1 := by
    injection e1 with a1 a2
    simp at a1
    exact ⟨a1.1, a2⟩
  have est : goInt st' = goInt st := by
    injection e1 with a1 a2
    simp at a1
    exact a1.2
  subst ev ew
  have hl := h.look ht (hz w) hk
  rw [f3] at hl
  have hv : v0' = (g (y, s)).getD z := by injection hl
  obtain ⟨w', g1, g2, g3⟩ := h.store ht hn hk v0'
  rw [f2] at g1
  have hw : w1' = w' := by injection g1
  subst hw
  have hl1 := g2.look ht (hz w1') hk
  simp at hl1
  exact ⟨v0', st, w1', w2, hv, by rw [f1, est], f3, hl1, e2, e3, e4, e5⟩
end Go.Proofs.Ytjfmgplhcinkfaa
/- Who is kept: what the closure of chain.keeper answers. -/
namespace Go.Proofs.Ytjfmgplhcinkfaa
open Go.RowKit Go.Shelf Go.Maps
set_option linter.unusedVariables false
set_option linter.unusedSimpArgs false

/-- What the closure has caught: the head, what is below, the pins as a map, the stable stamp. -/
structure KpIn (w : World) (B8 B7 B10 B9 B11 B4 M n : Nat) (g : Int × Int → Option Value) (hd bl : Vw) (hs fs : Bool) (s : Int × Int) : Prop where
  c8 : w.cell? ⟨B8, 0, none⟩ = some (.bool hs)
  v7 : VwP w B7 hd.1 (pw hd)
  c10 : w.cell? ⟨B10, 0, none⟩ = some (.bool fs)
  v9 : VwP w B9 bl.1 (pw bl)
  c11 : w.cell? ⟨B11, 0, none⟩ = some (.map (some M))
  s0 : w.cell? ⟨B4, 0, none⟩ = some (.int .i64 s.1)
  s1 : w.cell? ⟨B4, 1, none⟩ = some (.int .i64 s.2)
  mp : MapT w M n g
  h1 : WvB w hd.1 (pw hd)
  h2 : WvB w bl.1 (pw bl)
theorem KpIn.below {w w' : World} {B8 B7 B10 B9 B11 B4 M n : Nat} {g : Int × Int → Option Value} {hd bl : Vw} {hs fs : Bool} {s : Int × Int} (h : KpIn w B8 B7 B10 B9 B11 B4 M n g hd bl hs fs s) (hb : Below w.heap.size w w') : KpIn w' B8 B7 B10 B9 B11 B4 M n g hd bl hs fs s :=
  ⟨kc hb h.c8, h.v7.keep hb, kc hb h.c10, h.v9.keep hb, kc hb h.c11, kc hb h.s0, kc hb h.s1, h.mp.below hb, h.h1.below hb, h.h2.below hb⟩
/-- What the map of pins tells. -/
def PinG (g : Int × Int → Option Value) (pins : List (Int × Int)) : Prop := ∀ d, In64 d → (d ∈ pins → ∃ c : Int, 0 < c ∧ g d = some (.int .i64 c)) ∧ (d ∉ pins → g d = none)
theorem PinG.at {g : Int × Int → Option Value} {pins : List (Int × Int)} (h : PinG g pins) {d : Int × Int} (hd : In64 d) : ∃ c : Int, (g d).getD (.int .i64 0) = .int .i64 c ∧ decide (0 < c) = decide (d ∈ pins) := by
  by_cases hm : d ∈ pins
  · obtain ⟨c, h1, h2⟩ := (h d hd).1 hm
    exact ⟨c, by rw [h2]; rfl, by simp [h1, hm]⟩
  · exact ⟨0, by rw [(h d hd).2 hm]; rfl, by simp [hm]⟩
/-- The closure and what it has caught. -/
def KpAt (w : World) (lb : Array Value) (xs : List Vw) (s : Int × Int) (pins : List (Int × Int)) : Prop :=
  ∃ B8 B7 B10 B9 B11 B4 M n g, lb = #[.pointer (some ⟨B8, 0, none⟩), .pointer (some ⟨B7, 0, none⟩), .pointer (some ⟨B10, 0, none⟩), .pointer (some ⟨B9, 0, none⟩), .pointer (some ⟨B11, 0, none⟩), .pointer (some ⟨B4, 0, none⟩)] ∧
    KpIn w B8 B7 B10 B9 B11 B4 M n g (xs.getLast?.getD vw0) ((lastP (notA s) xs).getD vw0) xs.getLast?.isSome (lastP (notA s) xs).isSome s ∧ PinG g pins
theorem KpAt.below {w w' : World} {lb : Array Value} {xs : List Vw} {s : Int × Int} {pins : List (Int × Int)} (h : KpAt w lb xs s pins) (hb : Below w.heap.size w w') : KpAt w' lb xs s pins := by
  obtain ⟨B8, B7, B10, B9, B11, B4, M, n, g, h1, h2, h3⟩ := h
  exact ⟨B8, B7, B10, B9, B11, B4, M, n, g, h1, h2.below hb, h3⟩
theorem isW_opt (o : Option Vw) (x : Vw) : isW o x = (o.isSome && sameW x.1 (o.getD vw0).1) := by
  cases o <;> rfl

set_option maxRecDepth 100000 in
set_option maxHeartbeats 3200000 in
theorem keepC_any (x : Vw) (B8 B7 B10 B9 B11 B4 M n : Nat) (g : Int × Int → Option Value) (hd bl : Vw) (hs fs : Bool) (s : Int × Int) (pins : List (Int × Int)) (w : World) (hx : VwB w x) (hk : KpIn w B8 B7 B10 B9 B11 B4 M n g hd bl hs fs s) (hg : PinG g pins) :
    Calls Try.prog 54 #[wV x, .pointer (some ⟨B8, 0, none⟩), .pointer (some ⟨B7, 0, none⟩), .pointer (some ⟨B10, 0, none⟩), .pointer (some ⟨B9, 0, none⟩), .pointer (some ⟨B11, 0, none⟩), .pointer (some ⟨B4, 0, none⟩)] w fun e w' =>
      e = .returned (.bool ((hs && sameW x.1 hd.1) || decide (x.1.st ∈ pins) || !Sm.less x.1.st s || (fs && sameW x.1 bl.1))) ∧ Below w.heap.size w w' := by
  have hb1 : Below w.heap.size w (w.alloc (.cells (wcs x) 32)) := balloc (Below.refl _ w) _
  have hV := VwP.new w x.1 (pw x) 32
  have HK := Lib.hid (hk.below hb1)
  have HX := Lib.hid (hx.below hb1)
  obtain ⟨c, hc1, hc2⟩ := hg.at hx.2
  have HC := Lib.hid hc1
  have hsame1 := fun W (h1 : WvB W x.1 (pw x)) (h2 : WvB W hd.1 (pw hd)) => wsameB_any x.1 hd.1 (pw x) (pw hd) W h1 h2
  have hsame2 := fun W (h1 : WvB W x.1 (pw x)) (h2 : WvB W bl.1 (pw bl)) => wsameB_any x.1 bl.1 (pw x) (pw bl) W h1 h2
  have hless := fun W => less_any x.1.st.1 x.1.st.2 s.1 s.2 W
  have hi64 := hx.2
  have hzero : ∀ u : World, (zeroValue 3).run Try.prog u = .ok (.int .i64 0) u := fun u => Try.zeroValue3 u
  rw [← hc2]
  have hlook : ∀ W, MapT W M n g → (Instr.lookup 92 (.map (some M)) (.agg #[.int .i64 x.1.st.1, .int .i64 x.1.st.2]) false).run Try.prog W = .ok (.int .i64 c) W := fun W h => by
    rw [h.look Try.underlying92 (hzero W) hi64, HC.out]
  generalize sameW x.1 hd.1 = r1 at hsame1 ⊢
  generalize sameW x.1 bl.1 = r2 at hsame2 ⊢
  obtain ⟨la, hla⟩ : ∃ la : Bool, la = (hs && r1) := ⟨_, rfl⟩
  rw [← hla]
  have HLA := Lib.hid hla
  clear hla
  obtain ⟨ba, hba⟩ : ∃ ba : Bool, ba = (fs && r2) := ⟨_, rfl⟩
  rw [← hba]
  have HBA := Lib.hid hba
  clear hba
  obtain ⟨s0, s1⟩ := s
  have hst : x.1.st = (x.1.st.1, x.1.st.2) := rfl
  generalize hlq : Sm.less x.1.st (s0, s1) = lq
  rw [hst] at hlq
  dsimp only at hless hlq
  rw [hlq] at hless
  clear hx hk hg hc1 hc2 hi64 hst hlq hzero HC
  obtain ⟨⟨key, val, gone, ⟨m, t⟩, past⟩, pa, pc⟩ := x
  obtain ⟨⟨key1, val1, gone1, ⟨m1, t1⟩, past1⟩, pa1, pc1⟩ := hd
  obtain ⟨⟨key2, val2, gone2, ⟨m2, t2⟩, past2⟩, pa2, pc2⟩ := bl
  dsimp only [wV, wcs, wvs, pw] at *
  have HV := Lib.hid hV
  have HB1 := Lib.hid hb1
  clear hV hb1
  go_enter Try.func54, Try.ntmps54
  go_upto_region 1 with fail
  obtain ⟨w1, hw1⟩ : ∃ w1, w.alloc (.cells #[.string key, .string val, .bool gone, .int .i64 m, .int .i64 t, .slice pa past.length pc] 32) = w1 := ⟨_, rfl⟩
  try rw [hw1]
  rw [hw1] at HV HB1 HK HX
  clear hw1
  go_cut [9] (fun s9 wx => s9 = .bool la ∧ Below w1.heap.size w1 wx)
  case first =>
    have c8 := HK.out.c8
    obtain ⟨x0, x1, x2, x3, x4, x5, _⟩ := id HV.out
    obtain ⟨y0, y1, y2, y3, y4, y5, _⟩ := id HK.out.v7
    dsimp only [pw] at x0 x1 x2 x3 x4 x5 y0 y1 y2 y3 y4 y5
    cases hs with
    | false =>
      have hl : la = false := HLA.out
      subst hl
      go_wp2
      go_meet
      exact ⟨rfl, Below.refl _ _⟩
    | true =>
      go_wp2_with fail
      refine (hsame1 _ HX.out.1 HK.out.h1).mono ?_
      rintro e w2 ⟨rfl, hb2⟩
      have hl : la = r1 := HLA.out
      subst hl
      go_wp2
      go_meet
      exact ⟨rfl, hb2⟩
  case rest =>
    obtain ⟨rfl, hb2⟩ := hcut
    obtain ⟨w2, hw2⟩ : ∃ w2, w2 = wc := ⟨_, rfl⟩
    subst hw2
    have HK2 := Lib.hid (HK.out.below hb2)
    have HX2 := Lib.hid (HX.out.below hb2)
    have HV2 := Lib.hid (HV.out.keep hb2)
    have HB2 := Lib.hid (bstep HB1.out hb2)
    clear hb2 HK HX HV HB1 hsame1
    go_upto_region 2 with fail
    go_cut [10] (fun s10 wx => s10 = .bool ba ∧ Below w2.heap.size w2 wx)
    case first =>
      have c10 := HK2.out.c10
      obtain ⟨x0, x1, x2, x3, x4, x5, _⟩ := id HV2.out
      obtain ⟨y0, y1, y2, y3, y4, y5, _⟩ := id HK2.out.v9
      dsimp only [pw] at x0 x1 x2 x3 x4 x5 y0 y1 y2 y3 y4 y5
      cases fs with
      | false =>
        have hl : ba = false := HBA.out
        subst hl
        go_wp2
        go_meet
        exact ⟨rfl, Below.refl _ _⟩
      | true =>
        go_wp2_with fail
        refine (hsame2 _ HX2.out.1 HK2.out.h2).mono ?_
        rintro e w3 ⟨rfl, hb3⟩
        have hl : ba = r2 := HBA.out
        subst hl
        go_wp2
        go_meet
        exact ⟨rfl, hb3⟩
    case rest =>
      obtain ⟨rfl, hb3⟩ := hcut
      obtain ⟨w3, hw3⟩ : ∃ w3, w3 = wc := ⟨_, rfl⟩
      subst hw3
      have HK3 := Lib.hid (HK2.out.below hb3)
      have HV3 := Lib.hid (HV2.out.keep hb3)
      have HB3 := Lib.hid (bstep HB2.out hb3)
      clear hb3 HK2 HX2 HV2 HB2 hsame2 HLA HBA
      have c11 := HK3.out.c11
      have s0' := HK3.out.s0
      have s1' := HK3.out.s1
      have x3 := HV3.out.c3
      have x4 := HV3.out.c4
      dsimp only at s0' s1' x3 x4
      have hlk := hlook w3 HK3.out.mp
      cases la with
      | true =>
        go_wp2
        go_ret
        exact ⟨ret_bool (by simp), HB3.out⟩
      | false =>
        by_cases hc0 : 0 < c
        · go_wp2
          go_ret
          exact ⟨ret_bool (by simp [hc0]), HB3.out⟩
        · go_wp2_with fail
          refine (hless _).mono ?_
          rintro e w4 ⟨rfl, hb4⟩
          cases lq with
          | false =>
            go_wp2
            go_ret
            exact ⟨ret_bool (by simp [hc0]), bstep HB3.out hb4⟩
          | true =>
            go_wp2
            go_ret
            exact ⟨ret_bool (by simp; intro h; omega), bstep HB3.out hb4⟩
end Go.Proofs.Ytjfmgplhcinkfaa
