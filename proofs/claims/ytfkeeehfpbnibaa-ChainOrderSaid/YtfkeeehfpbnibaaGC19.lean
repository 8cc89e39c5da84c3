/- Texts of this proof, one behind the other: ChLaw, MapF, ChMap. -/
import Derived.Test.YtfkeeehfpbnibaaGC18
import Derived.Maps.OwnSet
import Derived.Maps.OwnOps
import Derived.Maps.Views
import Derived.DeepKeys4
import Derived.StringKeys
import Derived.Lib.Hide
import Derived.WideKeyEntry
/- Chains of key a: what the laws build, as plain mathematics. -/
namespace Go.Proofs.Ytfkeeehfpbnibaa
open Go.RowKit Go.Shelf
set_option linter.unusedVariables false
set_option linter.unusedSimpArgs false

/-- A version of key a: a stamp, a value. -/
def mkA (s : Int × Int) (b : ByteArray) : Vw := (⟨kA, b, false, s, []⟩, none, 0)
theorem chk_kA : Km.chk kA.data.toList = true := by decide +kernel
theorem mkA_ok (s : Int × Int) (b : ByteArray) (hb : b.size ≤ 32) : okW (mkA s b).1 = Sm.ok s.1 s.2 := by
  have h : okW (mkA s b).1 = (vbW (mkA s b).1 && Km.chk kA.data.toList && Sm.ok s.1 s.2 && chkD []) := rfl
  have h1 : vbW (mkA s b).1 = true := by simp [vbW, mkA, hb]
  have h2 : chkD [] = true := by decide +kernel
  rw [h, h1, chk_kA, h2]
  simp
theorem mkA_bd {w : World} {s : Int × Int} {b : ByteArray} (hb : b.size ≤ 32) (hs : In64 s) : VwB w (mkA s b) :=
  ⟨⟨by show kA.size ≤ _; decide, by show b.size ≤ _; omega, by simp [mkA], (fun d hd => by simp [mkA] at hd), DepAt.nil _⟩, hs⟩
theorem ok_less {s : Int × Int} (h : Sm.ok s.1 s.2 = true) : Sm.less s (0, 0) = false ∧ Sm.less s (1099511627777, 0) = true ∧ In64 s := by
  simp [Sm.ok] at h
  refine ⟨?_, ?_, ?_, ?_⟩
  · rw [Sm.less_false]; dsimp only; omega
  · rw [Sm.less_iff]; dsimp only; omega
  · omega
  · omega

/-! Rising rows. -/
theorem Chn.sub {A : List Vw} {xs : List Vw} (h : Chn xs) (hs : A.Sublist xs) : Chn A := ⟨fun x hx => h.ok x (hs.subset hx), fun x hx => h.key x (hs.subset hx), h.rise.sublist hs⟩
theorem Chn.fit {xs : List Vw} (h : Chn xs) {x : Vw} (hk : x.1.key = kA) : fitK xs x = true := by
  cases xs with
  | nil => rfl
  | cons y r =>
    unfold fitK
    simp [h.key y (by simp), hk]
theorem isS_any_false {xs : List Vw} {s : Int × Int} (h : xs.any (isS s) = false) : ∀ y ∈ xs, y.1.st ≠ s := by
  intro y hy e
  have := List.any_eq_false.1 h y hy
  simp [isS, e] at this
/-- The document's Put keeps a chain a chain. -/
theorem Chn.putR {xs : List Vw} (h : Chn xs) {x : Vw} (hk : x.1.key = kA) : Chn (putR xs x) := by
  unfold Go.Proofs.Ytfkeeehfpbnibaa.putR
  cases hok : putOkR xs x with
  | false => simpa using h
  | true =>
    simp only [if_true]
    unfold putOkR at hok
    simp only [Bool.and_eq_true, Bool.not_eq_true'] at hok
    obtain ⟨⟨h1, _⟩, h3⟩ := hok
    have hne := isS_any_false h3
    unfold insB
    refine Chn.mid ?_ h1 hk (fun a ha => ?_) (fun b hb => ?_)
    · rw [List.takeWhile_append_dropWhile]; exact h
    · have := List.all_eq_true.1 List.all_takeWhile a ha
      simp [gtW] at this
      exact less_total this (fun e => hne a ((List.takeWhile_sublist _).subset ha) e.symm)
    · have hd := h.rise.sublist (List.dropWhile_sublist (fun y => !gtW x y) (l := xs))
      cases hdw : xs.dropWhile (fun y => !gtW x y) with
      | nil => rw [hdw] at hb; simp at hb
      | cons c r =>
        have hc : gtW x c = true := by
          have := List.head?_dropWhile_not (fun y => !gtW x y) xs
          rw [hdw] at this
          simpa using this
        rw [hdw] at hd hb
        rw [List.pairwise_cons] at hd
        rcases List.mem_cons.1 hb with rfl | hb
        · exact hc
        · exact Sm.less_trans hc (hd.1 b hb)
theorem putR_len (xs : List Vw) (x : Vw) : (putR xs x).length ≤ xs.length + 1 := by
  unfold Go.Proofs.Ytfkeeehfpbnibaa.putR
  split
  · rw [insB_len]; omega
  · omega
theorem putR_mem {xs : List Vw} {x y : Vw} (h : y ∈ putR xs x) : y = x ∨ y ∈ xs := by
  unfold Go.Proofs.Ytfkeeehfpbnibaa.putR at h
  split at h
  · exact insB_mem h
  · exact .inr h
/-- Put keeps a chain a chain. -/
theorem Chn.putC {xs : List Vw} (h : Chn xs) {x : Vw} (hk : x.1.key = kA) : Chn (putC xs x) := by
  unfold Go.Proofs.Ytfkeeehfpbnibaa.putC
  cases hok : putOk xs x with
  | false => simpa using h
  | true =>
    simp only [if_true]
    unfold putOk at hok
    simp only [Bool.and_eq_true, Bool.not_eq_true', Option.isSome_eq_false_iff] at hok
    obtain ⟨⟨h3, h1⟩, _⟩ := hok
    have hne : ∀ y ∈ xs, y.1.st ≠ x.1.st := fun y hy e => by
      have := lastP_none (by simpa using h3) y hy
      simp [isS, e] at this
    unfold midC
    have hdr := drop_upN (p := notA x.1.st) (l := xs)
    have htk := take_upN (p := notA x.1.st) (l := xs)
    refine Chn.mid (by rw [List.take_append_drop]; exact h) h1 hk (fun a ha => ?_) (fun b hb => ?_)
    · have hr := h.rise.sublist (List.take_sublist (upN (notA x.1.st) xs) xs)
      cases hg : (xs.take (upN (notA x.1.st) xs)).getLast? with
      | none => rw [List.getLast?_eq_none_iff] at hg; rw [hg] at ha; simp at ha
      | some y =>
        obtain ⟨ys, e⟩ := List.getLast?_eq_some_iff.1 hg
        rw [hg] at htk
        obtain ⟨hy1, hy2⟩ := lastP_some htk.symm
        have hyl : Sm.less y.1.st x.1.st = true := by
          simp [notA] at hy2
          exact less_total hy2 (fun e => hne y hy1 e.symm)
        rw [e] at ha hr
        rw [List.pairwise_append] at hr
        rcases List.mem_append.1 ha with ha | ha
        · exact Sm.less_trans (hr.2.2 a ha y (by simp)) hyl
        · simp at ha
          rw [ha]
          exact hyl
    · have := hdr b hb
      simpa [notA] using this
/-- Which members it has then. -/
theorem putC_mem {xs : List Vw} (h : Chn xs) {x : Vw} (hk : x.1.key = kA) (hsame : ∀ y ∈ xs, y.1.st = x.1.st → y = x) (y : Vw) : y ∈ putC xs x ↔ y ∈ xs ∨ (y = x ∧ okW x.1 = true) := by
  unfold Go.Proofs.Ytfkeeehfpbnibaa.putC
  cases hok : putOk xs x with
  | true =>
    simp only [if_true]
    unfold midC
    have h1 : okW x.1 = true := by
      unfold putOk at hok
      simp only [Bool.and_eq_true] at hok
      exact hok.1.2
    rw [List.mem_append, List.mem_cons]
    have ht : y ∈ xs ↔ y ∈ xs.take (upN (notA x.1.st) xs) ∨ y ∈ xs.drop (upN (notA x.1.st) xs) := by
      rw [← List.mem_append, List.take_append_drop]
    rw [ht, h1]
    simp
    constructor
    · rintro (a | a | a)
      · exact .inl (.inl a)
      · exact .inr a
      · exact .inl (.inr a)
    · rintro ((a | a) | a)
      · exact .inl a
      · exact .inr (.inr a)
      · exact .inr (.inl a)
  | false =>
    simp only [if_false, Bool.false_eq_true]
    constructor
    · exact .inl
    · rintro (a | ⟨rfl, h1⟩)
      · exact a
      · unfold putOk at hok
        rw [h1, h.fit hk] at hok
        simp at hok
        cases hl : lastP (isS y.1.st) xs with
        | none => rw [hl] at hok; simp at hok
        | some z =>
          obtain ⟨hz1, hz2⟩ := lastP_some hl
          simp [isS] at hz2
          rw [← hsame z hz1 hz2]
          exact hz1
theorem putC_len (xs : List Vw) (x : Vw) : (putC xs x).length ≤ xs.length + 1 := by
  unfold Go.Proofs.Ytfkeeehfpbnibaa.putC midC
  split
  · rw [List.length_append, List.length_cons, List.length_take, List.length_drop]; omega
  · omega
/-- A chain is its members. -/
theorem chn_uniq : ∀ {a b : List Vw}, riseW a → riseW b → (∀ y, y ∈ a ↔ y ∈ b) → a = b
  | [], [], _, _, _ => rfl
  | [], y :: b, _, _, h => absurd ((h y).2 (by simp)) (by simp)
  | x :: a, [], _, _, h => absurd ((h x).1 (by simp)) (by simp)
  | x :: a, y :: b, ha, hb, h => by
    rw [riseW, List.pairwise_cons] at ha hb
    have hxy : x = y := by
      rcases List.mem_cons.1 ((h x).1 (by simp)) with e | e
      · exact e
      · rcases List.mem_cons.1 ((h y).2 (by simp)) with e' | e'
        · exact e'.symm
        · have := Sm.less_trans (hb.1 x e) (ha.1 y e')
          rw [Sm.less_self] at this
          cases this
    subst hxy
    congr 1
    refine chn_uniq ha.2 hb.2 (fun z => ⟨fun hz => ?_, fun hz => ?_⟩)
    · rcases List.mem_cons.1 ((h z).1 (by simp [hz])) with e | e
      · have := ha.1 z hz
        rw [e, Sm.less_self] at this
        cases this
      · exact e
    · rcases List.mem_cons.1 ((h z).2 (by simp [hz])) with e | e
      · have := hb.1 z hz
        rw [e, Sm.less_self] at this
        cases this
      · exact e

/-! The rows that the laws begin with. -/
def letterA (i : Nat) : ByteArray := ⟨#[UInt8.ofNat (97 + i)]⟩
/-- The chain of the first stamps. -/
def madeK (l : List (Int × Int)) : Nat → List Vw
  | 0 => []
  | k + 1 => putR (madeK l k) (mkA (l.getD k (0, 0)) (letterA k))
def madeN (l : List (Int × Int)) : Nat := min l.length 16
theorem madeK_chn (l : List (Int × Int)) : ∀ k, Chn (madeK l k)
  | 0 => Chn.nil
  | k + 1 => (madeK_chn l k).putR rfl
theorem madeK_len (l : List (Int × Int)) : ∀ k, (madeK l k).length ≤ k
  | 0 => by simp [madeK]
  | k + 1 => by
    have h1 := madeK_len l k
    have h2 := putR_len (madeK l k) (mkA (l.getD k (0, 0)) (letterA k))
    unfold madeK
    omega
theorem Chn.i64 {xs : List Vw} (h : Chn xs) : ∀ x ∈ xs, In64 x.1.st := by
  intro x hx
  have := h.ok x hx
  unfold okW at this
  simp only [Bool.and_eq_true] at this
  exact (ok_less this.1.2).2.2
end Go.Proofs.Ytfkeeehfpbnibaa
/- Maps of the call's own, as functions of their keys: keys of whatever type, elements of whatever type. -/
namespace Go.Proofs.Ytfkeeehfpbnibaa
open Go.RowKit Go.Maps
set_option linter.unusedVariables false
set_option linter.unusedSimpArgs false

/-- An element reads as itself. -/
def hvR (v : Value) : Option (DataW Value × List MemPlace) := some (.held v, [])
/-- Block b is a map of n entries with keys of type k; f: what lies at each key. -/
def MapF (w : World) (k : TypeId) (b n : Nat) (f : Lit → Option Value) : Prop :=
  ∃ D, w.ownsMap Try.prog k hvR b n D ∧ Maps.size D = n ∧ ∀ l, WideAt.IsKeyLit l → Maps.has D l = (f l).isSome ∧ ∀ z, D.atKey l (.held z) = .held ((f l).getD z)
theorem MapF.made (w : World) (k : TypeId) : MapF (w.alloc (.map #[] 0)) k w.heap.size 0 (fun _ => none) :=
  ⟨.map [], World.ownsMap_made w Try.prog k hvR, rfl, fun l _ => ⟨rfl, fun z => rfl⟩⟩
theorem MapF.lt {w : World} {k : TypeId} {b n : Nat} {f : Lit → Option Value} (h : MapF w k b n f) : b < w.heap.size := by
  obtain ⟨D, ho, _⟩ := h
  exact ho.lt
theorem MapF.block {w w' : World} {k : TypeId} {b n : Nat} {f : Lit → Option Value} (h : MapF w k b n f) (hb : w'.heap[b]? = w.heap[b]?) : MapF w' k b n f := by
  obtain ⟨D, ⟨es, clock, h1, h2⟩, h3⟩ := h
  exact ⟨D, ⟨es, clock, hb.trans h1, h2⟩, h3⟩
theorem MapF.below {w w' : World} {k : TypeId} {b n : Nat} {f : Lit → Option Value} (h : MapF w k b n f) (hb : Below w.heap.size w w') : MapF w' k b n f := h.block (hb.block b h.lt)
theorem MapF.map {w : World} {k : TypeId} {b n : Nat} {f : Lit → Option Value} (h : MapF w k b n f) : ∃ es clock, w.heap[b]? = some (.map es clock) := by
  obtain ⟨D, ⟨es, clock, h1, h2⟩, h3⟩ := h
  exact ⟨es, clock, h1⟩
section
variable {w : World} {k t e : TypeId} {b n : Nat} {f : Lit → Option Value}
theorem MapF.look (h : MapF w k b n f) (K : Keyed Try.prog k) (ht : Try.prog.underlying t = some (.map k e)) {z : Value} (hz : (zeroValue e).run Try.prog w = .ok z w) {key : Value} {kl : Lit} (hkey : keyOf Try.prog k key = some kl) :
    (Instr.lookup t (.map (some b)) key false).run Try.prog w = .ok ((f kl).getD z) w := by
  obtain ⟨D, ho, hn, hf⟩ := h
  obtain ⟨v, ps, hrun, hv⟩ := ho.lookup K ht hz (zd := .held z) (zp := []) rfl hkey
  rw [(hf kl (K.key hkey)).2 z] at hv
  unfold hvR at hv
  simp at hv
  rw [hrun, hv.1]
theorem MapF.lookOk (h : MapF w k b n f) (K : Keyed Try.prog k) (ht : Try.prog.underlying t = some (.map k e)) {z : Value} (hz : (zeroValue e).run Try.prog w = .ok z w) {key : Value} {kl : Lit} (hkey : keyOf Try.prog k key = some kl) :
    (Instr.lookup t (.map (some b)) key true).run Try.prog w = .ok (.tuple #[(f kl).getD z, .bool (f kl).isSome]) w := by
  obtain ⟨D, ho, hn, hf⟩ := h
  obtain ⟨v, ps, hrun, hv⟩ := ho.look_ok K ht hz (zd := .held z) (zp := []) rfl hkey
  rw [(hf kl (K.key hkey)).2 z] at hv
  unfold hvR at hv
  simp at hv
  rw [hrun, hv.1, (hf kl (K.key hkey)).1]
theorem MapF.len (h : MapF w k b n f) (ht : Try.prog.underlying t = some (.map k e)) (ty : TypeId) : (Builtin.len_ #[t] ty #[.map (some b)]).run Try.prog w = .ok (.int .i64 n) w := by
  obtain ⟨D, ho, hn, hf⟩ := h
  rw [ho.len ht ty, hn]
/-- What a store makes of it. -/
def SetF (f : Lit → Option Value) (kl : Lit) (v : Value) (f' : Lit → Option Value) : Prop := f' kl = some v ∧ ∀ l, l ≠ kl → f' l = f l
theorem MapF.store (h : MapF w k b n f) (K : Keyed Try.prog k) (ht : Try.prog.underlying t = some (.map k e)) (hn : n < maxLen) {key val : Value} {kl : Lit} (hkey : keyOf Try.prog k key = some kl) :
    ∃ w', (Instr.mapUpdate t (.map (some b)) key val).run Try.prog w = .ok () w' ∧ (∃ f', MapF w' k b (if (f kl).isSome then n else n + 1) f' ∧ SetF f kl val f') ∧ w.mapTurned w' b := by
  obtain ⟨D, ho, hsz, hf⟩ := h
  obtain ⟨w', hrun, ho', ht'⟩ := ho.store (d := .held val) (ps := []) K ht hn hkey rfl
  have hmap := ho.isMap
  have hk := K.key hkey
  have hsz2 : Maps.size (D.put kl (.held val)) = if (f kl).isSome then n else n + 1 := by
    have h1 := Maps.size_put (k := kl) (ho.tidy K) (.held val)
    rw [h1, hsz, (hf kl hk).1]
  have hex : ∃ f' : Lit → Option Value, SetF f kl val f' := by
    classical exact ⟨fun l => if l = kl then some val else f l, by simp, fun l hl => by simp [hl]⟩
  obtain ⟨f', hs1, hs2⟩ := hex
  refine ⟨w', hrun, ⟨f', ⟨D.put kl (.held val), ?_, hsz2, fun l hl => ?_⟩, hs1, hs2⟩, ht'⟩
  · obtain ⟨es, clock, g1, g2, g3, g4⟩ := ho'
    refine ⟨es, clock, g1, g2, ?_, g4⟩
    have : Maps.size (D.put kl (.held val)) = es.size := by rw [g4]; simp [Maps.size, length_sorted]
    omega
  · by_cases e : l = kl
    · subst e
      rw [hs1]
      exact ⟨Maps.has_put_same hmap hl _, fun z => Maps.atKey_put_same hmap hl _ _⟩
    · rw [hs2 l e]
      exact ⟨(Maps.has_put_other e _).trans (hf l hl).1, fun z => (Maps.atKey_put_other e _ _).trans ((hf l hl).2 z)⟩
end
set_option maxRecDepth 100000 in
/-- The store at the operation. -/
theorem wp_mapSet {w : World} {k t e : TypeId} {b n : Nat} {f : Lit → Option Value} {ops : Array Oper} {rest : List Oper} {o : Oper} {a : Act} {Q : Exit → Act → World → Prop}
    (hg : o.guard = none) (m x v : Operand) (hop : o.op = Op.mapUpdate t m x v) (K : Keyed Try.prog k) (ht : Try.prog.underlying t = some (.map k e)) (hm : a.eval m = .map (some b)) (hown : MapF w k b n f) (hn : n < maxLen)
    (key val : Value) (kl : Lit) (hx : a.eval x = key) (hv : a.eval v = val) (hkey : keyOf Try.prog k key = some kl)
    (hK : ∀ w' f', MapF w' k b (if (f kl).isSome then n else n + 1) f' → SetF f kl val f' → w.mapTurned w' b → wpList Try.prog ops Q rest (a.put o.dst undef) w') :
    wpList Try.prog ops Q (o :: rest) a w := by
  refine wpList_plain hg fun K' hK' => ?_
  obtain ⟨w', hrun, ⟨f', r1, r3⟩, r2⟩ := hown.store (val := val) K ht hn hkey
  unfold Oper.wp
  simp [execOp, hop, hm, hx, hv, hrun, Result.andThen]
  exact hK' _ _ (hK w' f' r1 r3 r2)
/-- What a store into a map leaves as it was. -/
theorem turned_block {w w' : World} {b : Nat} (h : w.mapTurned w' b) (k : Nat) (hk : k ≠ b) : w'.heap[k]? = w.heap[k]? := by
  obtain ⟨es, clock, es', clock', h1, rfl⟩ := h
  exact ChangeMaps.heap_setBlock_other h1 _ hk
theorem turned_size {w w' : World} {b : Nat} (h : w.mapTurned w' b) : w'.heap.size = w.heap.size := by
  obtain ⟨es, clock, es', clock', h1, rfl⟩ := h
  simp [ChangeMaps.setBlock]
theorem turned_below {w w' : World} {b base : Nat} (h : w.mapTurned w' b) (hb : base ≤ b) (hs : base ≤ w.heap.size) : Below base w w' :=
  (Below.refl base w).grown h.grown hs (fun k e => by cases e; exact hb)

/-! Keys that are dependencies. -/
/-- A dependency that can be a key: no text is longer, no number greater, than a machine's. -/
def KeyD (d : De) : Prop := d.1.size ≤ maxLen ∧ In64 d.2
def kD (d : De) : Lit := .string (keyBytes [.string d.1.data.toList, .int .i64 d.2.1, .int .i64 d.2.2])
theorem keyed_dep : Keyed Try.prog 66 :=
  Keyed.of_law (deep_law_laid (by kernel_rfl) (m := 3) (by omega) (of_decide_eq_true (by kernel_rfl)) (by kernel_rfl) (by rw [Try.underlying66]))
theorem wf_i64 {n : Int} (h : -9223372036854775808 ≤ n ∧ n ≤ 9223372036854775807) : (Lit.int .i64 n).wf = true := by
  simp only [Lit.wf, Bool.and_eq_true, decide_eq_true_eq]
  exact h
theorem lits_dep (m : Nat) (x : ByteArray) (y z : Int) (h1 : x.size ≤ maxLen) (w1 : (Lit.int .i64 y).wf = true) (w2 : (Lit.int .i64 z).wf = true) :
    Try.prog.keyLits (m + 3) 66 [.string x, .int .i64 y, .int .i64 z] = some [.string x.data.toList, .int .i64 y, .int .i64 z] := by
  have c1 : Try.prog.cellsOf 66 = 3 := by kernel_rfl
  have c2 : Try.prog.cellsOf 25 = 2 := by kernel_rfl
  have c3 : Try.prog.cellsOf 9 = 1 := by kernel_rfl
  have c4 : Try.prog.cellsOf 3 = 1 := by kernel_rfl
  simp [Program.keyLits, Try.underlying66, Try.underlying25, Try.underlying9, Try.underlying3, c1, c2, c3, c4, h1, w1, w2]
  rw [if_pos (by intro i hi; rcases (show i = 0 ∨ i = 1 by omega) with rfl | rfl <;> simp)]
  rfl
theorem key_dep {d : De} (h : KeyD d) : keyOf Try.prog 66 (dv d) = some (kD d) := by
  obtain ⟨x, y, z⟩ := d
  obtain ⟨h1, h2, h3⟩ := h
  have hk : Try.prog.keyType 66 = true := by kernel_rfl
  have hf : (dv (x, y, z)).formed Try.prog 66 = true := by
    have hc : Try.prog.cellsOf 66 = 3 := by kernel_rfl
    simp [dv, Value.formed, Try.underlying66, hc]
  have w1 := wf_i64 h2
  have w2 := wf_i64 h3
  have hl := lits_dep (Try.prog.types.size - 2) x y z h1 w1 w2
  rw [show Try.prog.types.size - 2 + 3 = Try.prog.types.size + 1 by have : 2 ≤ Try.prog.types.size := of_decide_eq_true (by kernel_rfl); omega] at hl
  have hc : (dv (x, y, z)).cells.toList = [.string x, .int .i64 y, .int .i64 z] := rfl
  simp only [keyOf, Try.underlying66, hk, hf, hc, hl]
  rfl
theorem kD_inj {d d' : De} (h : KeyD d) (h' : KeyD d') (e : kD d = kD d') : d = d' := by
  have h1 := key_dep h
  have h2 := key_dep h'
  rw [← e] at h2
  have := keyed_dep.inj h1 h2
  obtain ⟨x, y, z⟩ := d
  obtain ⟨x', y', z'⟩ := d'
  simp [dv] at this
  simp [this]
end Go.Proofs.Ytfkeeehfpbnibaa
/- Maps whose keys are stamps; an element that is counted up. -/
namespace Go.Proofs.Ytfkeeehfpbnibaa
open Go.RowKit Go.Maps
set_option linter.unusedVariables false
set_option linter.unusedSimpArgs false

def kSt (p : Int × Int) : Lit := .string (keyBytes [.int .i64 p.1, .int .i64 p.2])
theorem law_st : Go.WideMaps.KeyLaw Try.prog 25 := deep_law_laid (by kernel_rfl) (m := 3) (by omega) (of_decide_eq_true (by kernel_rfl)) (by kernel_rfl) (by rw [Try.underlying25])
theorem keyed_st : Keyed Try.prog 25 := Keyed.of_law law_st
theorem lits_st (m : Nat) (y z : Int) (w1 : (Lit.int .i64 y).wf = true) (w2 : (Lit.int .i64 z).wf = true) :
    Try.prog.keyLits (m + 3) 25 [.int .i64 y, .int .i64 z] = some [.int .i64 y, .int .i64 z] := by
  have c1 : Try.prog.cellsOf 25 = 2 := by kernel_rfl
  have c4 : Try.prog.cellsOf 3 = 1 := by kernel_rfl
  simp [Program.keyLits, Try.underlying25, Try.underlying3, c1, c4, w1, w2]
theorem key_st {y z : Int} (h2 : In64 (y, z)) : keyOf Try.prog 25 (.agg #[.int .i64 y, .int .i64 z]) = some (kSt (y, z)) := by
  have hk : Try.prog.keyType 25 = true := by kernel_rfl
  have hf : (Value.agg #[.int .i64 y, .int .i64 z]).formed Try.prog 25 = true := by
    have hc : Try.prog.cellsOf 25 = 2 := by kernel_rfl
    simp [Value.formed, Try.underlying25, hc]
  have w1 := wf_i64 h2.1
  have w2 := wf_i64 h2.2
  have hl := lits_st (Try.prog.types.size - 2) y z w1 w2
  rw [show Try.prog.types.size - 2 + 3 = Try.prog.types.size + 1 by have : 2 ≤ Try.prog.types.size := of_decide_eq_true (by kernel_rfl); omega] at hl
  have hc : (Value.agg #[.int .i64 y, .int .i64 z]).cells.toList = [.int .i64 y, .int .i64 z] := rfl
  simp only [keyOf, Try.underlying25, hk, hf, hc, hl]
  rfl
theorem kSt_inj {p q : Int × Int} (h : In64 p) (h' : In64 q) (e : kSt p = kSt q) : p = q := by
  obtain ⟨y, z⟩ := p
  obtain ⟨y', z'⟩ := q
  have h1 := key_st h
  have h2 := key_st h'
  rw [← e] at h2
  have := keyed_st.inj h1 h2
  simp at this
  simp [this]

/-- Block b is a map of n entries; g: what lies at each stamp. -/
def MapT (w : World) (b n : Nat) (g : Int × Int → Option Value) : Prop := ∃ f, MapF w 25 b n f ∧ (∀ d, In64 d → f (kSt d) = g d) ∧ ∀ l x, f l = some x → ∃ d, In64 d ∧ l = kSt d
theorem MapT.made (w : World) : MapT (w.alloc (.map #[] 0)) w.heap.size 0 (fun _ => none) := ⟨_, MapF.made w _, fun d _ => rfl, fun l x e => by simp at e⟩
theorem MapT.lt {w : World} {b n : Nat} {g : Int × Int → Option Value} (h : MapT w b n g) : b < w.heap.size := by
  obtain ⟨f, h1, _⟩ := h
  exact h1.lt
theorem MapT.block {w w' : World} {b n : Nat} {g : Int × Int → Option Value} (h : MapT w b n g) (hb : w'.heap[b]? = w.heap[b]?) : MapT w' b n g := by
  obtain ⟨f, h1, h2, h3⟩ := h
  exact ⟨f, h1.block hb, h2, h3⟩
theorem MapT.below {w w' : World} {b n : Nat} {g : Int × Int → Option Value} (h : MapT w b n g) (hb : Below w.heap.size w w') : MapT w' b n g := h.block (hb.block b h.lt)
theorem MapT.congr {w : World} {b n : Nat} {g g' : Int × Int → Option Value} (h : MapT w b n g) (e : ∀ d, In64 d → g d = g' d) : MapT w b n g' := by
  obtain ⟨f, h1, h2, h3⟩ := h
  exact ⟨f, h1, fun d hd => (h2 d hd).trans (e d hd), h3⟩
section
variable {w : World} {t e : TypeId} {b n : Nat} {g : Int × Int → Option Value}
theorem MapT.look (h : MapT w b n g) (ht : Try.prog.underlying t = some (.map 25 e)) {z : Value} (hz : (zeroValue e).run Try.prog w = .ok z w) {y s : Int} (hk : In64 (y, s)) :
    (Instr.lookup t (.map (some b)) (.agg #[.int .i64 y, .int .i64 s]) false).run Try.prog w = .ok ((g (y, s)).getD z) w := by
  obtain ⟨f, h1, h2, _⟩ := h
  have := h1.look (key := .agg #[.int .i64 y, .int .i64 s]) (kl := kSt (y, s)) keyed_st ht hz (key_st hk)
  rw [h2 _ hk] at this
  exact this
theorem MapT.store (h : MapT w b n g) (ht : Try.prog.underlying t = some (.map 25 e)) (hn : n < maxLen) {y s : Int} (hk : In64 (y, s)) (val : Value) :
    ∃ w', (Instr.mapUpdate t (.map (some b)) (.agg #[.int .i64 y, .int .i64 s]) val).run Try.prog w = .ok () w' ∧ MapT w' b (if (g (y, s)).isSome then n else n + 1) (fun d => if d = (y, s) then some val else g d) ∧ w.mapTurned w' b := by
  obtain ⟨f, h1, h2, h3⟩ := h
  obtain ⟨w', hrun, ⟨f', r1, r3, r4⟩, r2⟩ := h1.store (val := val) keyed_st ht hn (key_st hk)
  refine ⟨w', hrun, ⟨f', by rw [← h2 _ hk]; exact r1, fun d hd => ?_, fun l x e => ?_⟩, r2⟩
  · dsimp only
    by_cases e : d = (y, s)
    · rw [if_pos e, e]; exact r3
    · rw [if_neg e, ← h2 _ hd]; exact r4 _ (fun e' => e (kSt_inj hd hk e'))
  · by_cases e' : l = kSt (y, s)
    · exact ⟨_, hk, e'⟩
    · rw [r4 l e'] at e
      exact h3 l x e
end

/-- 'm[k] = f(m[k])': the entry is made or found, then written: what a plain store makes of it. -/
theorem MapT.entry {w : World} {t e : TypeId} {b n : Nat} {g : Int × Int → Option Value} (h : MapT w b n g) (ht : Try.prog.underlying t = some (.map 25 e)) {z : Value} (hz : ∀ u : World, (zeroValue e).run Try.prog u = .ok z u) (hn : n < maxLen) {y s : Int} (hk : In64 (y, s)) (val : Value) :
    ∃ (v0 : Value) (st : Nat) (w1 w2 : World), (Instr.mapEntry t (.map (some b)) (.agg #[.int .i64 y, .int .i64 s])).run Try.prog w = .ok (.tuple #[v0, goInt st]) w1 ∧
      (Instr.entryStore t (.map (some b)) (goInt st) val).run Try.prog w1 = .ok () w2 ∧
      MapT w2 b (if (g (y, s)).isSome then n else n + 1) (fun d => if d = (y, s) then some val else g d) ∧ w.mapTurned w1 b ∧ w.mapTurned w2 b := by
  obtain ⟨w', hrun, h2, h3⟩ := h.store ht hn hk val
  obtain ⟨f, ⟨D, ⟨es, clock, hb, F, hs, hD⟩, _⟩, _⟩ := h
  obtain ⟨v0, st, es1, clock1, e1, _, e2⟩ := Go.WideElems.entry_then_store law_st ht hz hb F (key_st hk)
  have hb1 : (Go.ChangeMaps.setBlock w b (.map es1 clock1)).heap[b]? = some (.map es1 clock1) := Go.ChangeMaps.heap_setBlock_same hb _
  obtain ⟨es', clock', e3, e4⟩ := e2 _ val hb1
  rw [hrun] at e4
  have hw : w' = Go.ChangeMaps.setBlock w b (.map es' clock') := by injection e4
  have hss : Go.ChangeMaps.setBlock (Go.ChangeMaps.setBlock w b (.map es1 clock1)) b (.map es' clock') = w' := by
    rw [hw]
    simp [Go.ChangeMaps.setBlock]
  refine ⟨v0, st, _, w', e1, ?_, h2, ⟨es, clock, es1, clock1, hb, rfl⟩, h3⟩
  rw [e3, hss]
theorem modify_same {es : Array MapEntry} {j : Nat} {e0 : MapEntry} (hj : es[j]? = some e0) (f : MapEntry → MapEntry) (hf : f e0 = e0) : es.modify j f = es := by
  apply Array.ext_getElem?
  intro i
  rw [Array.getElem?_modify]
  by_cases h : j = i
  · subst h
    rw [if_pos rfl, hj]
    simp [hf]
  · rw [if_neg h]
/-- To find the entry, or to make it, is to store what lies there already. -/
theorem MapT.found {w : World} {t e : TypeId} {b n : Nat} {g : Int × Int → Option Value} (h : MapT w b n g) (ht : Try.prog.underlying t = some (.map 25 e)) {z : Value} (hz : ∀ u : World, (zeroValue e).run Try.prog u = .ok z u) {y s : Int} (hk : In64 (y, s)) :
    ∃ (v0 : Value) (st : Nat) (w1 : World), (Instr.mapEntry t (.map (some b)) (.agg #[.int .i64 y, .int .i64 s])).run Try.prog w = .ok (.tuple #[v0, goInt st]) w1 ∧
      (Instr.mapUpdate t (.map (some b)) (.agg #[.int .i64 y, .int .i64 s]) v0).run Try.prog w = .ok () w1 ∧
      (Instr.lookup t (.map (some b)) (.agg #[.int .i64 y, .int .i64 s]) false).run Try.prog w = .ok v0 w := by
  obtain ⟨f, ⟨D, ⟨es, clock, hb, F, hs, hD⟩, _⟩, _⟩ := h
  have hkey := key_st hk
  have hck := fun em => law_st.check w em hkey
  have hst := law_st.stays w hkey
  rcases law_st.find w hkey es.toList F.keys with ⟨h1, h2⟩ | ⟨j, e0, h1, h2, h3⟩
  · refine ⟨z, clock, Go.ChangeMaps.setBlock w b (.map (es.push ⟨.agg #[.int .i64 y, .int .i64 s], z, clock⟩) (clock + 1)), ?_, ?_, ?_⟩
    · simp [Instr.mapEntry, run_underlying ht, MapKept.run_getObj_map hb, hck, h1, hz, MapKept.run_setObj_map _ hb, Result.andThen, Go.ChangeMaps.setBlock]
    · simp [Instr.mapUpdate, run_underlying ht, MapKept.run_getObj_map hb, hck, h1, MapKept.run_setObj_map _ hb, Result.andThen, Go.ChangeMaps.setBlock]
    · simp [Instr.lookup, run_underlying ht, MapKept.run_getObj_map hb, hck, h1, hz, Result.andThen]
  · have hj : es[j]? = some e0 := by simpa using h2
    have m1 := modify_same hj (fun e => { e with key := .agg #[.int .i64 y, .int .i64 s] }) (by rw [← h3])
    have m2 := modify_same hj (fun e => { e with key := .agg #[.int .i64 y, .int .i64 s], val := e0.val }) (by rw [← h3])
    refine ⟨e0.val, e0.born, Go.ChangeMaps.setBlock w b (.map es clock), ?_, ?_, ?_⟩
    · simp [Instr.mapEntry, run_underlying ht, MapKept.run_getObj_map hb, hck, h1, hj, h3, hst, m1, MapKept.run_setObj_map _ hb, Result.andThen, Go.ChangeMaps.setBlock]
    · simp [Instr.mapUpdate, run_underlying ht, MapKept.run_getObj_map hb, hck, h1, hj, h3, hst, m2, MapKept.run_setObj_map _ hb, Result.andThen, Go.ChangeMaps.setBlock]
    · simp [Instr.lookup, run_underlying ht, MapKept.run_getObj_map hb, hck, h1, Result.andThen]
/-- All of 'm[k] = f(m[k])', whichever comes first, the look-up or the entry. -/
theorem MapT.bump {w : World} {t e : TypeId} {b n : Nat} {g : Int × Int → Option Value} (h : MapT w b n g) (ht : Try.prog.underlying t = some (.map 25 e)) {z : Value} (hz : ∀ u : World, (zeroValue e).run Try.prog u = .ok z u) (hn : n < maxLen) {y s : Int} (hk : In64 (y, s)) (val : Value) :
    ∃ (v0 : Value) (st : Nat) (w1 w2 : World), v0 = (g (y, s)).getD z ∧ (Instr.mapEntry t (.map (some b)) (.agg #[.int .i64 y, .int .i64 s])).run Try.prog w = .ok (.tuple #[v0, goInt st]) w1 ∧
      (Instr.lookup t (.map (some b)) (.agg #[.int .i64 y, .int .i64 s]) false).run Try.prog w = .ok v0 w ∧
      (Instr.lookup t (.map (some b)) (.agg #[.int .i64 y, .int .i64 s]) false).run Try.prog w1 = .ok v0 w1 ∧
      (Instr.entryStore t (.map (some b)) (goInt st) val).run Try.prog w1 = .ok () w2 ∧
      MapT w2 b (if (g (y, s)).isSome then n else n + 1) (fun d => if d = (y, s) then some val else g d) ∧ w.mapTurned w1 b ∧ w.mapTurned w2 b := by
  obtain ⟨v0, st, w1, w2, e1, e2, e3, e4, e5⟩ := h.entry ht hz hn hk val
  obtain ⟨v0', st', w1', f1, f2, f3⟩ := h.found ht hz hk
  rw [f1] at e1
  obtain ⟨ev, ew⟩ : v0' = v0 ∧ w1' = w1 := by
    injection e1 with a1 a2
    simp at a1
    exact ⟨a1.1, a2⟩
  have est : goInt st' = goInt st := by
    injection e1 with a1 a2
    simp at a1
    exact a1.2
  subst ev ew
  have hl := h.look ht (hz w) hk
  rw [f3] at hl
  have hv : v0' = (g (y, s)).getD z := by injection hl
  obtain ⟨w', g1, g2, g3⟩ := h.store ht hn hk v0'
  rw [f2] at g1
  have hw : w1' = w' := by injection g1
  subst hw
  have hl1 := g2.look ht (hz w1') hk
  simp at hl1
  exact ⟨v0', st, w1', w2, hv, by rw [f1, est], f3, hl1, e2, e3, e4, e5⟩
end Go.Proofs.Ytfkeeehfpbnibaa
