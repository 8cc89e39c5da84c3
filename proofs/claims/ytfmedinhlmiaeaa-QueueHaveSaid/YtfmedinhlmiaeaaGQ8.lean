/- Texts of this proof, one behind the other: StampBackMath, PastReadMath, PastPush, PastReadDep, PastRead, Mv. -/
import Derived.Test.YtfmedinhlmiaeaaGQ7
import Derived.OwnWalk
import Derived.Laws.AppendOwnNone
import Derived.WalkMore
/- What was written as a stamp's bytes is read, wherever it stands. -/
namespace Go.Proofs.Ytfmedinhlmiaeaa
open Go.RowKit
set_option linter.unusedVariables false

theorem rd_at (p r : List UInt8) (n : Nat) (hn : n < 18446744073709551616) : rd (p ++ (Vm.enc n ++ r)) (p.length : Int) = some (n, p.length + (Vm.enc n).length) := by
  unfold rd
  rw [if_neg (by simp; omega), Int.toNat_natCast, List.drop_left' rfl, Vm.dec0_enc n r hn]
  rfl
theorem sbytes_ok {n s : Int} (h : Sm.ok n s = true) : sbytes n s = Vm.enc n.toNat ++ Vm.enc s.toNat := by simp [sbytes, h]
theorem sbytes_len (n s : Int) : (sbytes n s).length ≤ 20 := by
  unfold sbytes
  split
  · rename_i h
    simp only [Sm.ok, decide_eq_true_eq] at h
    have h1 := Vm.enc_len10 (n := n.toNat) (by omega)
    have h2 := Vm.enc_len10 (n := s.toNat) (by omega)
    simp; omega
  · simp
theorem sbytes_pos {n s : Int} (h : Sm.ok n s = true) : 2 ≤ (sbytes n s).length := by
  rw [sbytes_ok h]
  have h1 := Vm.enc_pos n.toNat
  have h2 := Vm.enc_pos s.toNat
  simp; omega
theorem srd_at (p r : List UInt8) {n s : Int} (h : Sm.ok n s = true) : Sm.rdS (rd (p ++ (sbytes n s ++ r))) (p.length : Int) = some ((n, s), p.length + (sbytes n s).length) := by
  have hk := h
  simp only [Sm.ok, decide_eq_true_eq] at hk
  rw [sbytes_ok h]
  have e1 := rd_at p (Vm.enc s.toNat ++ r) n.toNat (by omega)
  have e2 := rd_at (p ++ Vm.enc n.toNat) r s.toNat (by omega)
  rw [List.length_append, List.append_assoc] at e2
  unfold Sm.rdS
  rw [List.append_assoc, e1]
  simp only
  rw [e2]
  simp only
  rw [Int.toNat_of_nonneg (by omega), Int.toNat_of_nonneg (by omega), if_pos h]
  simp
  omega

theorem bytes_data (x y z : ByteArray) : (x ++ y ++ z).data.toList = x.data.toList ++ (y.data.toList ++ z.data.toList) := by simp
theorem srd_bytes (x z : ByteArray) (l : List UInt8) {n s : Int} (h : Sm.ok n s = true) (hl : sbytes n s = l) : Sm.rdS (rd (x ++ ⟨l.toArray⟩ ++ z).data.toList) (x.size : Int) = some ((n, s), x.size + l.length) := by
  subst hl
  rw [bytes_data]
  have := srd_at x.data.toList z.data.toList h
  simpa using this
end Go.Proofs.Ytfmedinhlmiaeaa
/- Reading a past: plain mathematics. -/
namespace Go.Proofs.Ytfmedinhlmiaeaa
open Go.RowKit
set_option linter.unusedVariables false

/-- One dependency, read at a place; a key of at most so many bytes. -/
def rdD (most : Int) (s : List UInt8) (a : Int) : Option (De × Nat) :=
  match rdt s a most with
  | none => none
  | some (k, m) =>
    match Sm.rdS (rd s) (m : Int) with
    | none => none
    | some (x, e) => some ((⟨k.toArray⟩, x.1, x.2), e)
/-- So many dependencies, one behind the other, behind those that were read. -/
def goL (s : List UInt8) : Nat → List De → Nat → Option (List De × Nat)
  | 0, acc, a => some (acc, a)
  | n + 1, acc, a =>
    match rdD 32 s a with
    | none => none
    | some (d, e) => goL s n (acc ++ [d]) e
/-- What was read, if it may be. -/
def finL : Option (List De × Nat) → Option (List De × Nat)
  | none => none
  | some (l, e) => if Srt l then some (l, e) else none
/-- The past that is read at a place. -/
def prD (s : List UInt8) (a : Int) : Option (List De × Nat) :=
  match rd s a with
  | none => none
  | some (n, e) => if 24 < n then none else finL (goL s n [] e)
def prL (r : Option (List De × Nat)) : List De := match r with | none => [] | some (l, _) => l
def prE (r : Option (List De × Nat)) : Nat := match r with | none => 0 | some (_, e) => e

theorem goL_pre (s : List UInt8) : ∀ (n : Nat) (acc : List De) (a : Nat) (l : List De) (e : Nat), goL s n acc a = some (l, e) → ∃ m, l = acc ++ m ∧ m.length = n ∧ a ≤ e
  | 0, acc, a, l, e, h => by
    simp [goL] at h
    exact ⟨[], by simp [h.1], rfl, by omega⟩
  | n + 1, acc, a, l, e, h => by
    rw [goL] at h
    cases hd : rdD 32 s a with
    | none => rw [hd] at h; cases h
    | some x =>
      obtain ⟨d, e1⟩ := x
      rw [hd] at h
      obtain ⟨m, h1, h2, h3⟩ := goL_pre s n _ _ _ _ h
      have hlt : (a : Int) < e1 := by
        unfold rdD at hd
        cases ht : rdt s a 32 with
        | none => rw [ht] at hd; cases hd
        | some y =>
          obtain ⟨k, m1⟩ := y
          rw [ht] at hd
          simp only at hd
          have q1 : (a : Int) < m1 := by
            unfold rdt at ht
            cases hr : rd s a with
            | none => rw [hr] at ht; cases ht
            | some z =>
              obtain ⟨nn, ee⟩ := z
              obtain ⟨_, _, _, h4⟩ := rd_some hr
              rw [hr] at ht
              simp only at ht
              split at ht
              · cases ht
              · simp at ht; omega
          cases hs : Sm.rdS (rd s) (m1 : Int) with
          | none => rw [hs] at hd; cases hd
          | some z =>
            obtain ⟨x, ee⟩ := z
            rw [hs] at hd
            simp at hd
            obtain ⟨_, rfl⟩ := hd
            unfold Sm.rdS at hs
            cases hr : rd s (m1 : Int) with
            | none => rw [hr] at hs; cases hs
            | some y1 =>
              obtain ⟨n1, m2⟩ := y1
              obtain ⟨_, _, _, h4⟩ := rd_some hr
              rw [hr] at hs
              simp only at hs
              cases hr2 : rd s (m2 : Int) with
              | none => rw [hr2] at hs; cases hs
              | some y2 =>
                obtain ⟨n2, m3⟩ := y2
                obtain ⟨_, _, _, h5⟩ := rd_some hr2
                rw [hr2] at hs
                simp only at hs
                split at hs
                · simp at hs; omega
                · cases hs
      exact ⟨d :: m, by rw [h1]; simp, by simp [h2], by omega⟩
theorem finL_stop {s : List UInt8} {n : Nat} {acc : List De} {a : Nat} (h : ¬ Srt acc) : finL (goL s n acc a) = none := by
  cases hg : goL s n acc a with
  | none => rfl
  | some x =>
    obtain ⟨l, e⟩ := x
    obtain ⟨m, rfl, _, _⟩ := goL_pre s n acc a l e hg
    rw [finL, if_neg (fun hs => h (by have := hs.take acc.length; rwa [List.take_left] at this))]
/-- Read with any bound: what is longer than 32 bytes may not be. -/
theorem rdD_any (s : List UInt8) (a : Int) :
    (rdD (s.length : Int) s a = none ∧ rdD 32 s a = none) ∨ (∃ d e, rdD (s.length : Int) s a = some (d, e) ∧ d.1.size ≤ s.length ∧ (rdD 32 s a = some (d, e) ∨ (rdD 32 s a = none ∧ okD d = false))) := by
  unfold rdD rdt
  cases hr : rd s a with
  | none => exact .inl ⟨rfl, rfl⟩
  | some z =>
    obtain ⟨n, e⟩ := z
    simp only
    by_cases c : s.length < e + n
    · rw [if_pos (.inr c), if_pos (.inr c)]
      exact .inl ⟨rfl, rfl⟩
    · rw [if_neg (by omega)]
      simp only
      cases hs : Sm.rdS (rd s) ((e + n : Nat) : Int) with
      | none =>
        left
        refine ⟨rfl, ?_⟩
        by_cases c2 : (32 : Int) < n
        · rw [if_pos (.inl c2)]
        · rw [if_neg (by omega)]
          simp only [hs]
      | some y =>
        obtain ⟨x, e2⟩ := y
        right
        have hkl : ((s.drop e).take n).length = n := by simp; omega
        refine ⟨_, _, rfl, by show ((s.drop e).take n).toArray.size ≤ _; simp; omega, ?_⟩
        by_cases c2 : (32 : Int) < n
        · right
          rw [if_pos (.inl c2)]
          refine ⟨rfl, ?_⟩
          cases ho : okD ((⟨((s.drop e).take n).toArray⟩ : ByteArray), x.1, x.2) with
          | false => rfl
          | true =>
            exfalso
            have := okD_size ho
            have h2 : ((s.drop e).take n).toArray.size ≤ 32 := this
            rw [List.size_toArray, hkl] at h2
            omega
        · left
          rw [if_neg (by omega)]
          simp only [hs]
/-- A step of the loop. -/
theorem goL_step {s : List UInt8} {n : Nat} {acc : List De} {a : Nat} {d : De} {e : Nat} (h : rdD 32 s a = some (d, e)) : goL s (n + 1) acc a = goL s n (acc ++ [d]) e := by
  rw [goL, h]
theorem goL_none {s : List UInt8} {n : Nat} {acc : List De} {a : Nat} (h : rdD 32 s a = none) : goL s (n + 1) acc a = none := by
  rw [goL, h]
/-- Not found, or not fit to follow: there is no past. -/
theorem fin_no {s : List UInt8} {n : Nat} {acc : List De} {a : Nat} {d : De} {e : Nat} (h : rdD 32 s a = some (d, e) ∨ (rdD 32 s a = none ∧ okD d = false)) (hs : Srt acc) (hf : folD acc d = false) : finL (goL s (n + 1) acc a) = none := by
  rcases h with h | ⟨h, _⟩
  · rw [goL_step h]
    exact finL_stop (fun hq => by have := ((srt_snoc acc d).1 hq).2; rw [hf] at this; cases this)
  · rw [goL_none h]; rfl
theorem fin_yes {s : List UInt8} {n : Nat} {acc : List De} {a : Nat} {d : De} {e : Nat} (h : rdD 32 s a = some (d, e) ∨ (rdD 32 s a = none ∧ okD d = false)) (hf : folD acc d = true) : goL s (n + 1) acc a = goL s n (acc ++ [d]) e := by
  rcases h with h | ⟨h, h2⟩
  · exact goL_step h
  · exfalso
    unfold folD at hf
    rw [h2] at hf
    cases hf
theorem prD_pos {s : List UInt8} {a : Int} {l : List De} {e : Nat} (h : prD s a = some (l, e)) : 0 < e := by
  unfold prD at h
  cases hr : rd s a with
  | none => rw [hr] at h; cases h
  | some z =>
    obtain ⟨n, e0⟩ := z
    obtain ⟨_, _, h3, h4⟩ := rd_some hr
    rw [hr] at h
    simp only at h
    split at h
    · cases h
    · cases hg : goL s n [] e0 with
      | none => rw [hg] at h; cases h
      | some y =>
        obtain ⟨l', e'⟩ := y
        obtain ⟨_, _, _, h5⟩ := goL_pre s n [] e0 l' e' hg
        rw [hg, finL] at h
        split at h
        · simp at h; omega
        · cases h
theorem pr_ok (s : List UInt8) (a : Int) : (prD s a).isSome = decide (0 < prE (prD s a)) := by
  cases h : prD s a with
  | none => rfl
  | some x =>
    obtain ⟨l, e⟩ := x
    have := prD_pos h
    simp [prE, this]
/-- What was written is read. -/
theorem rdD_back (p r : List UInt8) {d : De} (h : okD d = true) : rdD 32 (p ++ (dbytes d ++ r)) (p.length : Int) = some (d, p.length + (dbytes d).length) := by
  obtain ⟨k, n, t⟩ := d
  have hsz := okD_size h
  have hok : Sm.ok n t = true := by
    unfold okD at h
    rw [Bool.and_eq_true] at h
    exact h.2
  dsimp only at hsz
  have hkl : k.data.toList.length = k.size := rfl
  have e1 := rdt_back p (sbytes n t ++ r) k.data.toList 32 (by omega) (by omega)
  have e2 := srd_at (p ++ (Vm.enc k.size ++ k.data.toList)) r hok
  rw [hkl] at e1
  have eq1 : p ++ (Vm.enc k.size ++ k.data.toList) ++ (sbytes n t ++ r) = p ++ (dbytes (k, n, t) ++ r) := by simp [dbytes]
  rw [eq1] at e1 e2
  unfold rdD
  rw [e1]
  simp only
  rw [show ((p.length + (Vm.enc k.size).length + k.size : Nat) : Int) = ((p ++ (Vm.enc k.size ++ k.data.toList)).length : Int) by simp; omega, e2]
  simp [dbytes]
  omega
theorem goL_back : ∀ (l acc : List De) (p r : List UInt8), (∀ d ∈ l, okD d = true) → goL (p ++ (pbody l ++ r)) l.length acc p.length = some (acc ++ l, p.length + (pbody l).length)
  | [], acc, p, r, _ => by simp [goL, pbody]
  | d :: l, acc, p, r, h => by
    have e1 := rdD_back p (pbody l ++ r) (h d (by simp))
    have e2 := goL_back l (acc ++ [d]) (p ++ dbytes d) r (fun x hx => h x (List.mem_cons_of_mem _ hx))
    have eq1 : p ++ (pbody (d :: l) ++ r) = p ++ (dbytes d ++ (pbody l ++ r)) := by rw [pbody_cons]; simp
    have eq2 : p ++ dbytes d ++ (pbody l ++ r) = p ++ (dbytes d ++ (pbody l ++ r)) := by simp
    rw [eq2] at e2
    rw [eq1, List.length_cons, goL_step e1, show p.length + (dbytes d).length = (p ++ dbytes d).length by simp, e2, pbody_cons]
    simp
    omega
theorem prD_back (l : List De) (p r : List UInt8) (h : chkD l = true) : prD (p ++ pbV l ++ r) (p.length : Int) = some (l, p.length + (pbV l).length) := by
  obtain ⟨h24, hs⟩ := chkD_parts h
  have hp : pbV l = Vm.enc l.length ++ pbody l := by simp [pbV, h]
  rw [hp]
  have e1 := rd_back p (pbody l ++ r) l.length (by omega)
  have e2 := goL_back l [] (p ++ Vm.enc l.length) r hs.1
  have eq1 : p ++ Vm.enc l.length ++ (pbody l ++ r) = p ++ (Vm.enc l.length ++ pbody l) ++ r := by simp
  rw [eq1] at e1 e2
  unfold prD
  rw [e1]
  simp only
  rw [if_neg (by omega), show p.length + (Vm.enc l.length).length = (p ++ Vm.enc l.length).length by simp, e2, finL, List.nil_append, if_pos hs]
  simp
  omega
end Go.Proofs.Ytfmedinhlmiaeaa
/- Appending to a row of the call's own: one dependency; a row of them. -/
namespace Go.Proofs.Ytfmedinhlmiaeaa
open Go.RowKit
set_option linter.unusedVariables false

/-- What lies outside the row lies as it lay. -/
abbrev KeptD (v : Value) (w w' : World) : Prop := ∀ k, k < w.heap.size → v.ownBlock ≠ some k → w'.heap[k]? = w.heap[k]?
theorem KeptD.cell {v : Value} {w w' : World} (h : KeptD v w w') {b o : Nat} {u : Value} (hlt : b < w.heap.size) (hne : v.ownBlock ≠ some b) (hc : w.cell? ⟨b, o, none⟩ = some u) : w'.cell? ⟨b, o, none⟩ = some u := by
  rw [World.cell?_of_block (h b hlt hne)]; exact hc
theorem OwnD.lt' {w : World} {base : Nat} {v : Value} {l : List De} (h : OwnD w base v l) {k : Nat} (hk : w.heap.size ≤ k) : v.ownBlock ≠ some k := fun e => by have := (h.lt k e).2; omega
theorem OwnD.lo {w : World} {base : Nat} {v : Value} {l : List De} (h : OwnD w base v l) {k : Nat} (hk : k < base) : v.ownBlock ≠ some k := fun e => by have := (h.lt k e).1; omega

theorem wp_pushD {ops : Array Oper} {rest : List Oper} {o : Oper} {a : Act} {Q : Exit → Act → World → Prop} {wr : World} (hgd : o.guard = none) (s x : Operand)
    (hop : o.op = .call { callee := .builtin .append, args := #[s, x], argTypes := #[23, 23] })
    (base : Nat) (v : Value) (l : List De) (k : ByteArray) (n t : Int) (hs : a.eval s = v) (hown : OwnD wr base v l) (hx : a.eval x = .slice (some ⟨wr.heap.size, 0, none⟩) 1 1) (hl : l.length ≤ 1000000) (hbs : base ≤ wr.heap.size)
    (h : ∀ g cap w', OwnD w' base (.slice (some ⟨g, 0, none⟩) (l.length + 1) cap) (l ++ [(k, n, t)]) → Below base wr w' → KeptD v wr w' → g < w'.heap.size → wpList Try.prog ops Q rest (a.put o.dst (.slice (some ⟨g, 0, none⟩) (l.length + 1) cap)) w') :
    wpList Try.prog ops Q (o :: rest) a (wr.alloc (.cells #[.string k, .int .i64 n, .int .i64 t] 34)) := by
  obtain ⟨i0, hi, hz0, hz1, hz2⟩ := info_parts info_de
  refine wpList_append_lies _ hgd s x 23 hop base 34 i0 _ 3 32 Try.underlying23 hi hz0 hz1 hz2 rfl (by decide) v l.length (dV l) hs (hown.alloc _) ⟨wr.heap.size, 0, none⟩ 1 1 [.string k, .int .i64 n, .int .i64 t] hx rfl
    (World.news_of_block (cs := #[.string k, .int .i64 n, .int .i64 t]) (t := 34) (fr := (0, 0)) (heap_alloc_new wr _)) (by simp [Value.oneCell']) (by omega) (by unfold maxLen; omega) (by omega) (by simp; omega) (wr.heap.size + 1) (by simp) ?_
  intro g cap w' ho hg _ hlt
  obtain ⟨p1, p2⟩ := OwnD.push hbs hown ho hg
  refine h g cap w' p1 p2 (fun j hj hne => ?_) hlt
  rw [hg.block j (by simp; omega) (fun e => hne e.symm)]
  exact Below.heap_alloc _ _ _ hj

theorem wp_appD {ops : Array Oper} {rest : List Oper} {o : Oper} {a : Act} {Q : Exit → Act → World → Prop} {w : World} (hgd : o.guard = none) (s x : Operand)
    (hop : o.op = .call { callee := .builtin .append, args := #[s, x], argTypes := #[23, 23] })
    (base : Nat) (v u : Value) (l m : List De) (hs : a.eval s = v) (hown : OwnD w base v l) (hx : a.eval x = u) (hu : DepAt w u m) (hl : l.length + m.length ≤ 1000000) (hbs : base ≤ w.heap.size)
    (h : ∀ v' w', OwnD w' base v' (l ++ m) → Below base w w' → KeptD v w w' → (v' = .slice none 0 0 ↔ v = .slice none 0 0 ∧ m = []) → wpList Try.prog ops Q rest (a.put o.dst v') w') :
    wpList Try.prog ops Q (o :: rest) a w := by
  obtain ⟨i0, hi, hz0, hz1, hz2⟩ := info_parts info_de
  obtain ⟨b, cap, rfl, hcap, hmx, hnil, hr⟩ := hu
  cases b with
  | some b =>
    refine wpList_append_own _ hgd s x 23 hop base 34 i0 _ 3 32 Try.underlying23 hi hz0 hz1 hz2 rfl (by decide) v l.length (dV l) hs hown b m.length cap (dV m) hx (dV_len m) hr.news (dV_one m) (by unfold maxLen; omega) (by omega) hbs ?_
    intro v' w' ho hg hn
    refine h v' w' (by unfold OwnD; rw [dV_append, List.length_append]; exact ho) ((Below.refl base w).grown hg hbs (fun k hk => (hown.lt k hk).1)) (fun j hj hne => hg.block j hj (fun e => hne e.symm)) ?_
    rw [hn, List.length_eq_zero_iff]
  | none =>
    have hc0 := hnil rfl
    obtain rfl : m = [] := List.length_eq_zero_iff.1 (by omega)
    subst hc0
    refine wpList_append_own_none hgd s x 23 hop base 34 i0 3 Try.underlying23 hi v l.length (dV l) hs hown hx ?_
    exact h v w (by rw [List.append_nil]; exact hown) (Below.refl _ _) (fun _ _ _ => rfl) (by simp)

/-- A variable of a dependency's type: block b holds it, and may be written. -/
structure VarD (w : World) (b : Nat) (x : ByteArray) (y z : Int) : Prop where
  c0 : w.cell? ⟨b, 0, none⟩ = some (.string x)
  c1 : w.cell? ⟨b, 1, none⟩ = some (.int .i64 y)
  c2 : w.cell? ⟨b, 2, none⟩ = some (.int .i64 z)
  f0 : w.frozen? ⟨b, 0, none⟩ = false
  f1 : w.frozen? ⟨b, 1, none⟩ = false
  f2 : w.frozen? ⟨b, 2, none⟩ = false
theorem VarD.new (w : World) (x : ByteArray) (y z : Int) (T : TypeId) : VarD (w.alloc (.cells #[.string x, .int .i64 y, .int .i64 z] T)) w.heap.size x y z := ⟨by simp, by simp, by simp, by simp, by simp, by simp⟩
theorem VarD.lt {w : World} {b : Nat} {x : ByteArray} {y z : Int} (h : VarD w b x y z) : b < w.heap.size := lt_of_cellN h.c0
theorem VarD.keep {w w' : World} {b : Nat} {x : ByteArray} {y z : Int} (h : VarD w b x y z) (hb : Below w.heap.size w w') : VarD w' b x y z :=
  ⟨kc hb h.c0, kc hb h.c1, kc hb h.c2, (hb.frozen (p := ⟨b, 0, none⟩) h.lt).trans h.f0, (hb.frozen (p := ⟨b, 1, none⟩) h.lt).trans h.f1, (hb.frozen (p := ⟨b, 2, none⟩) h.lt).trans h.f2⟩
theorem VarD.block {w w' : World} {b : Nat} {x : ByteArray} {y z : Int} (h : VarD w b x y z) (hb : w'.heap[b]? = w.heap[b]?) : VarD w' b x y z := by
  refine ⟨?_, ?_, ?_, ?_, ?_, ?_⟩
  · rw [World.cell?_of_block hb]; exact h.c0
  · rw [World.cell?_of_block hb]; exact h.c1
  · rw [World.cell?_of_block hb]; exact h.c2
  · rw [World.frozen?_of_block hb]; exact h.f0
  · rw [World.frozen?_of_block hb]; exact h.f1
  · rw [World.frozen?_of_block hb]; exact h.f2
abbrev World.put3 (w : World) (b : Nat) (x y z : Value) : World := ((w.setCell ⟨b, 0, none⟩ x).setCell ⟨b, 1, none⟩ y).setCell ⟨b, 2, none⟩ z
theorem VarD.put {w : World} {b : Nat} {x : ByteArray} {y z : Int} (h : VarD w b x y z) (x' : ByteArray) (y' z' : Int) : VarD (World.put3 w b (.string x') (.int .i64 y') (.int .i64 z')) b x' y' z' := by
  have c1 : (w.setCell ⟨b, 0, none⟩ (.string x')).cell? ⟨b, 1, none⟩ = some (.int .i64 y) := by rw [World.cell?_setCell_other _ _ _ _ (by simp)]; exact h.c1
  have c2 : ((w.setCell ⟨b, 0, none⟩ (.string x')).setCell ⟨b, 1, none⟩ (.int .i64 y')).cell? ⟨b, 2, none⟩ = some (.int .i64 z) := by
    rw [World.cell?_setCell_other _ _ _ _ (by simp), World.cell?_setCell_other _ _ _ _ (by simp)]; exact h.c2
  refine ⟨?_, ?_, World.cell?_setCell_same _ _ _ c2, by simpa [World.put3] using h.f0, by simpa [World.put3] using h.f1, by simpa [World.put3] using h.f2⟩
  · rw [World.put3, World.cell?_setCell_other _ _ _ _ (by simp), World.cell?_setCell_other _ _ _ _ (by simp)]; exact World.cell?_setCell_same _ _ _ h.c0
  · rw [World.put3, World.cell?_setCell_other _ _ _ _ (by simp)]; exact World.cell?_setCell_same _ _ _ c1
theorem put3_size (w : World) (b : Nat) (x y z : Value) : (World.put3 w b x y z).heap.size = w.heap.size := by simp [World.put3, World.setCell]
theorem put3_block (w : World) (b : Nat) (x y z : Value) (k : Nat) (h : k ≠ b) : (World.put3 w b x y z).heap[k]? = w.heap[k]? := by
  rw [World.put3, Below.heap_setCell _ _ _ _ h, Below.heap_setCell _ _ _ _ h, Below.heap_setCell _ _ _ _ h]
theorem below_put3 {n b : Nat} {w w' : World} (hb : Below n w w') (h : n ≤ b) (x y z : Value) : Below n w (World.put3 w' b x y z) := ((hb.setCell h _).setCell h _).setCell h _
theorem OwnD.put3 {w : World} {base b : Nat} {v : Value} {l : List De} (h : OwnD w base v l) (hne : v.ownBlock ≠ some b) (x y z : Value) : OwnD (World.put3 w b x y z) base v l := by
  refine ⟨h.1, ?_⟩
  rcases h.2 with h0 | ⟨g, cap, cur, rfl, hbg, hg, r⟩
  · exact .inl h0
  · exact .inr ⟨g, cap, cur, rfl, hbg, (put3_block w b x y z g (fun e => hne (by simp [Value.ownBlock, e]))).trans hg, r⟩
end Go.Proofs.Ytfmedinhlmiaeaa
/- What past.readDep answers. -/
namespace Go.Proofs.Ytfmedinhlmiaeaa
open Go.RowKit
set_option linter.unusedVariables false
set_option linter.unusedSimpArgs false

def rdDV : Option (De × Nat) → Value
  | none => .tuple #[.agg #[.string ⟨#[]⟩, .int .i64 0, .int .i64 0], .int .i64 0, .bool false]
  | some (d, e) => .tuple #[.agg #[.string d.1, .int .i64 d.2.1, .int .i64 d.2.2], .int .i64 (e : Int), .bool true]

end Go.Proofs.Ytfmedinhlmiaeaa
/- What past.Read answers. -/
namespace Go.Proofs.Ytfmedinhlmiaeaa
open Go.RowKit
set_option linter.unusedVariables false
set_option linter.unusedSimpArgs false

theorem ba_size_list' (S : ByteArray) : S.data.toList.length = S.size := rfl
theorem fin_end {s : List UInt8} {acc : List De} {a : Nat} (h : Srt acc) : finL (goL s 0 acc a) = some (acc, a) := by
  rw [goL, finL, if_pos h]

end Go.Proofs.Ytfmedinhlmiaeaa
/- What a call that writes some blocks leaves as it was. -/
namespace Go.Proofs.Ytfmedinhlmiaeaa
open Go.RowKit
set_option linter.unusedVariables false

/-- All blocks are as they were, but those of P, and new ones. -/
structure Mv (P : Nat → Prop) (w w' : World) : Prop where
  os : w'.os = w.os
  tape : w'.tape = w.tape
  output : w'.output = w.output
  size : w.heap.size ≤ w'.heap.size
  block : ∀ k, k < w.heap.size → ¬ P k → w'.heap[k]? = w.heap[k]?
theorem Mv.refl (P : Nat → Prop) (w : World) : Mv P w w := ⟨rfl, rfl, rfl, Nat.le_refl _, fun _ _ _ => rfl⟩
theorem Mv.of_below {P : Nat → Prop} {w w' : World} (h : Below w.heap.size w w') : Mv P w w' := ⟨h.os, h.tape, h.output, h.size, fun k hk _ => h.block k hk⟩
theorem Mv.trans {P : Nat → Prop} {a b c : World} (h : Mv P a b) (k : Mv P b c) : Mv P a c :=
  ⟨k.os.trans h.os, k.tape.trans h.tape, k.output.trans h.output, Nat.le_trans h.size k.size, fun i hi hp => (k.block i (Nat.lt_of_lt_of_le hi h.size) hp).trans (h.block i hi hp)⟩
theorem Mv.below {P : Nat → Prop} {w w' : World} (h : Mv P w w') {n : Nat} (hn : ∀ k, k < n → ¬ P k) (hs : n ≤ w.heap.size) : Below n w w' :=
  ⟨h.os, h.tape, h.output, h.size, fun k hk => h.block k (Nat.lt_of_lt_of_le hk hs) (hn k hk)⟩
theorem Mv.mono {P Q : Nat → Prop} {w w' : World} (h : Mv P w w') (hpq : ∀ k, P k → Q k) : Mv Q w w' :=
  ⟨h.os, h.tape, h.output, h.size, fun k hk hq => h.block k hk (fun hp => hq (hpq k hp))⟩
theorem Mv.set {P : Nat → Prop} {w w' : World} (h : Mv P w w') {b o : Nat} (hb : P b) (x : Value) : Mv P w (w'.setCell ⟨b, o, none⟩ x) := by
  have k := (Below.refl b w').setCell (p := ⟨b, o, none⟩) (Nat.le_refl b) x
  refine ⟨k.os.trans h.os, k.tape.trans h.tape, k.output.trans h.output, Nat.le_trans h.size k.size, fun i hi hp => ?_⟩
  have hne : i ≠ b := fun e => hp (e ▸ hb)
  rw [← h.block i hi hp]
  exact Below.heap_setCell _ _ _ _ hne
theorem Mv.alloc {P : Nat → Prop} {w w' : World} (h : Mv P w w') (o : Obj) : Mv P w (w'.alloc o) := h.trans (Mv.of_below (balloc (Below.refl _ _) _))
theorem Mv.step {P : Nat → Prop} {w w1 w2 : World} (h : Mv P w w1) (k : Below w1.heap.size w1 w2) : Mv P w w2 := h.trans (Mv.of_below k)
theorem Mv.cell {P : Nat → Prop} {w w' : World} (h : Mv P w w') {b o : Nat} {x : Value} (hp : ¬ P b) (hc : w.cell? ⟨b, o, none⟩ = some x) : w'.cell? ⟨b, o, none⟩ = some x := by
  rw [World.cell?_of_block (h.block b (lt_of_cellN hc) hp)]
  exact hc

theorem Mv.low {P : Nat → Prop} {w w1 w2 : World} (h : Mv P w w1) (k : Below w.heap.size w1 w2) : Mv P w w2 :=
  ⟨k.os.trans h.os, k.tape.trans h.tape, k.output.trans h.output, Nat.le_trans h.size k.size, fun i hi hp => (k.block i hi).trans (h.block i hi hp)⟩
end Go.Proofs.Ytfmedinhlmiaeaa
