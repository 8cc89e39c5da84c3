/- Texts of this proof, one behind the other: PastReadMath, PastPush, PastReadDep, PastRead, Mv, WireMath. -/
import Derived.Test.YtjfmgplhcinkfaaGreatGP5
import Derived.OwnWalk
import Derived.Laws.AppendOwnNone
import Derived.WalkMore
/- Reading a past: plain mathematics. -/
namespace Go.Proofs.YtjfmgplhcinkfaaGreat
open Go.RowKit
set_option linter.unusedVariables false

/-- One dependency, read at a place; a key of at most so many bytes. -/
def rdD (most : Int) (s : List UInt8) (a : Int) : Option (De × Nat) :=
  match rdt s a most with
  | none => none
  | some (k, m) =>
    match Sm.rdS (rd s) (m : Int) with
    | none => none
    | some (x, e) => some ((⟨k.toArray⟩, x.1, x.2), e)
/-- So many dependencies, one behind the other, behind those that were read. -/
def goL (s : List UInt8) : Nat → List De → Nat → Option (List De × Nat)
  | 0, acc, a => some (acc, a)
  | n + 1, acc, a =>
    match rdD 32 s a with
    | none => none
    | some (d, e) => goL s n (acc ++ [d]) e
/-- What was read, if it may be. -/
def finL : Option (List De × Nat) → Option (List De × Nat)
  | none => none
  | some (l, e) => if Srt l then some (l, e) else none
/-- The past that is read at a place. -/
def prD (s : List UInt8) (a : Int) : Option (List De × Nat) :=
  match rd s a with
  | none => none
  | some (n, e) => if 24 < n then none else finL (goL s n [] e)
def prL (r : Option (List De × Nat)) : List De := match r with | none => [] | some (l, _) => l
def prE (r : Option (List De × Nat)) : Nat := match r with | none => 0 | some (_, e) => e

theorem goL_pre (s : List UInt8) : ∀ (n : Nat) (acc : List De) (a : Nat) (l : List De) (e : Nat), goL s n acc a = some (l, e) → ∃ m, l = acc ++ m ∧ m.length = n ∧ a ≤ e
  | 0, acc, a, l, e, h => by
    simp [goL] at h
    exact ⟨[], by simp [h.1], rfl, by omega⟩
  | n + 1, acc, a, l, e, h => by
    rw [goL] at h
    cases hd : rdD 32 s a with
    | none => rw [hd] at h; cases h
    | some x =>
      obtain ⟨d, e1⟩ := x
      rw [hd] at h
      obtain ⟨m, h1, h2, h3⟩ := goL_pre s n _ _ _ _ h
      have hlt : (a : Int) < e1 := by
        unfold rdD at hd
        cases ht : rdt s a 32 with
        | none => rw [ht] at hd; cases hd
        | some y =>
          obtain ⟨k, m1⟩ := y
          rw [ht] at hd
          simp only at hd
          have q1 : (a : Int) < m1 := by
            unfold rdt at ht
            cases hr : rd s a with
            | none => rw [hr] at ht; cases ht
            | some z =>
              obtain ⟨nn, ee⟩ := z
              obtain ⟨_, _, _, h4⟩ := rd_some hr
              rw [hr] at ht
              simp only at ht
              split at ht
              · cases ht
              · simp at ht; omega
          cases hs : Sm.rdS (rd s) (m1 : Int) with
          | none => rw [hs] at hd; cases hd
          | some z =>
            obtain ⟨x, ee⟩ := z
            rw [hs] at hd
            simp at hd
            obtain ⟨_, rfl⟩ := hd
            unfold Sm.rdS at hs
            cases hr : rd s (m1 : Int) with
            | none => rw [hr] at hs; cases hs
            | some y1 =>
              obtain ⟨n1, m2⟩ := y1
              obtain ⟨_, _, _, h4⟩ := rd_some hr
              rw [hr] at hs
              simp only at hs
              cases hr2 : rd s (m2 : Int) with
              | none => rw [hr2] at hs; cases hs
              | some y2 =>
                obtain ⟨n2, m3⟩ := y2
                obtain ⟨_, _, _, h5⟩ := rd_some hr2
                rw [hr2] at hs
                simp only at hs
                split at hs
                · simp at hs; omega
                · cases hs
      exact ⟨d :: m, by rw [h1]; simp, by simp [h2], by omega⟩
theorem finL_stop {s : List UInt8} {n : Nat} {acc : List De} {a : Nat} (h : ¬ Srt acc) : finL (goL s n acc a) = none := by
  cases hg : goL s n acc a with
  | none => rfl
  | some x =>
    obtain ⟨l, e⟩ := x
    obtain ⟨m, rfl, _, _⟩ := goL_pre s n acc a l e hg
    rw [finL, if_neg (fun hs => h (by have := hs.take acc.length; rwa [List.take_left] at this))]
/-- Read with any bound: what is longer than 32 bytes may not be. -/
theorem rdD_any (s : List UInt8) (a : Int) :
    (rdD (s.length : Int) s a = none ∧ rdD 32 s a = none) ∨ (∃ d e, rdD (s.length : Int) s a = some (d, e) ∧ d.1.size ≤ s.length ∧ (rdD 32 s a = some (d, e) ∨ (rdD 32 s a = none ∧ okD d = false))) := by
  unfold rdD rdt
  cases hr : rd s a with
  | none => exact .inl ⟨rfl, rfl⟩
  | some z =>
    obtain ⟨n, e⟩ := z
    simp only
    by_cases c : s.length < e + n
    · rw [if_pos (.inr c), if_pos (.inr c)]
      exact .inl ⟨rfl, rfl⟩
    · rw [if_neg (by omega)]
      simp only
      cases hs : Sm.rdS (rd s) ((e + n : Nat) : Int) with
      | none =>
        left
        refine ⟨rfl, ?_⟩
        by_cases c2 : (32 : Int) < n
        · rw [if_pos (.inl c2)]
        · rw [if_neg (by omega)]
          simp only [hs]
      | some y =>
        obtain ⟨x, e2⟩ := y
        right
        have hkl : ((s.drop e).take n).length = n := by simp; omega
        refine ⟨_, _, rfl, by show ((s.drop e).take n).toArray.size ≤ _; simp; omega, ?_⟩
        by_cases c2 : (32 : Int) < n
        · right
          rw [if_pos (.inl c2)]
          refine ⟨rfl, ?_⟩
          cases ho : okD ((⟨((s.drop e).take n).toArray⟩ : ByteArray), x.1, x.2) with
          | false => rfl
          | true =>
            exfalso
            have := okD_size ho
            have h2 : ((s.drop e).take n).toArray.size ≤ 32 := this
            rw [List.size_toArray, hkl] at h2
            omega
        · left
          rw [if_neg (by omega)]
          simp only [hs]
/-- A step of the loop. -/
theorem goL_step {s : List UInt8} {n : Nat} {acc : List De} {a : Nat} {d : De} {e : Nat} (h : rdD 32 s a = some (d, e)) : goL s (n + 1) acc a = goL s n (acc ++ [d]) e := by
  rw [goL, h]
theorem goL_none {s : List UInt8} {n : Nat} {acc : List De} {a : Nat} (h : rdD 32 s a = none) : goL s (n + 1) acc a = none := by
  rw [goL, h]
/-- Not found, or not fit to follow: there is no past. -/
theorem fin_no {s : List UInt8} {n : Nat} {acc : List De} {a : Nat} {d : De} {e : Nat} (h : rdD 32 s a = some (d, e) ∨ (rdD 32 s a = none ∧ okD d = false)) (hs : Srt acc) (hf : folD acc d = false) : finL (goL s (n + 1) acc a) = none := by
  rcases h with h | ⟨h, _⟩
  · rw [goL_step h]
    exact finL_stop (fun hq => by have := ((srt_snoc acc d).1 hq).2; rw [hf] at this; cases this)
  · rw [goL_none h]; rfl
theorem fin_yes {s : List UInt8} {n : Nat} {acc : List De} {a : Nat} {d : De} {e : Nat} (h : rdD 32 s a = some (d, e) ∨ (rdD 32 s a = none ∧ okD d = false)) (hf : folD acc d = true) : goL s (n + 1) acc a = goL s n (acc ++ [d]) e := by
  rcases h with h | ⟨h, h2⟩
  · exact goL_step h
  · exfalso
    unfold folD at hf
    rw [h2] at hf
    cases hf
theorem prD_pos {s : List UInt8} {a : Int} {l : List De} {e : Nat} (h : prD s a = some (l, e)) : 0 < e := by
  unfold prD at h
  cases hr : rd s a with
  | none => rw [hr] at h; cases h
  | some z =>
    obtain ⟨n, e0⟩ := z
    obtain ⟨_, _, h3, h4⟩ := rd_some hr
    rw [hr] at h
    simp only at h
    split at h
    · cases h
    · cases hg : goL s n [] e0 with
      | none => rw [hg] at h; cases h
      | some y =>
        obtain ⟨l', e'⟩ := y
        obtain ⟨_, _, _, h5⟩ := goL_pre s n [] e0 l' e' hg
        rw [hg, finL] at h
        split at h
        · simp at h; omega
        · cases h
theorem pr_ok (s : List UInt8) (a : Int) : (prD s a).isSome = decide (0 < prE (prD s a)) := by
  cases h : prD s a with
  | none => rfl
  | some x =>
    obtain ⟨l, e⟩ := x
    have := prD_pos h
    simp [prE, this]
/-- What was written is read. -/
theorem rdD_back (p r : List UInt8) {d : De} (h : okD d = true) : rdD 32 (p ++ (dbytes d ++ r)) (p.length : Int) = some (d, p.length + (dbytes d).length) := by
  obtain ⟨k, n, t⟩ := d
  have hsz := okD_size h
  have hok : Sm.ok n t = true := by
    unfold okD at h
    rw [Bool.and_eq_true] at h
    exact h.2
  dsimp only at hsz
  have hkl : k.data.toList.length = k.size := rfl
  have e1 := rdt_back p (sbytes n t ++ r) k.data.toList 32 (by omega) (by omega)
  have e2 := srd_at (p ++ (Vm.enc k.size ++ k.data.toList)) r hok
  rw [hkl] at e1
  have eq1 : p ++ (Vm.enc k.size ++ k.data.toList) ++ (sbytes n t ++ r) = p ++ (dbytes (k, n, t) ++ r) := by simp [dbytes]
  rw [eq1] at e1 e2
  unfold rdD
  rw [e1]
  simp only
  rw [show ((p.length + (Vm.enc k.size).length + k.size : Nat) : Int) = ((p ++ (Vm.enc k.size ++ k.data.toList)).length : Int) by simp; omega, e2]
  simp [dbytes]
  omega
theorem goL_back : ∀ (l acc : List De) (p r : List UInt8), (∀ d ∈ l, okD d = true) → goL (p ++ (pbody l ++ r)) l.length acc p.length = some (acc ++ l, p.length + (pbody l).length)
  | [], acc, p, r, _ => by simp [goL, pbody]
  | d :: l, acc, p, r, h => by
    have e1 := rdD_back p (pbody l ++ r) (h d (by simp))
    have e2 := goL_back l (acc ++ [d]) (p ++ dbytes d) r (fun x hx => h x (List.mem_cons_of_mem _ hx))
    have eq1 : p ++ (pbody (d :: l) ++ r) = p ++ (dbytes d ++ (pbody l ++ r)) := by rw [pbody_cons]; simp
    have eq2 : p ++ dbytes d ++ (pbody l ++ r) = p ++ (dbytes d ++ (pbody l ++ r)) := by simp
    rw [eq2] at e2
    rw [eq1, List.length_cons, goL_step e1, show p.length + (dbytes d).length = (p ++ dbytes d).length by simp, e2, pbody_cons]
    simp
    omega
theorem prD_back (l : List De) (p r : List UInt8) (h : chkD l = true) : prD (p ++ pbV l ++ r) (p.length : Int) = some (l, p.length + (pbV l).length) := by
  obtain ⟨h24, hs⟩ := chkD_parts h
  have hp : pbV l = Vm.enc l.length ++ pbody l := by simp [pbV, h]
  rw [hp]
  have e1 := rd_back p (pbody l ++ r) l.length (by omega)
  have e2 := goL_back l [] (p ++ Vm.enc l.length) r hs.1
  have eq1 : p ++ Vm.enc l.length ++ (pbody l ++ r) = p ++ (Vm.enc l.length ++ pbody l) ++ r := by simp
  rw [eq1] at e1 e2
  unfold prD
  rw [e1]
  simp only
  rw [if_neg (by omega), show p.length + (Vm.enc l.length).length = (p ++ Vm.enc l.length).length by simp, e2, finL, List.nil_append, if_pos hs]
  simp
  omega
end Go.Proofs.YtjfmgplhcinkfaaGreat
/- Appending to a row of the call's own: one dependency; a row of them. -/
namespace Go.Proofs.YtjfmgplhcinkfaaGreat
open Go.RowKit
set_option linter.unusedVariables false

/-- What lies outside the row lies as it lay. -/
abbrev KeptD (v : Value) (w w' : World) : Prop := ∀ k, k < w.heap.size → v.ownBlock ≠ some k → w'.heap[k]? = w.heap[k]?
theorem KeptD.cell {v : Value} {w w' : World} (h : KeptD v w w') {b o : Nat} {u : Value} (hlt : b < w.heap.size) (hne : v.ownBlock ≠ some b) (hc : w.cell? ⟨b, o, none⟩ = some u) : w'.cell? ⟨b, o, none⟩ = some u := by
  rw [World.cell?_of_block (h b hlt hne)]; exact hc
theorem OwnD.lt' {w : World} {base : Nat} {v : Value} {l : List De} (h : OwnD w base v l) {k : Nat} (hk : w.heap.size ≤ k) : v.ownBlock ≠ some k := fun e => by have := (h.lt k e).2; omega
theorem OwnD.lo {w : World} {base : Nat} {v : Value} {l : List De} (h : OwnD w base v l) {k : Nat} (hk : k < base) : v.ownBlock ≠ some k := fun e => by have := (h.lt k e).1; omega

theorem wp_pushD {ops : Array Oper} {rest : List Oper} {o : Oper} {a : Act} {Q : Exit → Act → World → Prop} {wr : World} (hgd : o.guard = none) (s x : Operand)
    (hop : o.op = .call { callee := .builtin .append, args := #[s, x], argTypes := #[34, 34] })
    (base : Nat) (v : Value) (l : List De) (k : ByteArray) (n t : Int) (hs : a.eval s = v) (hown : OwnD wr base v l) (hx : a.eval x = .slice (some ⟨wr.heap.size, 0, none⟩) 1 1) (hl : l.length ≤ 1000000) (hbs : base ≤ wr.heap.size)
    (h : ∀ g cap w', OwnD w' base (.slice (some ⟨g, 0, none⟩) (l.length + 1) cap) (l ++ [(k, n, t)]) → Below base wr w' → KeptD v wr w' → g < w'.heap.size → wpList Tryz.prog ops Q rest (a.put o.dst (.slice (some ⟨g, 0, none⟩) (l.length + 1) cap)) w') :
    wpList Tryz.prog ops Q (o :: rest) a (wr.alloc (.cells #[.string k, .int .i64 n, .int .i64 t] 38)) := by
  obtain ⟨i0, hi, hz0, hz1, hz2⟩ := info_parts info_de
  refine wpList_append_lies _ hgd s x 34 hop base 38 i0 _ 3 32 Tryz.underlying34 hi hz0 hz1 hz2 rfl (by decide) v l.length (dV l) hs (hown.alloc _) ⟨wr.heap.size, 0, none⟩ 1 1 [.string k, .int .i64 n, .int .i64 t] hx rfl
    (World.news_of_block (cs := #[.string k, .int .i64 n, .int .i64 t]) (t := 38) (fr := (0, 0)) (heap_alloc_new wr _)) (by simp [Value.oneCell']) (by omega) (by unfold maxLen; omega) (by omega) (by simp; omega) (wr.heap.size + 1) (by simp) ?_
  intro g cap w' ho hg _ hlt
  obtain ⟨p1, p2⟩ := OwnD.push hbs hown ho hg
  refine h g cap w' p1 p2 (fun j hj hne => ?_) hlt
  rw [hg.block j (by simp; omega) (fun e => hne e.symm)]
  exact Below.heap_alloc _ _ _ hj

theorem wp_appD {ops : Array Oper} {rest : List Oper} {o : Oper} {a : Act} {Q : Exit → Act → World → Prop} {w : World} (hgd : o.guard = none) (s x : Operand)
    (hop : o.op = .call { callee := .builtin .append, args := #[s, x], argTypes := #[34, 34] })
    (base : Nat) (v u : Value) (l m : List De) (hs : a.eval s = v) (hown : OwnD w base v l) (hx : a.eval x = u) (hu : DepAt w u m) (hl : l.length + m.length ≤ 1000000) (hbs : base ≤ w.heap.size)
    (h : ∀ v' w', OwnD w' base v' (l ++ m) → Below base w w' → KeptD v w w' → (v' = .slice none 0 0 ↔ v = .slice none 0 0 ∧ m = []) → wpList Tryz.prog ops Q rest (a.put o.dst v') w') :
    wpList Tryz.prog ops Q (o :: rest) a w := by
  obtain ⟨i0, hi, hz0, hz1, hz2⟩ := info_parts info_de
  obtain ⟨b, cap, rfl, hcap, hmx, hnil, hr⟩ := hu
  cases b with
  | some b =>
    refine wpList_append_own _ hgd s x 34 hop base 38 i0 _ 3 32 Tryz.underlying34 hi hz0 hz1 hz2 rfl (by decide) v l.length (dV l) hs hown b m.length cap (dV m) hx (dV_len m) hr.news (dV_one m) (by unfold maxLen; omega) (by omega) hbs ?_
    intro v' w' ho hg hn
    refine h v' w' (by unfold OwnD; rw [dV_append, List.length_append]; exact ho) ((Below.refl base w).grown hg hbs (fun k hk => (hown.lt k hk).1)) (fun j hj hne => hg.block j hj (fun e => hne e.symm)) ?_
    rw [hn, List.length_eq_zero_iff]
  | none =>
    have hc0 := hnil rfl
    obtain rfl : m = [] := List.length_eq_zero_iff.1 (by omega)
    subst hc0
    refine wpList_append_own_none hgd s x 34 hop base 38 i0 3 Tryz.underlying34 hi v l.length (dV l) hs hown hx ?_
    exact h v w (by rw [List.append_nil]; exact hown) (Below.refl _ _) (fun _ _ _ => rfl) (by simp)

/-- A variable of a dependency's type: block b holds it, and may be written. -/
structure VarD (w : World) (b : Nat) (x : ByteArray) (y z : Int) : Prop where
  c0 : w.cell? ⟨b, 0, none⟩ = some (.string x)
  c1 : w.cell? ⟨b, 1, none⟩ = some (.int .i64 y)
  c2 : w.cell? ⟨b, 2, none⟩ = some (.int .i64 z)
  f0 : w.frozen? ⟨b, 0, none⟩ = false
  f1 : w.frozen? ⟨b, 1, none⟩ = false
  f2 : w.frozen? ⟨b, 2, none⟩ = false
theorem VarD.new (w : World) (x : ByteArray) (y z : Int) (T : TypeId) : VarD (w.alloc (.cells #[.string x, .int .i64 y, .int .i64 z] T)) w.heap.size x y z := ⟨by simp, by simp, by simp, by simp, by simp, by simp⟩
theorem VarD.lt {w : World} {b : Nat} {x : ByteArray} {y z : Int} (h : VarD w b x y z) : b < w.heap.size := lt_of_cellN h.c0
theorem VarD.keep {w w' : World} {b : Nat} {x : ByteArray} {y z : Int} (h : VarD w b x y z) (hb : Below w.heap.size w w') : VarD w' b x y z :=
  ⟨kc hb h.c0, kc hb h.c1, kc hb h.c2, (hb.frozen (p := ⟨b, 0, none⟩) h.lt).trans h.f0, (hb.frozen (p := ⟨b, 1, none⟩) h.lt).trans h.f1, (hb.frozen (p := ⟨b, 2, none⟩) h.lt).trans h.f2⟩
theorem VarD.block {w w' : World} {b : Nat} {x : ByteArray} {y z : Int} (h : VarD w b x y z) (hb : w'.heap[b]? = w.heap[b]?) : VarD w' b x y z := by
  refine ⟨?_, ?_, ?_, ?_, ?_, ?_⟩
  · rw [World.cell?_of_block hb]; exact h.c0
  · rw [World.cell?_of_block hb]; exact h.c1
  · rw [World.cell?_of_block hb]; exact h.c2
  · rw [World.frozen?_of_block hb]; exact h.f0
  · rw [World.frozen?_of_block hb]; exact h.f1
  · rw [World.frozen?_of_block hb]; exact h.f2
abbrev World.put3 (w : World) (b : Nat) (x y z : Value) : World := ((w.setCell ⟨b, 0, none⟩ x).setCell ⟨b, 1, none⟩ y).setCell ⟨b, 2, none⟩ z
theorem VarD.put {w : World} {b : Nat} {x : ByteArray} {y z : Int} (h : VarD w b x y z) (x' : ByteArray) (y' z' : Int) : VarD (World.put3 w b (.string x') (.int .i64 y') (.int .i64 z')) b x' y' z' := by
  have c1 : (w.setCell ⟨b, 0, none⟩ (.string x')).cell? ⟨b, 1, none⟩ = some (.int .i64 y) := by rw [World.cell?_setCell_other _ _ _ _ (by simp)]; exact h.c1
  have c2 : ((w.setCell ⟨b, 0, none⟩ (.string x')).setCell ⟨b, 1, none⟩ (.int .i64 y')).cell? ⟨b, 2, none⟩ = some (.int .i64 z) := by
    rw [World.cell?_setCell_other _ _ _ _ (by simp), World.cell?_setCell_other _ _ _ _ (by simp)]; exact h.c2
  refine ⟨?_, ?_, World.cell?_setCell_same _ _ _ c2, by simpa [World.put3] using h.f0, by simpa [World.put3] using h.f1, by simpa [World.put3] using h.f2⟩
  · rw [World.put3, World.cell?_setCell_other _ _ _ _ (by simp), World.cell?_setCell_other _ _ _ _ (by simp)]; exact World.cell?_setCell_same _ _ _ h.c0
  · rw [World.put3, World.cell?_setCell_other _ _ _ _ (by simp)]; exact World.cell?_setCell_same _ _ _ c1
theorem put3_size (w : World) (b : Nat) (x y z : Value) : (World.put3 w b x y z).heap.size = w.heap.size := by simp [World.put3, World.setCell]
theorem put3_block (w : World) (b : Nat) (x y z : Value) (k : Nat) (h : k ≠ b) : (World.put3 w b x y z).heap[k]? = w.heap[k]? := by
  rw [World.put3, Below.heap_setCell _ _ _ _ h, Below.heap_setCell _ _ _ _ h, Below.heap_setCell _ _ _ _ h]
theorem below_put3 {n b : Nat} {w w' : World} (hb : Below n w w') (h : n ≤ b) (x y z : Value) : Below n w (World.put3 w' b x y z) := ((hb.setCell h _).setCell h _).setCell h _
theorem OwnD.put3 {w : World} {base b : Nat} {v : Value} {l : List De} (h : OwnD w base v l) (hne : v.ownBlock ≠ some b) (x y z : Value) : OwnD (World.put3 w b x y z) base v l := by
  refine ⟨h.1, ?_⟩
  rcases h.2 with h0 | ⟨g, cap, cur, rfl, hbg, hg, r⟩
  · exact .inl h0
  · exact .inr ⟨g, cap, cur, rfl, hbg, (put3_block w b x y z g (fun e => hne (by simp [Value.ownBlock, e]))).trans hg, r⟩
end Go.Proofs.YtjfmgplhcinkfaaGreat
/- What past.readDep answers. -/
namespace Go.Proofs.YtjfmgplhcinkfaaGreat
open Go.RowKit
set_option linter.unusedVariables false
set_option linter.unusedSimpArgs false

def rdDV : Option (De × Nat) → Value
  | none => .tuple #[.agg #[.string ⟨#[]⟩, .int .i64 0, .int .i64 0], .int .i64 0, .bool false]
  | some (d, e) => .tuple #[.agg #[.string d.1, .int .i64 d.2.1, .int .i64 d.2.2], .int .i64 (e : Int), .bool true]

end Go.Proofs.YtjfmgplhcinkfaaGreat
/- What past.Read answers. -/
namespace Go.Proofs.YtjfmgplhcinkfaaGreat
open Go.RowKit
set_option linter.unusedVariables false
set_option linter.unusedSimpArgs false

theorem ba_size_list' (S : ByteArray) : S.data.toList.length = S.size := rfl
theorem fin_end {s : List UInt8} {acc : List De} {a : Nat} (h : Srt acc) : finL (goL s 0 acc a) = some (acc, a) := by
  rw [goL, finL, if_pos h]

end Go.Proofs.YtjfmgplhcinkfaaGreat
/- What a call that writes some blocks leaves as it was. -/
namespace Go.Proofs.YtjfmgplhcinkfaaGreat
open Go.RowKit
set_option linter.unusedVariables false

/-- All blocks are as they were, but those of P, and new ones. -/
structure Mv (P : Nat → Prop) (w w' : World) : Prop where
  os : w'.os = w.os
  tape : w'.tape = w.tape
  output : w'.output = w.output
  size : w.heap.size ≤ w'.heap.size
  block : ∀ k, k < w.heap.size → ¬ P k → w'.heap[k]? = w.heap[k]?
theorem Mv.refl (P : Nat → Prop) (w : World) : Mv P w w := ⟨rfl, rfl, rfl, Nat.le_refl _, fun _ _ _ => rfl⟩
theorem Mv.of_below {P : Nat → Prop} {w w' : World} (h : Below w.heap.size w w') : Mv P w w' := ⟨h.os, h.tape, h.output, h.size, fun k hk _ => h.block k hk⟩
theorem Mv.trans {P : Nat → Prop} {a b c : World} (h : Mv P a b) (k : Mv P b c) : Mv P a c :=
  ⟨k.os.trans h.os, k.tape.trans h.tape, k.output.trans h.output, Nat.le_trans h.size k.size, fun i hi hp => (k.block i (Nat.lt_of_lt_of_le hi h.size) hp).trans (h.block i hi hp)⟩
theorem Mv.below {P : Nat → Prop} {w w' : World} (h : Mv P w w') {n : Nat} (hn : ∀ k, k < n → ¬ P k) (hs : n ≤ w.heap.size) : Below n w w' :=
  ⟨h.os, h.tape, h.output, h.size, fun k hk => h.block k (Nat.lt_of_lt_of_le hk hs) (hn k hk)⟩
theorem Mv.mono {P Q : Nat → Prop} {w w' : World} (h : Mv P w w') (hpq : ∀ k, P k → Q k) : Mv Q w w' :=
  ⟨h.os, h.tape, h.output, h.size, fun k hk hq => h.block k hk (fun hp => hq (hpq k hp))⟩
theorem Mv.set {P : Nat → Prop} {w w' : World} (h : Mv P w w') {b o : Nat} (hb : P b) (x : Value) : Mv P w (w'.setCell ⟨b, o, none⟩ x) := by
  have k := (Below.refl b w').setCell (p := ⟨b, o, none⟩) (Nat.le_refl b) x
  refine ⟨k.os.trans h.os, k.tape.trans h.tape, k.output.trans h.output, Nat.le_trans h.size k.size, fun i hi hp => ?_⟩
  have hne : i ≠ b := fun e => hp (e ▸ hb)
  rw [← h.block i hi hp]
  exact Below.heap_setCell _ _ _ _ hne
theorem Mv.alloc {P : Nat → Prop} {w w' : World} (h : Mv P w w') (o : Obj) : Mv P w (w'.alloc o) := h.trans (Mv.of_below (balloc (Below.refl _ _) _))
theorem Mv.step {P : Nat → Prop} {w w1 w2 : World} (h : Mv P w w1) (k : Below w1.heap.size w1 w2) : Mv P w w2 := h.trans (Mv.of_below k)
theorem Mv.cell {P : Nat → Prop} {w w' : World} (h : Mv P w w') {b o : Nat} {x : Value} (hp : ¬ P b) (hc : w.cell? ⟨b, o, none⟩ = some x) : w'.cell? ⟨b, o, none⟩ = some x := by
  rw [World.cell?_of_block (h.block b (lt_of_cellN hc) hp)]
  exact hc

theorem Mv.low {P : Nat → Prop} {w w1 w2 : World} (h : Mv P w w1) (k : Below w.heap.size w1 w2) : Mv P w w2 :=
  ⟨k.os.trans h.os, k.tape.trans h.tape, k.output.trans h.output, Nat.le_trans h.size k.size, fun i hi hp => (k.block i hi).trans (h.block i hi hp)⟩
end Go.Proofs.YtjfmgplhcinkfaaGreat
/- Versions and rows as bytes: plain mathematics. -/
namespace Go.Proofs.YtjfmgplhcinkfaaGreat
open Go.RowKit
set_option linter.unusedVariables false
set_option linter.unusedSimpArgs false

/-! What is read is written so. -/
theorem rd_only {s : List UInt8} {a : Nat} {n e : Nat} (h : rd s (a : Int) = some (n, e)) : s.drop a = Vm.enc n ++ s.drop e := by
  unfold rd at h
  by_cases c : (a : Int) < 0 ∨ (s.length : Int) < (a : Int)
  · rw [if_pos c] at h; cases h
  · rw [if_neg c, Int.toNat_natCast] at h
    cases hd : Vm.dec 0 (s.drop a) with
    | none => rw [hd] at h; cases h
    | some x =>
      obtain ⟨m, k⟩ := x
      rw [hd] at h
      simp at h
      obtain ⟨rfl, rfl⟩ := h
      obtain ⟨h1, h2, h3⟩ := Vm.dec0_inv _ _ _ hd
      rw [← h3, ← List.drop_drop, List.take_append_drop]
theorem rdt_some {s : List UInt8} {a most : Int} {t : List UInt8} {e : Nat} (h : rdt s a most = some (t, e)) :
    ∃ n e0, rd s a = some (n, e0) ∧ t = (s.drop e0).take n ∧ e = e0 + n ∧ (n : Int) ≤ most ∧ e0 + n ≤ s.length ∧ t.length = n := by
  unfold rdt at h
  cases hr : rd s a with
  | none => rw [hr] at h; cases h
  | some x =>
    obtain ⟨n, e0⟩ := x
    rw [hr] at h
    simp only at h
    by_cases c : most < (n : Int) ∨ s.length < e0 + n
    · rw [if_pos c] at h; cases h
    · rw [if_neg c] at h
      simp only [Option.some.injEq, Prod.mk.injEq] at h
      obtain ⟨rfl, rfl⟩ := h
      exact ⟨n, e0, rfl, rfl, rfl, by omega, by omega, by simp; omega⟩
theorem rdt_only {s : List UInt8} {a : Nat} {most : Int} {t : List UInt8} {e : Nat} (h : rdt s (a : Int) most = some (t, e)) : s.drop a = (Vm.enc t.length ++ t) ++ s.drop e := by
  obtain ⟨n, e0, hr, rfl, rfl, h1, h2, h3⟩ := rdt_some h
  rw [rd_only hr, h3, List.append_assoc]
  congr 1
  rw [← List.drop_drop, List.take_append_drop]
theorem rdt_end {s : List UInt8} {a : Int} {most : Int} {t : List UInt8} {e : Nat} (h : rdt s a most = some (t, e)) : e ≤ s.length ∧ (t.length : Int) ≤ most ∧ t.length ≤ s.length := by
  obtain ⟨n, e0, hr, rfl, rfl, h1, h2, h3⟩ := rdt_some h
  exact ⟨h2, by omega, by omega⟩
/-- Another bound that is kept, too. -/
theorem rdt_bound {s : List UInt8} {a : Int} {most most' : Int} {t : List UInt8} {e : Nat} (h : rdt s a most = some (t, e)) (hb : (t.length : Int) ≤ most') : rdt s a most' = some (t, e) := by
  obtain ⟨n, e0, hr, rfl, rfl, h1, h2, h3⟩ := rdt_some h
  unfold rdt
  rw [hr]
  simp only
  rw [if_neg (by omega)]
theorem rdS_only {s : List UInt8} {a : Nat} {x : Int × Int} {e : Nat} (h : Sm.rdS (rd s) (a : Int) = some (x, e)) : Sm.ok x.1 x.2 = true ∧ s.drop a = sbytes x.1 x.2 ++ s.drop e ∧ e ≤ s.length := by
  unfold Sm.rdS at h
  cases hr : rd s (a : Int) with
  | none => rw [hr] at h; cases h
  | some y =>
    obtain ⟨n, m⟩ := y
    rw [hr] at h
    simp only at h
    cases hr2 : rd s (m : Int) with
    | none => rw [hr2] at h; cases h
    | some z =>
      obtain ⟨k, e1⟩ := z
      rw [hr2] at h
      simp only at h
      by_cases c : Sm.ok n k = true
      · rw [if_pos c] at h
        simp only [Option.some.injEq, Prod.mk.injEq] at h
        obtain ⟨rfl, rfl⟩ := h
        refine ⟨c, ?_, (rd_some hr2).2.1⟩
        show s.drop a = sbytes (n : Int) (k : Int) ++ s.drop e1
        rw [sbytes_ok c, rd_only hr, rd_only hr2]
        simp
      · rw [if_neg c] at h; cases h
theorem rdD_only {s : List UInt8} {a : Nat} {most : Int} {d : De} {e : Nat} (h : rdD most s (a : Int) = some (d, e)) : s.drop a = dbytes d ++ s.drop e ∧ e ≤ s.length := by
  unfold rdD at h
  cases ht : rdt s (a : Int) most with
  | none => rw [ht] at h; cases h
  | some x =>
    obtain ⟨k, m⟩ := x
    rw [ht] at h
    simp only at h
    cases hs : Sm.rdS (rd s) (m : Int) with
    | none => rw [hs] at h; cases h
    | some y =>
      obtain ⟨z, e1⟩ := y
      rw [hs] at h
      simp only [Option.some.injEq, Prod.mk.injEq] at h
      obtain ⟨rfl, rfl⟩ := h
      obtain ⟨_, h2, h3⟩ := rdS_only hs
      refine ⟨?_, h3⟩
      rw [rdt_only ht, h2]
      simp [dbytes, ByteArray.size]
theorem goL_only {s : List UInt8} : ∀ (n : Nat) (acc : List De) (a : Nat) (l : List De) (e : Nat), goL s n acc a = some (l, e) → a ≤ s.length → ∃ m, l = acc ++ m ∧ m.length = n ∧ s.drop a = pbody m ++ s.drop e ∧ e ≤ s.length
  | 0, acc, a, l, e, h, ha => by
    simp [goL] at h
    obtain ⟨rfl, rfl⟩ := h
    exact ⟨[], by simp, rfl, by simp [pbody], ha⟩
  | n + 1, acc, a, l, e, h, ha => by
    rw [goL] at h
    cases hd : rdD 32 s a with
    | none => rw [hd] at h; cases h
    | some x =>
      obtain ⟨d, e1⟩ := x
      rw [hd] at h
      obtain ⟨h1, h2⟩ := rdD_only hd
      obtain ⟨m, rfl, h4, h5, h6⟩ := goL_only n _ _ _ _ h h2
      exact ⟨d :: m, by simp, by simp [h4], by rw [h1, h5, pbody_cons]; simp, h6⟩
theorem prD_only {s : List UInt8} {a : Nat} {l : List De} {e : Nat} (h : prD s (a : Int) = some (l, e)) : chkD l = true ∧ s.drop a = pbV l ++ s.drop e ∧ e ≤ s.length := by
  unfold prD at h
  cases hr : rd s (a : Int) with
  | none => rw [hr] at h; cases h
  | some z =>
    obtain ⟨n, e0⟩ := z
    rw [hr] at h
    simp only at h
    by_cases c : 24 < n
    · rw [if_pos c] at h; cases h
    · rw [if_neg c] at h
      cases hg : goL s n [] e0 with
      | none => rw [hg] at h; cases h
      | some y =>
        obtain ⟨l', e'⟩ := y
        rw [hg, finL] at h
        by_cases cs : Srt l'
        · rw [if_pos cs] at h
          simp only [Option.some.injEq, Prod.mk.injEq] at h
          obtain ⟨rfl, rfl⟩ := h
          obtain ⟨m, hm, h4, h5, h6⟩ := goL_only n [] e0 _ _ hg (rd_some hr).2.1
          rw [List.nil_append] at hm
          subst hm
          have hc : chkD l' = true := by
            unfold chkD
            simp [cs]
            omega
          refine ⟨hc, ?_, h6⟩
          rw [rd_only hr, h5, pbV, if_pos hc, h4]
          simp
        · rw [if_neg cs] at h; cases h

/-! Versions. -/
/-- A version. -/
structure Wv where
  key : ByteArray
  val : ByteArray
  gone : Bool
  st : Int × Int
  past : List De
def wz : Wv := ⟨⟨#[]⟩, ⟨#[]⟩, false, (0, 0), []⟩
/-- May the version be? -/
def okW (v : Wv) : Bool := (decide (v.val.size ≤ 32) && (decide (v.val.size = 0) || !v.gone)) && Km.chk v.key.data.toList && Sm.ok v.st.1 v.st.2 && chkD v.past
def gN (b : Bool) : Nat := if b then 1 else 0
def txt (l : List UInt8) : List UInt8 := Vm.enc l.length ++ l
/-- Its parts, one behind the other. -/
def wb0 (v : Wv) : List UInt8 := txt v.key.data.toList ++ (Vm.enc (gN v.gone) ++ (txt v.val.data.toList ++ (sbytes v.st.1 v.st.2 ++ pbV v.past)))
/-- The version's bytes. -/
def wbV (v : Wv) : List UInt8 := if okW v = true then wb0 v else []
/-- The version that is read, with bounds for texts and for the sign that it is gone. -/
def rdW (s : List UInt8) (mo : Int) (gm : Nat) : Option (Wv × Nat) :=
  match rdt s 0 mo with
  | none => none
  | some (k, e1) =>
    match rd s e1 with
    | none => none
    | some (g, e2) =>
      if gm < g then none else
      match rdt s e2 mo with
      | none => none
      | some (x, e3) =>
        match Sm.rdS (rd s) (e3 : Int) with
        | none => none
        | some (t, e4) =>
          match prD s (e4 : Int) with
          | none => none
          | some (p, e5) => some (⟨⟨k.toArray⟩, ⟨x.toArray⟩, decide (g = 1), t, p⟩, e5)
/-- The version that wire.Read reads. -/
def finW (s : List UInt8) : Option (Wv × Nat) → Option Wv
  | none => none
  | some (v, e) => if e = s.length ∧ okW v = true then some v else none
def readW (s : List UInt8) : Option Wv := finW s (rdW s s.length 1)
/-- The version that has these bytes. -/
def finR (s : List UInt8) : Option (Wv × Nat) → Option Wv
  | none => none
  | some (v, _) => if wbV v = s then some v else none
def readR (s : List UInt8) : Option Wv := finR s (rdW s 32 18446744073709551615)

theorem okW_parts {v : Wv} (h : okW v = true) : v.val.size ≤ 32 ∧ (v.val.size = 0 ∨ v.gone = false) ∧ Km.chk v.key.data.toList = true ∧ Sm.ok v.st.1 v.st.2 = true ∧ chkD v.past = true ∧ v.key.size ≤ 32 ∧ 1 ≤ v.key.size := by
  unfold okW at h
  simp only [Bool.and_eq_true, Bool.or_eq_true, decide_eq_true_eq, Bool.not_eq_true'] at h
  obtain ⟨⟨⟨⟨h1, h2⟩, h3⟩, h4⟩, h5⟩ := h
  obtain ⟨h6, h7⟩ := chk_size h3
  exact ⟨h1, h2, h3, h4, h5, h6, h7⟩
theorem txt_len (l : List UInt8) : (txt l).length = (Vm.enc l.length).length + l.length := by simp [txt]
theorem wb0_pos (v : Wv) : 0 < (wb0 v).length := by
  have := Vm.enc_pos v.key.data.toList.length
  simp [wb0, txt]
  simp at this
  omega
/-- What was written is read. -/
theorem rdW_back {v : Wv} (h : okW v = true) (r : List UInt8) (mo : Int) (gm : Nat) (hmo : 32 ≤ mo) (hgm : 1 ≤ gm) : rdW (wb0 v ++ r) mo gm = some (v, (wb0 v).length) := by
  obtain ⟨h1, h2, h3, h4, h5, h6, h7⟩ := okW_parts h
  obtain ⟨key, val, gone, st, past⟩ := v
  simp only at h1 h2 h3 h4 h5 h6 h7
  have hkl : key.data.toList.length = key.size := rfl
  have hvl : val.data.toList.length = val.size := rfl
  have hg : gN gone ≤ 1 := by cases gone <;> simp [gN]
  have hg1 : decide (gN gone = 1) = gone := by cases gone <;> simp [gN]
  generalize hG : gN gone = g at hg hg1
  have hs : wb0 ⟨key, val, gone, st, past⟩ = txt key.data.toList ++ (Vm.enc g ++ (txt val.data.toList ++ (sbytes st.1 st.2 ++ pbV past))) := by simp [wb0, hG]
  rw [hs]
  generalize hS : txt key.data.toList ++ (Vm.enc g ++ (txt val.data.toList ++ (sbytes st.1 st.2 ++ pbV past))) ++ r = S
  have e1 := rdt_back [] (Vm.enc g ++ (txt val.data.toList ++ (sbytes st.1 st.2 ++ pbV past)) ++ r) key.data.toList mo (by omega) (by omega)
  have q1 : [] ++ (Vm.enc key.data.toList.length ++ key.data.toList) ++ (Vm.enc g ++ (txt val.data.toList ++ (sbytes st.1 st.2 ++ pbV past)) ++ r) = S := by rw [← hS]; simp [txt]
  rw [q1] at e1
  have e2 := rd_back (txt key.data.toList) (txt val.data.toList ++ (sbytes st.1 st.2 ++ pbV past) ++ r) g (by omega)
  have q2 : txt key.data.toList ++ Vm.enc g ++ (txt val.data.toList ++ (sbytes st.1 st.2 ++ pbV past) ++ r) = S := by rw [← hS]; simp [txt]
  rw [q2] at e2
  have e3 := rdt_back (txt key.data.toList ++ Vm.enc g) ((sbytes st.1 st.2 ++ pbV past) ++ r) val.data.toList mo (by omega) (by omega)
  have q3 : txt key.data.toList ++ Vm.enc g ++ (Vm.enc val.data.toList.length ++ val.data.toList) ++ ((sbytes st.1 st.2 ++ pbV past) ++ r) = S := by rw [← hS]; simp [txt]
  rw [q3] at e3
  have e4 := srd_at (txt key.data.toList ++ Vm.enc g ++ txt val.data.toList) (pbV past ++ r) h4
  have q4 : txt key.data.toList ++ Vm.enc g ++ txt val.data.toList ++ (sbytes st.1 st.2 ++ (pbV past ++ r)) = S := by rw [← hS]; simp [txt]
  rw [q4] at e4
  have e5 := prD_back past (txt key.data.toList ++ Vm.enc g ++ txt val.data.toList ++ sbytes st.1 st.2) r h5
  have q5 : txt key.data.toList ++ Vm.enc g ++ txt val.data.toList ++ sbytes st.1 st.2 ++ pbV past ++ r = S := by rw [← hS]; simp [txt]
  rw [q5] at e5
  unfold rdW
  rw [show ((([] : List UInt8).length : Nat) : Int) = 0 from rfl] at e1
  rw [e1]
  simp only
  rw [show (([] : List UInt8).length + (Vm.enc key.data.toList.length).length + key.data.toList.length) = (txt key.data.toList).length by simp [txt], e2]
  simp only
  rw [if_neg (by omega), show (txt key.data.toList).length + (Vm.enc g).length = (txt key.data.toList ++ Vm.enc g).length by simp, e3]
  simp only
  rw [show (txt key.data.toList ++ Vm.enc g).length + (Vm.enc val.data.toList.length).length + val.data.toList.length = (txt key.data.toList ++ Vm.enc g ++ txt val.data.toList).length by simp [txt]; omega, e4]
  simp only
  rw [show (txt key.data.toList ++ Vm.enc g ++ txt val.data.toList).length + (sbytes st.1 st.2).length = (txt key.data.toList ++ Vm.enc g ++ txt val.data.toList ++ sbytes st.1 st.2).length from List.length_append.symm, e5]
  simp only [Option.some.injEq, Prod.mk.injEq]
  refine ⟨?_, by simp; omega⟩
  rw [hg1]
/-- What is read, is written so. -/
theorem rdW_only {s : List UInt8} {mo : Int} {gm : Nat} {v : Wv} {e : Nat} (h : rdW s mo gm = some (v, e)) (hg : gm ≤ 1) : s = wb0 v ++ s.drop e ∧ e ≤ s.length := by
  unfold rdW at h
  cases h1 : rdt s 0 mo with
  | none => rw [h1] at h; cases h
  | some x1 =>
    obtain ⟨k, e1⟩ := x1
    rw [h1] at h
    simp only at h
    cases h2 : rd s (e1 : Int) with
    | none => rw [h2] at h; cases h
    | some x2 =>
      obtain ⟨g, e2⟩ := x2
      rw [h2] at h
      simp only at h
      by_cases c : gm < g
      · rw [if_pos c] at h; cases h
      · rw [if_neg c] at h
        cases h3 : rdt s (e2 : Int) mo with
        | none => rw [h3] at h; cases h
        | some x3 =>
          obtain ⟨x, e3⟩ := x3
          rw [h3] at h
          simp only at h
          cases h4 : Sm.rdS (rd s) (e3 : Int) with
          | none => rw [h4] at h; cases h
          | some x4 =>
            obtain ⟨t, e4⟩ := x4
            rw [h4] at h
            simp only at h
            cases h5 : prD s (e4 : Int) with
            | none => rw [h5] at h; cases h
            | some x5 =>
              obtain ⟨p, e5⟩ := x5
              rw [h5] at h
              simp only [Option.some.injEq, Prod.mk.injEq] at h
              obtain ⟨rfl, rfl⟩ := h
              have o1 := rdt_only (a := 0) h1
              have o2 := rd_only h2
              have o3 := rdt_only h3
              obtain ⟨_, o4, _⟩ := rdS_only h4
              obtain ⟨_, o5, o6⟩ := prD_only h5
              refine ⟨?_, o6⟩
              have hgn : gN (decide (g = 1)) = g := by
                by_cases c1 : g = 1
                · rw [c1]; rfl
                · have : g = 0 := by omega
                  rw [this]; rfl
              rw [List.drop_zero, o2, o3, o4, o5] at o1
              conv => lhs; rw [o1]
              simp [wb0, hgn, txt]
theorem wbV_ok {v : Wv} (h : okW v = true) : wbV v = wb0 v := by simp [wbV, h]
theorem wbV_no {v : Wv} (h : okW v = false) : wbV v = [] := by simp [wbV, h]
theorem readW_iff {s : List UInt8} {v : Wv} : readW s = some v ↔ okW v = true ∧ wbV v = s := by
  constructor
  · intro h
    unfold readW at h
    cases hr : rdW s s.length 1 with
    | none => rw [hr] at h; cases h
    | some x =>
      obtain ⟨u, e⟩ := x
      rw [hr, finW] at h
      by_cases c : e = s.length ∧ okW u = true
      · rw [if_pos c] at h
        simp only [Option.some.injEq] at h
        subst h
        obtain ⟨h1, h2⟩ := rdW_only hr (Nat.le_refl 1)
        refine ⟨c.2, ?_⟩
        rw [wbV_ok c.2]
        rw [c.1, List.drop_length, List.append_nil] at h1
        exact h1.symm
      · rw [if_neg c] at h; cases h
  · rintro ⟨h, rfl⟩
    rw [wbV_ok h]
    unfold readW
    by_cases c : (32 : Int) ≤ ((wb0 v).length : Int)
    · have := rdW_back h [] ((wb0 v).length : Int) 1 c (Nat.le_refl 1)
      rw [List.append_nil] at this
      rw [this, finW, if_pos ⟨rfl, h⟩]
    · have := rdW_back h [] 32 1 (by omega) (Nat.le_refl 1)
      rw [List.append_nil] at this
      have hb : rdW (wb0 v) ((wb0 v).length : Int) 1 = rdW (wb0 v) 32 1 := by
        obtain ⟨key, val, gone, st, past⟩ := v
        have k1 : key.data.toList.length ≤ (wb0 ⟨key, val, gone, st, past⟩).length := by simp [wb0, txt]; omega
        have k2 : val.data.toList.length ≤ (wb0 ⟨key, val, gone, st, past⟩).length := by simp [wb0, txt]; omega
        generalize wb0 ⟨key, val, gone, st, past⟩ = S at *
        have mono : ∀ (a : Int), rdt S a (S.length : Int) = rdt S a 32 := by
          intro a
          cases h1 : rdt S a 32 with
          | some x =>
            obtain ⟨t, e⟩ := x
            exact rdt_bound h1 (by have := (rdt_end h1).2.2; omega)
          | none =>
            cases h2 : rdt S a (S.length : Int) with
            | none => rfl
            | some x =>
              obtain ⟨t, e⟩ := x
              have := rdt_bound h2 (most' := 32) (by have := (rdt_end h2).2.2; omega)
              rw [this] at h1
              cases h1
        unfold rdW
        simp only [mono]
      rw [hb, this, finW, if_pos ⟨rfl, h⟩]
theorem readR_iff {s : List UInt8} (hs : s ≠ []) {v : Wv} : readR s = some v ↔ okW v = true ∧ wbV v = s := by
  constructor
  · intro h
    unfold readR at h
    cases hr : rdW s 32 18446744073709551615 with
    | none => rw [hr] at h; cases h
    | some x =>
      obtain ⟨u, e⟩ := x
      rw [hr, finR] at h
      by_cases c : wbV u = s
      · rw [if_pos c] at h
        simp only [Option.some.injEq] at h
        subst h
        refine ⟨?_, c⟩
        cases ho : okW u with
        | true => rfl
        | false => rw [wbV_no ho] at c; exact absurd c.symm hs
      · rw [if_neg c] at h; cases h
  · rintro ⟨h, rfl⟩
    unfold readR
    rw [wbV_ok h]
    have := rdW_back h [] 32 18446744073709551615 (Int.le_refl _) (by omega)
    rw [List.append_nil] at this
    rw [this, finR, if_pos (wbV_ok h)]
theorem rdW_nil (mo : Int) (gm : Nat) : rdW [] mo gm = none := by
  unfold rdW rdt rd
  simp [Vm.dec]
theorem read_same (s : List UInt8) : readR s = readW s := by
  by_cases hs : s = []
  · subst hs
    unfold readR readW
    rw [rdW_nil, rdW_nil]
    rfl
  · cases h : readW s with
    | some v => exact (readR_iff hs).2 (readW_iff.1 h)
    | none =>
      cases h2 : readR s with
      | none => rfl
      | some v => rw [readW_iff.2 ((readR_iff hs).1 h2)] at h; cases h
/-- Nothing behind, nothing left out. -/
theorem readW_more {v : Wv} (h : okW v = true) (c : UInt8) : readW (wbV v ++ [c]) = none := by
  cases hr : readW (wbV v ++ [c]) with
  | none => rfl
  | some u =>
    exfalso
    obtain ⟨h1, h2⟩ := readW_iff.1 hr
    rw [wbV_ok h, wbV_ok h1] at h2
    have a := rdW_back h [c] 32 1 (Int.le_refl _) (Nat.le_refl 1)
    have b := rdW_back h1 [] 32 1 (Int.le_refl _) (Nat.le_refl 1)
    rw [List.append_nil, h2, a] at b
    simp only [Option.some.injEq, Prod.mk.injEq] at b
    have := b.2
    simp at this
theorem readW_less {v : Wv} (h : okW v = true) : readW ((wbV v).take ((wbV v).length - 1)) = none := by
  cases hr : readW ((wbV v).take ((wbV v).length - 1)) with
  | none => rfl
  | some u =>
    exfalso
    obtain ⟨h1, h2⟩ := readW_iff.1 hr
    have hp := wb0_pos v
    rw [wbV_ok h, wbV_ok h1] at h2
    have a := rdW_back h [] 32 1 (Int.le_refl _) (Nat.le_refl 1)
    have b := rdW_back h1 ((wb0 v).drop ((wb0 v).length - 1)) 32 1 (Int.le_refl _) (Nat.le_refl 1)
    rw [List.append_nil] at a
    rw [h2, List.take_append_drop, a] at b
    simp only [Option.some.injEq, Prod.mk.injEq] at b
    have := b.2
    simp at this
    omega
theorem readW_back {v : Wv} (h : okW v = true) : readW (wbV v) = some v := readW_iff.2 ⟨h, rfl⟩
theorem wbV_inj {v u : Wv} (h : okW v = true) (k : okW u = true) (he : wbV v = wbV u) : v = u := by
  have a := readW_back h
  rw [he, readW_back k] at a
  simpa using a.symm
end Go.Proofs.YtjfmgplhcinkfaaGreat
