/- Texts of this proof, one behind the other: WireRowMath, WireRows. -/
import Derived.Test.YthjjidfoclcghaaGR25
import Derived.Shelf.GgClosure.Gives
/- Rows as bytes: plain mathematics. -/
namespace Go.Proofs.Ythjjidfoclcghaa
open Go.RowKit
set_option linter.unusedVariables false
set_option linter.unusedSimpArgs false

/-- The row's bytes. -/
def encO (l : List Int) : List UInt8 := l.flatMap fun o => Vm.enc o.toNat
def encP (l : List Int) : List UInt8 := l.flatMap fun p => Vm.enc (p + 1).toNat
def encT (l : List (List UInt8)) : List UInt8 := l.flatMap txt
def endsOf (rs : List (ByteArray × ByteArray)) : List (List UInt8) := rs.dropLast.map fun r => r.2.data.toList
def rowB (c : Rw) : List UInt8 := Vm.enc c.rs.length ++ (encT (endsOf c.rs) ++ (encO c.ow ++ (Vm.enc c.pa.length ++ encP c.pa)))

/-- So many parts of a kind, one behind the other. -/
def goN {α : Type} (f : Int → Option (α × Nat)) : Nat → List α → Nat → Option (List α × Nat)
  | 0, acc, a => some (acc, a)
  | n + 1, acc, a =>
    match f a with
    | none => none
    | some (x, e) => goN f n (acc ++ [x]) e
theorem goN_step {α : Type} {f : Int → Option (α × Nat)} {n : Nat} {acc : List α} {a : Nat} {x : α} {e : Nat} (h : f a = some (x, e)) : goN f (n + 1) acc a = goN f n (acc ++ [x]) e := by rw [goN, h]
theorem goN_no {α : Type} {f : Int → Option (α × Nat)} {n : Nat} {acc : List α} {a : Nat} (h : f a = none) : goN f (n + 1) acc a = none := by rw [goN, h]
theorem goN_only {α : Type} {s : List UInt8} {f : Int → Option (α × Nat)} {g : α → List UInt8} (hf : ∀ (a : Nat) x e, f a = some (x, e) → s.drop a = g x ++ s.drop e ∧ e ≤ s.length) :
    ∀ (n : Nat) (acc : List α) (a : Nat) (l : List α) (e : Nat), goN f n acc a = some (l, e) → a ≤ s.length → ∃ m, l = acc ++ m ∧ m.length = n ∧ s.drop a = m.flatMap g ++ s.drop e ∧ e ≤ s.length
  | 0, acc, a, l, e, h, ha => by
    simp [goN] at h
    obtain ⟨rfl, rfl⟩ := h
    exact ⟨[], by simp, rfl, by simp, ha⟩
  | n + 1, acc, a, l, e, h, ha => by
    rw [goN] at h
    cases hd : f a with
    | none => rw [hd] at h; cases h
    | some x =>
      obtain ⟨d, e1⟩ := x
      rw [hd] at h
      obtain ⟨h1, h2⟩ := hf _ _ _ hd
      obtain ⟨m, rfl, h4, h5, h6⟩ := goN_only hf n _ _ _ _ h h2
      exact ⟨d :: m, by simp, by simp [h4], by rw [h1, h5]; simp, h6⟩
theorem goN_back {α : Type} {f : List UInt8 → Int → Option (α × Nat)} {g : α → List UInt8} :
    ∀ (l acc : List α) (p r : List UInt8), (∀ x ∈ l, ∀ p r : List UInt8, f (p ++ (g x ++ r)) (p.length : Int) = some (x, p.length + (g x).length)) → goN (f (p ++ (l.flatMap g ++ r))) l.length acc p.length = some (acc ++ l, p.length + (l.flatMap g).length)
  | [], acc, p, r, _ => by simp [goN]
  | d :: l, acc, p, r, h => by
    have e1 := h d (by simp) p (l.flatMap g ++ r)
    have e2 := goN_back l (acc ++ [d]) (p ++ g d) r (fun x hx => h x (List.mem_cons_of_mem _ hx))
    have eq1 : p ++ ((d :: l).flatMap g ++ r) = p ++ (g d ++ (l.flatMap g ++ r)) := by simp
    have eq2 : p ++ g d ++ (l.flatMap g ++ r) = p ++ (g d ++ (l.flatMap g ++ r)) := by simp
    rw [eq2] at e2
    rw [eq1, List.length_cons, goN_step e1, show p.length + (g d).length = (p ++ g d).length by simp, e2]
    simp
    omega
/-- The same, by another reader that reads the same parts. -/
theorem goN_imp {α : Type} {f f' : Int → Option (α × Nat)} : ∀ (n : Nat) (acc : List α) (a : Nat) (l : List α) (e : Nat), goN f n acc a = some (l, e) → (∀ (b : Nat) x e', x ∈ l → f b = some (x, e') → f' b = some (x, e')) → goN f' n acc a = some (l, e)
  | 0, acc, a, l, e, h, hi => by simpa [goN] using h
  | n + 1, acc, a, l, e, h, hi => by
    rw [goN] at h
    cases hd : f a with
    | none => rw [hd] at h; cases h
    | some x =>
      obtain ⟨d, e1⟩ := x
      rw [hd] at h
      have hm : ∀ (n : Nat) (acc : List α) (a : Nat) (l : List α) (e : Nat), goN f n acc a = some (l, e) → ∀ x ∈ acc, x ∈ l := by
        intro n
        induction n with
        | zero => intro acc a l e h x hx; simp [goN] at h; rw [← h.1]; exact hx
        | succ n ih =>
          intro acc a l e h x hx
          rw [goN] at h
          cases hd : f a with
          | none => rw [hd] at h; cases h
          | some y => rw [hd] at h; exact ih _ _ _ _ h x (by simp [hx])
      rw [goN_step (hi a d e1 (hm _ _ _ _ _ h d (by simp)) hd)]
      exact goN_imp n _ _ _ _ h hi
theorem goN_len {α : Type} {f : Int → Option (α × Nat)} : ∀ (n : Nat) (acc : List α) (a : Nat) (l : List α) (e : Nat), goN f n acc a = some (l, e) → l.length = acc.length + n
  | 0, acc, a, l, e, h => by simp [goN] at h; rw [← h.1]; rfl
  | n + 1, acc, a, l, e, h => by
    rw [goN] at h
    cases hd : f a with
    | none => rw [hd] at h; cases h
    | some x => rw [hd] at h; have := goN_len n _ _ _ _ h; simp at this; omega

/-- What wire.ReadRow reads, whether or not it may be; and where it ends. -/
def rowW (s : List UInt8) : Option (Rw × Nat) :=
  match rdI s 0 with
  | none => none
  | some (n, e0) =>
    match goN (fun a => rdt s a (s.length : Int)) (n - 1).toNat [] e0 with
    | none => none
    | some (ends, e1) =>
      match goN (rdI s) n.toNat [] e1 with
      | none => none
      | some (ow, e2) =>
        match rdI s (e2 : Int) with
        | none => none
        | some (m, e3) =>
          match goN (rdPa s) m.toNat [] e3 with
          | none => none
          | some (pa, e4) => some (⟨wbas (Km.chainL [] ends), ow, pa⟩, e4)
def finRw (s : List UInt8) : Option (Rw × Nat) → Option Rw
  | none => none
  | some (c, e) => if e = s.length ∧ okRw c = true then some c else none
def readRW (s : List UInt8) : Option Rw := finRw s (rowW s)
/-- A parent, by a number of at most 6. -/
def rdPb (s : List UInt8) (a : Int) : Option (Int × Nat) :=
  match rd s a with
  | none => none
  | some (n, e) => if 6 < n then none else some ((n : Int) - 1, e)
/-- The parts of a row that stand there, to the end. -/
def rowR (s : List UInt8) : Option Rw :=
  match rd s 0 with
  | none => none
  | some (n, e0) =>
    if n < 1 ∨ 8 < n then none else
    match goN (fun a => rdt s a 32) (n - 1) [] e0 with
    | none => none
    | some (ends, e1) =>
      match goN (rdI s) n [] e1 with
      | none => none
      | some (ow, e2) =>
        match rd s (e2 : Int) with
        | none => none
        | some (m, e3) =>
          if 6 < m then none else
          match goN (rdPb s) m [] e3 with
          | none => none
          | some (pa, e4) => if e4 = s.length then some ⟨wbas (Km.chainL [] ends), ow, pa⟩ else none

theorem okRw_parts {c : Rw} (h : okRw c = true) : (1 ≤ c.pa.length ∧ c.pa.length ≤ 6 ∧ c.rs.length ≤ 8 ∧ c.ow.length = c.rs.length) ∧ Km.whole (tls c.rs) = true ∧ (∀ p ∈ c.pa, -1 ≤ p ∧ p ≤ 5) ∧ (∀ o ∈ c.ow, 1 ≤ o ∧ o < ((2 ^ c.pa.length : Nat) : Int) ∧ o ≤ 63) := by
  unfold okRw at h
  simp only [Bool.and_eq_true, decide_eq_true_eq, Bool.not_eq_true', List.any_eq_false, noP, noO, Bool.or_eq_true, not_or] at h
  obtain ⟨⟨⟨h1, h2⟩, h3⟩, h4⟩ := h
  refine ⟨h1, h2, fun p hp => ?_, fun o ho => ?_⟩
  · have := h3 p hp; omega
  · have := h4 o ho
    have hp : (2 : Nat) ^ c.pa.length ≤ 2 ^ 6 := Nat.pow_le_pow_right (by omega) h1.2.1
    have h64 : (2 : Nat) ^ 6 = 64 := rfl
    rw [h64] at hp
    generalize 2 ^ c.pa.length = q at *
    omega
theorem okRw_of {c : Rw} (h1 : 1 ≤ c.pa.length ∧ c.pa.length ≤ 6 ∧ c.rs.length ≤ 8 ∧ c.ow.length = c.rs.length) (h2 : Km.whole (tls c.rs) = true) (h3 : ∀ p ∈ c.pa, -1 ≤ p ∧ p ≤ 5) (h4 : ∀ o ∈ c.ow, 1 ≤ o ∧ o < ((2 ^ c.pa.length : Nat) : Int)) : okRw c = true := by
  unfold okRw
  simp only [Bool.and_eq_true, decide_eq_true_eq, Bool.not_eq_true', List.any_eq_false, noP, noO, Bool.or_eq_true, not_or]
  refine ⟨⟨⟨h1, h2⟩, fun p hp => ?_⟩, fun o ho => ?_⟩
  · have := h3 p hp; omega
  · have := h4 o ho
    generalize 2 ^ c.pa.length = q at *
    omega
/-- Ranges that are whole go on from one another. -/
theorem whGo_chain : ∀ (l : List (List UInt8 × List UInt8)) (b : Bool) (e : List UInt8), l ≠ [] → Km.whGo b e l = true → ∃ us, l = Km.chainL e us ∧ ∀ u ∈ us, u.length ≤ 32
  | [], b, e, hn, h => absurd rfl hn
  | [r], b, e, hn, h => by
    simp only [Km.whGo, Bool.and_eq_true, beq_iff_eq] at h
    obtain ⟨⟨⟨h1, h2⟩, h3⟩, h4⟩ := h
    refine ⟨[], ?_, by simp⟩
    obtain ⟨r1, r2⟩ := r
    simp only [List.isEmpty_iff] at h2 h4
    subst h2 h4
    rfl
  | r :: r' :: t, b, e, hn, h => by
    rw [Km.whGo] at h
    simp only [Bool.and_eq_true, beq_iff_eq] at h
    obtain ⟨⟨⟨h1, h2⟩, h3⟩, h4⟩ := h
    obtain ⟨us, hu, hl⟩ := whGo_chain (r' :: t) false r.2 (by simp) h4
    obtain ⟨r1, r2⟩ := r
    simp only at h1 h2 h4 hu
    subst h2
    refine ⟨r2 :: us, by rw [Km.chainL, ← hu], fun u hu' => ?_⟩
    rcases List.mem_cons.1 hu' with rfl | hu'
    · unfold Km.good at h1
      simp only [Bool.and_eq_true] at h1
      have hb := h1.1.2
      unfold Km.bound at hb
      simp only [Bool.or_eq_true, List.isEmpty_iff] at hb
      rcases hb with rfl | hb
      · simp
      · exact (chk_size hb).1
    · exact hl u hu'
theorem whole_chain {rs : List (ByteArray × ByteArray)} (h : Km.whole (tls rs) = true) : ∃ us, rs = wbas (Km.chainL [] us) ∧ (∀ u ∈ us, u.length ≤ 32) := by
  unfold Km.whole at h
  simp only [Bool.and_eq_true, Bool.not_eq_true', List.isEmpty_eq_false_iff] at h
  obtain ⟨us, hu, hl⟩ := whGo_chain _ _ _ h.1 h.2
  exact ⟨us, by rw [← hu, wbas_tls], hl⟩
theorem endsOf_chain (us : List (List UInt8)) : endsOf (wbas (Km.chainL [] us)) = us := by
  have : ∀ (us : List (List UInt8)) (e : List UInt8), endsOf (wbas (Km.chainL e us)) = us := by
    intro us
    induction us with
    | nil => intro e; rfl
    | cons u t ih =>
      intro e
      have h := ih u
      unfold endsOf wbas at *
      rw [Km.chainL, List.map_cons, List.dropLast_cons_of_ne_nil (by
        intro hh
        have := congrArg List.length hh
        simp [Km.chain_len] at this), List.map_cons, h]
  exact this us []
theorem rdI_at (p r : List UInt8) (o : Int) (h0 : 0 ≤ o) (h1 : o ≤ 63) : rdI (p ++ (Vm.enc o.toNat ++ r)) (p.length : Int) = some (o, p.length + (Vm.enc o.toNat).length) := by
  unfold rdI
  rw [rd_at p r o.toNat (by omega)]
  simp only
  rw [if_pos (by omega), Int.toNat_of_nonneg h0]
theorem rdPa_at (p r : List UInt8) (o : Int) (h0 : -1 ≤ o) (h1 : o ≤ 5) : rdPa (p ++ (Vm.enc (o + 1).toNat ++ r)) (p.length : Int) = some (o, p.length + (Vm.enc (o + 1).toNat).length) := by
  unfold rdPa
  rw [rdI_at p r (o + 1) (by omega) (by omega)]
  simp
theorem rdt_at (p r t : List UInt8) (h : t.length ≤ 1000) : rdt (p ++ (txt t ++ r)) (p.length : Int) ((p ++ (txt t ++ r)).length : Int) = some (t, p.length + (txt t).length) := by
  have := rdt_back p r t ((p ++ (txt t ++ r)).length : Int) (by omega) (by simp [txt]; omega)
  rw [show p ++ (Vm.enc t.length ++ t) ++ r = p ++ (txt t ++ r) by simp [txt]] at this
  rw [this]
  simp [txt]
  omega
theorem rowW_back {c : Rw} (h : okRw c = true) (r : List UInt8) : rowW (rowB c ++ r) = some (c, (rowB c).length) := by
  obtain ⟨⟨h1, h2, h3, h4⟩, h5, h6, h7⟩ := okRw_parts h
  obtain ⟨us, hu, hl⟩ := whole_chain h5
  obtain ⟨rs, ow, pa⟩ := c
  simp only at h1 h2 h3 h4 h5 h6 h7 hu
  have hn : rs.length = us.length + 1 := by rw [hu, wbas_len, Km.chain_len]
  have he : endsOf rs = us := by rw [hu, endsOf_chain]
  have hs : rowB ⟨rs, ow, pa⟩ = Vm.enc rs.length ++ (encT us ++ (encO ow ++ (Vm.enc pa.length ++ encP pa))) := by simp [rowB, he]
  rw [hs]
  generalize hS : Vm.enc rs.length ++ (encT us ++ (encO ow ++ (Vm.enc pa.length ++ encP pa))) ++ r = S
  have e1 := rdI_at [] (encT us ++ (encO ow ++ (Vm.enc pa.length ++ encP pa)) ++ r) (rs.length : Int) (by omega) (by omega)
  rw [Int.toNat_natCast, show [] ++ (Vm.enc rs.length ++ (encT us ++ (encO ow ++ (Vm.enc pa.length ++ encP pa)) ++ r)) = S by rw [← hS]; simp] at e1
  have e2 := goN_back (f := fun s a => rdt s a (s.length : Int)) (g := txt) us [] (Vm.enc rs.length) (encO ow ++ (Vm.enc pa.length ++ encP pa) ++ r) (fun x hx p r => rdt_at p r x (by have := hl x hx; omega))
  rw [show Vm.enc rs.length ++ (us.flatMap txt ++ (encO ow ++ (Vm.enc pa.length ++ encP pa) ++ r)) = S by rw [← hS]; simp [encT]] at e2
  have e3 := goN_back (f := rdI) (g := fun o : Int => Vm.enc o.toNat) ow [] (Vm.enc rs.length ++ encT us) (Vm.enc pa.length ++ encP pa ++ r) (fun x hx p r => rdI_at p r x (by have := h7 x hx; omega) (by have := h7 x hx; omega))
  rw [show Vm.enc rs.length ++ encT us ++ (ow.flatMap (fun o : Int => Vm.enc o.toNat) ++ (Vm.enc pa.length ++ encP pa ++ r)) = S by rw [← hS]; simp [encO]] at e3
  have e4 := rdI_at (Vm.enc rs.length ++ encT us ++ encO ow) (encP pa ++ r) (pa.length : Int) (by omega) (by omega)
  rw [Int.toNat_natCast, show Vm.enc rs.length ++ encT us ++ encO ow ++ (Vm.enc pa.length ++ (encP pa ++ r)) = S by rw [← hS]; simp] at e4
  have e5 := goN_back (f := rdPa) (g := fun p : Int => Vm.enc (p + 1).toNat) pa [] (Vm.enc rs.length ++ encT us ++ encO ow ++ Vm.enc pa.length) r (fun x hx p r => rdPa_at p r x (h6 x hx).1 (h6 x hx).2)
  rw [show Vm.enc rs.length ++ encT us ++ encO ow ++ Vm.enc pa.length ++ (pa.flatMap (fun p : Int => Vm.enc (p + 1).toNat) ++ r) = S by rw [← hS]; simp [encP]] at e5
  unfold rowW
  rw [show ((([] : List UInt8).length : Nat) : Int) = 0 from rfl] at e1
  rw [e1]
  simp only
  rw [show ([] : List UInt8).length + (Vm.enc rs.length).length = (Vm.enc rs.length).length by simp, show ((rs.length : Int) - 1).toNat = us.length by omega, e2]
  simp only
  rw [h4] at e3
  rw [Int.toNat_natCast, show (Vm.enc rs.length).length + (us.flatMap txt).length = (Vm.enc rs.length ++ encT us).length by simp [encT], e3]
  simp only
  rw [show (Vm.enc rs.length ++ encT us).length + (ow.flatMap (fun o : Int => Vm.enc o.toNat)).length = (Vm.enc rs.length ++ encT us ++ encO ow).length from List.length_append.symm, e4]
  simp only
  rw [Int.toNat_natCast, show (Vm.enc rs.length ++ encT us ++ encO ow).length + (Vm.enc pa.length).length = (Vm.enc rs.length ++ encT us ++ encO ow ++ Vm.enc pa.length).length from List.length_append.symm, e5]
  simp only [Option.some.injEq, Prod.mk.injEq, List.nil_append]
  refine ⟨by rw [hu], ?_⟩
  simp [encP]
  omega
theorem rdI_only {s : List UInt8} (a : Nat) (x : Int) (e : Nat) (h : rdI s a = some (x, e)) : s.drop a = Vm.enc x.toNat ++ s.drop e ∧ e ≤ s.length := by
  obtain ⟨k, rfl, _, hr⟩ := rdI_some h
  exact ⟨by rw [rd_only hr, Int.toNat_natCast], (rd_some hr).2.1⟩
theorem rdPa_some {s : List UInt8} {a : Int} {x : Int} {e : Nat} (h : rdPa s a = some (x, e)) : rdI s a = some (x + 1, e) := by
  unfold rdPa at h
  cases hr : rdI s a with
  | none => rw [hr] at h; cases h
  | some y =>
    obtain ⟨n, e'⟩ := y
    rw [hr] at h
    cases h
    simp
theorem rdPa_only {s : List UInt8} (a : Nat) (x : Int) (e : Nat) (h : rdPa s a = some (x, e)) : s.drop a = Vm.enc (x + 1).toNat ++ s.drop e ∧ e ≤ s.length := rdI_only a _ _ (rdPa_some h)
theorem rowW_parts {s : List UInt8} {c : Rw} {e : Nat} (h : rowW s = some (c, e)) : ∃ (n m : Int) (e0 e1 e2 e3 : Nat) (ends : List (List UInt8)), rdI s 0 = some (n, e0) ∧ goN (fun a => rdt s a (s.length : Int)) (n - 1).toNat [] e0 = some (ends, e1) ∧ goN (rdI s) n.toNat [] e1 = some (c.ow, e2) ∧ rdI s (e2 : Int) = some (m, e3) ∧ goN (rdPa s) m.toNat [] e3 = some (c.pa, e) ∧ c.rs = wbas (Km.chainL [] ends) := by
  unfold rowW at h
  cases h1 : rdI s 0 with
  | none => rw [h1] at h; cases h
  | some x1 =>
    obtain ⟨n, e0⟩ := x1
    rw [h1] at h
    simp only at h
    cases h2 : goN (fun a => rdt s a (s.length : Int)) (n - 1).toNat [] e0 with
    | none => rw [h2] at h; cases h
    | some x2 =>
      obtain ⟨ends, e1⟩ := x2
      rw [h2] at h
      simp only at h
      cases h3 : goN (rdI s) n.toNat [] e1 with
      | none => rw [h3] at h; cases h
      | some x3 =>
        obtain ⟨ow, e2⟩ := x3
        rw [h3] at h
        simp only at h
        cases h4 : rdI s (e2 : Int) with
        | none => rw [h4] at h; cases h
        | some x4 =>
          obtain ⟨m, e3⟩ := x4
          rw [h4] at h
          simp only at h
          cases h5 : goN (rdPa s) m.toNat [] e3 with
          | none => rw [h5] at h; cases h
          | some x5 =>
            obtain ⟨pa, e4⟩ := x5
            rw [h5] at h
            simp only [Option.some.injEq, Prod.mk.injEq] at h
            obtain ⟨rfl, rfl⟩ := h
            exact ⟨n, m, e0, e1, e2, e3, ends, rfl, h2, h3, h4, h5, rfl⟩
theorem readRW_some {s : List UInt8} {c : Rw} (h : readRW s = some c) : rowW s = some (c, s.length) ∧ okRw c = true := by
  unfold readRW at h
  cases hr : rowW s with
  | none => rw [hr] at h; cases h
  | some x =>
    obtain ⟨u, e⟩ := x
    rw [hr, finRw] at h
    by_cases k : e = s.length ∧ okRw u = true
    · rw [if_pos k] at h
      cases h
      exact ⟨by rw [k.1], k.2⟩
    · rw [if_neg k] at h; cases h
theorem readRW_of {s : List UInt8} {c : Rw} (h : rowW s = some (c, s.length)) (k : okRw c = true) : readRW s = some c := by
  unfold readRW
  rw [h, finRw, if_pos ⟨rfl, k⟩]
theorem readRW_back {c : Rw} (h : okRw c = true) : readRW (rowB c) = some c := by
  have := rowW_back h []
  rw [List.append_nil] at this
  exact readRW_of this h
theorem readRW_more {c : Rw} (h : okRw c = true) (b : UInt8) : readRW (rowB c ++ [b]) = none := by
  unfold readRW
  rw [rowW_back h [b], finRw, if_neg (by simp)]
/-- What is read is written so, and its parts stand there. -/
theorem readRW_only {s : List UInt8} {c : Rw} (h : readRW s = some c) : rowB c = s ∧ rowR s = some c := by
  obtain ⟨hr, hok⟩ := readRW_some h
  obtain ⟨⟨k1, k2, k3, k4⟩, k5, k6, k7⟩ := okRw_parts hok
  obtain ⟨n, m, e0, e1, e2, e3, ends, p1, p2, p3, p4, p5, p6⟩ := rowW_parts hr
  obtain ⟨us, hu, hl⟩ := whole_chain k5
  have hus : us = ends := by rw [← endsOf_chain us, ← endsOf_chain ends, ← hu, p6]
  subst hus
  obtain ⟨nn, rfl, hn63, r1⟩ := rdI_some p1
  obtain ⟨mm, rfl, hm63, r4⟩ := rdI_some p4
  have l2 := goN_len _ _ _ _ _ p2
  have l3 := goN_len _ _ _ _ _ p3
  have l5 := goN_len _ _ _ _ _ p5
  simp only [List.length_nil, Nat.zero_add, Int.toNat_natCast] at l2 l3 l5
  have hrl : c.rs.length = us.length + 1 := by rw [hu, wbas_len, Km.chain_len]
  have hnn : nn = us.length + 1 := by omega
  obtain ⟨o1, q1⟩ := rdI_only (s := s) 0 _ _ p1
  obtain ⟨m2, e', _, o2, q2⟩ := goN_only (s := s) (f := fun a => rdt s a (s.length : Int)) (g := txt) (fun a x e h => ⟨rdt_only (s := s) (a := a) (most := (s.length : Int)) h, (rdt_end (s := s) (a := (a : Int)) (most := (s.length : Int)) h).1⟩) _ _ _ _ _ p2 q1
  rw [List.nil_append] at e'
  subst e'
  obtain ⟨m3, e', _, o3, q3⟩ := goN_only (g := fun o : Int => Vm.enc o.toNat) (fun a x e h => rdI_only a x e h) _ _ _ _ _ p3 q2
  rw [List.nil_append] at e'
  rw [← e'] at o3
  obtain ⟨o4, q4⟩ := rdI_only e2 _ _ p4
  obtain ⟨m5, e', _, o5, q5⟩ := goN_only (g := fun p : Int => Vm.enc (p + 1).toNat) (fun a x e h => rdPa_only a x e h) _ _ _ _ _ p5 q4
  rw [List.nil_append] at e'
  rw [← e'] at o5
  constructor
  · rw [List.drop_zero, o2, o3, o4, o5, List.drop_length, Int.toNat_natCast, Int.toNat_natCast] at o1
    unfold rowB
    rw [show endsOf c.rs = us by rw [hu, endsOf_chain], show c.rs.length = nn by omega, l5, o1]
    simp [encT, encO, encP]
  · unfold rowR
    rw [r1]
    simp only
    rw [if_neg (by omega)]
    have p2' : goN (fun a => rdt s a 32) (nn - 1) [] e0 = some (us, e1) := by
      rw [show ((nn : Int) - 1).toNat = nn - 1 by omega] at p2
      exact goN_imp _ _ _ _ _ p2 (fun b x e' hx hb => rdt_bound hb (by have := hl x hx; omega))
    rw [p2']
    simp only
    rw [Int.toNat_natCast] at p3 p5
    rw [p3]
    simp only
    rw [r4]
    simp only
    rw [if_neg (by omega)]
    have p5' : goN (rdPb s) mm [] e3 = some (c.pa, s.length) := goN_imp _ _ _ _ _ p5 (fun b x e' hx hb => by
      have h1 := rdPa_some hb
      obtain ⟨k, hk, _, h2⟩ := rdI_some h1
      have := k6 x hx
      unfold rdPb
      rw [h2]
      simp only
      rw [if_neg (by omega)]
      congr 2
      omega)
    rw [p5']
    simp only
    rw [if_pos trivial, ← p6]
theorem rowR_parts {s : List UInt8} {c : Rw} (h : rowR s = some c) : ∃ (n m e0 e1 e2 e3 : Nat) (ends : List (List UInt8)), rd s 0 = some (n, e0) ∧ 1 ≤ n ∧ n ≤ 8 ∧ goN (fun a => rdt s a 32) (n - 1) [] e0 = some (ends, e1) ∧ goN (rdI s) n [] e1 = some (c.ow, e2) ∧ rd s (e2 : Int) = some (m, e3) ∧ m ≤ 6 ∧ goN (rdPb s) m [] e3 = some (c.pa, s.length) ∧ c.rs = wbas (Km.chainL [] ends) := by
  unfold rowR at h
  cases h1 : rd s 0 with
  | none => rw [h1] at h; cases h
  | some x1 =>
    obtain ⟨n, e0⟩ := x1
    rw [h1] at h
    simp only at h
    by_cases c1 : n < 1 ∨ 8 < n
    · rw [if_pos c1] at h; cases h
    · rw [if_neg c1] at h
      cases h2 : goN (fun a => rdt s a 32) (n - 1) [] e0 with
      | none => rw [h2] at h; cases h
      | some x2 =>
        obtain ⟨ends, e1⟩ := x2
        rw [h2] at h
        simp only at h
        cases h3 : goN (rdI s) n [] e1 with
        | none => rw [h3] at h; cases h
        | some x3 =>
          obtain ⟨ow, e2⟩ := x3
          rw [h3] at h
          simp only at h
          cases h4 : rd s (e2 : Int) with
          | none => rw [h4] at h; cases h
          | some x4 =>
            obtain ⟨m, e3⟩ := x4
            rw [h4] at h
            simp only at h
            by_cases c2 : 6 < m
            · rw [if_pos c2] at h; cases h
            · rw [if_neg c2] at h
              cases h5 : goN (rdPb s) m [] e3 with
              | none => rw [h5] at h; cases h
              | some x5 =>
                obtain ⟨pa, e4⟩ := x5
                rw [h5] at h
                simp only at h
                by_cases c3 : e4 = s.length
                · rw [if_pos c3] at h
                  cases h
                  subst c3
                  exact ⟨n, m, e0, e1, e2, e3, ends, rfl, by omega, by omega, h2, h3, h4, by omega, h5, rfl⟩
                · rw [if_neg c3] at h; cases h
theorem goN_mem {α : Type} {f : Int → Option (α × Nat)} : ∀ (n : Nat) (acc : List α) (a : Nat) (l : List α) (e : Nat), goN f n acc a = some (l, e) → ∀ x ∈ l, x ∈ acc ∨ ∃ (b : Nat) (e' : Nat), f b = some (x, e')
  | 0, acc, a, l, e, h, x, hx => by
    simp [goN] at h
    rw [← h.1] at hx
    exact .inl hx
  | n + 1, acc, a, l, e, h, x, hx => by
    rw [goN] at h
    cases hd : f a with
    | none => rw [hd] at h; cases h
    | some y =>
      obtain ⟨d, e1⟩ := y
      rw [hd] at h
      rcases goN_mem n _ _ _ _ h x hx with h1 | h1
      · rcases List.mem_append.1 h1 with h2 | h2
        · exact .inl h2
        · simp at h2
          subst h2
          exact .inr ⟨a, e1, hd⟩
      · exact .inr h1
theorem chain_mem : ∀ (us : List (List UInt8)) (e : List UInt8), ∀ r ∈ Km.chainL e us, (r.1 = e ∨ r.1 ∈ us) ∧ (r.2 = [] ∨ r.2 ∈ us)
  | [], e, r, h => by
    simp [Km.chainL] at h
    subst h
    exact ⟨.inl rfl, .inl rfl⟩
  | u :: t, e, r, h => by
    rw [Km.chainL] at h
    rcases List.mem_cons.1 h with rfl | h
    · exact ⟨.inl rfl, .inr (by simp)⟩
    · obtain ⟨h1, h2⟩ := chain_mem t u r h
      refine ⟨.inr ?_, ?_⟩
      · rcases h1 with h1 | h1
        · simp [h1]
        · simp [h1]
      · rcases h2 with h2 | h2
        · exact .inl h2
        · exact .inr (by simp [h2])
theorem wbas_small {us : List (List UInt8)} (h : ∀ u ∈ us, u.length ≤ 32) : ∀ r ∈ wbas (Km.chainL [] us), r.1.size ≤ 32 ∧ r.2.size ≤ 32 := by
  intro r hr
  unfold wbas at hr
  obtain ⟨q, hq, rfl⟩ := List.mem_map.1 hr
  obtain ⟨h1, h2⟩ := chain_mem us [] q hq
  constructor
  · show q.1.toArray.size ≤ 32
    rw [List.size_toArray]
    rcases h1 with h1 | h1
    · rw [h1]; simp
    · exact h _ h1
  · show q.2.toArray.size ≤ 32
    rw [List.size_toArray]
    rcases h2 with h2 | h2
    · rw [h2]; simp
    · exact h _ h2
theorem rowR_facts {s : List UInt8} {c : Rw} (h : rowR s = some c) : 1 ≤ c.rs.length ∧ c.rs.length ≤ 8 ∧ c.ow.length = c.rs.length ∧ c.pa.length ≤ 6 ∧ (∀ p ∈ c.pa, -1 ≤ p ∧ p ≤ 5) ∧ (∀ o ∈ c.ow, 0 ≤ o ∧ o ≤ 63) ∧ (∀ r ∈ c.rs, r.1.size ≤ 32 ∧ r.2.size ≤ 32) := by
  obtain ⟨n, m, e0, e1, e2, e3, ends, p1, p2, p3, p4, p5, p6, p7, p8, p9⟩ := rowR_parts h
  have l4 := goN_len _ _ _ _ _ p4
  have l5 := goN_len _ _ _ _ _ p5
  have l8 := goN_len _ _ _ _ _ p8
  simp only [List.length_nil, Nat.zero_add] at l4 l5 l8
  have hl : c.rs.length = ends.length + 1 := by rw [p9, wbas_len, Km.chain_len]
  refine ⟨by omega, by omega, by omega, by omega, fun p hp => ?_, fun o ho => ?_, fun r hr => ?_⟩
  · rcases goN_mem _ _ _ _ _ p8 p hp with h1 | ⟨b, e', h1⟩
    · simp at h1
    · unfold rdPb at h1
      cases hr : rd s (b : Int) with
      | none => rw [hr] at h1; cases h1
      | some y =>
        obtain ⟨k, e⟩ := y
        rw [hr] at h1
        simp only at h1
        by_cases ck : 6 < k
        · rw [if_pos ck] at h1; cases h1
        · rw [if_neg ck] at h1
          cases h1
          omega
  · rcases goN_mem _ _ _ _ _ p5 o ho with h1 | ⟨b, e', h1⟩
    · simp at h1
    · obtain ⟨k, rfl, hk, _⟩ := rdI_some h1
      omega
  · rw [p9] at hr
    refine wbas_small (fun u hu => ?_) r hr
    rcases goN_mem _ _ _ _ _ p4 u hu with h1 | ⟨b, e', h1⟩
    · simp at h1
    · have := (rdt_end (s := s) (a := (b : Int)) (most := 32) h1).2.1
      omega
/-- Parts that stand there and are a row that may be: they are read. -/
theorem readRW_parts {s : List UInt8} {c : Rw} (h : rowR s = some c) (hok : okRw c = true) : readRW s = some c := by
  obtain ⟨n, m, e0, e1, e2, e3, ends, p1, p2, p3, p4, p5, p6, p7, p8, p9⟩ := rowR_parts h
  refine readRW_of ?_ hok
  have q1 : rdI s 0 = some ((n : Int), e0) := by unfold rdI; rw [p1]; simp; omega
  have q6 : rdI s (e2 : Int) = some ((m : Int), e3) := by unfold rdI; rw [p6]; simp; omega
  have q4 : goN (fun a => rdt s a (s.length : Int)) ((n : Int) - 1).toNat [] e0 = some (ends, e1) := by
    rw [show ((n : Int) - 1).toNat = n - 1 by omega]
    exact goN_imp _ _ _ _ _ p4 (fun b x e' hx hb => rdt_bound hb (by have := (rdt_end hb).2.2; omega))
  have q8 : goN (rdPa s) m [] e3 = some (c.pa, s.length) := goN_imp _ _ _ _ _ p8 (fun b x e' hx hb => by
    unfold rdPb at hb
    cases hr : rd s (b : Int) with
    | none => rw [hr] at hb; cases hb
    | some y =>
      obtain ⟨k, e⟩ := y
      rw [hr] at hb
      simp only at hb
      by_cases ck : 6 < k
      · rw [if_pos ck] at hb; cases hb
      · rw [if_neg ck] at hb
        cases hb
        unfold rdPa rdI
        rw [hr]
        simp only
        rw [if_pos (by omega)])
  unfold rowW
  rw [q1]
  simp only
  rw [q4]
  simp only
  rw [Int.toNat_natCast, p5]
  simp only
  rw [q6]
  simp only
  rw [Int.toNat_natCast, q8]
  simp only
  rw [← p9]
end Go.Proofs.Ythjjidfoclcghaa
/- Rows of ints, texts, ranges and uint64s; numbers; so many parts of a kind; ranges that go on from one another. -/
namespace Go.Proofs.Ythjjidfoclcghaa
open Go.RowKit
set_option linter.unusedVariables false
set_option linter.unusedSimpArgs false

theorem encs_encO (l : List Int) : encs (l.map Int.toNat) = encO l := by
  unfold encs encO
  rw [List.flatMap_map]
theorem Mv.low {P : Nat → Prop} {w w1 w2 : World} (h : Mv P w w1) (k : Below w.heap.size w1 w2) : Mv P w w2 :=
  ⟨k.os.trans h.os, k.tape.trans h.tape, k.output.trans h.output, Nat.le_trans h.size k.size, fun i hi hp => (k.block i hi).trans (h.block i hi hp)⟩

end Go.Proofs.Ythjjidfoclcghaa
