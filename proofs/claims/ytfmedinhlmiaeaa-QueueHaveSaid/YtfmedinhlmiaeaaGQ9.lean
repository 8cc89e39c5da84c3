/- Texts of this proof, one behind the other: WireMath, WireMem. -/
import Derived.Test.YtfmedinhlmiaeaaGQ8
/- Versions and rows as bytes: plain mathematics. -/
namespace Go.Proofs.Ytfmedinhlmiaeaa
open Go.RowKit
set_option linter.unusedVariables false
set_option linter.unusedSimpArgs false

/-! What is read is written so. -/
theorem rd_only {s : List UInt8} {a : Nat} {n e : Nat} (h : rd s (a : Int) = some (n, e)) : s.drop a = Vm.enc n ++ s.drop e := by
  unfold rd at h
  by_cases c : (a : Int) < 0 ∨ (s.length : Int) < (a : Int)
  · rw [if_pos c] at h; cases h
  · rw [if_neg c, Int.toNat_natCast] at h
    cases hd : Vm.dec 0 (s.drop a) with
    | none => rw [hd] at h; cases h
    | some x =>
      obtain ⟨m, k⟩ := x
      rw [hd] at h
      simp at h
      obtain ⟨rfl, rfl⟩ := h
      obtain ⟨h1, h2, h3⟩ := Vm.dec0_inv _ _ _ hd
      rw [← h3, ← List.drop_drop, List.take_append_drop]
theorem rdt_some {s : List UInt8} {a most : Int} {t : List UInt8} {e : Nat} (h : rdt s a most = some (t, e)) :
    ∃ n e0, rd s a = some (n, e0) ∧ t = (s.drop e0).take n ∧ e = e0 + n ∧ (n : Int) ≤ most ∧ e0 + n ≤ s.length ∧ t.length = n := by
  unfold rdt at h
  cases hr : rd s a with
  | none => rw [hr] at h; cases h
  | some x =>
    obtain ⟨n, e0⟩ := x
    rw [hr] at h
    simp only at h
    by_cases c : most < (n : Int) ∨ s.length < e0 + n
    · rw [if_pos c] at h; cases h
    · rw [if_neg c] at h
      simp only [Option.some.injEq, Prod.mk.injEq] at h
      obtain ⟨rfl, rfl⟩ := h
      exact ⟨n, e0, rfl, rfl, rfl, by omega, by omega, by simp; omega⟩
theorem rdt_only {s : List UInt8} {a : Nat} {most : Int} {t : List UInt8} {e : Nat} (h : rdt s (a : Int) most = some (t, e)) : s.drop a = (Vm.enc t.length ++ t) ++ s.drop e := by
  obtain ⟨n, e0, hr, rfl, rfl, h1, h2, h3⟩ := rdt_some h
  rw [rd_only hr, h3, List.append_assoc]
  congr 1
  rw [← List.drop_drop, List.take_append_drop]
theorem rdt_end {s : List UInt8} {a : Int} {most : Int} {t : List UInt8} {e : Nat} (h : rdt s a most = some (t, e)) : e ≤ s.length ∧ (t.length : Int) ≤ most ∧ t.length ≤ s.length := by
  obtain ⟨n, e0, hr, rfl, rfl, h1, h2, h3⟩ := rdt_some h
  exact ⟨h2, by omega, by omega⟩
/-- Another bound that is kept, too. -/
theorem rdt_bound {s : List UInt8} {a : Int} {most most' : Int} {t : List UInt8} {e : Nat} (h : rdt s a most = some (t, e)) (hb : (t.length : Int) ≤ most') : rdt s a most' = some (t, e) := by
  obtain ⟨n, e0, hr, rfl, rfl, h1, h2, h3⟩ := rdt_some h
  unfold rdt
  rw [hr]
  simp only
  rw [if_neg (by omega)]
theorem rdS_only {s : List UInt8} {a : Nat} {x : Int × Int} {e : Nat} (h : Sm.rdS (rd s) (a : Int) = some (x, e)) : Sm.ok x.1 x.2 = true ∧ s.drop a = sbytes x.1 x.2 ++ s.drop e ∧ e ≤ s.length := by
  unfold Sm.rdS at h
  cases hr : rd s (a : Int) with
  | none => rw [hr] at h; cases h
  | some y =>
    obtain ⟨n, m⟩ := y
    rw [hr] at h
    simp only at h
    cases hr2 : rd s (m : Int) with
    | none => rw [hr2] at h; cases h
    | some z =>
      obtain ⟨k, e1⟩ := z
      rw [hr2] at h
      simp only at h
      by_cases c : Sm.ok n k = true
      · rw [if_pos c] at h
        simp only [Option.some.injEq, Prod.mk.injEq] at h
        obtain ⟨rfl, rfl⟩ := h
        refine ⟨c, ?_, (rd_some hr2).2.1⟩
        show s.drop a = sbytes (n : Int) (k : Int) ++ s.drop e1
        rw [sbytes_ok c, rd_only hr, rd_only hr2]
        simp
      · rw [if_neg c] at h; cases h
theorem rdD_only {s : List UInt8} {a : Nat} {most : Int} {d : De} {e : Nat} (h : rdD most s (a : Int) = some (d, e)) : s.drop a = dbytes d ++ s.drop e ∧ e ≤ s.length := by
  unfold rdD at h
  cases ht : rdt s (a : Int) most with
  | none => rw [ht] at h; cases h
  | some x =>
    obtain ⟨k, m⟩ := x
    rw [ht] at h
    simp only at h
    cases hs : Sm.rdS (rd s) (m : Int) with
    | none => rw [hs] at h; cases h
    | some y =>
      obtain ⟨z, e1⟩ := y
      rw [hs] at h
      simp only [Option.some.injEq, Prod.mk.injEq] at h
      obtain ⟨rfl, rfl⟩ := h
      obtain ⟨_, h2, h3⟩ := rdS_only hs
      refine ⟨?_, h3⟩
      rw [rdt_only ht, h2]
      simp [dbytes, ByteArray.size]
theorem goL_only {s : List UInt8} : ∀ (n : Nat) (acc : List De) (a : Nat) (l : List De) (e : Nat), goL s n acc a = some (l, e) → a ≤ s.length → ∃ m, l = acc ++ m ∧ m.length = n ∧ s.drop a = pbody m ++ s.drop e ∧ e ≤ s.length
  | 0, acc, a, l, e, h, ha => by
    simp [goL] at h
    obtain ⟨rfl, rfl⟩ := h
    exact ⟨[], by simp, rfl, by simp [pbody], ha⟩
  | n + 1, acc, a, l, e, h, ha => by
    rw [goL] at h
    cases hd : rdD 32 s a with
    | none => rw [hd] at h; cases h
    | some x =>
      obtain ⟨d, e1⟩ := x
      rw [hd] at h
      obtain ⟨h1, h2⟩ := rdD_only hd
      obtain ⟨m, rfl, h4, h5, h6⟩ := goL_only n _ _ _ _ h h2
      exact ⟨d :: m, by simp, by simp [h4], by rw [h1, h5, pbody_cons]; simp, h6⟩
theorem prD_only {s : List UInt8} {a : Nat} {l : List De} {e : Nat} (h : prD s (a : Int) = some (l, e)) : chkD l = true ∧ s.drop a = pbV l ++ s.drop e ∧ e ≤ s.length := by
  unfold prD at h
  cases hr : rd s (a : Int) with
  | none => rw [hr] at h; cases h
  | some z =>
    obtain ⟨n, e0⟩ := z
    rw [hr] at h
    simp only at h
    by_cases c : 24 < n
    · rw [if_pos c] at h; cases h
    · rw [if_neg c] at h
      cases hg : goL s n [] e0 with
      | none => rw [hg] at h; cases h
      | some y =>
        obtain ⟨l', e'⟩ := y
        rw [hg, finL] at h
        by_cases cs : Srt l'
        · rw [if_pos cs] at h
          simp only [Option.some.injEq, Prod.mk.injEq] at h
          obtain ⟨rfl, rfl⟩ := h
          obtain ⟨m, hm, h4, h5, h6⟩ := goL_only n [] e0 _ _ hg (rd_some hr).2.1
          rw [List.nil_append] at hm
          subst hm
          have hc : chkD l' = true := by
            unfold chkD
            simp [cs]
            omega
          refine ⟨hc, ?_, h6⟩
          rw [rd_only hr, h5, pbV, if_pos hc, h4]
          simp
        · rw [if_neg cs] at h; cases h

/-! Versions. -/
/-- A version. -/
structure Wv where
  key : ByteArray
  val : ByteArray
  gone : Bool
  st : Int × Int
  past : List De
def wz : Wv := ⟨⟨#[]⟩, ⟨#[]⟩, false, (0, 0), []⟩
/-- May the version be? -/
def okW (v : Wv) : Bool := (decide (v.val.size ≤ 32) && (decide (v.val.size = 0) || !v.gone)) && Km.chk v.key.data.toList && Sm.ok v.st.1 v.st.2 && chkD v.past
def gN (b : Bool) : Nat := if b then 1 else 0
def txt (l : List UInt8) : List UInt8 := Vm.enc l.length ++ l
/-- Its parts, one behind the other. -/
def wb0 (v : Wv) : List UInt8 := txt v.key.data.toList ++ (Vm.enc (gN v.gone) ++ (txt v.val.data.toList ++ (sbytes v.st.1 v.st.2 ++ pbV v.past)))
/-- The version's bytes. -/
def wbV (v : Wv) : List UInt8 := if okW v = true then wb0 v else []
/-- The version that is read, with bounds for texts and for the sign that it is gone. -/
def rdW (s : List UInt8) (mo : Int) (gm : Nat) : Option (Wv × Nat) :=
  match rdt s 0 mo with
  | none => none
  | some (k, e1) =>
    match rd s e1 with
    | none => none
    | some (g, e2) =>
      if gm < g then none else
      match rdt s e2 mo with
      | none => none
      | some (x, e3) =>
        match Sm.rdS (rd s) (e3 : Int) with
        | none => none
        | some (t, e4) =>
          match prD s (e4 : Int) with
          | none => none
          | some (p, e5) => some (⟨⟨k.toArray⟩, ⟨x.toArray⟩, decide (g = 1), t, p⟩, e5)
/-- The version that wire.Read reads. -/
def finW (s : List UInt8) : Option (Wv × Nat) → Option Wv
  | none => none
  | some (v, e) => if e = s.length ∧ okW v = true then some v else none
def readW (s : List UInt8) : Option Wv := finW s (rdW s s.length 1)
/-- The version that has these bytes. -/
def finR (s : List UInt8) : Option (Wv × Nat) → Option Wv
  | none => none
  | some (v, _) => if wbV v = s then some v else none
def readR (s : List UInt8) : Option Wv := finR s (rdW s 32 18446744073709551615)

theorem okW_parts {v : Wv} (h : okW v = true) : v.val.size ≤ 32 ∧ (v.val.size = 0 ∨ v.gone = false) ∧ Km.chk v.key.data.toList = true ∧ Sm.ok v.st.1 v.st.2 = true ∧ chkD v.past = true ∧ v.key.size ≤ 32 ∧ 1 ≤ v.key.size := by
  unfold okW at h
  simp only [Bool.and_eq_true, Bool.or_eq_true, decide_eq_true_eq, Bool.not_eq_true'] at h
  obtain ⟨⟨⟨⟨h1, h2⟩, h3⟩, h4⟩, h5⟩ := h
  obtain ⟨h6, h7⟩ := chk_size h3
  exact ⟨h1, h2, h3, h4, h5, h6, h7⟩
theorem txt_len (l : List UInt8) : (txt l).length = (Vm.enc l.length).length + l.length := by simp [txt]
theorem wb0_pos (v : Wv) : 0 < (wb0 v).length := by
  have := Vm.enc_pos v.key.data.toList.length
  simp [wb0, txt]
  simp at this
  omega
/-- What was written is read. -/
theorem rdW_back {v : Wv} (h : okW v = true) (r : List UInt8) (mo : Int) (gm : Nat) (hmo : 32 ≤ mo) (hgm : 1 ≤ gm) : rdW (wb0 v ++ r) mo gm = some (v, (wb0 v).length) := by
  obtain ⟨h1, h2, h3, h4, h5, h6, h7⟩ := okW_parts h
  obtain ⟨key, val, gone, st, past⟩ := v
  simp only at h1 h2 h3 h4 h5 h6 h7
  have hkl : key.data.toList.length = key.size := rfl
  have hvl : val.data.toList.length = val.size := rfl
  have hg : gN gone ≤ 1 := by cases gone <;> simp [gN]
  have hg1 : decide (gN gone = 1) = gone := by cases gone <;> simp [gN]
  generalize hG : gN gone = g at hg hg1
  have hs : wb0 ⟨key, val, gone, st, past⟩ = txt key.data.toList ++ (Vm.enc g ++ (txt val.data.toList ++ (sbytes st.1 st.2 ++ pbV past))) := by simp [wb0, hG]
  rw [hs]
  generalize hS : txt key.data.toList ++ (Vm.enc g ++ (txt val.data.toList ++ (sbytes st.1 st.2 ++ pbV past))) ++ r = S
  have e1 := rdt_back [] (Vm.enc g ++ (txt val.data.toList ++ (sbytes st.1 st.2 ++ pbV past)) ++ r) key.data.toList mo (by omega) (by omega)
  have q1 : [] ++ (Vm.enc key.data.toList.length ++ key.data.toList) ++ (Vm.enc g ++ (txt val.data.toList ++ (sbytes st.1 st.2 ++ pbV past)) ++ r) = S := by rw [← hS]; simp [txt]
  rw [q1] at e1
  have e2 := rd_back (txt key.data.toList) (txt val.data.toList ++ (sbytes st.1 st.2 ++ pbV past) ++ r) g (by omega)
  have q2 : txt key.data.toList ++ Vm.enc g ++ (txt val.data.toList ++ (sbytes st.1 st.2 ++ pbV past) ++ r) = S := by rw [← hS]; simp [txt]
  rw [q2] at e2
  have e3 := rdt_back (txt key.data.toList ++ Vm.enc g) ((sbytes st.1 st.2 ++ pbV past) ++ r) val.data.toList mo (by omega) (by omega)
  have q3 : txt key.data.toList ++ Vm.enc g ++ (Vm.enc val.data.toList.length ++ val.data.toList) ++ ((sbytes st.1 st.2 ++ pbV past) ++ r) = S := by rw [← hS]; simp [txt]
  rw [q3] at e3
  have e4 := srd_at (txt key.data.toList ++ Vm.enc g ++ txt val.data.toList) (pbV past ++ r) h4
  have q4 : txt key.data.toList ++ Vm.enc g ++ txt val.data.toList ++ (sbytes st.1 st.2 ++ (pbV past ++ r)) = S := by rw [← hS]; simp [txt]
  rw [q4] at e4
  have e5 := prD_back past (txt key.data.toList ++ Vm.enc g ++ txt val.data.toList ++ sbytes st.1 st.2) r h5
  have q5 : txt key.data.toList ++ Vm.enc g ++ txt val.data.toList ++ sbytes st.1 st.2 ++ pbV past ++ r = S := by rw [← hS]; simp [txt]
  rw [q5] at e5
  unfold rdW
  rw [show ((([] : List UInt8).length : Nat) : Int) = 0 from rfl] at e1
  rw [e1]
  simp only
  rw [show (([] : List UInt8).length + (Vm.enc key.data.toList.length).length + key.data.toList.length) = (txt key.data.toList).length by simp [txt], e2]
  simp only
  rw [if_neg (by omega), show (txt key.data.toList).length + (Vm.enc g).length = (txt key.data.toList ++ Vm.enc g).length by simp, e3]
  simp only
  rw [show (txt key.data.toList ++ Vm.enc g).length + (Vm.enc val.data.toList.length).length + val.data.toList.length = (txt key.data.toList ++ Vm.enc g ++ txt val.data.toList).length by simp [txt]; omega, e4]
  simp only
  rw [show (txt key.data.toList ++ Vm.enc g ++ txt val.data.toList).length + (sbytes st.1 st.2).length = (txt key.data.toList ++ Vm.enc g ++ txt val.data.toList ++ sbytes st.1 st.2).length from List.length_append.symm, e5]
  simp only [Option.some.injEq, Prod.mk.injEq]
  refine ⟨?_, by simp; omega⟩
  rw [hg1]
/-- What is read, is written so. -/
theorem rdW_only {s : List UInt8} {mo : Int} {gm : Nat} {v : Wv} {e : Nat} (h : rdW s mo gm = some (v, e)) (hg : gm ≤ 1) : s = wb0 v ++ s.drop e ∧ e ≤ s.length := by
  unfold rdW at h
  cases h1 : rdt s 0 mo with
  | none => rw [h1] at h; cases h
  | some x1 =>
    obtain ⟨k, e1⟩ := x1
    rw [h1] at h
    simp only at h
    cases h2 : rd s (e1 : Int) with
    | none => rw [h2] at h; cases h
    | some x2 =>
      obtain ⟨g, e2⟩ := x2
      rw [h2] at h
      simp only at h
      by_cases c : gm < g
      · rw [if_pos c] at h; cases h
      · rw [if_neg c] at h
        cases h3 : rdt s (e2 : Int) mo with
        | none => rw [h3] at h; cases h
        | some x3 =>
          obtain ⟨x, e3⟩ := x3
          rw [h3] at h
          simp only at h
          cases h4 : Sm.rdS (rd s) (e3 : Int) with
          | none => rw [h4] at h; cases h
          | some x4 =>
            obtain ⟨t, e4⟩ := x4
            rw [h4] at h
            simp only at h
            cases h5 : prD s (e4 : Int) with
            | none => rw [h5] at h; cases h
            | some x5 =>
              obtain ⟨p, e5⟩ := x5
              rw [h5] at h
              simp only [Option.some.injEq, Prod.mk.injEq] at h
              obtain ⟨rfl, rfl⟩ := h
              have o1 := rdt_only (a := 0) h1
              have o2 := rd_only h2
              have o3 := rdt_only h3
              obtain ⟨_, o4, _⟩ := rdS_only h4
              obtain ⟨_, o5, o6⟩ := prD_only h5
              refine ⟨?_, o6⟩
              have hgn : gN (decide (g = 1)) = g := by
                by_cases c1 : g = 1
                · rw [c1]; rfl
                · have : g = 0 := by omega
                  rw [this]; rfl
              rw [List.drop_zero, o2, o3, o4, o5] at o1
              conv => lhs; rw [o1]
              simp [wb0, hgn, txt]
theorem wbV_ok {v : Wv} (h : okW v = true) : wbV v = wb0 v := by simp [wbV, h]
theorem wbV_no {v : Wv} (h : okW v = false) : wbV v = [] := by simp [wbV, h]
theorem readW_iff {s : List UInt8} {v : Wv} : readW s = some v ↔ okW v = true ∧ wbV v = s := by
  constructor
  · intro h
    unfold readW at h
    cases hr : rdW s s.length 1 with
    | none => rw [hr] at h; cases h
    | some x =>
      obtain ⟨u, e⟩ := x
      rw [hr, finW] at h
      by_cases c : e = s.length ∧ okW u = true
      · rw [if_pos c] at h
        simp only [Option.some.injEq] at h
        subst h
        obtain ⟨h1, h2⟩ := rdW_only hr (Nat.le_refl 1)
        refine ⟨c.2, ?_⟩
        rw [wbV_ok c.2]
        rw [c.1, List.drop_length, List.append_nil] at h1
        exact h1.symm
      · rw [if_neg c] at h; cases h
  · rintro ⟨h, rfl⟩
    rw [wbV_ok h]
    unfold readW
    by_cases c : (32 : Int) ≤ ((wb0 v).length : Int)
    · have := rdW_back h [] ((wb0 v).length : Int) 1 c (Nat.le_refl 1)
      rw [List.append_nil] at this
      rw [this, finW, if_pos ⟨rfl, h⟩]
    · have := rdW_back h [] 32 1 (by omega) (Nat.le_refl 1)
      rw [List.append_nil] at this
      have hb : rdW (wb0 v) ((wb0 v).length : Int) 1 = rdW (wb0 v) 32 1 := by
        obtain ⟨key, val, gone, st, past⟩ := v
        have k1 : key.data.toList.length ≤ (wb0 ⟨key, val, gone, st, past⟩).length := by simp [wb0, txt]; omega
        have k2 : val.data.toList.length ≤ (wb0 ⟨key, val, gone, st, past⟩).length := by simp [wb0, txt]; omega
        generalize wb0 ⟨key, val, gone, st, past⟩ = S at *
        have mono : ∀ (a : Int), rdt S a (S.length : Int) = rdt S a 32 := by
          intro a
          cases h1 : rdt S a 32 with
          | some x =>
            obtain ⟨t, e⟩ := x
            exact rdt_bound h1 (by have := (rdt_end h1).2.2; omega)
          | none =>
            cases h2 : rdt S a (S.length : Int) with
            | none => rfl
            | some x =>
              obtain ⟨t, e⟩ := x
              have := rdt_bound h2 (most' := 32) (by have := (rdt_end h2).2.2; omega)
              rw [this] at h1
              cases h1
        unfold rdW
        simp only [mono]
      rw [hb, this, finW, if_pos ⟨rfl, h⟩]
theorem readR_iff {s : List UInt8} (hs : s ≠ []) {v : Wv} : readR s = some v ↔ okW v = true ∧ wbV v = s := by
  constructor
  · intro h
    unfold readR at h
    cases hr : rdW s 32 18446744073709551615 with
    | none => rw [hr] at h; cases h
    | some x =>
      obtain ⟨u, e⟩ := x
      rw [hr, finR] at h
      by_cases c : wbV u = s
      · rw [if_pos c] at h
        simp only [Option.some.injEq] at h
        subst h
        refine ⟨?_, c⟩
        cases ho : okW u with
        | true => rfl
        | false => rw [wbV_no ho] at c; exact absurd c.symm hs
      · rw [if_neg c] at h; cases h
  · rintro ⟨h, rfl⟩
    unfold readR
    rw [wbV_ok h]
    have := rdW_back h [] 32 18446744073709551615 (Int.le_refl _) (by omega)
    rw [List.append_nil] at this
    rw [this, finR, if_pos (wbV_ok h)]
theorem rdW_nil (mo : Int) (gm : Nat) : rdW [] mo gm = none := by
  unfold rdW rdt rd
  simp [Vm.dec]
theorem read_same (s : List UInt8) : readR s = readW s := by
  by_cases hs : s = []
  · subst hs
    unfold readR readW
    rw [rdW_nil, rdW_nil]
    rfl
  · cases h : readW s with
    | some v => exact (readR_iff hs).2 (readW_iff.1 h)
    | none =>
      cases h2 : readR s with
      | none => rfl
      | some v => rw [readW_iff.2 ((readR_iff hs).1 h2)] at h; cases h
/-- Nothing behind, nothing left out. -/
theorem readW_more {v : Wv} (h : okW v = true) (c : UInt8) : readW (wbV v ++ [c]) = none := by
  cases hr : readW (wbV v ++ [c]) with
  | none => rfl
  | some u =>
    exfalso
    obtain ⟨h1, h2⟩ := readW_iff.1 hr
    rw [wbV_ok h, wbV_ok h1] at h2
    have a := rdW_back h [c] 32 1 (Int.le_refl _) (Nat.le_refl 1)
    have b := rdW_back h1 [] 32 1 (Int.le_refl _) (Nat.le_refl 1)
    rw [List.append_nil, h2, a] at b
    simp only [Option.some.injEq, Prod.mk.injEq] at b
    have := b.2
    simp at this
theorem readW_less {v : Wv} (h : okW v = true) : readW ((wbV v).take ((wbV v).length - 1)) = none := by
  cases hr : readW ((wbV v).take ((wbV v).length - 1)) with
  | none => rfl
  | some u =>
    exfalso
    obtain ⟨h1, h2⟩ := readW_iff.1 hr
    have hp := wb0_pos v
    rw [wbV_ok h, wbV_ok h1] at h2
    have a := rdW_back h [] 32 1 (Int.le_refl _) (Nat.le_refl 1)
    have b := rdW_back h1 ((wb0 v).drop ((wb0 v).length - 1)) 32 1 (Int.le_refl _) (Nat.le_refl 1)
    rw [List.append_nil] at a
    rw [h2, List.take_append_drop, a] at b
    simp only [Option.some.injEq, Prod.mk.injEq] at b
    have := b.2
    simp at this
    omega
theorem readW_back {v : Wv} (h : okW v = true) : readW (wbV v) = some v := readW_iff.2 ⟨h, rfl⟩
theorem wbV_inj {v u : Wv} (h : okW v = true) (k : okW u = true) (he : wbV v = wbV u) : v = u := by
  have a := readW_back h
  rw [he, readW_back k] at a
  simpa using a.symm
end Go.Proofs.Ytfmedinhlmiaeaa
/- What a call that writes some blocks of its own leaves as it was; a reader's two cells, a version's six. -/
namespace Go.Proofs.Ytfmedinhlmiaeaa
open Go.RowKit
set_option linter.unusedVariables false
set_option linter.unusedSimpArgs false

/-- A reader: its text, its place. -/
structure RdP (w : World) (R : Nat) (s : ByteArray) (a : Int) : Prop where
  c0 : w.cell? ⟨R, 0, none⟩ = some (.string s)
  c1 : w.cell? ⟨R, 1, none⟩ = some (.int .i64 a)
  f1 : w.frozen? ⟨R, 1, none⟩ = false
theorem RdP.lt {w : World} {R : Nat} {s : ByteArray} {a : Int} (h : RdP w R s a) : R < w.heap.size := lt_of_cellN h.c0
theorem RdP.block {w w' : World} {R : Nat} {s : ByteArray} {a : Int} (h : RdP w R s a) (hb : w'.heap[R]? = w.heap[R]?) : RdP w' R s a :=
  ⟨by rw [World.cell?_of_block hb]; exact h.c0, by rw [World.cell?_of_block hb]; exact h.c1, by rw [World.frozen?_of_block hb]; exact h.f1⟩
theorem RdP.keep {w w' : World} {R : Nat} {s : ByteArray} {a : Int} (h : RdP w R s a) (hb : Below w.heap.size w w') : RdP w' R s a := h.block (hb.block R h.lt)
theorem RdP.mv {P : Nat → Prop} {w w' : World} {R : Nat} {s : ByteArray} {a : Int} (h : RdP w R s a) (hb : Mv P w w') (hp : ¬ P R) : RdP w' R s a := h.block (hb.block R h.lt hp)
theorem RdP.put {w : World} {R : Nat} {s : ByteArray} {a : Int} (h : RdP w R s a) (e : Int) : RdP (w.setCell ⟨R, 1, none⟩ (.int .i64 e)) R s e :=
  ⟨by rw [World.cell?_setCell_other _ _ _ _ (by simp)]; exact h.c0, World.cell?_setCell_same _ _ _ h.c1, by simpa using h.f1⟩
theorem RdP.other {w : World} {R : Nat} {s : ByteArray} {a : Int} (h : RdP w R s a) {b o : Nat} (hne : b ≠ R) (x : Value) : RdP (w.setCell ⟨b, o, none⟩ x) R s a :=
  h.block (Below.heap_setCell _ _ _ _ (Ne.symm hne))
theorem RdP.new (w : World) (s : ByteArray) (T : TypeId) : RdP (w.alloc (.cells #[.string s, .int .i64 0] T)) w.heap.size s 0 := ⟨by simp, by simp, by simp⟩
theorem RdP.two {w : World} {R : Nat} {s : ByteArray} {a : Int} (h : RdP w R s a) : w.cell? ⟨R, 0, none⟩ = some (.string s) ∧ w.cell? ⟨R, 1, none⟩ = some (.int .i64 a) := ⟨h.c0, h.c1⟩
theorem keepR {W w' : World} {R : Nat} {s : ByteArray} {a : Int} (hb : Below W.heap.size W w') (h : W.cell? ⟨R, 0, none⟩ = some (.string s) ∧ W.cell? ⟨R, 1, none⟩ = some (.int .i64 a)) :
    w'.cell? ⟨R, 0, none⟩ = some (.string s) ∧ w'.cell? ⟨R, 1, none⟩ = some (.int .i64 a) := ⟨kc hb h.1, kc hb h.2⟩

/-- A version and the value that is its past. -/
abbrev wvs (v : Wv) (u : Value) : Array Value := #[.string v.key, .string v.val, .bool v.gone, .int .i64 v.st.1, .int .i64 v.st.2, u]
/-- A variable of a version's type. -/
structure VwP (w : World) (b : Nat) (v : Wv) (u : Value) : Prop where
  c0 : w.cell? ⟨b, 0, none⟩ = some (.string v.key)
  c1 : w.cell? ⟨b, 1, none⟩ = some (.string v.val)
  c2 : w.cell? ⟨b, 2, none⟩ = some (.bool v.gone)
  c3 : w.cell? ⟨b, 3, none⟩ = some (.int .i64 v.st.1)
  c4 : w.cell? ⟨b, 4, none⟩ = some (.int .i64 v.st.2)
  c5 : w.cell? ⟨b, 5, none⟩ = some u
  f : ∀ j, j < 6 → w.frozen? ⟨b, j, none⟩ = false
theorem VwP.lt {w : World} {b : Nat} {v : Wv} {u : Value} (h : VwP w b v u) : b < w.heap.size := lt_of_cellN h.c0
theorem VwP.block {w w' : World} {b : Nat} {v : Wv} {u : Value} (h : VwP w b v u) (hb : w'.heap[b]? = w.heap[b]?) : VwP w' b v u := by
  refine ⟨?_, ?_, ?_, ?_, ?_, ?_, fun j hj => by rw [World.frozen?_of_block hb]; exact h.f j hj⟩ <;> rw [World.cell?_of_block hb]
  · exact h.c0
  · exact h.c1
  · exact h.c2
  · exact h.c3
  · exact h.c4
  · exact h.c5
theorem VwP.keep {w w' : World} {b : Nat} {v : Wv} {u : Value} (h : VwP w b v u) (hb : Below w.heap.size w w') : VwP w' b v u := h.block (hb.block b h.lt)
theorem VwP.mv {P : Nat → Prop} {w w' : World} {b : Nat} {v : Wv} {u : Value} (h : VwP w b v u) (hb : Mv P w w') (hp : ¬ P b) : VwP w' b v u := h.block (hb.block b h.lt hp)
theorem VwP.other {w : World} {b : Nat} {v : Wv} {u : Value} (h : VwP w b v u) {b' o : Nat} (hne : b' ≠ b) (x : Value) : VwP (w.setCell ⟨b', o, none⟩ x) b v u :=
  h.block (Below.heap_setCell _ _ _ _ (Ne.symm hne))
theorem VwP.new (w : World) (v : Wv) (u : Value) (T : TypeId) : VwP (w.alloc (.cells (wvs v u) T)) w.heap.size v u :=
  ⟨by simp, by simp, by simp, by simp, by simp, by simp, fun j hj => by simp⟩
/-- One cell is written. -/
theorem cell_put {w : World} {b i j : Nat} {x y : Value} (hne : j ≠ i) (h : w.cell? ⟨b, i, none⟩ = some y) : (w.setCell ⟨b, j, none⟩ x).cell? ⟨b, i, none⟩ = some y := by
  rw [World.cell?_setCell_other _ _ _ _ (by simp [hne])]; exact h
theorem VwP.put0 {w : World} {b : Nat} {v : Wv} {u : Value} (h : VwP w b v u) (x : ByteArray) : VwP (w.setCell ⟨b, 0, none⟩ (.string x)) b ⟨x, v.val, v.gone, v.st, v.past⟩ u :=
  ⟨World.cell?_setCell_same _ _ _ h.c0, cell_put (by decide) h.c1, cell_put (by decide) h.c2, cell_put (by decide) h.c3, cell_put (by decide) h.c4, cell_put (by decide) h.c5, fun j hj => by simpa using h.f j hj⟩
theorem VwP.put1 {w : World} {b : Nat} {v : Wv} {u : Value} (h : VwP w b v u) (x : ByteArray) : VwP (w.setCell ⟨b, 1, none⟩ (.string x)) b ⟨v.key, x, v.gone, v.st, v.past⟩ u :=
  ⟨cell_put (by decide) h.c0, World.cell?_setCell_same _ _ _ h.c1, cell_put (by decide) h.c2, cell_put (by decide) h.c3, cell_put (by decide) h.c4, cell_put (by decide) h.c5, fun j hj => by simpa using h.f j hj⟩
theorem VwP.put2 {w : World} {b : Nat} {v : Wv} {u : Value} (h : VwP w b v u) (x : Bool) : VwP (w.setCell ⟨b, 2, none⟩ (.bool x)) b ⟨v.key, v.val, x, v.st, v.past⟩ u :=
  ⟨cell_put (by decide) h.c0, cell_put (by decide) h.c1, World.cell?_setCell_same _ _ _ h.c2, cell_put (by decide) h.c3, cell_put (by decide) h.c4, cell_put (by decide) h.c5, fun j hj => by simpa using h.f j hj⟩
theorem VwP.put3 {w : World} {b : Nat} {v : Wv} {u : Value} (h : VwP w b v u) (x y : Int) : VwP ((w.setCell ⟨b, 3, none⟩ (.int .i64 x)).setCell ⟨b, 4, none⟩ (.int .i64 y)) b ⟨v.key, v.val, v.gone, (x, y), v.past⟩ u :=
  ⟨cell_put (by decide) (cell_put (by decide) h.c0), cell_put (by decide) (cell_put (by decide) h.c1), cell_put (by decide) (cell_put (by decide) h.c2), cell_put (by decide) (World.cell?_setCell_same _ _ _ h.c3), World.cell?_setCell_same _ _ _ (cell_put (by decide) h.c4), cell_put (by decide) (cell_put (by decide) h.c5), fun j hj => by simpa using h.f j hj⟩
theorem VwP.put5 {w : World} {b : Nat} {v : Wv} {u : Value} (h : VwP w b v u) (x : Value) (p : List De) : VwP (w.setCell ⟨b, 5, none⟩ x) b ⟨v.key, v.val, v.gone, v.st, p⟩ x :=
  ⟨cell_put (by decide) h.c0, cell_put (by decide) h.c1, cell_put (by decide) h.c2, cell_put (by decide) h.c3, cell_put (by decide) h.c4, World.cell?_setCell_same _ _ _ h.c5, fun j hj => by simpa using h.f j hj⟩
end Go.Proofs.Ytfmedinhlmiaeaa
