/- Texts of this proof, one behind the other: StampBackMath, PastReadMath, PastReadDep, PastRead, RefMath. -/
import Derived.Test.YtplpeokmhomojaaGPastReads12
import Derived.WalkMore
/- What was written as a stamp's bytes is read, wherever it stands. -/
namespace Go.Proofs.Ytplpeokmhomojaa
open Go.RowKit
set_option linter.unusedVariables false

theorem rd_at (p r : List UInt8) (n : Nat) (hn : n < 18446744073709551616) : rd (p ++ (Vm.enc n ++ r)) (p.length : Int) = some (n, p.length + (Vm.enc n).length) := by
  unfold rd
  rw [if_neg (by simp; omega), Int.toNat_natCast, List.drop_left' rfl, Vm.dec0_enc n r hn]
  rfl
theorem sbytes_ok {n s : Int} (h : Sm.ok n s = true) : sbytes n s = Vm.enc n.toNat ++ Vm.enc s.toNat := by simp [sbytes, h]
theorem sbytes_len (n s : Int) : (sbytes n s).length ≤ 20 := by
  unfold sbytes
  split
  · rename_i h
    simp only [Sm.ok, decide_eq_true_eq] at h
    have h1 := Vm.enc_len10 (n := n.toNat) (by omega)
    have h2 := Vm.enc_len10 (n := s.toNat) (by omega)
    simp; omega
  · simp
theorem sbytes_pos {n s : Int} (h : Sm.ok n s = true) : 2 ≤ (sbytes n s).length := by
  rw [sbytes_ok h]
  have h1 := Vm.enc_pos n.toNat
  have h2 := Vm.enc_pos s.toNat
  simp; omega
theorem srd_at (p r : List UInt8) {n s : Int} (h : Sm.ok n s = true) : Sm.rdS (rd (p ++ (sbytes n s ++ r))) (p.length : Int) = some ((n, s), p.length + (sbytes n s).length) := by
  have hk := h
  simp only [Sm.ok, decide_eq_true_eq] at hk
  rw [sbytes_ok h]
  have e1 := rd_at p (Vm.enc s.toNat ++ r) n.toNat (by omega)
  have e2 := rd_at (p ++ Vm.enc n.toNat) r s.toNat (by omega)
  rw [List.length_append, List.append_assoc] at e2
  unfold Sm.rdS
  rw [List.append_assoc, e1]
  simp only
  rw [e2]
  simp only
  rw [Int.toNat_of_nonneg (by omega), Int.toNat_of_nonneg (by omega), if_pos h]
  simp
  omega

theorem bytes_data (x y z : ByteArray) : (x ++ y ++ z).data.toList = x.data.toList ++ (y.data.toList ++ z.data.toList) := by simp
theorem srd_bytes (x z : ByteArray) (l : List UInt8) {n s : Int} (h : Sm.ok n s = true) (hl : sbytes n s = l) : Sm.rdS (rd (x ++ ⟨l.toArray⟩ ++ z).data.toList) (x.size : Int) = some ((n, s), x.size + l.length) := by
  subst hl
  rw [bytes_data]
  have := srd_at x.data.toList z.data.toList h
  simpa using this
end Go.Proofs.Ytplpeokmhomojaa
/- Reading a past: plain mathematics. -/
namespace Go.Proofs.Ytplpeokmhomojaa
open Go.RowKit
set_option linter.unusedVariables false

/-- One dependency, read at a place; a key of at most so many bytes. -/
def rdD (most : Int) (s : List UInt8) (a : Int) : Option (De × Nat) :=
  match rdt s a most with
  | none => none
  | some (k, m) =>
    match Sm.rdS (rd s) (m : Int) with
    | none => none
    | some (x, e) => some ((⟨k.toArray⟩, x.1, x.2), e)
/-- So many dependencies, one behind the other, behind those that were read. -/
def goL (s : List UInt8) : Nat → List De → Nat → Option (List De × Nat)
  | 0, acc, a => some (acc, a)
  | n + 1, acc, a =>
    match rdD 32 s a with
    | none => none
    | some (d, e) => goL s n (acc ++ [d]) e
/-- What was read, if it may be. -/
def finL : Option (List De × Nat) → Option (List De × Nat)
  | none => none
  | some (l, e) => if Srt l then some (l, e) else none
/-- The past that is read at a place. -/
def prD (s : List UInt8) (a : Int) : Option (List De × Nat) :=
  match rd s a with
  | none => none
  | some (n, e) => if 24 < n then none else finL (goL s n [] e)
def prL (r : Option (List De × Nat)) : List De := match r with | none => [] | some (l, _) => l
def prE (r : Option (List De × Nat)) : Nat := match r with | none => 0 | some (_, e) => e

theorem goL_pre (s : List UInt8) : ∀ (n : Nat) (acc : List De) (a : Nat) (l : List De) (e : Nat), goL s n acc a = some (l, e) → ∃ m, l = acc ++ m ∧ m.length = n ∧ a ≤ e
  | 0, acc, a, l, e, h => by
    simp [goL] at h
    exact ⟨[], by simp [h.1], rfl, by omega⟩
  | n + 1, acc, a, l, e, h => by
    rw [goL] at h
    cases hd : rdD 32 s a with
    | none => rw [hd] at h; cases h
    | some x =>
      obtain ⟨d, e1⟩ := x
      rw [hd] at h
      obtain ⟨m, h1, h2, h3⟩ := goL_pre s n _ _ _ _ h
      have hlt : (a : Int) < e1 := by
        unfold rdD at hd
        cases ht : rdt s a 32 with
        | none => rw [ht] at hd; cases hd
        | some y =>
          obtain ⟨k, m1⟩ := y
          rw [ht] at hd
          simp only at hd
          have q1 : (a : Int) < m1 := by
            unfold rdt at ht
            cases hr : rd s a with
            | none => rw [hr] at ht; cases ht
            | some z =>
              obtain ⟨nn, ee⟩ := z
              obtain ⟨_, _, _, h4⟩ := rd_some hr
              rw [hr] at ht
              simp only at ht
              split at ht
              · cases ht
              · simp at ht; omega
          cases hs : Sm.rdS (rd s) (m1 : Int) with
          | none => rw [hs] at hd; cases hd
          | some z =>
            obtain ⟨x, ee⟩ := z
            rw [hs] at hd
            simp at hd
            obtain ⟨_, rfl⟩ := hd
            unfold Sm.rdS at hs
            cases hr : rd s (m1 : Int) with
            | none => rw [hr] at hs; cases hs
            | some y1 =>
              obtain ⟨n1, m2⟩ := y1
              obtain ⟨_, _, _, h4⟩ := rd_some hr
              rw [hr] at hs
              simp only at hs
              cases hr2 : rd s (m2 : Int) with
              | none => rw [hr2] at hs; cases hs
              | some y2 =>
                obtain ⟨n2, m3⟩ := y2
                obtain ⟨_, _, _, h5⟩ := rd_some hr2
                rw [hr2] at hs
                simp only at hs
                split at hs
                · simp at hs; omega
                · cases hs
      exact ⟨d :: m, by rw [h1]; simp, by simp [h2], by omega⟩
theorem finL_stop {s : List UInt8} {n : Nat} {acc : List De} {a : Nat} (h : ¬ Srt acc) : finL (goL s n acc a) = none := by
  cases hg : goL s n acc a with
  | none => rfl
  | some x =>
    obtain ⟨l, e⟩ := x
    obtain ⟨m, rfl, _, _⟩ := goL_pre s n acc a l e hg
    rw [finL, if_neg (fun hs => h (by have := hs.take acc.length; rwa [List.take_left] at this))]
/-- Read with any bound: what is longer than 32 bytes may not be. -/
theorem rdD_any (s : List UInt8) (a : Int) :
    (rdD (s.length : Int) s a = none ∧ rdD 32 s a = none) ∨ (∃ d e, rdD (s.length : Int) s a = some (d, e) ∧ d.1.size ≤ s.length ∧ (rdD 32 s a = some (d, e) ∨ (rdD 32 s a = none ∧ okD d = false))) := by
  unfold rdD rdt
  cases hr : rd s a with
  | none => exact .inl ⟨rfl, rfl⟩
  | some z =>
    obtain ⟨n, e⟩ := z
    simp only
    by_cases c : s.length < e + n
    · rw [if_pos (.inr c), if_pos (.inr c)]
      exact .inl ⟨rfl, rfl⟩
    · rw [if_neg (by omega)]
      simp only
      cases hs : Sm.rdS (rd s) ((e + n : Nat) : Int) with
      | none =>
        left
        refine ⟨rfl, ?_⟩
        by_cases c2 : (32 : Int) < n
        · rw [if_pos (.inl c2)]
        · rw [if_neg (by omega)]
          simp only [hs]
      | some y =>
        obtain ⟨x, e2⟩ := y
        right
        have hkl : ((s.drop e).take n).length = n := by simp; omega
        refine ⟨_, _, rfl, by show ((s.drop e).take n).toArray.size ≤ _; simp; omega, ?_⟩
        by_cases c2 : (32 : Int) < n
        · right
          rw [if_pos (.inl c2)]
          refine ⟨rfl, ?_⟩
          cases ho : okD ((⟨((s.drop e).take n).toArray⟩ : ByteArray), x.1, x.2) with
          | false => rfl
          | true =>
            exfalso
            have := okD_size ho
            have h2 : ((s.drop e).take n).toArray.size ≤ 32 := this
            rw [List.size_toArray, hkl] at h2
            omega
        · left
          rw [if_neg (by omega)]
          simp only [hs]
/-- A step of the loop. -/
theorem goL_step {s : List UInt8} {n : Nat} {acc : List De} {a : Nat} {d : De} {e : Nat} (h : rdD 32 s a = some (d, e)) : goL s (n + 1) acc a = goL s n (acc ++ [d]) e := by
  rw [goL, h]
theorem goL_none {s : List UInt8} {n : Nat} {acc : List De} {a : Nat} (h : rdD 32 s a = none) : goL s (n + 1) acc a = none := by
  rw [goL, h]
/-- Not found, or not fit to follow: there is no past. -/
theorem fin_no {s : List UInt8} {n : Nat} {acc : List De} {a : Nat} {d : De} {e : Nat} (h : rdD 32 s a = some (d, e) ∨ (rdD 32 s a = none ∧ okD d = false)) (hs : Srt acc) (hf : folD acc d = false) : finL (goL s (n + 1) acc a) = none := by
  rcases h with h | ⟨h, _⟩
  · rw [goL_step h]
    exact finL_stop (fun hq => by have := ((srt_snoc acc d).1 hq).2; rw [hf] at this; cases this)
  · rw [goL_none h]; rfl
theorem fin_yes {s : List UInt8} {n : Nat} {acc : List De} {a : Nat} {d : De} {e : Nat} (h : rdD 32 s a = some (d, e) ∨ (rdD 32 s a = none ∧ okD d = false)) (hf : folD acc d = true) : goL s (n + 1) acc a = goL s n (acc ++ [d]) e := by
  rcases h with h | ⟨h, h2⟩
  · exact goL_step h
  · exfalso
    unfold folD at hf
    rw [h2] at hf
    cases hf
theorem prD_pos {s : List UInt8} {a : Int} {l : List De} {e : Nat} (h : prD s a = some (l, e)) : 0 < e := by
  unfold prD at h
  cases hr : rd s a with
  | none => rw [hr] at h; cases h
  | some z =>
    obtain ⟨n, e0⟩ := z
    obtain ⟨_, _, h3, h4⟩ := rd_some hr
    rw [hr] at h
    simp only at h
    split at h
    · cases h
    · cases hg : goL s n [] e0 with
      | none => rw [hg] at h; cases h
      | some y =>
        obtain ⟨l', e'⟩ := y
        obtain ⟨_, _, _, h5⟩ := goL_pre s n [] e0 l' e' hg
        rw [hg, finL] at h
        split at h
        · simp at h; omega
        · cases h
theorem pr_ok (s : List UInt8) (a : Int) : (prD s a).isSome = decide (0 < prE (prD s a)) := by
  cases h : prD s a with
  | none => rfl
  | some x =>
    obtain ⟨l, e⟩ := x
    have := prD_pos h
    simp [prE, this]
/-- What was written is read. -/
theorem rdD_back (p r : List UInt8) {d : De} (h : okD d = true) : rdD 32 (p ++ (dbytes d ++ r)) (p.length : Int) = some (d, p.length + (dbytes d).length) := by
  obtain ⟨k, n, t⟩ := d
  have hsz := okD_size h
  have hok : Sm.ok n t = true := by
    unfold okD at h
    rw [Bool.and_eq_true] at h
    exact h.2
  dsimp only at hsz
  have hkl : k.data.toList.length = k.size := rfl
  have e1 := rdt_back p (sbytes n t ++ r) k.data.toList 32 (by omega) (by omega)
  have e2 := srd_at (p ++ (Vm.enc k.size ++ k.data.toList)) r hok
  rw [hkl] at e1
  have eq1 : p ++ (Vm.enc k.size ++ k.data.toList) ++ (sbytes n t ++ r) = p ++ (dbytes (k, n, t) ++ r) := by simp [dbytes]
  rw [eq1] at e1 e2
  unfold rdD
  rw [e1]
  simp only
  rw [show ((p.length + (Vm.enc k.size).length + k.size : Nat) : Int) = ((p ++ (Vm.enc k.size ++ k.data.toList)).length : Int) by simp; omega, e2]
  simp [dbytes]
  omega
theorem goL_back : ∀ (l acc : List De) (p r : List UInt8), (∀ d ∈ l, okD d = true) → goL (p ++ (pbody l ++ r)) l.length acc p.length = some (acc ++ l, p.length + (pbody l).length)
  | [], acc, p, r, _ => by simp [goL, pbody]
  | d :: l, acc, p, r, h => by
    have e1 := rdD_back p (pbody l ++ r) (h d (by simp))
    have e2 := goL_back l (acc ++ [d]) (p ++ dbytes d) r (fun x hx => h x (List.mem_cons_of_mem _ hx))
    have eq1 : p ++ (pbody (d :: l) ++ r) = p ++ (dbytes d ++ (pbody l ++ r)) := by rw [pbody_cons]; simp
    have eq2 : p ++ dbytes d ++ (pbody l ++ r) = p ++ (dbytes d ++ (pbody l ++ r)) := by simp
    rw [eq2] at e2
    rw [eq1, List.length_cons, goL_step e1, show p.length + (dbytes d).length = (p ++ dbytes d).length by simp, e2, pbody_cons]
    simp
    omega
theorem prD_back (l : List De) (p r : List UInt8) (h : chkD l = true) : prD (p ++ pbV l ++ r) (p.length : Int) = some (l, p.length + (pbV l).length) := by
  obtain ⟨h24, hs⟩ := chkD_parts h
  have hp : pbV l = Vm.enc l.length ++ pbody l := by simp [pbV, h]
  rw [hp]
  have e1 := rd_back p (pbody l ++ r) l.length (by omega)
  have e2 := goL_back l [] (p ++ Vm.enc l.length) r hs.1
  have eq1 : p ++ Vm.enc l.length ++ (pbody l ++ r) = p ++ (Vm.enc l.length ++ pbody l) ++ r := by simp
  rw [eq1] at e1 e2
  unfold prD
  rw [e1]
  simp only
  rw [if_neg (by omega), show p.length + (Vm.enc l.length).length = (p ++ Vm.enc l.length).length by simp, e2, finL, List.nil_append, if_pos hs]
  simp
  omega
end Go.Proofs.Ytplpeokmhomojaa
/- What past.readDep answers. -/
namespace Go.Proofs.Ytplpeokmhomojaa
open Go.RowKit
set_option linter.unusedVariables false
set_option linter.unusedSimpArgs false

def rdDV : Option (De × Nat) → Value
  | none => .tuple #[.agg #[.string ⟨#[]⟩, .int .i64 0, .int .i64 0], .int .i64 0, .bool false]
  | some (d, e) => .tuple #[.agg #[.string d.1, .int .i64 d.2.1, .int .i64 d.2.2], .int .i64 (e : Int), .bool true]

set_option maxRecDepth 100000 in
set_option maxHeartbeats 3200000 in
theorem readDep_any (s : ByteArray) (at_ : Int) (w : World) (hs : s.size ≤ 9223372036854775807) :
    Calls Try.prog 64 #[.string s, .int .i64 at_] w fun e w' => e = .returned (rdDV (rdD (s.size : Int) s.data.toList at_)) ∧ Below w.heap.size w w' := by
  have hb0 : Below w.heap.size w (w.alloc (.cells #[.string ⟨#[]⟩, .int .i64 0, .int .i64 0] 26)) := balloc (Below.refl _ _) _
  have hD0 := VarD.new w ⟨#[]⟩ 0 0 26
  have hrt := fun W => readText_any s at_ (s.size : Int) W hs (by omega)
  cases h : rdt s.data.toList at_ (s.size : Int) with
  | none =>
    have he : rdD (s.size : Int) s.data.toList at_ = none := by simp [rdD, h]
    rw [he]
    rw [h, rdtV] at hrt
    clear h he
    go_enter Try.func64, Try.ntmps64
    go_wp2_with fail
    refine (hrt _).mono ?_
    rintro e w1 ⟨rfl, rfl⟩
    go_wp2
    refine bodyPost_ret (v := rdDV none) (by simp [results, Try.results64, go_sem, rdDV]) rfl ⟨rfl, balloc (Below.refl _ w) _⟩
  | some x =>
    obtain ⟨k, m⟩ := x
    have hsr := fun W => sread_any s (m : Int) W hs
    rw [h, rdtV] at hrt
    cases h2 : Sm.rdS (rd s.data.toList) (m : Int) with
    | none =>
      have he : rdD (s.size : Int) s.data.toList at_ = none := by simp [rdD, h, h2]
      rw [he]
      rw [h2, srV] at hsr
      clear h h2 he
      go_enter Try.func64, Try.ntmps64
      go_wp2_with fail
      refine (hrt _).mono ?_
      rintro e w1 ⟨rfl, rfl⟩
      go_wp2_with fail
      refine (hsr _).mono ?_
      rintro e w2 ⟨rfl, hb2⟩
      have hbel := bstep hb0 hb2
      have hD2 := hD0.keep hb2
      have hb3 : Below w.heap.size w (w2.alloc (.cells #[.int .i64 0, .int .i64 0] 24)) := balloc hbel _
      have hD3 := hD2.keep (balloc (Below.refl _ w2) (.cells #[.int .i64 0, .int .i64 0] 24))
      obtain ⟨p0, p1, p2, f0, f1, f2⟩ := id hD3
      have HD := Lib.hid hD3
      clear hD2 hD3 hD0 hb0 hb2 hbel
      go_wp2
      have hv := HD.out.put ⟨#[]⟩ 0 0
      have r0 := hv.c0
      have r1 := hv.c1
      have r2 := hv.c2
      refine bodyPost_ret (v := rdDV none) (by simp [results, Try.results64, go_sem, rdDV, r0, r1, r2]) rfl ⟨rfl, below_put3 hb3 (Nat.le_refl _) _ _ _⟩
    | some y =>
      obtain ⟨⟨n, t⟩, e0⟩ := y
      have he : rdD (s.size : Int) s.data.toList at_ = some ((⟨k.toArray⟩, n, t), e0) := by simp [rdD, h, h2]
      rw [he]
      rw [h2, srV] at hsr
      clear h h2 he
      generalize (⟨k.toArray⟩ : ByteArray) = K at hrt ⊢
      dsimp only at hsr
      go_enter Try.func64, Try.ntmps64
      go_wp2_with fail
      refine (hrt _).mono ?_
      rintro e w1 ⟨rfl, rfl⟩
      go_wp2_with fail
      refine (hsr _).mono ?_
      rintro e w2 ⟨rfl, hb2⟩
      have hbel := bstep hb0 hb2
      have hD2 := hD0.keep hb2
      have hb3 : Below w.heap.size w (w2.alloc (.cells #[.int .i64 n, .int .i64 t] 24)) := balloc hbel _
      have hD3 := hD2.keep (balloc (Below.refl _ w2) (.cells #[.int .i64 n, .int .i64 t] 24))
      obtain ⟨p0, p1, p2, f0, f1, f2⟩ := id hD3
      have HD := Lib.hid hD3
      clear hD2 hD3 hD0 hb0 hb2 hbel
      go_wp2
      have hv := HD.out.put K n t
      have r0 := hv.c0
      have r1 := hv.c1
      have r2 := hv.c2
      refine bodyPost_ret (v := rdDV (some ((K, n, t), e0))) (by simp [results, Try.results64, go_sem, rdDV, r0, r1, r2]) rfl ⟨rfl, below_put3 hb3 (Nat.le_refl _) _ _ _⟩
end Go.Proofs.Ytplpeokmhomojaa
/- What past.Read answers. -/
namespace Go.Proofs.Ytplpeokmhomojaa
open Go.RowKit
set_option linter.unusedVariables false
set_option linter.unusedSimpArgs false

theorem ba_size_list' (S : ByteArray) : S.data.toList.length = S.size := rfl
theorem fin_end {s : List UInt8} {acc : List De} {a : Nat} (h : Srt acc) : finL (goL s 0 acc a) = some (acc, a) := by
  rw [goL, finL, if_pos h]

set_option maxRecDepth 100000 in
set_option maxHeartbeats 6400000 in
theorem pread_any (s : ByteArray) (at_ : Int) (w : World) (hs : s.size ≤ 9223372036854775807) :
    Calls Try.prog 27 #[.string s, .int .i64 at_] w fun e w' => ∃ u, e = .returned (.tuple #[u, .int .i64 (prE (prD s.data.toList at_) : Int), .bool (prD s.data.toList at_).isSome]) ∧ DepAt w' u (prL (prD s.data.toList at_)) ∧ Below w.heap.size w w' := by
  have hrd := fun W => read_any s at_ W hs
  cases h : rd s.data.toList at_ with
  | none =>
    have he : prD s.data.toList at_ = none := by simp [prD, h]
    rw [he]
    rw [h, rdV] at hrd
    clear h he
    go_enter Try.func27, Try.ntmps27
    go_wp2
    go_step3
    go_wp2_with fail
    refine (hrd _).mono ?_
    rintro e w1 ⟨rfl, rfl⟩
    go_wp2
    rw [Exit.noGoto_ret]
    go_ret3
    exact ⟨_, rfl, DepAt.nil _, Below.refl _ _⟩
  | some x =>
    obtain ⟨n, e0⟩ := x
    obtain ⟨hn64, _, _, _⟩ := rd_some h
    rw [h, rdV] at hrd
    by_cases h24 : 24 < n
    · have he : prD s.data.toList at_ = none := by simp [prD, h, h24]
      rw [he]
      clear h he
      have hd : decide ((24 : Int) < (n : Int)) = true := by simp; omega
      have hdi : (24 : Int) < (n : Int) := by omega
      go_enter Try.func27, Try.ntmps27
      go_wp2
      go_step3
      go_wp2_with fail
      refine (hrd _).mono ?_
      rintro e w1 ⟨rfl, rfl⟩
      go_wp2
      rw [Exit.noGoto_ret]
      go_ret3
      exact ⟨_, rfl, DepAt.nil _, Below.refl _ _⟩
    · have he : prD s.data.toList at_ = finL (goL s.data.toList n [] e0) := by simp [prD, h, h24]
      rw [he]
      clear h he
      have hdi : ¬ (24 : Int) < (n : Int) := by omega
      generalize hR : finL (goL s.data.toList n [] e0) = R
      have HR := Lib.hid hR
      clear hR
      have hdep := fun (a : Int) W => readDep_any s a W hs
      have HANY := Lib.hid (rdD_any s.data.toList)
      rw [ba_size_list' s] at HANY
      generalize hsl : s.data.toList = sl at HR hdep HANY hrd ⊢
      have hslen : Hid (sl.length = s.size) := Lib.hid (by rw [← hsl]; rfl)
      clear hsl
      go_enter Try.func27, Try.ntmps27
      go_wp2
      go_step3
      go_wp2_with fail
      refine (hrd _).mono ?_
      rintro e w1 ⟨rfl, rfl⟩
      clear hrd
      go_wp2
      go_step3
      go_wp2
      go_loopw [4, 5, 25] (fun p en i wr => ∃ (k : Nat) (acc : List De) (a : Nat), k ≤ n ∧ i = .int .u64 k ∧ en = .int .i64 a ∧ acc.length = k ∧ Srt acc ∧ OwnD wr w.heap.size p acc ∧ finL (goL sl (n - k) acc a) = R ∧ Below w.heap.size w wr) (fun _ _ i _ => n - (intOf i).toNat)
      case atStart => exact ⟨0, [], e0, by omega, rfl, rfl, rfl, Srt.nil, OwnD.nil _ _, by rw [Nat.sub_zero]; exact HR.out, Below.refl _ _⟩
      case round =>
        obtain ⟨k, acc, a, hk, rfl, rfl, rfl, hst, ho, hfin, hbel⟩ := hrel
        have HST := Lib.hid hst
        have HF := Lib.hid hfin
        have hbs := hbel.size
        obtain ⟨sa, sc, rfl⟩ := ho.shape
        have HO := Lib.hid ho
        clear hst hfin ho
        have hw : IntKind.u64.wrap (acc.length : Int) = (acc.length : Int) := IntWalk.u64_in _ (by omega)
        by_cases hlt : acc.length < n
        · have hai : (acc.length : Int) < (n : Int) := by omega
          obtain ⟨m, hm⟩ : ∃ m, n - acc.length = m + 1 := ⟨n - acc.length - 1, by omega⟩
          rw [hm] at HF
          have HM := Lib.hid hm
          clear hm
          rcases HANY.out (a : Int) with ⟨h1, h2⟩ | ⟨d, e1, h1, hdz, h2⟩
          · have hcall := hdep (a : Int)
            rw [h1, rdDV] at hcall
            have HN : Hid (R = none) := Lib.hid (by rw [← HF.out, goL_none h2]; rfl)
            clear h1 h2 HF
            go_wp2_with fail
            refine (hcall _).mono ?_
            rintro e w2 ⟨rfl, hb2⟩
            clear hcall
            go_wp2
            try rw [Exit.noGoto_ret]
            go_ret3
            rw [HN.out]
            exact ⟨_, rfl, DepAt.nil _, balloc (bstep hbel hb2) _⟩
          · have hcall := hdep (a : Int)
            rw [h1, rdDV] at hcall
            have H2 := Lib.hid h2
            clear h1 h2
            have hdz2 : d.1.size ≤ 9223372036854775807 := by have := hslen.out; omega
            clear hdz
            have HNO : Hid (folD acc d = false → R = none) := Lib.hid (fun hf => by rw [← HF.out]; exact fin_no H2.out HST.out hf)
            have HYES : Hid (folD acc d = true → finL (goL sl m (acc ++ [d]) e1) = R ∧ Srt (acc ++ [d])) := Lib.hid (fun hf => ⟨by rw [← fin_yes H2.out hf]; exact HF.out, (srt_snoc acc d).2 ⟨HST.out, hf⟩⟩)
            clear H2
            obtain ⟨x, y, z⟩ := d
            dsimp only at hcall hdz2
            go_wp2_with fail
            refine (hcall _).mono ?_
            rintro e w2 ⟨rfl, hb2⟩
            clear hcall
            have hO2 : OwnD w2 w.heap.size (.slice sa acc.length sc) acc := OwnD.below HO.out hb2
            have hbel2 := bstep hbel hb2
            have hO3 := hO2.alloc (.cells #[.string x, .int .i64 y, .int .i64 z] 26)
            have hb3 : Below w.heap.size w (w2.alloc (.cells #[.string x, .int .i64 y, .int .i64 z] 26)) := balloc hbel2 _
            have hD3 := VarD.new w2 x y z 26
            have HO3 := Lib.hid hO3
            have hdi3 := DepAt.of_own hO3
            obtain ⟨_, _, hee, _, _, _, hdin⟩ := hdi3
            cases hee
            have HDI := Lib.hid hdin
            clear hdin hO2 hO3 hbel2 HO
            cases hf : folD acc (x, y, z) with
            | false =>
              have HN := Lib.hid (HNO.out hf)
              go_wp2_with fail
              refine (follows_at _ acc.length _ acc x y z false _ rfl (by omega) HDI.out hdz2 hf).mono ?_
              rintro e w3 ⟨rfl, hb4⟩
              clear hf
              go_wp2
              try rw [Exit.noGoto_ret]
              go_ret3
              rw [HN.out]
              exact ⟨_, rfl, DepAt.nil _, bstep hb3 hb4⟩
            | true =>
              have HY := Lib.hid (HYES.out hf)
              go_wp2_with fail
              refine (follows_at _ acc.length _ acc x y z true _ rfl (by omega) HDI.out hdz2 hf).mono ?_
              rintro e w3 ⟨rfl, hb4⟩
              clear hf
              have HO4 := Lib.hid (OwnD.below HO3.out hb4)
              have hbel4 := bstep hb3 hb4
              have hbs4 := hbel4.size
              obtain ⟨p0, p1, p2, _, _, _⟩ := hD3.keep hb4
              clear hD3 hb4 hb3
              go_wp2_with (at_builtin; refine wp_pushD (wr := w3) rfl _ _ rfl w.heap.size (.slice sa acc.length sc) acc x y z rfl HO4.out rfl (by omega) hbs4 ?_; intro g gcap w4 ho4 hb5 hk4 hg4)
              go_roundw
              case rel => exact ⟨acc.length + 1, acc ++ [(x, y, z)], e1, by omega, by go_num, rfl, by simp, HY.out.2, ho4, by rw [show n - (acc.length + 1) = m by have := HM.out; omega]; exact HY.out.1, hbel4.trans hb5⟩
              case measure => simp [intOf]; omega
        · obtain rfl : acc.length = n := by omega
          have HN : Hid (R = some (acc, a)) := Lib.hid (by rw [← HF.out, Nat.sub_self]; exact fin_end HST.out)
          go_wp2
          try rw [Exit.noGoto_ret]
          go_ret3
          rw [HN.out]
          exact ⟨_, rfl, DepAt.of_own HO.out, hbel⟩
end Go.Proofs.Ytplpeokmhomojaa
/- The value of a row of bytes, seven bits each; which rows are a number's bytes. Plain mathematics. -/
namespace Go.Proofs.Ytplpeokmhomojaa.Vm

def val : List UInt8 → Nat
  | [] => 0
  | b :: r => b.toNat % 128 + 128 * val r
theorem val_enc : ∀ (f n : Nat), n < 128 ^ f → val (enc n) = n
  | 0, n, h => by
    obtain rfl : n = 0 := by simpa using h
    rw [enc_lt (by omega)]
    rfl
  | f + 1, n, h => by
    by_cases c : n < 128
    · rw [enc_lt c]
      simp [val]
      omega
    · rw [enc_ge (by omega)]
      have ih := val_enc f (n / 128) (by rw [Nat.pow_succ] at h; exact Nat.div_lt_of_lt_mul (by rw [Nat.mul_comm]; exact h))
      simp only [val, ih, UInt8.toNat_ofNat']
      omega
theorem val_enc64 {n : Nat} (h : n < 18446744073709551616) : val (enc n) = n :=
  val_enc 10 n (by have : (18446744073709551616 : Nat) ≤ 128 ^ 10 := by decide
                   omega)
theorem val_snoc (l : List UInt8) (b : UInt8) : val (l ++ [b]) = val l + b.toNat % 128 * 128 ^ l.length := by
  induction l with
  | nil => simp [val]
  | cons c r ih =>
    simp only [List.cons_append, val, ih, List.length_cons, Nat.pow_succ]
    rw [Nat.mul_add, ← Nat.add_assoc]
    congr 1
    rw [Nat.mul_comm (128 ^ r.length) 128, Nat.mul_left_comm]
/-- All bytes but the last go on. -/
theorem enc_shape : ∀ (f n : Nat), n < 128 ^ f → ∀ i (h : i < (enc n).length), (enc n)[i].toNat < 128 ↔ i + 1 = (enc n).length
  | 0, n, h => by
    obtain rfl : n = 0 := by simpa using h
    intro i hi
    rw [enc_lt (by omega)] at hi
    obtain rfl : i = 0 := by simpa using hi
    simp only [enc_lt (n := 0) (by omega)]
    simp
  | f + 1, n, h => by
    intro i hi
    by_cases c : n < 128
    · simp only [enc_lt c] at hi ⊢
      obtain rfl : i = 0 := by simpa using hi
      simp
      omega
    · simp only [enc_ge (n := n) (by omega)] at hi ⊢
      have ih := enc_shape f (n / 128) (by rw [Nat.pow_succ] at h; exact Nat.div_lt_of_lt_mul (by rw [Nat.mul_comm]; exact h))
      cases i with
      | zero =>
        have hp := enc_pos (n / 128)
        simp only [List.getElem_cons_zero, List.length_cons, UInt8.toNat_ofNat']
        omega
      | succ i =>
        have := ih i (by simpa using hi)
        simp only [List.getElem_cons_succ, List.length_cons, this]
        omega
theorem enc_shape64 {n : Nat} (h : n < 18446744073709551616) (i : Nat) (hi : i < (enc n).length) : (enc n)[i].toNat < 128 ↔ i + 1 = (enc n).length :=
  enc_shape 10 n (by have : (18446744073709551616 : Nat) ≤ 128 ^ 10 := by decide
                     omega) i hi

/-- Where dec answers, the first byte that does not go on is the last one. -/
theorem dec_last {t : List UInt8} {m j : Nat} (h : dec 0 t = some (m, j)) : m < 18446744073709551616 ∧ j = (enc m).length ∧ 1 ≤ j ∧ j ≤ 10 ∧ j ≤ t.length ∧ t.take j = enc m ∧ ∀ i (hi : i < t.length), i < j → (t[i].toNat < 128 ↔ i + 1 = j) := by
  obtain ⟨h1, h2, h3⟩ := dec0_inv _ _ _ h
  have hj : j = (enc m).length := by rw [← h3]; simp; omega
  have hp := enc_pos m
  have h10 := enc_len10 h1
  refine ⟨h1, hj, by omega, by omega, h2, h3, fun i hi hij => ?_⟩
  have hs := enc_shape64 h1 i (by omega)
  have e : (enc m)[i]'(by omega) = t[i] := by
    have : (t.take j)[i]'(by simp; omega) = t[i] := by simp
    rw [← this]
    congr 1
    exact h3.symm
  rw [← e, hs, hj]

/-- The first k bytes go on, the next one does not: the number, if there is one, is their value. -/
theorem dec_at {t : List UInt8} {k : Nat} (hk : k < t.length) (hgo : ∀ j (hj : j < t.length), j < k → 128 ≤ t[j].toNat) (hlast : t[k].toNat < 128) :
    dec 0 t = if enc (val (t.take (k + 1)) % 18446744073709551616) = t.take (k + 1) then some (val (t.take (k + 1)) % 18446744073709551616, k + 1) else none := by
  split
  · rename_i he
    have hn : val (t.take (k + 1)) % 18446744073709551616 < 18446744073709551616 := Nat.mod_lt _ (by omega)
    have hd := dec0_enc _ (t.drop (k + 1)) hn
    rw [he, List.take_append_drop] at hd
    rw [hd]
    congr 2
    simp
    omega
  · rename_i he
    cases h : dec 0 t with
    | none => rfl
    | some x =>
      obtain ⟨m, j⟩ := x
      obtain ⟨h1, h2, h3, h4, h5, h6, h7⟩ := dec_last h
      have hj : j = k + 1 := by
        rcases Nat.lt_trichotomy j (k + 1) with hlt | heq | hgt
        · have a := (h7 (j - 1) (by omega) (by omega)).2 (by omega)
          have b := hgo (j - 1) (by omega) (by omega)
          omega
        · exact heq
        · have a := (h7 k hk (by omega)).1 hlast
          omega
      subst hj
      exfalso
      apply he
      rw [h6, val_enc64 h1, Nat.mod_eq_of_lt h1]
/-- No byte of the first ten ends a number. -/
theorem dec_never {t : List UInt8} {k : Nat} (hk : k = 10 ∨ t.length ≤ k) (hgo : ∀ j (hj : j < t.length), j < k → 128 ≤ t[j].toNat) : dec 0 t = none := by
  cases h : dec 0 t with
  | none => rfl
  | some x =>
    obtain ⟨m, j⟩ := x
    obtain ⟨h1, h2, h3, h4, h5, h6, h7⟩ := dec_last h
    have a := (h7 (j - 1) (by omega) (by omega)).2 (by omega)
    have b := hgo (j - 1) (by omega) (by omega)
    omega

end Go.Proofs.Ytplpeokmhomojaa.Vm
