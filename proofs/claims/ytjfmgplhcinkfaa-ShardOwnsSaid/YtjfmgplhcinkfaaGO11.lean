/- Texts of this proof, one behind the other: ChMath, KeysRng, KeysFidx, KeysFind, ShMath. -/
import Derived.Test.YtjfmgplhcinkfaaGO10
/- Chains of versions: plain mathematics. -/
namespace Go.Proofs.Ytjfmgplhcinkfaa
open Go.RowKit
set_option linter.unusedVariables false
set_option linter.unusedSimpArgs false

theorem rev_ind {α : Type} {P : List α → Prop} (h0 : P []) (h1 : ∀ l x, P l → P (l ++ [x])) (l : List α) : P l := by
  have key : ∀ r : List α, P r.reverse := by
    intro r
    induction r with
    | nil => exact h0
    | cons x r ih => rw [List.reverse_cons]; exact h1 _ _ ih
  have := key l.reverse
  rwa [List.reverse_reverse] at this

/-- How many there are up to the last one that p takes, and that one. -/
def upN (p : Vw → Bool) (l : List Vw) : Nat := l.length - l.reverse.findIdx p
/-- The last one that p takes. -/
def lastP (p : Vw → Bool) (l : List Vw) : Option Vw := (l.filter p).getLast?
section
variable {p K : Vw → Bool} {l : List Vw} {x y : Vw}
theorem upN_nil : upN p [] = 0 := rfl
theorem upN_yes (h : p x = true) : upN p (l ++ [x]) = l.length + 1 := by
  unfold upN
  rw [List.reverse_append]
  simp [List.findIdx_cons, h]
theorem upN_no (h : p x = false) : upN p (l ++ [x]) = upN p l := by
  unfold upN
  rw [List.reverse_append]
  simp [List.findIdx_cons, h]
theorem upN_le : upN p l ≤ l.length := by
  unfold upN
  omega
theorem upN_take_yes {q : Nat} (hq : q < l.length) (h : p l[q] = true) : upN p (l.take (q + 1)) = q + 1 := by
  rw [List.take_succ_eq_append_getElem hq, upN_yes h, List.length_take]
  omega
theorem upN_take_no {q : Nat} (hq : q < l.length) (h : p l[q] = false) : upN p (l.take (q + 1)) = upN p (l.take q) := by
  rw [List.take_succ_eq_append_getElem hq, upN_no h]
theorem lastP_yes (h : p x = true) : lastP p (l ++ [x]) = some x := by simp [lastP, List.filter_append, h]
theorem lastP_no (h : p x = false) : lastP p (l ++ [x]) = lastP p l := by simp [lastP, List.filter_append, h]
theorem take_upN : (l.take (upN p l)).getLast? = lastP p l := by
  induction l using rev_ind with
  | h0 => rfl
  | h1 l x ih =>
    cases h : p x with
    | true => rw [upN_yes h, lastP_yes h, List.take_of_length_le (by simp)]; simp
    | false => rw [upN_no h, lastP_no h, List.take_append_of_le_length upN_le, ih]
theorem drop_upN : ∀ b ∈ l.drop (upN p l), p b = false := by
  induction l using rev_ind with
  | h0 => simp
  | h1 l x ih =>
    cases h : p x with
    | true => rw [upN_yes h, List.drop_of_length_le (by simp)]; simp
    | false =>
      rw [upN_no h, List.drop_append_of_le_length upN_le]
      intro b hb
      rcases List.mem_append.1 hb with hb | hb
      · exact ih b hb
      · simp at hb
        rw [hb]
        exact h
theorem lastP_some (h : lastP p l = some y) : y ∈ l ∧ p y = true := by
  have := List.mem_of_getLast? h
  exact List.mem_filter.1 this
theorem lastP_none (h : lastP p l = none) : ∀ x ∈ l, p x = false := by
  unfold lastP at h
  rw [List.getLast?_eq_none_iff, List.filter_eq_nil_iff] at h
  intro x hx
  simpa using h x hx
theorem lastP_split (h : lastP p l = some y) : ∃ A B, l = A ++ y :: B ∧ p y = true ∧ ∀ b ∈ B, p b = false := by
  induction l using rev_ind with
  | h0 => simp [lastP] at h
  | h1 l x ih =>
    cases e : p x with
    | true =>
      rw [lastP_yes e] at h
      cases h
      exact ⟨l, [], rfl, e, by simp⟩
    | false =>
      rw [lastP_no e] at h
      obtain ⟨A, B, rfl, h1, h2⟩ := ih h
      refine ⟨A, B ++ [x], by simp, h1, fun b hb => ?_⟩
      rcases List.mem_append.1 hb with hb | hb
      · exact h2 b hb
      · simp at hb
        rw [hb]
        exact e
theorem lastP_of_split {A B : List Vw} (h : l = A ++ y :: B) (hy : p y = true) (hB : ∀ b ∈ B, p b = false) : lastP p l = some y := by
  subst h
  have : B.filter p = [] := List.filter_eq_nil_iff.2 (fun b hb => by simp [hB b hb])
  simp [lastP, List.filter_append, List.filter_cons, hy, this]
theorem getLast_filter (h : ∀ y, l.getLast? = some y → K y = true) : (l.filter K).getLast? = l.getLast? := by
  cases e : l.getLast? with
  | none =>
    rw [List.getLast?_eq_none_iff] at e
    subst e
    rfl
  | some y =>
    have hy := h y e
    obtain ⟨ys, rfl⟩ := List.getLast?_eq_some_iff.1 e
    simp [List.filter_append, hy]
theorem lastP_filter (h : ∀ y, lastP p l = some y → K y = true) : lastP p (l.filter K) = lastP p l := by
  unfold lastP at *
  rw [List.filter_filter]
  have : l.filter (fun a => p a && K a) = (l.filter p).filter K := by rw [List.filter_filter]; congr 1; funext a; exact Bool.and_comm _ _
  rw [this]
  exact getLast_filter h
end

/-- Not behind a stamp; of a stamp. -/
def notA (s : Int × Int) (x : Vw) : Bool := !Sm.less s x.1.st
def isS (s : Int × Int) (x : Vw) : Bool := decide (x.1.st = s)
/-- Is it the one? -/
def isW (o : Option Vw) (x : Vw) : Bool := match o with | none => false | some h => sameW x.1 h.1
/-- Is it kept? -/
def keepB (xs : List Vw) (s : Int × Int) (pins : List (Int × Int)) (x : Vw) : Bool :=
  isW xs.getLast? x || decide (x.1.st ∈ pins) || !Sm.less x.1.st s || isW (lastP (notA s) xs) x
def cleanL (xs : List Vw) (s : Int × Int) (pins : List (Int × Int)) : List Vw := xs.filter (keepB xs s pins)
theorem isW_self (x : Vw) : isW (some x) x = true := sameW_self x.1

theorem less_le {a b c : Int × Int} (h : Sm.less a b = false) (k : Sm.less a c = true) : Sm.less b c = true := by
  rw [Sm.less_false] at h
  rw [Sm.less_iff] at *
  omega
theorem less_asymm {a b : Int × Int} (h : Sm.less a b = true) : Sm.less b a = false := by
  rw [Sm.less_iff] at h
  rw [Sm.less_false]
  omega
theorem less_total {a b : Int × Int} (h : Sm.less a b = false) (hne : a ≠ b) : Sm.less b a = true := by
  rw [Sm.less_false] at h
  rw [Sm.less_iff]
  rcases h with h | ⟨h1, h2⟩
  · exact .inl h
  · refine .inr ⟨h1.symm, ?_⟩
    have : a.2 ≠ b.2 := fun e => hne (Sm.pair_ext h1 e)
    omega
section
variable {c : List Vw} {s : Int × Int} {pins : List (Int × Int)}
theorem clean_head : (cleanL c s pins).getLast? = c.getLast? :=
  getLast_filter fun y hy => by
    unfold keepB
    rw [hy, isW_self]
    rfl
theorem clean_at {q : Int × Int} (hq : q ∈ pins) : lastP (isS q) (cleanL c s pins) = lastP (isS q) c :=
  lastP_filter fun y hy => by
    have := (lastP_some hy).2
    simp [isS] at this
    unfold keepB
    simp [this, hq]
theorem clean_below {t : Int × Int} (ht : Sm.less t s = false) : lastP (notA t) (cleanL c s pins) = lastP (notA t) c :=
  lastP_filter fun y hy => by
    unfold keepB
    cases e : Sm.less y.1.st s with
    | false => simp
    | true =>
      obtain ⟨A, B, h1, h2, h3⟩ := lastP_split hy
      have : lastP (notA s) c = some y := lastP_of_split h1 (by unfold notA; rw [less_asymm e]; rfl) (fun b hb => by
        have := h3 b hb
        unfold notA at this ⊢
        simp at this ⊢
        exact less_le ht this)
      rw [this, isW_self]
      simp
theorem clean_keep : keepB (cleanL c s pins) s pins = keepB c s pins := by
  funext x
  unfold keepB
  rw [clean_head, clean_below (Sm.less_self s)]
theorem clean_again : cleanL (cleanL c s pins) s pins = cleanL c s pins := by
  show (cleanL c s pins).filter _ = _
  rw [clean_keep]
  unfold cleanL
  rw [List.filter_filter]
  congr 1
  funext x
  exact Bool.and_self _
theorem clean_len : (cleanL c s pins).length ≤ c.length := List.length_filter_le _ _
end

/-- What Check asks, one behind the other. -/
def chk1 : Option Vw → List Vw → Bool
  | _, [] => true
  | p, v :: r => okW v.1 && (match p with | none => true | some u => decide (u.1.key = v.1.key) && Sm.less u.1.st v.1.st) && chk1 (some v) r
/-- What the document's Check asks. -/
def chk2 (k : ByteArray) : Option Vw → List Vw → Bool
  | _, [] => true
  | p, v :: r => okW v.1 && decide (v.1.key = k) && (match p with | none => true | some u => Sm.less u.1.st v.1.st) && chk2 k (some v) r
theorem chk1_chk2 : ∀ (l : List Vw) (u : Vw), chk1 (some u) l = chk2 u.1.key (some u) l
  | [], u => rfl
  | v :: r, u => by
    unfold chk1 chk2
    by_cases h : u.1.key = v.1.key
    · rw [chk1_chk2 r v, h]
      cases okW v.1 <;> simp [h]
    · have h' : ¬ v.1.key = u.1.key := fun e => h e.symm
      simp [h, h']
def hdK (l : List Vw) : ByteArray := match l with | [] => ⟨#[]⟩ | x :: _ => x.1.key
theorem chk_same (l : List Vw) : chk1 none l = chk2 (hdK l) none l := by
  cases l with
  | nil => rfl
  | cons v r =>
    unfold chk1 chk2 hdK
    rw [chk1_chk2 r v]
    simp

def kA : ByteArray := ⟨#[97]⟩
abbrev riseW (xs : List Vw) : Prop := xs.Pairwise fun a b => Sm.less a.1.st b.1.st = true
/-- A chain of key a. -/
structure Chn (xs : List Vw) : Prop where
  ok : ∀ x ∈ xs, okW x.1 = true
  key : ∀ x ∈ xs, x.1.key = kA
  rise : riseW xs
theorem Chn.nil : Chn [] := ⟨by simp, by simp, List.Pairwise.nil⟩
theorem Chn.filter {xs : List Vw} (h : Chn xs) (K : Vw → Bool) : Chn (xs.filter K) :=
  ⟨fun x hx => h.ok x ((List.mem_filter.1 hx).1), fun x hx => h.key x ((List.mem_filter.1 hx).1), h.rise.filter K⟩
theorem chk1_chn : ∀ (l : List Vw) (u : Vw), (∀ x ∈ l, okW x.1 = true) → (∀ x ∈ l, x.1.key = kA) → u.1.key = kA → riseW (u :: l) → chk1 (some u) l = true
  | [], u, _, _, _, _ => rfl
  | v :: r, u, h1, h2, h3, h4 => by
    rw [riseW, List.pairwise_cons] at h4
    unfold chk1
    rw [h1 v (by simp), chk1_chn r v (fun x hx => h1 x (by simp [hx])) (fun x hx => h2 x (by simp [hx])) (h2 v (by simp)) h4.2]
    simp [h4.1 v (by simp), h3, h2 v (by simp)]
theorem Chn.chk {xs : List Vw} (h : Chn xs) : chk1 none xs = true := by
  cases xs with
  | nil => rfl
  | cons v r =>
    unfold chk1
    rw [h.ok v (by simp), chk1_chn r v (fun x hx => h.ok x (by simp [hx])) (fun x hx => h.key x (by simp [hx])) (h.key v (by simp)) h.rise]
    simp
/-- One put between. -/
theorem Chn.mid {A B : List Vw} {x : Vw} (h : Chn (A ++ B)) (hx : okW x.1 = true) (hk : x.1.key = kA) (hA : ∀ a ∈ A, Sm.less a.1.st x.1.st = true) (hB : ∀ b ∈ B, Sm.less x.1.st b.1.st = true) : Chn (A ++ x :: B) := by
  have hr := h.rise
  rw [riseW, List.pairwise_append] at hr
  refine ⟨fun y hy => ?_, fun y hy => ?_, ?_⟩
  · rw [List.mem_append, List.mem_cons] at hy
    rcases hy with hy | rfl | hy
    · exact h.ok y (by simp [hy])
    · exact hx
    · exact h.ok y (by simp [hy])
  · rw [List.mem_append, List.mem_cons] at hy
    rcases hy with hy | rfl | hy
    · exact h.key y (by simp [hy])
    · exact hk
    · exact h.key y (by simp [hy])
  · rw [riseW, List.pairwise_append, List.pairwise_cons]
    refine ⟨hr.1, ⟨hB, hr.2.1⟩, fun a ha b hb => ?_⟩
    rcases List.mem_cons.1 hb with rfl | hb
    · exact hA a ha
    · exact hr.2.2 a ha b hb

/-- What Put makes of a row. -/
def fitK (xs : List Vw) (x : Vw) : Bool := match xs with | [] => true | y :: _ => decide (y.1.key = x.1.key)
def putOk (xs : List Vw) (x : Vw) : Bool := !(lastP (isS x.1.st) xs).isSome && okW x.1 && fitK xs x
def midC (xs : List Vw) (x : Vw) : List Vw := xs.take (upN (notA x.1.st) xs) ++ x :: xs.drop (upN (notA x.1.st) xs)
def putC (xs : List Vw) (x : Vw) : List Vw := if putOk xs x = true then midC xs x else xs
/-- What the document's Put makes of it. -/
def gtW (x y : Vw) : Bool := Sm.less x.1.st y.1.st
def insB (x : Vw) (l : List Vw) : List Vw := l.takeWhile (fun y => !gtW x y) ++ x :: l.dropWhile (fun y => !gtW x y)
def putOkR (xs : List Vw) (x : Vw) : Bool := okW x.1 && fitK xs x && !xs.any (isS x.1.st)
def putR (xs : List Vw) (x : Vw) : List Vw := if putOkR xs x = true then insB x xs else xs
/-- The row that the document's Put has made out of the first ones. -/
def outR (x : Vw) (l : List Vw) : List Vw := if l.any (gtW x) = true then insB x l else l
theorem insB_any {x y : Vw} {l : List Vw} (h : l.any (gtW x) = true) : insB x (l ++ [y]) = insB x l ++ [y] := by
  unfold insB
  obtain ⟨z, hz, hg⟩ := List.any_eq_true.1 h
  have hne : ¬ ∀ a ∈ l, (fun y => !gtW x y) a = true := fun k => by have := k z hz; simp [hg] at this
  have h1 : (l ++ [y]).takeWhile (fun y => !gtW x y) = l.takeWhile (fun y => !gtW x y) := by
    clear h hz
    induction l with
    | nil => exact absurd (by simp) hne
    | cons a l ih =>
      by_cases e : gtW x a = true
      · simp [List.takeWhile_cons, e]
      · have e' : gtW x a = false := by simpa using e
        simp [List.takeWhile_cons, e']
        refine ih (fun k => hne (fun b hb => ?_))
        rcases List.mem_cons.1 hb with rfl | hb
        · simp [e']
        · exact k b hb
  have h2 : (l ++ [y]).dropWhile (fun y => !gtW x y) = l.dropWhile (fun y => !gtW x y) ++ [y] := by
    clear h hz h1
    induction l with
    | nil => exact absurd (by simp) hne
    | cons a l ih =>
      by_cases e : gtW x a = true
      · simp [List.dropWhile_cons, e]
      · have e' : gtW x a = false := by simpa using e
        simp [List.dropWhile_cons, e']
        refine ih (fun k => hne (fun b hb => ?_))
        rcases List.mem_cons.1 hb with rfl | hb
        · simp [e']
        · exact k b hb
  rw [h1, h2]
  simp
theorem insB_none {x : Vw} {l : List Vw} (h : l.any (gtW x) = false) : insB x l = l ++ [x] := by
  unfold insB
  have hall : ∀ a ∈ l, (fun y => !gtW x y) a = true := fun a ha => by
    have := List.any_eq_false.1 h a ha
    simp at this
    simp [this]
  have h1 := List.takeWhile_append_of_pos (l₂ := []) hall
  have h2 := List.dropWhile_append_of_pos (l₂ := []) hall
  rw [List.append_nil] at h1 h2
  rw [h1, h2]
  simp
theorem outR_nil (x : Vw) : outR x [] = [] := rfl
/-- One round: the put one, if it is its turn, then the row's own. -/
theorem outR_any {x y : Vw} {l : List Vw} (h : l.any (gtW x) = true) : outR x (l ++ [y]) = outR x l ++ [y] := by
  unfold outR
  rw [List.any_append, h, if_pos rfl, Bool.true_or, if_pos rfl, insB_any h]
theorem outR_now {x y : Vw} {l : List Vw} (h : l.any (gtW x) = false) (hy : gtW x y = true) : outR x (l ++ [y]) = outR x l ++ [x] ++ [y] := by
  unfold outR
  rw [List.any_append, h]
  simp [hy, insB]
  have hall : ∀ a ∈ l, (fun y => !gtW x y) a = true := fun a ha => by
    have := List.any_eq_false.1 h a ha
    simp at this
    simp [this]
  rw [List.takeWhile_append_of_pos hall, List.dropWhile_append_of_pos hall]
  simp [List.takeWhile_cons, List.dropWhile_cons, hy]
theorem outR_not {x y : Vw} {l : List Vw} (h : l.any (gtW x) = false) (hy : gtW x y = false) : outR x (l ++ [y]) = outR x l ++ [y] := by
  unfold outR
  rw [List.any_append, h]
  simp [hy]
theorem outR_end {x : Vw} {l : List Vw} : insB x l = if l.any (gtW x) = true then outR x l else outR x l ++ [x] := by
  unfold outR
  cases h : l.any (gtW x) with
  | true => simp
  | false => simp [insB_none h]
end Go.Proofs.Ytjfmgplhcinkfaa
/- Rows of ranges in memory. -/
namespace Go.Proofs.Ytjfmgplhcinkfaa
open Go.RowKit
set_option linter.unusedVariables false

theorem RngIn.below {w w' : World} {a : Option Addr} {rs : List (ByteArray × ByteArray)} (h : RngIn w a rs) (hb : Below w.heap.size w w') : RngIn w' a rs := by
  intro i hi
  obtain ⟨b, off, rfl, hlt, h0, h1⟩ := h i hi
  exact ⟨b, off, rfl, by have := hb.size; omega, kcell hb hlt h0, kcell hb hlt h1⟩

/-- The texts of ranges. -/
def tls (rs : List (ByteArray × ByteArray)) : List (List UInt8 × List UInt8) := rs.map fun r => (r.1.data.toList, r.2.data.toList)
theorem tls_len (rs : List (ByteArray × ByteArray)) : (tls rs).length = rs.length := by simp [tls]
theorem tls_get (rs : List (ByteArray × ByteArray)) (i : Nat) (h : i < rs.length) : (tls rs)[i]'(by rw [tls_len]; exact h) = (rs[i].1.data.toList, rs[i].2.data.toList) := by simp [tls]
theorem tls_take (rs : List (ByteArray × ByteArray)) (k : Nat) : (tls rs).take k = tls (rs.take k) := by simp [tls, List.map_take]

end Go.Proofs.Ytjfmgplhcinkfaa
/- The place of the first range that has a key. -/
namespace Go.Proofs.Ytjfmgplhcinkfaa
open Go.RowKit
set_option linter.unusedVariables false

namespace Km
def fidx (rs : List (List UInt8 × List UInt8)) (key : List UInt8) : Int := match rs.findIdx? (fun r => has r.1 r.2 key) with | none => -1 | some i => i
theorem fidx_hit {rs : List (List UInt8 × List UInt8)} {key : List UInt8} {k : Nat} (hk : k < rs.length) (h : ∀ j (hj : j < rs.length), j < k → has rs[j].1 rs[j].2 key = false) (hh : has rs[k].1 rs[k].2 key = true) : fidx rs key = k := by
  unfold fidx
  have : rs.findIdx? (fun r => has r.1 r.2 key) = some k := by
    rw [List.findIdx?_eq_some_iff_getElem]
    refine ⟨hk, by simpa using hh, fun j hj => ?_⟩
    rw [h j (by omega) hj]
    simp
  rw [this]
theorem fidx_none {rs : List (List UInt8 × List UInt8)} {key : List UInt8} (h : ∀ j (hj : j < rs.length), has rs[j].1 rs[j].2 key = false) : fidx rs key = -1 := by
  unfold fidx
  have : rs.findIdx? (fun r => has r.1 r.2 key) = none := by
    rw [List.findIdx?_eq_none_iff]
    intro x hx
    obtain ⟨j, hj, rfl⟩ := List.getElem_of_mem hx
    exact h j hj
  rw [this]
end Km
end Go.Proofs.Ytjfmgplhcinkfaa
/- What keys.Find answers, and the document's. -/
namespace Go.Proofs.Ytjfmgplhcinkfaa
open Go.RowKit
set_option linter.unusedVariables false

set_option maxRecDepth 100000 in
theorem findIn_any (f t key : ByteArray) (B : Nat) (w : World) (hB : B < w.heap.size) (hc : w.cell? ⟨B, 0, none⟩ = some (.string key)) :
    Calls Try.prog 59 #[.agg #[.string f, .string t], .pointer (some ⟨B, 0, none⟩)] w fun e w' => e = .returned (.bool (Km.has f.data.toList t.data.toList key.data.toList)) ∧ Below w.heap.size w w' := by
  have hne : B ≠ w.heap.size := by omega
  have hc1 : ∀ o, (w.alloc o).cell? ⟨B, 0, none⟩ = some (.string key) := fun o => (((Below.refl _ w).alloc (Nat.le_refl _) o).cell (p := ⟨B, 0, none⟩) hB).trans hc
  go_enter Try.func59, Try.ntmps59
  go_wp2_with fail
  refine (has_any f t key _).mono ?_
  rintro e w1 ⟨rfl, hb⟩
  generalize hx : Km.has f.data.toList t.data.toList key.data.toList = x
  have HX := Lib.hid hx
  clear hx
  go_wp2
  go_ret
  exact ⟨ret_bool HX.out.symm, (balloc (Below.refl _ w) _).trans (hb.mono (by simp))⟩

set_option maxRecDepth 100000 in
set_option maxHeartbeats 800000 in
theorem indexFunc_any (a : Option Addr) (cap : Nat) (rs : List (ByteArray × ByteArray)) (key : ByteArray) (B : Nat) (w : World) (hl : rs.length ≤ 100) (hr : RngIn w a rs) (hB : B < w.heap.size) (hc : w.cell? ⟨B, 0, none⟩ = some (.string key)) :
    Calls Try.prog 58 #[.slice a rs.length cap, .func (.func 59) #[] #[.pointer (some ⟨B, 0, none⟩)]] w fun e w' => e = .returned (.int .i64 (Km.fidx (tls rs) key.data.toList)) ∧ Below w.heap.size w w' := by
  have HR := Lib.hid hr
  clear hr
  go_enter Try.func58, Try.ntmps58
  go_wp2
  go_loopw [8] (fun i wr => ∃ k : Nat, k ≤ rs.length ∧ i = .int .i64 k ∧ (∀ j (hj : j < (tls rs).length), j < k → Km.has (tls rs)[j].1 (tls rs)[j].2 key.data.toList = false) ∧ Below w.heap.size w wr) (fun i _ => rs.length - (intOf i).toNat)
  case atStart => exact ⟨0, by omega, rfl, (fun j hj h => by omega), Below.refl _ _⟩
  case round =>
    obtain ⟨k, hk, rfl, hall, hbel⟩ := hrel
    have HA := Lib.hid hall
    clear hall
    by_cases hlt : k < rs.length
    · obtain ⟨b, off, rfl, hbl, hc0, hc1⟩ := HR.out.below hbel k hlt
      have HK := Lib.hid (tls_get rs k hlt)
      generalize rs[k].1 = p at hc0 HK
      generalize rs[k].2 = q at hc1 HK
      go_wp2_with fail
      refine (findIn_any p q key B _ (by have := hbel.size; omega) (kcell hbel hB hc)).mono ?_
      rintro e w2 ⟨rfl, hb⟩
      generalize hx : Km.has p.data.toList q.data.toList key.data.toList = x
      have HX := Lib.hid hx
      clear hx
      cases x with
      | true =>
        go_wp2
        go_ret
        refine ⟨ret_int (Km.fidx_hit (by rw [tls_len]; exact hlt) HA.out ?_).symm, bstep hbel hb⟩
        rw [HK.out]
        exact HX.out
      | false =>
        go_wp2
        go_roundw
        case rel =>
          refine ⟨k + 1, by omega, by go_num, (fun j hj h => ?_), bstep hbel hb⟩
          by_cases e : j = k
          · subst e
            rw [HK.out]
            exact HX.out
          · exact HA.out j hj (by omega)
        case measure => simp [intOf]; omega
    · obtain rfl : k = rs.length := by omega
      go_wp2
      go_ret
      exact ⟨ret_int (Km.fidx_none (fun j hj => HA.out j hj (by rw [tls_len] at hj; exact hj))).symm, hbel⟩

set_option maxRecDepth 100000 in
set_option maxHeartbeats 800000 in
theorem find_any (a : Option Addr) (cap : Nat) (rs : List (ByteArray × ByteArray)) (key : ByteArray) (w : World) (hl : rs.length ≤ 100) (hr : RngIn w a rs) :
    Calls Try.prog 44 #[.slice a rs.length cap, .string key] w fun e w' => e = .returned (.int .i64 (Km.fidx (tls rs) key.data.toList)) ∧ Below w.heap.size w w' := by
  have hmf : ∀ (fn : Fn) (first cap : Array Value) (w : World), (Instr.makeFunc fn first cap).run Try.prog w = .ok (.func fn first cap) w := fun _ _ _ _ => rfl
  have hra : ∀ o, RngIn (w.alloc o) a rs := fun o => hr.below ((Below.refl _ w).alloc (Nat.le_refl _) o)
  have HRA := Lib.hid hra
  clear hra hr
  go_enter Try.func44, Try.ntmps44
  go_wp2_with fail
  refine (indexFunc_any a cap rs key w.heap.size _ hl (HRA.out _) (by simp) (by simp)).mono ?_
  rintro e w1 ⟨rfl, hb⟩
  generalize hx : Km.fidx (tls rs) key.data.toList = x
  have HX := Lib.hid hx
  clear hx
  go_wp2
  go_ret
  exact ⟨ret_int HX.out.symm, (balloc (Below.refl _ w) _).trans (hb.mono (by simp))⟩

set_option maxRecDepth 100000 in
set_option maxHeartbeats 800000 in
theorem refFind_any (a : Option Addr) (cap : Nat) (rs : List (ByteArray × ByteArray)) (key : ByteArray) (w : World) (hl : rs.length ≤ 100) (hr : RngIn w a rs) :
    Calls Try.prog 21 #[.slice a rs.length cap, .string key] w fun e w' => e = .returned (.int .i64 (Km.fidx (tls rs) key.data.toList)) ∧ Below w.heap.size w w' := by
  have HR := Lib.hid hr
  clear hr
  go_enter Try.func21, Try.ntmps21
  go_wp2
  go_loopw [5] (fun i wr => ∃ k : Nat, k ≤ rs.length ∧ i = .int .i64 k ∧ (∀ j (hj : j < (tls rs).length), j < k → Km.has (tls rs)[j].1 (tls rs)[j].2 key.data.toList = false) ∧ Below w.heap.size w wr) (fun i _ => rs.length - (intOf i).toNat)
  case atStart => exact ⟨0, by omega, rfl, (fun j hj h => by omega), Below.refl _ _⟩
  case round =>
    obtain ⟨k, hk, rfl, hall, hbel⟩ := hrel
    have HA := Lib.hid hall
    clear hall
    by_cases hlt : k < rs.length
    · obtain ⟨b, off, rfl, hbl, hc0, hc1⟩ := HR.out.below hbel k hlt
      have HK := Lib.hid (tls_get rs k hlt)
      generalize rs[k].1 = p at hc0 HK
      generalize rs[k].2 = q at hc1 HK
      go_wp2_with fail
      refine (refHas_any p q key _).mono ?_
      rintro e w2 ⟨rfl, hb⟩
      generalize hx : Km.has p.data.toList q.data.toList key.data.toList = x
      have HX := Lib.hid hx
      clear hx
      cases x with
      | true =>
        go_wp2
        go_ret
        refine ⟨ret_int (Km.fidx_hit (by rw [tls_len]; exact hlt) HA.out ?_).symm, bstep hbel hb⟩
        rw [HK.out]
        exact HX.out
      | false =>
        go_wp2
        go_roundw
        case rel =>
          refine ⟨k + 1, by omega, by go_num, (fun j hj h => ?_), bstep hbel hb⟩
          by_cases e : j = k
          · subst e
            rw [HK.out]
            exact HX.out
          · exact HA.out j hj (by omega)
        case measure => simp [intOf]; omega
    · obtain rfl : k = rs.length := by omega
      go_wp2
      go_ret
      exact ⟨ret_int (Km.fidx_none (fun j hj => HA.out j hj (by rw [tls_len] at hj; exact hj))).symm, hbel⟩
end Go.Proofs.Ytjfmgplhcinkfaa
/- What a shard keeps: plain mathematics. -/
namespace Go.Proofs.Ytjfmgplhcinkfaa
open Go.RowKit
set_option linter.unusedVariables false
set_option linter.unusedSimpArgs false

/-- A chain for each key. -/
abbrev Ch := ByteArray → List Vw
/-- The keys that have versions, in order. -/
def KeyL (F : Ch) (L : List ByteArray) : Prop := Km.rises (L.map bts) ∧ ∀ k, k ∈ L ↔ F k ≠ []
theorem bts_inj {a b : ByteArray} (h : bts a = bts b) : a = b := ba_inj h
theorem mem_bts {L : List ByteArray} {k : ByteArray} : bts k ∈ L.map bts ↔ k ∈ L := by
  rw [List.mem_map]
  exact ⟨fun ⟨s, hs, e⟩ => bts_inj e ▸ hs, fun h => ⟨k, h, rfl⟩⟩
theorem map_bts_inj : ∀ {L M : List ByteArray}, L.map bts = M.map bts → L = M
  | [], [], _ => rfl
  | [], _ :: _, h => by simp at h
  | _ :: _, [], h => by simp at h
  | a :: L, b :: M, h => by
    rw [List.map_cons, List.map_cons] at h
    injection h with h1 h2
    rw [bts_inj h1, map_bts_inj h2]
theorem rises_eq {L M : List ByteArray} (hl : Km.rises (L.map bts)) (hm : Km.rises (M.map bts)) (h : ∀ k, k ∈ L ↔ k ∈ M) : L = M := by
  refine map_bts_inj (Km.rises_uniq _ _ hl hm fun x => ?_)
  have := h ⟨x.toArray⟩
  rw [← mem_bts, ← mem_bts, bts_mk] at this
  exact this
theorem KeyL.uniq {F : Ch} {L M : List ByteArray} (h : KeyL F L) (h' : KeyL F M) : L = M := rises_eq h.1 h'.1 (fun k => (h.2 k).trans (h'.2 k).symm)
theorem compact_lenS (l : List (List UInt8)) : (Lib.compact l).length ≤ l.length := by
  unfold Lib.compact Lib.compactUpTo
  rw [List.length_map]
  have := List.length_filter_le (Lib.keeps l.toArray) (List.range l.length)
  simpa using this
theorem keyL_of {F : Ch} (X : List ByteArray) (h : ∀ k, k ∈ X ↔ F k ≠ []) : ∃ L, KeyL F L ∧ L.length ≤ X.length := by
  obtain ⟨h1, h2⟩ := Km.compact_sorted (X.map bts)
  have h3 := compact_lenS ((X.map bts).mergeSort fun x y => decide (x ≤ y))
  rw [List.length_mergeSort, List.length_map] at h3
  generalize Lib.compact ((X.map bts).mergeSort fun x y => decide (x ≤ y)) = bs at h1 h2 h3
  have hb : (bs.map fun x => (⟨x.toArray⟩ : ByteArray)).map bts = bs := by
    rw [List.map_map]
    conv => rhs; rw [← List.map_id bs]
    rfl
  refine ⟨bs.map fun x => ⟨x.toArray⟩, ⟨by rw [hb]; exact h1, fun k => ?_⟩, by rw [List.length_map]; exact h3⟩
  rw [← mem_bts, hb, h2, mem_bts, h]
theorem KeyL.nil : KeyL (fun _ => []) [] := ⟨List.Pairwise.nil, by simp⟩
def updF (F : Ch) (k : ByteArray) (c : List Vw) : Ch := fun d => if d = k then c else F d
theorem updF_same (F : Ch) (k : ByteArray) (c : List Vw) : updF F k c k = c := by simp [updF]
theorem updF_other (F : Ch) {k d : ByteArray} (c : List Vw) (h : d ≠ k) : updF F k c d = F d := by simp [updF, h]
theorem KeyL.upd {F : Ch} {L : List ByteArray} (h : KeyL F L) (k : ByteArray) {c : List Vw} (hc : c ≠ []) : ∃ M, KeyL (updF F k c) M ∧ M.length ≤ L.length + 1 := by
  refine keyL_of (k :: L) fun d => ?_
  rw [List.mem_cons]
  by_cases e : d = k
  · rw [e, updF_same]
    simp [hc]
  · rw [updF_other _ _ e, h.2]
    simp [e]
theorem KeyL.same {F F' : Ch} {L : List ByteArray} (h : KeyL F L) (e : ∀ k, F k = [] ↔ F' k = []) : KeyL F' L := ⟨h.1, fun k => (h.2 k).trans (not_congr (e k))⟩
/-- What is left of the keys. -/
def cutF (F : Ch) (p : ByteArray → Bool) : Ch := fun d => if p d = true then F d else []
theorem KeyL.cut {F : Ch} {L : List ByteArray} (h : KeyL F L) (p : ByteArray → Bool) : KeyL (cutF F p) (L.filter p) := by
  refine ⟨h.1.sublist ((List.filter_sublist (l := L)).map bts), fun k => ?_⟩
  rw [List.mem_filter, h.2]
  unfold cutF
  cases e : p k <;> simp
theorem KeyL.nodup {F : Ch} {L : List ByteArray} (h : KeyL F L) : (L.map bts).Nodup := rises_nodup h.1
theorem KeyL.nd {F : Ch} {L : List ByteArray} (h : KeyL F L) : L.Nodup := (List.pairwise_map.1 h.nodup).imp (fun h e => h (by rw [e]))
/-- The stamps that are pinned of a key. -/
def pinsOf (pins : List De) (k : ByteArray) : List (Int × Int) := (pins.filter fun d => decide (d.1 = k)).map (·.2)
theorem pinsOf_nil (k : ByteArray) : pinsOf [] k = [] := rfl
theorem pinsOf_snoc_same (pins : List De) (d : De) : pinsOf (pins ++ [d]) d.1 = pinsOf pins d.1 ++ [d.2] := by simp [pinsOf, List.filter_append]
theorem pinsOf_snoc_other (pins : List De) (d : De) {k : ByteArray} (h : d.1 ≠ k) : pinsOf (pins ++ [d]) k = pinsOf pins k := by simp [pinsOf, List.filter_append, h]
theorem pinsOf_mem {pins : List De} {k : ByteArray} {s : Int × Int} : s ∈ pinsOf pins k ↔ (k, s) ∈ pins := by
  simp only [pinsOf, List.mem_map, List.mem_filter, decide_eq_true_eq]
  constructor
  · rintro ⟨d, ⟨h1, h2⟩, rfl⟩
    rw [← h2]
    exact h1
  · intro h
    exact ⟨(k, s), ⟨h, rfl⟩, rfl⟩
theorem pinsOf_len (pins : List De) (k : ByteArray) : (pinsOf pins k).length ≤ pins.length := by
  unfold pinsOf
  rw [List.length_map]
  exact List.length_filter_le _ _
/-- What Clean leaves. -/
def cleanF (F : Ch) (s : Int × Int) (pins : List De) : Ch := fun k => cleanL (F k) s (pinsOf pins k)
theorem clean_ne {c : List Vw} {s : Int × Int} {pins : List (Int × Int)} : cleanL c s pins = [] ↔ c = [] := by
  have := clean_head (c := c) (s := s) (pins := pins)
  rw [← List.getLast?_eq_none_iff, this, List.getLast?_eq_none_iff]
/-- Those that are cleaned, of the first keys. -/
def inL (L : List ByteArray) (k : ByteArray) : Bool := L.any fun d => decide (d = k)
theorem inL_iff {L : List ByteArray} {k : ByteArray} : inL L k = true ↔ k ∈ L := by
  unfold inL
  rw [List.any_eq_true]
  exact ⟨fun ⟨d, h1, h2⟩ => by rw [← of_decide_eq_true h2]; exact h1, fun h => ⟨k, h, by simp⟩⟩
theorem inL_no {L : List ByteArray} {k : ByteArray} (h : k ∉ L) : ¬ inL L k = true := fun e => h (inL_iff.1 e)
def cleanI (F : Ch) (s : Int × Int) (pins : List De) (L : List ByteArray) (i : Nat) : Ch := fun k => if inL (L.take i) k = true then cleanL (F k) s (pinsOf pins k) else F k
theorem cleanI_zero (F : Ch) (s : Int × Int) (pins : List De) (L : List ByteArray) : cleanI F s pins L 0 = F := by
  funext k
  simp [cleanI, inL]
theorem cleanI_succ {F : Ch} {s : Int × Int} {pins : List De} {L : List ByteArray} (hn : L.Nodup) {i : Nat} (h : i < L.length) : cleanI F s pins L (i + 1) = updF (cleanI F s pins L i) L[i] (cleanL (F L[i]) s (pinsOf pins L[i])) ∧ cleanI F s pins L i L[i] = F L[i] := by
  have hni : L[i] ∉ L.take i := by
    intro hm
    obtain ⟨j, hj, e⟩ := List.getElem_of_mem hm
    rw [List.getElem_take] at e
    have hj' : j < i := by simp at hj; omega
    exact absurd e (List.pairwise_iff_getElem.1 hn j i (by omega) h hj')
  refine ⟨?_, by unfold cleanI; rw [if_neg (inL_no hni)]⟩
  funext k
  unfold cleanI updF
  rw [List.take_succ_eq_append_getElem h]
  dsimp only
  by_cases e : k = L[i]
  · rw [if_pos e, if_pos (inL_iff.2 (List.mem_append_right _ (by rw [e]; exact List.mem_singleton_self _))), e]
  · rw [if_neg e]
    by_cases hk : k ∈ L.take i
    · rw [if_pos (inL_iff.2 hk), if_pos (inL_iff.2 (List.mem_append_left _ hk))]
    · rw [if_neg (inL_no hk), if_neg (inL_no (fun hm => by
        rcases List.mem_append.1 hm with h1 | h1
        · exact hk h1
        · exact e (by simpa using h1)))]
theorem cleanI_all {F : Ch} {s : Int × Int} {pins : List De} {L : List ByteArray} (hk : KeyL F L) : cleanI F s pins L L.length = cleanF F s pins := by
  funext k
  unfold cleanI cleanF
  rw [List.take_length]
  by_cases h : k ∈ L
  · rw [if_pos (inL_iff.2 h)]
  · rw [if_neg (inL_no h)]
    have : F k = [] := by
      by_cases e : F k = []
      · exact e
      · exact absurd ((hk.2 k).2 e) h
    rw [this]
    rfl
/-- What Put leaves. -/
theorem midC_ne (c : List Vw) (x : Vw) : midC c x ≠ [] := by simp [midC]
def ownsK (R : List (ByteArray × ByteArray)) (k : ByteArray) : Bool := decide (0 ≤ Km.fidx (tls R) (bts k))
def putF (R : List (ByteArray × ByteArray)) (F : Ch) (x : Vw) : Ch := if ownsK R x.1.key && putOk (F x.1.key) x then updF F x.1.key (midC (F x.1.key) x) else F
end Go.Proofs.Ytjfmgplhcinkfaa
