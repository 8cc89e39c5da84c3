/- Chains of versions: plain mathematics. -/
import Derived.Test.YtfmedinhlmiaeaaGQ27
import Derived.Test.YtfmedinhlmiaeaaWireSame
namespace Go.Proofs.Ytfmedinhlmiaeaa
open Go.RowKit
set_option linter.unusedVariables false
set_option linter.unusedSimpArgs false

theorem rev_ind {α : Type} {P : List α → Prop} (h0 : P []) (h1 : ∀ l x, P l → P (l ++ [x])) (l : List α) : P l := by
  have key : ∀ r : List α, P r.reverse := by
    intro r
    induction r with
    | nil => exact h0
    | cons x r ih => rw [List.reverse_cons]; exact h1 _ _ ih
  have := key l.reverse
  rwa [List.reverse_reverse] at this

/-- How many there are up to the last one that p takes, and that one. -/
def upN (p : Vw → Bool) (l : List Vw) : Nat := l.length - l.reverse.findIdx p
/-- The last one that p takes. -/
def lastP (p : Vw → Bool) (l : List Vw) : Option Vw := (l.filter p).getLast?
section
variable {p K : Vw → Bool} {l : List Vw} {x y : Vw}
theorem upN_nil : upN p [] = 0 := rfl
theorem upN_yes (h : p x = true) : upN p (l ++ [x]) = l.length + 1 := by
  unfold upN
  rw [List.reverse_append]
  simp [List.findIdx_cons, h]
theorem upN_no (h : p x = false) : upN p (l ++ [x]) = upN p l := by
  unfold upN
  rw [List.reverse_append]
  simp [List.findIdx_cons, h]
theorem upN_le : upN p l ≤ l.length := by
  unfold upN
  omega
theorem upN_take_yes {q : Nat} (hq : q < l.length) (h : p l[q] = true) : upN p (l.take (q + 1)) = q + 1 := by
  rw [List.take_succ_eq_append_getElem hq, upN_yes h, List.length_take]
  omega
theorem upN_take_no {q : Nat} (hq : q < l.length) (h : p l[q] = false) : upN p (l.take (q + 1)) = upN p (l.take q) := by
  rw [List.take_succ_eq_append_getElem hq, upN_no h]
theorem lastP_yes (h : p x = true) : lastP p (l ++ [x]) = some x := by simp [lastP, List.filter_append, h]
theorem lastP_no (h : p x = false) : lastP p (l ++ [x]) = lastP p l := by simp [lastP, List.filter_append, h]
theorem take_upN : (l.take (upN p l)).getLast? = lastP p l := by
  induction l using rev_ind with
  | h0 => rfl
  | h1 l x ih =>
    cases h : p x with
    | true => rw [upN_yes h, lastP_yes h, List.take_of_length_le (by simp)]; simp
    | false => rw [upN_no h, lastP_no h, List.take_append_of_le_length upN_le, ih]
theorem drop_upN : ∀ b ∈ l.drop (upN p l), p b = false := by
  induction l using rev_ind with
  | h0 => simp
  | h1 l x ih =>
    cases h : p x with
    | true => rw [upN_yes h, List.drop_of_length_le (by simp)]; simp
    | false =>
      rw [upN_no h, List.drop_append_of_le_length upN_le]
      intro b hb
      rcases List.mem_append.1 hb with hb | hb
      · exact ih b hb
      · simp at hb
        rw [hb]
        exact h
theorem lastP_some (h : lastP p l = some y) : y ∈ l ∧ p y = true := by
  have := List.mem_of_getLast? h
  exact List.mem_filter.1 this
theorem lastP_none (h : lastP p l = none) : ∀ x ∈ l, p x = false := by
  unfold lastP at h
  rw [List.getLast?_eq_none_iff, List.filter_eq_nil_iff] at h
  intro x hx
  simpa using h x hx
theorem lastP_split (h : lastP p l = some y) : ∃ A B, l = A ++ y :: B ∧ p y = true ∧ ∀ b ∈ B, p b = false := by
  induction l using rev_ind with
  | h0 => simp [lastP] at h
  | h1 l x ih =>
    cases e : p x with
    | true =>
      rw [lastP_yes e] at h
      cases h
      exact ⟨l, [], rfl, e, by simp⟩
    | false =>
      rw [lastP_no e] at h
      obtain ⟨A, B, rfl, h1, h2⟩ := ih h
      refine ⟨A, B ++ [x], by simp, h1, fun b hb => ?_⟩
      rcases List.mem_append.1 hb with hb | hb
      · exact h2 b hb
      · simp at hb
        rw [hb]
        exact e
theorem lastP_of_split {A B : List Vw} (h : l = A ++ y :: B) (hy : p y = true) (hB : ∀ b ∈ B, p b = false) : lastP p l = some y := by
  subst h
  have : B.filter p = [] := List.filter_eq_nil_iff.2 (fun b hb => by simp [hB b hb])
  simp [lastP, List.filter_append, List.filter_cons, hy, this]
theorem getLast_filter (h : ∀ y, l.getLast? = some y → K y = true) : (l.filter K).getLast? = l.getLast? := by
  cases e : l.getLast? with
  | none =>
    rw [List.getLast?_eq_none_iff] at e
    subst e
    rfl
  | some y =>
    have hy := h y e
    obtain ⟨ys, rfl⟩ := List.getLast?_eq_some_iff.1 e
    simp [List.filter_append, hy]
theorem lastP_filter (h : ∀ y, lastP p l = some y → K y = true) : lastP p (l.filter K) = lastP p l := by
  unfold lastP at *
  rw [List.filter_filter]
  have : l.filter (fun a => p a && K a) = (l.filter p).filter K := by rw [List.filter_filter]; congr 1; funext a; exact Bool.and_comm _ _
  rw [this]
  exact getLast_filter h
end

/-- Not behind a stamp; of a stamp. -/
def notA (s : Int × Int) (x : Vw) : Bool := !Sm.less s x.1.st
def isS (s : Int × Int) (x : Vw) : Bool := decide (x.1.st = s)
/-- Is it the one? -/
def isW (o : Option Vw) (x : Vw) : Bool := match o with | none => false | some h => sameW x.1 h.1
/-- Is it kept? -/
def keepB (xs : List Vw) (s : Int × Int) (pins : List (Int × Int)) (x : Vw) : Bool :=
  isW xs.getLast? x || decide (x.1.st ∈ pins) || !Sm.less x.1.st s || isW (lastP (notA s) xs) x
def cleanL (xs : List Vw) (s : Int × Int) (pins : List (Int × Int)) : List Vw := xs.filter (keepB xs s pins)
theorem isW_self (x : Vw) : isW (some x) x = true := sameW_self x.1

theorem less_le {a b c : Int × Int} (h : Sm.less a b = false) (k : Sm.less a c = true) : Sm.less b c = true := by
  rw [Sm.less_false] at h
  rw [Sm.less_iff] at *
  omega
theorem less_asymm {a b : Int × Int} (h : Sm.less a b = true) : Sm.less b a = false := by
  rw [Sm.less_iff] at h
  rw [Sm.less_false]
  omega
theorem less_total {a b : Int × Int} (h : Sm.less a b = false) (hne : a ≠ b) : Sm.less b a = true := by
  rw [Sm.less_false] at h
  rw [Sm.less_iff]
  rcases h with h | ⟨h1, h2⟩
  · exact .inl h
  · refine .inr ⟨h1.symm, ?_⟩
    have : a.2 ≠ b.2 := fun e => hne (Sm.pair_ext h1 e)
    omega
section
variable {c : List Vw} {s : Int × Int} {pins : List (Int × Int)}
theorem clean_head : (cleanL c s pins).getLast? = c.getLast? :=
  getLast_filter fun y hy => by
    unfold keepB
    rw [hy, isW_self]
    rfl
theorem clean_at {q : Int × Int} (hq : q ∈ pins) : lastP (isS q) (cleanL c s pins) = lastP (isS q) c :=
  lastP_filter fun y hy => by
    have := (lastP_some hy).2
    simp [isS] at this
    unfold keepB
    simp [this, hq]
theorem clean_below {t : Int × Int} (ht : Sm.less t s = false) : lastP (notA t) (cleanL c s pins) = lastP (notA t) c :=
  lastP_filter fun y hy => by
    unfold keepB
    cases e : Sm.less y.1.st s with
    | false => simp
    | true =>
      obtain ⟨A, B, h1, h2, h3⟩ := lastP_split hy
      have : lastP (notA s) c = some y := lastP_of_split h1 (by unfold notA; rw [less_asymm e]; rfl) (fun b hb => by
        have := h3 b hb
        unfold notA at this ⊢
        simp at this ⊢
        exact less_le ht this)
      rw [this, isW_self]
      simp
theorem clean_keep : keepB (cleanL c s pins) s pins = keepB c s pins := by
  funext x
  unfold keepB
  rw [clean_head, clean_below (Sm.less_self s)]
theorem clean_again : cleanL (cleanL c s pins) s pins = cleanL c s pins := by
  show (cleanL c s pins).filter _ = _
  rw [clean_keep]
  unfold cleanL
  rw [List.filter_filter]
  congr 1
  funext x
  exact Bool.and_self _
theorem clean_len : (cleanL c s pins).length ≤ c.length := List.length_filter_le _ _
end

/-- What Check asks, one behind the other. -/
def chk1 : Option Vw → List Vw → Bool
  | _, [] => true
  | p, v :: r => okW v.1 && (match p with | none => true | some u => decide (u.1.key = v.1.key) && Sm.less u.1.st v.1.st) && chk1 (some v) r
/-- What the document's Check asks. -/
def chk2 (k : ByteArray) : Option Vw → List Vw → Bool
  | _, [] => true
  | p, v :: r => okW v.1 && decide (v.1.key = k) && (match p with | none => true | some u => Sm.less u.1.st v.1.st) && chk2 k (some v) r
theorem chk1_chk2 : ∀ (l : List Vw) (u : Vw), chk1 (some u) l = chk2 u.1.key (some u) l
  | [], u => rfl
  | v :: r, u => by
    unfold chk1 chk2
    by_cases h : u.1.key = v.1.key
    · rw [chk1_chk2 r v, h]
      cases okW v.1 <;> simp [h]
    · have h' : ¬ v.1.key = u.1.key := fun e => h e.symm
      simp [h, h']
def hdK (l : List Vw) : ByteArray := match l with | [] => ⟨#[]⟩ | x :: _ => x.1.key
theorem chk_same (l : List Vw) : chk1 none l = chk2 (hdK l) none l := by
  cases l with
  | nil => rfl
  | cons v r =>
    unfold chk1 chk2 hdK
    rw [chk1_chk2 r v]
    simp

def kA : ByteArray := ⟨#[97]⟩
abbrev riseW (xs : List Vw) : Prop := xs.Pairwise fun a b => Sm.less a.1.st b.1.st = true
/-- A chain of key a. -/
structure Chn (xs : List Vw) : Prop where
  ok : ∀ x ∈ xs, okW x.1 = true
  key : ∀ x ∈ xs, x.1.key = kA
  rise : riseW xs
theorem Chn.nil : Chn [] := ⟨by simp, by simp, List.Pairwise.nil⟩
theorem Chn.filter {xs : List Vw} (h : Chn xs) (K : Vw → Bool) : Chn (xs.filter K) :=
  ⟨fun x hx => h.ok x ((List.mem_filter.1 hx).1), fun x hx => h.key x ((List.mem_filter.1 hx).1), h.rise.filter K⟩
theorem chk1_chn : ∀ (l : List Vw) (u : Vw), (∀ x ∈ l, okW x.1 = true) → (∀ x ∈ l, x.1.key = kA) → u.1.key = kA → riseW (u :: l) → chk1 (some u) l = true
  | [], u, _, _, _, _ => rfl
  | v :: r, u, h1, h2, h3, h4 => by
    rw [riseW, List.pairwise_cons] at h4
    unfold chk1
    rw [h1 v (by simp), chk1_chn r v (fun x hx => h1 x (by simp [hx])) (fun x hx => h2 x (by simp [hx])) (h2 v (by simp)) h4.2]
    simp [h4.1 v (by simp), h3, h2 v (by simp)]
theorem Chn.chk {xs : List Vw} (h : Chn xs) : chk1 none xs = true := by
  cases xs with
  | nil => rfl
  | cons v r =>
    unfold chk1
    rw [h.ok v (by simp), chk1_chn r v (fun x hx => h.ok x (by simp [hx])) (fun x hx => h.key x (by simp [hx])) (h.key v (by simp)) h.rise]
    simp
/-- One put between. -/
theorem Chn.mid {A B : List Vw} {x : Vw} (h : Chn (A ++ B)) (hx : okW x.1 = true) (hk : x.1.key = kA) (hA : ∀ a ∈ A, Sm.less a.1.st x.1.st = true) (hB : ∀ b ∈ B, Sm.less x.1.st b.1.st = true) : Chn (A ++ x :: B) := by
  have hr := h.rise
  rw [riseW, List.pairwise_append] at hr
  refine ⟨fun y hy => ?_, fun y hy => ?_, ?_⟩
  · rw [List.mem_append, List.mem_cons] at hy
    rcases hy with hy | rfl | hy
    · exact h.ok y (by simp [hy])
    · exact hx
    · exact h.ok y (by simp [hy])
  · rw [List.mem_append, List.mem_cons] at hy
    rcases hy with hy | rfl | hy
    · exact h.key y (by simp [hy])
    · exact hk
    · exact h.key y (by simp [hy])
  · rw [riseW, List.pairwise_append, List.pairwise_cons]
    refine ⟨hr.1, ⟨hB, hr.2.1⟩, fun a ha b hb => ?_⟩
    rcases List.mem_cons.1 hb with rfl | hb
    · exact hA a ha
    · exact hr.2.2 a ha b hb

/-- What Put makes of a row. -/
def fitK (xs : List Vw) (x : Vw) : Bool := match xs with | [] => true | y :: _ => decide (y.1.key = x.1.key)
def putOk (xs : List Vw) (x : Vw) : Bool := !(lastP (isS x.1.st) xs).isSome && okW x.1 && fitK xs x
def midC (xs : List Vw) (x : Vw) : List Vw := xs.take (upN (notA x.1.st) xs) ++ x :: xs.drop (upN (notA x.1.st) xs)
def putC (xs : List Vw) (x : Vw) : List Vw := if putOk xs x = true then midC xs x else xs
/-- What the document's Put makes of it. -/
def gtW (x y : Vw) : Bool := Sm.less x.1.st y.1.st
def insB (x : Vw) (l : List Vw) : List Vw := l.takeWhile (fun y => !gtW x y) ++ x :: l.dropWhile (fun y => !gtW x y)
def putOkR (xs : List Vw) (x : Vw) : Bool := okW x.1 && fitK xs x && !xs.any (isS x.1.st)
def putR (xs : List Vw) (x : Vw) : List Vw := if putOkR xs x = true then insB x xs else xs
/-- The row that the document's Put has made out of the first ones. -/
def outR (x : Vw) (l : List Vw) : List Vw := if l.any (gtW x) = true then insB x l else l
theorem insB_any {x y : Vw} {l : List Vw} (h : l.any (gtW x) = true) : insB x (l ++ [y]) = insB x l ++ [y] := by
  unfold insB
  obtain ⟨z, hz, hg⟩ := List.any_eq_true.1 h
  have hne : ¬ ∀ a ∈ l, (fun y => !gtW x y) a = true := fun k => by have := k z hz; simp [hg] at this
  have h1 : (l ++ [y]).takeWhile (fun y => !gtW x y) = l.takeWhile (fun y => !gtW x y) := by
    clear h hz
    induction l with
    | nil => exact absurd (by simp) hne
    | cons a l ih =>
      by_cases e : gtW x a = true
      · simp [List.takeWhile_cons, e]
      · have e' : gtW x a = false := by simpa using e
        simp [List.takeWhile_cons, e']
        refine ih (fun k => hne (fun b hb => ?_))
        rcases List.mem_cons.1 hb with rfl | hb
        · simp [e']
        · exact k b hb
  have h2 : (l ++ [y]).dropWhile (fun y => !gtW x y) = l.dropWhile (fun y => !gtW x y) ++ [y] := by
    clear h hz h1
    induction l with
    | nil => exact absurd (by simp) hne
    | cons a l ih =>
      by_cases e : gtW x a = true
      · simp [List.dropWhile_cons, e]
      · have e' : gtW x a = false := by simpa using e
        simp [List.dropWhile_cons, e']
        refine ih (fun k => hne (fun b hb => ?_))
        rcases List.mem_cons.1 hb with rfl | hb
        · simp [e']
        · exact k b hb
  rw [h1, h2]
  simp
theorem insB_none {x : Vw} {l : List Vw} (h : l.any (gtW x) = false) : insB x l = l ++ [x] := by
  unfold insB
  have hall : ∀ a ∈ l, (fun y => !gtW x y) a = true := fun a ha => by
    have := List.any_eq_false.1 h a ha
    simp at this
    simp [this]
  have h1 := List.takeWhile_append_of_pos (l₂ := []) hall
  have h2 := List.dropWhile_append_of_pos (l₂ := []) hall
  rw [List.append_nil] at h1 h2
  rw [h1, h2]
  simp
theorem outR_nil (x : Vw) : outR x [] = [] := rfl
/-- One round: the put one, if it is its turn, then the row's own. -/
theorem outR_any {x y : Vw} {l : List Vw} (h : l.any (gtW x) = true) : outR x (l ++ [y]) = outR x l ++ [y] := by
  unfold outR
  rw [List.any_append, h, if_pos rfl, Bool.true_or, if_pos rfl, insB_any h]
theorem outR_now {x y : Vw} {l : List Vw} (h : l.any (gtW x) = false) (hy : gtW x y = true) : outR x (l ++ [y]) = outR x l ++ [x] ++ [y] := by
  unfold outR
  rw [List.any_append, h]
  simp [hy, insB]
  have hall : ∀ a ∈ l, (fun y => !gtW x y) a = true := fun a ha => by
    have := List.any_eq_false.1 h a ha
    simp at this
    simp [this]
  rw [List.takeWhile_append_of_pos hall, List.dropWhile_append_of_pos hall]
  simp [List.takeWhile_cons, List.dropWhile_cons, hy]
theorem outR_not {x y : Vw} {l : List Vw} (h : l.any (gtW x) = false) (hy : gtW x y = false) : outR x (l ++ [y]) = outR x l ++ [y] := by
  unfold outR
  rw [List.any_append, h]
  simp [hy]
theorem outR_end {x : Vw} {l : List Vw} : insB x l = if l.any (gtW x) = true then outR x l else outR x l ++ [x] := by
  unfold outR
  cases h : l.any (gtW x) with
  | true => simp
  | false => simp [insB_none h]
end Go.Proofs.Ytfmedinhlmiaeaa
