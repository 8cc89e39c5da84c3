/- Chains of key a: what the laws build, as plain mathematics. -/
import Derived.Test.YtjfmgplhcinkfaaGS28
import Derived.Test.YtjfmgplhcinkfaaChRPut
namespace Go.Proofs.Ytjfmgplhcinkfaa
open Go.RowKit Go.Shelf
set_option linter.unusedVariables false
set_option linter.unusedSimpArgs false

/-- A version of key a: a stamp, a value. -/
def mkA (s : Int × Int) (b : ByteArray) : Vw := (⟨kA, b, false, s, []⟩, none, 0)
theorem chk_kA : Km.chk kA.data.toList = true := by decide +kernel
theorem mkA_ok (s : Int × Int) (b : ByteArray) (hb : b.size ≤ 32) : okW (mkA s b).1 = Sm.ok s.1 s.2 := by
  have h : okW (mkA s b).1 = (vbW (mkA s b).1 && Km.chk kA.data.toList && Sm.ok s.1 s.2 && chkD []) := rfl
  have h1 : vbW (mkA s b).1 = true := by simp [vbW, mkA, hb]
  have h2 : chkD [] = true := by decide +kernel
  rw [h, h1, chk_kA, h2]
  simp
theorem mkA_bd {w : World} {s : Int × Int} {b : ByteArray} (hb : b.size ≤ 32) (hs : In64 s) : VwB w (mkA s b) :=
  ⟨⟨by show kA.size ≤ _; decide, by show b.size ≤ _; omega, by simp [mkA], (fun d hd => by simp [mkA] at hd), DepAt.nil _⟩, hs⟩
theorem ok_less {s : Int × Int} (h : Sm.ok s.1 s.2 = true) : Sm.less s (0, 0) = false ∧ Sm.less s (1099511627777, 0) = true ∧ In64 s := by
  simp [Sm.ok] at h
  refine ⟨?_, ?_, ?_, ?_⟩
  · rw [Sm.less_false]; dsimp only; omega
  · rw [Sm.less_iff]; dsimp only; omega
  · omega
  · omega

/-! Rising rows. -/
theorem Chn.sub {A : List Vw} {xs : List Vw} (h : Chn xs) (hs : A.Sublist xs) : Chn A := ⟨fun x hx => h.ok x (hs.subset hx), fun x hx => h.key x (hs.subset hx), h.rise.sublist hs⟩
theorem Chn.fit {xs : List Vw} (h : Chn xs) {x : Vw} (hk : x.1.key = kA) : fitK xs x = true := by
  cases xs with
  | nil => rfl
  | cons y r =>
    unfold fitK
    simp [h.key y (by simp), hk]
theorem isS_any_false {xs : List Vw} {s : Int × Int} (h : xs.any (isS s) = false) : ∀ y ∈ xs, y.1.st ≠ s := by
  intro y hy e
  have := List.any_eq_false.1 h y hy
  simp [isS, e] at this
/-- The document's Put keeps a chain a chain. -/
theorem Chn.putR {xs : List Vw} (h : Chn xs) {x : Vw} (hk : x.1.key = kA) : Chn (putR xs x) := by
  unfold Go.Proofs.Ytjfmgplhcinkfaa.putR
  cases hok : putOkR xs x with
  | false => simpa using h
  | true =>
    simp only [if_true]
    unfold putOkR at hok
    simp only [Bool.and_eq_true, Bool.not_eq_true'] at hok
    obtain ⟨⟨h1, _⟩, h3⟩ := hok
    have hne := isS_any_false h3
    unfold insB
    refine Chn.mid ?_ h1 hk (fun a ha => ?_) (fun b hb => ?_)
    · rw [List.takeWhile_append_dropWhile]; exact h
    · have := List.all_eq_true.1 List.all_takeWhile a ha
      simp [gtW] at this
      exact less_total this (fun e => hne a ((List.takeWhile_sublist _).subset ha) e.symm)
    · have hd := h.rise.sublist (List.dropWhile_sublist (fun y => !gtW x y) (l := xs))
      cases hdw : xs.dropWhile (fun y => !gtW x y) with
      | nil => rw [hdw] at hb; simp at hb
      | cons c r =>
        have hc : gtW x c = true := by
          have := List.head?_dropWhile_not (fun y => !gtW x y) xs
          rw [hdw] at this
          simpa using this
        rw [hdw] at hd hb
        rw [List.pairwise_cons] at hd
        rcases List.mem_cons.1 hb with rfl | hb
        · exact hc
        · exact Sm.less_trans hc (hd.1 b hb)
theorem putR_len (xs : List Vw) (x : Vw) : (putR xs x).length ≤ xs.length + 1 := by
  unfold Go.Proofs.Ytjfmgplhcinkfaa.putR
  split
  · rw [insB_len]; omega
  · omega
theorem putR_mem {xs : List Vw} {x y : Vw} (h : y ∈ putR xs x) : y = x ∨ y ∈ xs := by
  unfold Go.Proofs.Ytjfmgplhcinkfaa.putR at h
  split at h
  · exact insB_mem h
  · exact .inr h
/-- Put keeps a chain a chain. -/
theorem Chn.putC {xs : List Vw} (h : Chn xs) {x : Vw} (hk : x.1.key = kA) : Chn (putC xs x) := by
  unfold Go.Proofs.Ytjfmgplhcinkfaa.putC
  cases hok : putOk xs x with
  | false => simpa using h
  | true =>
    simp only [if_true]
    unfold putOk at hok
    simp only [Bool.and_eq_true, Bool.not_eq_true', Option.isSome_eq_false_iff] at hok
    obtain ⟨⟨h3, h1⟩, _⟩ := hok
    have hne : ∀ y ∈ xs, y.1.st ≠ x.1.st := fun y hy e => by
      have := lastP_none (by simpa using h3) y hy
      simp [isS, e] at this
    unfold midC
    have hdr := drop_upN (p := notA x.1.st) (l := xs)
    have htk := take_upN (p := notA x.1.st) (l := xs)
    refine Chn.mid (by rw [List.take_append_drop]; exact h) h1 hk (fun a ha => ?_) (fun b hb => ?_)
    · have hr := h.rise.sublist (List.take_sublist (upN (notA x.1.st) xs) xs)
      cases hg : (xs.take (upN (notA x.1.st) xs)).getLast? with
      | none => rw [List.getLast?_eq_none_iff] at hg; rw [hg] at ha; simp at ha
      | some y =>
        obtain ⟨ys, e⟩ := List.getLast?_eq_some_iff.1 hg
        rw [hg] at htk
        obtain ⟨hy1, hy2⟩ := lastP_some htk.symm
        have hyl : Sm.less y.1.st x.1.st = true := by
          simp [notA] at hy2
          exact less_total hy2 (fun e => hne y hy1 e.symm)
        rw [e] at ha hr
        rw [List.pairwise_append] at hr
        rcases List.mem_append.1 ha with ha | ha
        · exact Sm.less_trans (hr.2.2 a ha y (by simp)) hyl
        · simp at ha
          rw [ha]
          exact hyl
    · have := hdr b hb
      simpa [notA] using this
/-- Which members it has then. -/
theorem putC_mem {xs : List Vw} (h : Chn xs) {x : Vw} (hk : x.1.key = kA) (hsame : ∀ y ∈ xs, y.1.st = x.1.st → y = x) (y : Vw) : y ∈ putC xs x ↔ y ∈ xs ∨ (y = x ∧ okW x.1 = true) := by
  unfold Go.Proofs.Ytjfmgplhcinkfaa.putC
  cases hok : putOk xs x with
  | true =>
    simp only [if_true]
    unfold midC
    have h1 : okW x.1 = true := by
      unfold putOk at hok
      simp only [Bool.and_eq_true] at hok
      exact hok.1.2
    rw [List.mem_append, List.mem_cons]
    have ht : y ∈ xs ↔ y ∈ xs.take (upN (notA x.1.st) xs) ∨ y ∈ xs.drop (upN (notA x.1.st) xs) := by
      rw [← List.mem_append, List.take_append_drop]
    rw [ht, h1]
    simp
    constructor
    · rintro (a | a | a)
      · exact .inl (.inl a)
      · exact .inr a
      · exact .inl (.inr a)
    · rintro ((a | a) | a)
      · exact .inl a
      · exact .inr (.inr a)
      · exact .inr (.inl a)
  | false =>
    simp only [if_false, Bool.false_eq_true]
    constructor
    · exact .inl
    · rintro (a | ⟨rfl, h1⟩)
      · exact a
      · unfold putOk at hok
        rw [h1, h.fit hk] at hok
        simp at hok
        cases hl : lastP (isS y.1.st) xs with
        | none => rw [hl] at hok; simp at hok
        | some z =>
          obtain ⟨hz1, hz2⟩ := lastP_some hl
          simp [isS] at hz2
          rw [← hsame z hz1 hz2]
          exact hz1
theorem putC_len (xs : List Vw) (x : Vw) : (putC xs x).length ≤ xs.length + 1 := by
  unfold Go.Proofs.Ytjfmgplhcinkfaa.putC midC
  split
  · rw [List.length_append, List.length_cons, List.length_take, List.length_drop]; omega
  · omega
/-- A chain is its members. -/
theorem chn_uniq : ∀ {a b : List Vw}, riseW a → riseW b → (∀ y, y ∈ a ↔ y ∈ b) → a = b
  | [], [], _, _, _ => rfl
  | [], y :: b, _, _, h => absurd ((h y).2 (by simp)) (by simp)
  | x :: a, [], _, _, h => absurd ((h x).1 (by simp)) (by simp)
  | x :: a, y :: b, ha, hb, h => by
    rw [riseW, List.pairwise_cons] at ha hb
    have hxy : x = y := by
      rcases List.mem_cons.1 ((h x).1 (by simp)) with e | e
      · exact e
      · rcases List.mem_cons.1 ((h y).2 (by simp)) with e' | e'
        · exact e'.symm
        · have := Sm.less_trans (hb.1 x e) (ha.1 y e')
          rw [Sm.less_self] at this
          cases this
    subst hxy
    congr 1
    refine chn_uniq ha.2 hb.2 (fun z => ⟨fun hz => ?_, fun hz => ?_⟩)
    · rcases List.mem_cons.1 ((h z).1 (by simp [hz])) with e | e
      · have := ha.1 z hz
        rw [e, Sm.less_self] at this
        cases this
      · exact e
    · rcases List.mem_cons.1 ((h z).2 (by simp [hz])) with e | e
      · have := hb.1 z hz
        rw [e, Sm.less_self] at this
        cases this
      · exact e

/-! The rows that the laws begin with. -/
def letterA (i : Nat) : ByteArray := ⟨#[UInt8.ofNat (97 + i)]⟩
/-- The chain of the first stamps. -/
def madeK (l : List (Int × Int)) : Nat → List Vw
  | 0 => []
  | k + 1 => putR (madeK l k) (mkA (l.getD k (0, 0)) (letterA k))
def madeN (l : List (Int × Int)) : Nat := min l.length 16
theorem madeK_chn (l : List (Int × Int)) : ∀ k, Chn (madeK l k)
  | 0 => Chn.nil
  | k + 1 => (madeK_chn l k).putR rfl
theorem madeK_len (l : List (Int × Int)) : ∀ k, (madeK l k).length ≤ k
  | 0 => by simp [madeK]
  | k + 1 => by
    have h1 := madeK_len l k
    have h2 := putR_len (madeK l k) (mkA (l.getD k (0, 0)) (letterA k))
    unfold madeK
    omega
theorem Chn.i64 {xs : List Vw} (h : Chn xs) : ∀ x ∈ xs, In64 x.1.st := by
  intro x hx
  have := h.ok x hx
  unfold okW at this
  simp only [Bool.and_eq_true] at this
  exact (ok_less this.1.2).2.2
end Go.Proofs.Ytjfmgplhcinkfaa
