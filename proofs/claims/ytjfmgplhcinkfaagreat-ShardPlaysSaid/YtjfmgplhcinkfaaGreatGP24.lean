/- Texts of this proof, one behind the other: RdRow, ChLaw, ShOrdMath, RdMath, RdSt. -/
import Derived.Test.YtjfmgplhcinkfaaGreatGP23
/- The document's shard in memory: its ranges, and a row of chains in the order of their keys. -/
namespace Go.Proofs.YtjfmgplhcinkfaaGreat
open Go.RowKit
set_option linter.unusedVariables false
set_option linter.unusedSimpArgs false

/-- A key, and where its versions lie. -/
abbrev Pc := ByteArray × (Option Addr × Nat × Nat)
def pcv (p : Pc) : Value := .slice p.2.1 p.2.2.1 p.2.2.2
def KC : RK Pc where
  T := 77
  S := 29
  sz := 2
  bt := 40
  z := .agg #[.string ⟨#[]⟩, .slice none 0 0]
  enc p := [.string p.1, .slice p.2.1 p.2.2.1 p.2.2.2]
theorem kC_ok : KC.Ok where
  len _ := rfl
  pos := by decide
  one x u hu := by
    simp [KC] at hu
    rcases hu with rfl | rfl <;> rfl
  und := Tryz.underlying29
  inf := by kernel_rfl
  zc := rfl
  bb := by decide
def KDe : RK De where
  T := 38
  S := 34
  sz := 3
  bt := 32
  z := .agg #[.string ⟨#[]⟩, .int .i64 0, .int .i64 0]
  enc d := [.string d.1, .int .i64 d.2.1, .int .i64 d.2.2]
theorem kDe_ok : KDe.Ok where
  len _ := rfl
  pos := by decide
  one x u hu := by
    simp [KDe] at hu
    rcases hu with rfl | rfl | rfl <;> rfl
  und := Tryz.underlying34
  inf := by kernel_rfl
  zc := rfl
  bb := by decide

/-- T: blocks among which its own are. -/
structure RfS (w : World) (T : Nat → Prop) (rb : Nat) (rv cv : Value) (ps : List Pc) (R : List (ByteArray × ByteArray)) (F : Ch) : Prop where
  lt : ∀ j, T j → j < w.heap.size
  tb : T rb
  c0 : w.cell? ⟨rb, 0, none⟩ = some rv
  c1 : w.cell? ⟨rb, 1, none⟩ = some cv
  fr : ∀ i, w.frozen? ⟨rb, i, none⟩ = false
  rr : OwnR KR w 0 rv R
  rt : ∀ g, rv.ownBlock = some g → T g ∧ g ≠ rb
  cr : OwnR KC w 0 cv ps
  ct : ∀ g, cv.ownBlock = some g → T g ∧ g ≠ rb ∧ rv.ownBlock ≠ some g
  kl : KeyL F (ps.map (·.1))
  row : ∀ p ∈ ps, OwnR KW w 0 (pcv p) (F p.1) ∧ ∀ g, (pcv p).ownBlock = some g → T g ∧ g ≠ rb ∧ cv.ownBlock ≠ some g
section
variable {w w' : World} {T : Nat → Prop} {rb : Nat} {rv cv : Value} {ps : List Pc} {R : List (ByteArray × ByteArray)} {F : Ch}
theorem RfS.block (h : RfS w T rb rv cv ps R F) (hs : w.heap.size ≤ w'.heap.size) (hb : ∀ j, T j → w'.heap[j]? = w.heap[j]?) : RfS w' T rb rv cv ps R F :=
  ⟨fun j hj => by have := h.lt j hj; omega, h.tb, by rw [World.cell?_of_block (hb rb h.tb)]; exact h.c0, by rw [World.cell?_of_block (hb rb h.tb)]; exact h.c1,
    fun i => by rw [World.frozen?_of_block (hb rb h.tb)]; exact h.fr i, h.rr.block (fun g e => hb g (h.rt g e).1), h.rt, h.cr.block (fun g e => hb g (h.ct g e).1), h.ct, h.kl,
    fun p hp => ⟨(h.row p hp).1.block (fun g e => hb g ((h.row p hp).2 g e).1), (h.row p hp).2⟩⟩
theorem RfS.mv {P : Nat → Prop} (h : RfS w T rb rv cv ps R F) (hm : Mv P w w') (hP : ∀ j, T j → ¬ P j) : RfS w' T rb rv cv ps R F :=
  h.block hm.size (fun j hj => hm.block j (h.lt j hj) (hP j hj))
theorem RfS.below (h : RfS w T rb rv cv ps R F) (hb : Below w.heap.size w w') : RfS w' T rb rv cv ps R F :=
  h.block hb.size (fun j hj => hb.block j (h.lt j hj))
theorem RfS.wide {T' : Nat → Prop} (h : RfS w T rb rv cv ps R F) (h1 : ∀ j, T j → T' j) (h2 : ∀ j, T' j → j < w.heap.size) : RfS w T' rb rv cv ps R F :=
  ⟨h2, h1 _ h.tb, h.c0, h.c1, h.fr, h.rr, fun g e => ⟨h1 g (h.rt g e).1, (h.rt g e).2⟩, h.cr, fun g e => ⟨h1 g (h.ct g e).1, (h.ct g e).2⟩, h.kl,
    fun p hp => ⟨(h.row p hp).1, fun g e => ⟨h1 g ((h.row p hp).2 g e).1, ((h.row p hp).2 g e).2⟩⟩⟩
/-- What is read of it. -/
theorem RfS.at (h : RfS w T rb rv cv ps R F) (i : Nat) (hi : i < ps.length) : ∃ g cap, cv = .slice (some ⟨g, 0, none⟩) ps.length cap ∧ ps.length ≤ cap ∧ T g ∧ g ≠ rb ∧ w.cell? ⟨g, i * 2, none⟩ = some (.string ps[i].1) ∧ w.cell? ⟨g, i * 2 + 1, none⟩ = some (.slice ps[i].2.1 ps[i].2.2.1 ps[i].2.2.2) := by
  obtain ⟨g, cap, e, h1, h2, h3, h4, hc⟩ := h.cr.cell kC_ok i hi
  have ht := h.ct g (by rw [e]; rfl)
  have e0 := hc 0 _ rfl
  have e1 := hc 1 _ rfl
  rw [Nat.zero_add] at e0 e1
  exact ⟨g, cap, e, h1, ht.1, ht.2.1, e0, e1⟩
theorem RfS.noKey (h : RfS w T rb rv cv ps R F) {k : ByteArray} (hk : ∀ p ∈ ps, p.1 ≠ k) : F k = [] := by
  by_cases e : F k = []
  · exact e
  · obtain ⟨p, hp, e2⟩ := List.mem_map.1 ((h.kl.2 k).2 e)
    exact absurd e2 (hk p hp)
theorem RfS.shape (h : RfS w T rb rv cv ps R F) : ∃ a c, cv = .slice a ps.length c ∧ ps.length ≤ c := by
  obtain ⟨a, c, rfl⟩ := h.cr.shape
  exact ⟨a, c, rfl, h.cr.caps.1⟩
end

set_option maxRecDepth 100000 in
set_option maxHeartbeats 1600000 in
theorem rfAt_any {w : World} {T : Nat → Prop} {rb : Nat} {rv cv : Value} {ps : List Pc} {R : List (ByteArray × ByteArray)} {F : Ch} (h : RfS w T rb rv cv ps R F) (hl : ps.length ≤ 100000) (k : ByteArray) :
    Calls Tryz.prog 41 #[.pointer (some ⟨rb, 0, none⟩), .string k] w fun e w' => Below w.heap.size w w' ∧ ∃ z : Int, e = .returned (.int .i64 z) ∧ ((∃ j : Nat, ∃ hj : j < ps.length, z = j ∧ ps[j].1 = k) ∨ (z = -1 ∧ ∀ p ∈ ps, p.1 ≠ k)) := by
  have H := Lib.hid h
  have e1 := h.c1
  obtain ⟨ca, cc, rfl, hcc⟩ := h.shape
  clear h
  go_enter Tryz.func41, Tryz.ntmps41
  go_wp2
  go_loopw [5] (fun i wr => ∃ j : Nat, j ≤ ps.length ∧ i = .int .i64 j ∧ (∀ q (hq : q < ps.length), q < j → ps[q].1 ≠ k) ∧ Below w.heap.size w wr) (fun i _ => ps.length - (intOf i).toNat)
  case atStart => exact ⟨0, by omega, rfl, (fun q hq h => by omega), Below.refl _ _⟩
  case round =>
    obtain ⟨j, hj, rfl, hall, hbel⟩ := hrel
    have HB := Lib.hid hbel
    have e1 := (H.out.below hbel).c1
    have HA := Lib.hid hall
    clear hall
    by_cases hlt : j < ps.length
    · obtain ⟨g, cap, e, hcp, _, _, c0, _⟩ := (H.out.below hbel).at j hlt
      cases e
      have HN : Hid (ps[j].1 ≠ k → ∀ q (hq : q < ps.length), q < j + 1 → ps[q].1 ≠ k) := Lib.hid (fun h q hq h2 => by
        by_cases e : q = j
        · subst e; exact h
        · exact HA.out q hq (by omega))
      have HY : Hid (ps[j].1 = k → ∃ j' : Nat, ∃ hj : j' < ps.length, (j : Int) = (j' : Int) ∧ ps[j'].1 = k) := Lib.hid (fun h => ⟨j, hlt, rfl, h⟩)
      generalize ps[j].1 = key at c0 HN HY
      have hji : (j : Int) < (ps.length : Int) := by omega
      have HKE : Hid ((key.toList == k.toList) = true ↔ key = k) := Lib.hid (by
        rw [beq_iff_eq, Lib.toList_data, Lib.toList_data]
        exact ⟨fun h => ByteArray.ext (Array.toList_inj.1 h), fun h => by rw [h]⟩)
      cases hq : (key.toList == k.toList) with
      | true =>
        have HE := Lib.hid (HY.out (HKE.out.1 hq))
        clear HN HY
        go_wp2
        go_ret
        exact ⟨HB.out, _, rfl, .inl HE.out⟩
      | false =>
        have HE := Lib.hid (HN.out (fun h => by rw [HKE.out.2 h] at hq; cases hq))
        have hq' : ¬ key.toList = k.toList := by simpa using hq
        clear HN HY
        go_wp2
        go_roundw
        case rel => exact ⟨j + 1, by omega, by go_num, HE.out, HB.out⟩
        case measure => simp [intOf]; omega
    · obtain rfl : j = ps.length := by omega
      go_wp2
      go_ret
      exact ⟨HB.out, _, rfl, .inr ⟨rfl, fun p hp => by
        obtain ⟨q, hq, rfl⟩ := List.getElem_of_mem hp
        exact HA.out q hq hq⟩⟩

set_option maxRecDepth 100000 in
set_option maxHeartbeats 1600000 in
theorem rfOf_any {w : World} {T : Nat → Prop} {rb : Nat} {rv cv : Value} {ps : List Pc} {R : List (ByteArray × ByteArray)} {F : Ch} (h : RfS w T rb rv cv ps R F) (hl : ps.length ≤ 100000) (k : ByteArray) :
    Calls Tryz.prog 14 #[.pointer (some ⟨rb, 0, none⟩), .string k] w fun e w' => Below w.heap.size w w' ∧ ∃ v, e = .returned v ∧ OwnR KW w' 0 v (F k) := by
  have H := Lib.hid h
  have e1 := h.c1
  have hat := rfAt_any h hl k
  obtain ⟨ca, cc, rfl, hcc⟩ := h.shape
  clear h
  go_enter Tryz.func14, Tryz.ntmps14
  go_wp2_with fail
  refine hat.mono ?_
  rintro e w' ⟨hbw, z, rfl, hz⟩
  have HB := Lib.hid hbw
  have e1 := (H.out.below hbw).c1
  rcases hz with ⟨j, hj, rfl, hk⟩ | ⟨rfl, hno⟩
  · obtain ⟨g, cap, e, hcp, _, _, _, c1⟩ := (H.out.below hbw).at j hj
    cases e
    have HO := Lib.hid (((H.out.below hbw).row _ (List.getElem_mem hj)).1)
    rw [hk] at HO
    unfold pcv at HO
    clear hk
    generalize ps[j].2 = p2 at c1 HO
    obtain ⟨pa, pn, pq⟩ := p2
    dsimp only at c1 HO
    have hji : (j : Int) < (ps.length : Int) := by omega
    have hj0 : ¬ (j : Int) < 0 := by omega
    go_wp2
    go_ret
    exact ⟨HB.out, _, rfl, HO.out⟩
  · have HE := Lib.hid (H.out.noKey hno)
    clear hno
    go_wp2
    go_ret
    exact ⟨HB.out, _, rfl, by rw [HE.out]; exact OwnR.nil KW _ _⟩
end Go.Proofs.YtjfmgplhcinkfaaGreat
/- Chains of key a: what the laws build, as plain mathematics. -/
namespace Go.Proofs.YtjfmgplhcinkfaaGreat
open Go.RowKit Go.Shelf
set_option linter.unusedVariables false
set_option linter.unusedSimpArgs false

/-- A version of key a: a stamp, a value. -/
def mkA (s : Int × Int) (b : ByteArray) : Vw := (⟨kA, b, false, s, []⟩, none, 0)
theorem chk_kA : Km.chk kA.data.toList = true := by decide +kernel
theorem mkA_ok (s : Int × Int) (b : ByteArray) (hb : b.size ≤ 32) : okW (mkA s b).1 = Sm.ok s.1 s.2 := by
  have h : okW (mkA s b).1 = (vbW (mkA s b).1 && Km.chk kA.data.toList && Sm.ok s.1 s.2 && chkD []) := rfl
  have h1 : vbW (mkA s b).1 = true := by simp [vbW, mkA, hb]
  have h2 : chkD [] = true := by decide +kernel
  rw [h, h1, chk_kA, h2]
  simp
theorem mkA_bd {w : World} {s : Int × Int} {b : ByteArray} (hb : b.size ≤ 32) (hs : In64 s) : VwB w (mkA s b) :=
  ⟨⟨by show kA.size ≤ _; decide, by show b.size ≤ _; omega, by simp [mkA], (fun d hd => by simp [mkA] at hd), DepAt.nil _⟩, hs⟩
theorem ok_less {s : Int × Int} (h : Sm.ok s.1 s.2 = true) : Sm.less s (0, 0) = false ∧ Sm.less s (1099511627777, 0) = true ∧ In64 s := by
  simp [Sm.ok] at h
  refine ⟨?_, ?_, ?_, ?_⟩
  · rw [Sm.less_false]; dsimp only; omega
  · rw [Sm.less_iff]; dsimp only; omega
  · omega
  · omega

/-! Rising rows. -/
theorem Chn.sub {A : List Vw} {xs : List Vw} (h : Chn xs) (hs : A.Sublist xs) : Chn A := ⟨fun x hx => h.ok x (hs.subset hx), fun x hx => h.key x (hs.subset hx), h.rise.sublist hs⟩
theorem Chn.fit {xs : List Vw} (h : Chn xs) {x : Vw} (hk : x.1.key = kA) : fitK xs x = true := by
  cases xs with
  | nil => rfl
  | cons y r =>
    unfold fitK
    simp [h.key y (by simp), hk]
theorem isS_any_false {xs : List Vw} {s : Int × Int} (h : xs.any (isS s) = false) : ∀ y ∈ xs, y.1.st ≠ s := by
  intro y hy e
  have := List.any_eq_false.1 h y hy
  simp [isS, e] at this
/-- The document's Put keeps a chain a chain. -/
theorem Chn.putR {xs : List Vw} (h : Chn xs) {x : Vw} (hk : x.1.key = kA) : Chn (putR xs x) := by
  unfold Go.Proofs.YtjfmgplhcinkfaaGreat.putR
  cases hok : putOkR xs x with
  | false => simpa using h
  | true =>
    simp only [if_true]
    unfold putOkR at hok
    simp only [Bool.and_eq_true, Bool.not_eq_true'] at hok
    obtain ⟨⟨h1, _⟩, h3⟩ := hok
    have hne := isS_any_false h3
    unfold insB
    refine Chn.mid ?_ h1 hk (fun a ha => ?_) (fun b hb => ?_)
    · rw [List.takeWhile_append_dropWhile]; exact h
    · have := List.all_eq_true.1 List.all_takeWhile a ha
      simp [gtW] at this
      exact less_total this (fun e => hne a ((List.takeWhile_sublist _).subset ha) e.symm)
    · have hd := h.rise.sublist (List.dropWhile_sublist (fun y => !gtW x y) (l := xs))
      cases hdw : xs.dropWhile (fun y => !gtW x y) with
      | nil => rw [hdw] at hb; simp at hb
      | cons c r =>
        have hc : gtW x c = true := by
          have := List.head?_dropWhile_not (fun y => !gtW x y) xs
          rw [hdw] at this
          simpa using this
        rw [hdw] at hd hb
        rw [List.pairwise_cons] at hd
        rcases List.mem_cons.1 hb with rfl | hb
        · exact hc
        · exact Sm.less_trans hc (hd.1 b hb)
theorem putR_len (xs : List Vw) (x : Vw) : (putR xs x).length ≤ xs.length + 1 := by
  unfold Go.Proofs.YtjfmgplhcinkfaaGreat.putR
  split
  · rw [insB_len]; omega
  · omega
theorem putR_mem {xs : List Vw} {x y : Vw} (h : y ∈ putR xs x) : y = x ∨ y ∈ xs := by
  unfold Go.Proofs.YtjfmgplhcinkfaaGreat.putR at h
  split at h
  · exact insB_mem h
  · exact .inr h
/-- Put keeps a chain a chain. -/
theorem Chn.putC {xs : List Vw} (h : Chn xs) {x : Vw} (hk : x.1.key = kA) : Chn (putC xs x) := by
  unfold Go.Proofs.YtjfmgplhcinkfaaGreat.putC
  cases hok : putOk xs x with
  | false => simpa using h
  | true =>
    simp only [if_true]
    unfold putOk at hok
    simp only [Bool.and_eq_true, Bool.not_eq_true', Option.isSome_eq_false_iff] at hok
    obtain ⟨⟨h3, h1⟩, _⟩ := hok
    have hne : ∀ y ∈ xs, y.1.st ≠ x.1.st := fun y hy e => by
      have := lastP_none (by simpa using h3) y hy
      simp [isS, e] at this
    unfold midC
    have hdr := drop_upN (p := notA x.1.st) (l := xs)
    have htk := take_upN (p := notA x.1.st) (l := xs)
    refine Chn.mid (by rw [List.take_append_drop]; exact h) h1 hk (fun a ha => ?_) (fun b hb => ?_)
    · have hr := h.rise.sublist (List.take_sublist (upN (notA x.1.st) xs) xs)
      cases hg : (xs.take (upN (notA x.1.st) xs)).getLast? with
      | none => rw [List.getLast?_eq_none_iff] at hg; rw [hg] at ha; simp at ha
      | some y =>
        obtain ⟨ys, e⟩ := List.getLast?_eq_some_iff.1 hg
        rw [hg] at htk
        obtain ⟨hy1, hy2⟩ := lastP_some htk.symm
        have hyl : Sm.less y.1.st x.1.st = true := by
          simp [notA] at hy2
          exact less_total hy2 (fun e => hne y hy1 e.symm)
        rw [e] at ha hr
        rw [List.pairwise_append] at hr
        rcases List.mem_append.1 ha with ha | ha
        · exact Sm.less_trans (hr.2.2 a ha y (by simp)) hyl
        · simp at ha
          rw [ha]
          exact hyl
    · have := hdr b hb
      simpa [notA] using this
/-- Which members it has then. -/
theorem putC_mem {xs : List Vw} (h : Chn xs) {x : Vw} (hk : x.1.key = kA) (hsame : ∀ y ∈ xs, y.1.st = x.1.st → y = x) (y : Vw) : y ∈ putC xs x ↔ y ∈ xs ∨ (y = x ∧ okW x.1 = true) := by
  unfold Go.Proofs.YtjfmgplhcinkfaaGreat.putC
  cases hok : putOk xs x with
  | true =>
    simp only [if_true]
    unfold midC
    have h1 : okW x.1 = true := by
      unfold putOk at hok
      simp only [Bool.and_eq_true] at hok
      exact hok.1.2
    rw [List.mem_append, List.mem_cons]
    have ht : y ∈ xs ↔ y ∈ xs.take (upN (notA x.1.st) xs) ∨ y ∈ xs.drop (upN (notA x.1.st) xs) := by
      rw [← List.mem_append, List.take_append_drop]
    rw [ht, h1]
    simp
    constructor
    · rintro (a | a | a)
      · exact .inl (.inl a)
      · exact .inr a
      · exact .inl (.inr a)
    · rintro ((a | a) | a)
      · exact .inl a
      · exact .inr (.inr a)
      · exact .inr (.inl a)
  | false =>
    simp only [if_false, Bool.false_eq_true]
    constructor
    · exact .inl
    · rintro (a | ⟨rfl, h1⟩)
      · exact a
      · unfold putOk at hok
        rw [h1, h.fit hk] at hok
        simp at hok
        cases hl : lastP (isS y.1.st) xs with
        | none => rw [hl] at hok; simp at hok
        | some z =>
          obtain ⟨hz1, hz2⟩ := lastP_some hl
          simp [isS] at hz2
          rw [← hsame z hz1 hz2]
          exact hz1
theorem putC_len (xs : List Vw) (x : Vw) : (putC xs x).length ≤ xs.length + 1 := by
  unfold Go.Proofs.YtjfmgplhcinkfaaGreat.putC midC
  split
  · rw [List.length_append, List.length_cons, List.length_take, List.length_drop]; omega
  · omega
/-- A chain is its members. -/
theorem chn_uniq : ∀ {a b : List Vw}, riseW a → riseW b → (∀ y, y ∈ a ↔ y ∈ b) → a = b
  | [], [], _, _, _ => rfl
  | [], y :: b, _, _, h => absurd ((h y).2 (by simp)) (by simp)
  | x :: a, [], _, _, h => absurd ((h x).1 (by simp)) (by simp)
  | x :: a, y :: b, ha, hb, h => by
    rw [riseW, List.pairwise_cons] at ha hb
    have hxy : x = y := by
      rcases List.mem_cons.1 ((h x).1 (by simp)) with e | e
      · exact e
      · rcases List.mem_cons.1 ((h y).2 (by simp)) with e' | e'
        · exact e'.symm
        · have := Sm.less_trans (hb.1 x e) (ha.1 y e')
          rw [Sm.less_self] at this
          cases this
    subst hxy
    congr 1
    refine chn_uniq ha.2 hb.2 (fun z => ⟨fun hz => ?_, fun hz => ?_⟩)
    · rcases List.mem_cons.1 ((h z).1 (by simp [hz])) with e | e
      · have := ha.1 z hz
        rw [e, Sm.less_self] at this
        cases this
      · exact e
    · rcases List.mem_cons.1 ((h z).2 (by simp [hz])) with e | e
      · have := hb.1 z hz
        rw [e, Sm.less_self] at this
        cases this
      · exact e

/-! The rows that the laws begin with. -/
def letterA (i : Nat) : ByteArray := ⟨#[UInt8.ofNat (97 + i)]⟩
/-- The chain of the first stamps. -/
def madeK (l : List (Int × Int)) : Nat → List Vw
  | 0 => []
  | k + 1 => putR (madeK l k) (mkA (l.getD k (0, 0)) (letterA k))
def madeN (l : List (Int × Int)) : Nat := min l.length 16
theorem madeK_chn (l : List (Int × Int)) : ∀ k, Chn (madeK l k)
  | 0 => Chn.nil
  | k + 1 => (madeK_chn l k).putR rfl
theorem madeK_len (l : List (Int × Int)) : ∀ k, (madeK l k).length ≤ k
  | 0 => by simp [madeK]
  | k + 1 => by
    have h1 := madeK_len l k
    have h2 := putR_len (madeK l k) (mkA (l.getD k (0, 0)) (letterA k))
    unfold madeK
    omega
theorem Chn.i64 {xs : List Vw} (h : Chn xs) : ∀ x ∈ xs, In64 x.1.st := by
  intro x hx
  have := h.ok x hx
  unfold okW at this
  simp only [Bool.and_eq_true] at this
  exact (ok_less this.1.2).2.2
end Go.Proofs.YtjfmgplhcinkfaaGreat
/- Versions of words put in whatever order: mathematics. -/
namespace Go.Proofs.YtjfmgplhcinkfaaGreat
open Go.RowKit
set_option linter.unusedVariables false
set_option linter.unusedSimpArgs false

theorem owns_all (k : ByteArray) : ownsK (rngsOf 0) k = true := by
  have h : rngsOf 0 = [(⟨#[]⟩, ⟨#[]⟩)] := rfl
  rw [h]
  have hh : Km.has [] [] (bts k) = true := by
    unfold Km.has
    rw [Km.bl_nil]
    rfl
  have : Km.fidx (tls [(⟨#[]⟩, ⟨#[]⟩)]) (bts k) = 0 := by
    refine Km.fidx_hit (k := 0) (by rw [tls_len]; simp) (fun j hj h0 => by omega) ?_
    exact hh
  unfold ownsK
  rw [this]
  rfl
theorem mid_rise {xs : List Vw} {x : Vw} (h : riseW xs) (hok : putOk xs x = true) : riseW (midC xs x) := by
  have hne : ∀ y ∈ xs, y.1.st ≠ x.1.st := fun y hy e => by
    have := put_free hok y hy
    simp [isS, e] at this
  unfold midC
  have hdr := drop_upN (p := notA x.1.st) (l := xs)
  have htk := take_upN (p := notA x.1.st) (l := xs)
  have hr0 : riseW (xs.take (upN (notA x.1.st) xs) ++ xs.drop (upN (notA x.1.st) xs)) := by rw [List.take_append_drop]; exact h
  rw [riseW, List.pairwise_append] at hr0
  have hA : ∀ a ∈ xs.take (upN (notA x.1.st) xs), Sm.less a.1.st x.1.st = true := fun a ha => by
    have hr := h.sublist (List.take_sublist (upN (notA x.1.st) xs) xs)
    cases hg : (xs.take (upN (notA x.1.st) xs)).getLast? with
    | none => rw [List.getLast?_eq_none_iff] at hg; rw [hg] at ha; simp at ha
    | some y =>
      obtain ⟨ys, e⟩ := List.getLast?_eq_some_iff.1 hg
      rw [hg] at htk
      obtain ⟨hy1, hy2⟩ := lastP_some htk.symm
      have hyl : Sm.less y.1.st x.1.st = true := by
        simp [notA] at hy2
        exact less_total hy2 (fun e => hne y hy1 e.symm)
      rw [e] at ha hr
      rw [List.pairwise_append] at hr
      rcases List.mem_append.1 ha with ha | ha
      · exact Sm.less_trans (hr.2.2 a ha y (by simp)) hyl
      · simp at ha
        rw [ha]
        exact hyl
  have hB : ∀ b ∈ xs.drop (upN (notA x.1.st) xs), Sm.less x.1.st b.1.st = true := fun b hb => by
    have := hdr b hb
    simpa [notA] using this
  rw [riseW, List.pairwise_append, List.pairwise_cons]
  refine ⟨hr0.1, ⟨hB, hr0.2.1⟩, fun a ha b hb => ?_⟩
  rcases List.mem_cons.1 hb with rfl | hb
  · exact hA a ha
  · exact hr0.2.2 a ha b hb
theorem mem_mid {xs : List Vw} {x y : Vw} : y ∈ midC xs x ↔ y ∈ xs ∨ y = x := by
  unfold midC
  rw [List.mem_append, List.mem_cons]
  constructor
  · rintro (h | h | h)
    · exact .inl (List.mem_of_mem_take h)
    · exact .inr h
    · exact .inl (List.mem_of_mem_drop h)
  · rintro (h | h)
    · rw [← List.take_append_drop (upN (notA x.1.st) xs) xs, List.mem_append] at h
      rcases h with h | h
      · exact .inl h
      · exact .inr (.inr h)
    · exact .inr (.inl h)

/-- The i-th version. -/
def ordE (l : List Int) (i : Nat) : Vw := verK (wordK (l.getD i 0)) (1 + (i : Int), 0) ⟨#[]⟩
structure OrdF (l : List Int) (P : Nat → Prop) (F : Ch) : Prop where
  mem : ∀ K y, y ∈ F K ↔ ∃ i, P i ∧ y = ordE l i ∧ y.1.key = K
  rise : ∀ K, riseW (F K)
theorem OrdF.none (l : List Int) : OrdF l (fun _ => False) (fun _ => []) := ⟨fun K y => by simp, fun K => List.Pairwise.nil⟩
theorem ordE_st (l : List Int) {i j : Nat} (h : (ordE l i).1.st = (ordE l j).1.st) : i = j := by
  have : (1 + (i : Int), (0 : Int)) = (1 + (j : Int), 0) := h
  simp at this
  omega
theorem ordE_ok (l : List Int) (i : Nat) (h : i < 1000) : okW (ordE l i).1 = true := by
  unfold ordE
  rw [verK_ok _ _ _ (by decide)]
  rw [show Km.chk (wordK (l.getD i 0)).data.toList = true from chk_word _]
  simp [Sm.ok]
  omega
theorem OrdF.put {l : List Int} {P : Nat → Prop} {F : Ch} {R : List (ByteArray × ByteArray)} (h : OrdF l P F) {j : Nat} (hj : ¬ P j) (hj20 : j < 1000) (hR : ∀ k, ownsK R k = true) :
    (ownsK R (ordE l j).1.key && putOk (F (ordE l j).1.key) (ordE l j)) = true ∧ OrdF l (fun i => P i ∨ i = j) (putF R F (ordE l j)) := by
  have hok : putOk (F (ordE l j).1.key) (ordE l j) = true := by
    have h1 : (lastP (isS (ordE l j).1.st) (F (ordE l j).1.key)).isSome = false := by
      cases e : lastP (isS (ordE l j).1.st) (F (ordE l j).1.key) with
      | none => rfl
      | some y =>
        obtain ⟨hy, hs⟩ := lastP_some e
        obtain ⟨i, hi, rfl, _⟩ := (h.mem _ _).1 hy
        simp [isS] at hs
        exact absurd (ordE_st l hs ▸ hi) hj
    have h2 : fitK (F (ordE l j).1.key) (ordE l j) = true := by
      cases e : F (ordE l j).1.key with
      | nil => rfl
      | cons y r =>
        have hy : y ∈ F (ordE l j).1.key := by rw [e]; simp
        obtain ⟨i, hi, h3, h4⟩ := (h.mem _ _).1 hy
        unfold fitK
        simp [h4]
    unfold putOk
    rw [h1, h2, ordE_ok l j hj20]
    rfl
  have hc : (ownsK R (ordE l j).1.key && putOk (F (ordE l j).1.key) (ordE l j)) = true := by rw [hR, hok]; rfl
  refine ⟨hc, ?_⟩
  rw [putF_yes hc]
  refine ⟨fun K y => ?_, fun K => ?_⟩
  · by_cases e : K = (ordE l j).1.key
    · subst e
      rw [updF_same, mem_mid, h.mem]
      constructor
      · rintro (⟨i, hi, h3, h4⟩ | rfl)
        · exact ⟨i, .inl hi, h3, h4⟩
        · exact ⟨j, .inr rfl, rfl, rfl⟩
      · rintro ⟨i, hi | rfl, h3, h4⟩
        · exact .inl ⟨i, hi, h3, h4⟩
        · exact .inr h3
    · rw [updF_other _ _ e, h.mem]
      constructor
      · rintro ⟨i, hi, h3, h4⟩
        exact ⟨i, .inl hi, h3, h4⟩
      · rintro ⟨i, hi | rfl, h3, h4⟩
        · exact ⟨i, hi, h3, h4⟩
        · exact absurd (by rw [← h4, h3]) e
  · by_cases e : K = (ordE l j).1.key
    · subst e
      rw [updF_same]
      exact mid_rise (h.rise _) hok
    · rw [updF_other _ _ e]
      exact h.rise K
theorem OrdF.same {l : List Int} {P Q : Nat → Prop} {F G : Ch} (h : OrdF l P F) (h' : OrdF l Q G) (hpq : ∀ i, P i ↔ Q i) : F = G := by
  funext K
  refine chn_uniq (h.rise K) (h'.rise K) fun y => ?_
  rw [h.mem, h'.mem]
  constructor
  · rintro ⟨i, hi, h3⟩
    exact ⟨i, (hpq i).1 hi, h3⟩
  · rintro ⟨i, hi, h3⟩
    exact ⟨i, (hpq i).2 hi, h3⟩
end Go.Proofs.YtjfmgplhcinkfaaGreat
/- The mathematics of the document's Put of a shard. -/
namespace Go.Proofs.YtjfmgplhcinkfaaGreat
open Go.RowKit
set_option linter.unusedVariables false
set_option linter.unusedSimpArgs false

def insG (gt : Pc → Bool) (x : Pc) (l : List Pc) : List Pc := l.takeWhile (fun y => !gt y) ++ x :: l.dropWhile (fun y => !gt y)
def outG (gt : Pc → Bool) (x : Pc) (l : List Pc) : List Pc := if l.any gt = true then insG gt x l else l
theorem insG_any {gt : Pc → Bool} {x y : Pc} {l : List Pc} (h : l.any gt = true) : insG gt x (l ++ [y]) = insG gt x l ++ [y] := by
  unfold insG
  obtain ⟨z, hz, hg⟩ := List.any_eq_true.1 h
  have hne : ¬ ∀ a ∈ l, (fun y => !gt y) a = true := fun k => by have := k z hz; simp [hg] at this
  have h1 : (l ++ [y]).takeWhile (fun y => !gt y) = l.takeWhile (fun y => !gt y) := by
    clear h hz
    induction l with
    | nil => exact absurd (by simp) hne
    | cons a l ih =>
      by_cases e : gt a = true
      · simp [List.takeWhile_cons, e]
      · have e' : gt a = false := by simpa using e
        simp [List.takeWhile_cons, e']
        refine ih (fun k => hne (fun b hb => ?_))
        rcases List.mem_cons.1 hb with rfl | hb
        · simp [e']
        · exact k b hb
  have h2 : (l ++ [y]).dropWhile (fun y => !gt y) = l.dropWhile (fun y => !gt y) ++ [y] := by
    clear h hz h1
    induction l with
    | nil => exact absurd (by simp) hne
    | cons a l ih =>
      by_cases e : gt a = true
      · simp [List.dropWhile_cons, e]
      · have e' : gt a = false := by simpa using e
        simp [List.dropWhile_cons, e']
        refine ih (fun k => hne (fun b hb => ?_))
        rcases List.mem_cons.1 hb with rfl | hb
        · simp [e']
        · exact k b hb
  rw [h1, h2]
  simp
theorem insG_none {gt : Pc → Bool} {x : Pc} {l : List Pc} (h : l.any gt = false) : insG gt x l = l ++ [x] := by
  unfold insG
  have hall : ∀ a ∈ l, (fun y => !gt y) a = true := fun a ha => by
    have := List.any_eq_false.1 h a ha
    simp at this
    simp [this]
  have h1 := List.takeWhile_append_of_pos (l₂ := []) hall
  have h2 := List.dropWhile_append_of_pos (l₂ := []) hall
  rw [List.append_nil] at h1 h2
  rw [h1, h2]
  simp
theorem outG_nil (gt : Pc → Bool) (x : Pc) : outG gt x [] = [] := rfl
/-- One round: the put one, if it is its turn, then the row's own. -/
theorem outG_any {gt : Pc → Bool} {x y : Pc} {l : List Pc} (h : l.any gt = true) : outG gt x (l ++ [y]) = outG gt x l ++ [y] := by
  unfold outG
  rw [List.any_append, h, if_pos rfl, Bool.true_or, if_pos rfl, insG_any h]
theorem outG_now {gt : Pc → Bool} {x y : Pc} {l : List Pc} (h : l.any gt = false) (hy : gt y = true) : outG gt x (l ++ [y]) = outG gt x l ++ [x] ++ [y] := by
  unfold outG
  rw [List.any_append, h]
  simp [hy, insG]
  have hall : ∀ a ∈ l, (fun y => !gt y) a = true := fun a ha => by
    have := List.any_eq_false.1 h a ha
    simp at this
    simp [this]
  rw [List.takeWhile_append_of_pos hall, List.dropWhile_append_of_pos hall]
  simp [List.takeWhile_cons, List.dropWhile_cons, hy]
theorem outG_not {gt : Pc → Bool} {x y : Pc} {l : List Pc} (h : l.any gt = false) (hy : gt y = false) : outG gt x (l ++ [y]) = outG gt x l ++ [y] := by
  unfold outG
  rw [List.any_append, h]
  simp [hy]
theorem outG_end {gt : Pc → Bool} {x : Pc} {l : List Pc} : insG gt x l = if l.any gt = true then outG gt x l else outG gt x l ++ [x] := by
  unfold outG
  cases h : l.any gt with
  | true => simp
  | false => simp [insG_none h]

theorem insB_split {x : Vw} {A B : List Vw} (hA : ∀ a ∈ A, gtW x a = false) (hB : ∀ b ∈ B, gtW x b = true) : insB x (A ++ B) = A ++ x :: B := by
  unfold insB
  have hall : ∀ a ∈ A, (fun y => !gtW x y) a = true := fun a ha => by simp [hA a ha]
  rw [List.takeWhile_append_of_pos hall, List.dropWhile_append_of_pos hall]
  cases B with
  | nil => simp
  | cons b r => simp [List.takeWhile_cons, List.dropWhile_cons, hB b (by simp)]
theorem insB_mid {xs : List Vw} {x : Vw} (h : riseW xs) : insB x xs = midC xs x := by
  unfold midC
  have hdr := drop_upN (p := notA x.1.st) (l := xs)
  have htk := take_upN (p := notA x.1.st) (l := xs)
  have e := insB_split (x := x) (A := xs.take (upN (notA x.1.st) xs)) (B := xs.drop (upN (notA x.1.st) xs)) (fun a ha => ?_) (fun b hb => ?_)
  · rw [List.take_append_drop] at e
    exact e
  · have hr := h.sublist (List.take_sublist (upN (notA x.1.st) xs) xs)
    cases hg : (xs.take (upN (notA x.1.st) xs)).getLast? with
    | none => rw [List.getLast?_eq_none_iff] at hg; rw [hg] at ha; simp at ha
    | some y =>
      rw [hg] at htk
      have hy : notA x.1.st y = true := (lastP_some htk.symm).2
      have hxy : Sm.less x.1.st y.1.st = false := by unfold notA at hy; simpa using hy
      obtain ⟨ys, hys⟩ := List.getLast?_eq_some_iff.1 hg
      rw [hys] at ha hr
      unfold gtW
      rcases List.mem_append.1 ha with ha | ha
      · rw [List.pairwise_append] at hr
        have hay := hr.2.2 a ha y (by simp)
        cases hxa : Sm.less x.1.st a.1.st with
        | false => rfl
        | true =>
          rw [Sm.less_false] at hxy
          rw [Sm.less_iff] at hay hxa
          omega
      · obtain rfl : a = y := by simpa using ha
        exact hxy
  · have := hdr b hb
    unfold notA at this
    unfold gtW
    simpa using this
theorem putOkR_eq (xs : List Vw) (x : Vw) : putOkR xs x = putOk xs x := by
  unfold putOkR putOk
  have e : xs.any (isS x.1.st) = (lastP (isS x.1.st) xs).isSome := by
    cases h : lastP (isS x.1.st) xs with
    | none =>
      have := lastP_none h
      rw [Option.isSome_none, List.any_eq_false]
      intro y hy
      rw [this y hy]
      simp
    | some y =>
      have := lastP_some h
      rw [Option.isSome_some, List.any_eq_true]
      exact ⟨y, this.1, this.2⟩
  rw [e]
  cases okW x.1 <;> cases fitK xs x <;> cases (lastP (isS x.1.st) xs).isSome <;> rfl
theorem putR_eq {xs : List Vw} {x : Vw} (h : riseW xs) (hok : putOk xs x = true) : putR xs x = midC xs x := by
  unfold putR
  rw [putOkR_eq, if_pos hok, insB_mid h]
theorem find_last {s : Int × Int} {xs : List Vw} (h : riseW xs) : xs.find? (isS s) = lastP (isS s) xs := by
  cases hl : lastP (isS s) xs with
  | none =>
    rw [List.find?_eq_none]
    intro y hy
    rw [lastP_none hl y hy]
    simp
  | some y =>
    obtain ⟨A, B, hs, hy, hB⟩ := lastP_split hl
    have hA : ∀ a ∈ A, isS s a = false := fun a ha => by
      cases e : isS s a with
      | false => rfl
      | true =>
        have h1 : a.1.st = s := by simpa [isS] using e
        have h2 : y.1.st = s := by simpa [isS] using hy
        rw [hs, riseW, List.pairwise_append] at h
        have := h.2.2 a ha y (by simp)
        rw [h1, h2, Sm.less_iff] at this
        omega
    rw [hs, List.find?_append, List.find?_eq_none.2 (fun a ha => by rw [hA a ha]; simp), List.find?_cons, hy]
    rfl

theorem tw_imp {α : Type} {p : α → Bool} {l : List α} : ∀ a ∈ l.takeWhile p, p a = true ∧ a ∈ l := by
  induction l with
  | nil => simp
  | cons q t ih =>
    intro a ha
    rw [List.takeWhile_cons] at ha
    split at ha
    · rename_i e
      rcases List.mem_cons.1 ha with rfl | ha
      · exact ⟨e, by simp⟩
      · exact ⟨(ih a ha).1, List.mem_cons_of_mem _ (ih a ha).2⟩
    · simp at ha
/-- Does the key come behind? -/
def gtC (k : ByteArray) (p : Pc) : Bool := Op.bytesLess (bts k) (bts p.1)
theorem ins_split {k : ByteArray} {x : Pc} {ps : List Pc} (h : Km.rises ((ps.map (·.1)).map bts)) : ∃ A B, ps = A ++ B ∧ insG (gtC k) x ps = A ++ x :: B ∧ (∀ a ∈ A, gtC k a = false) ∧ ∀ b ∈ B, gtC k b = true := by
  refine ⟨ps.takeWhile (fun y => !gtC k y), ps.dropWhile (fun y => !gtC k y), (List.takeWhile_append_dropWhile).symm, rfl, fun a ha => ?_, fun b hb => ?_⟩
  · have := (tw_imp a ha).1
    simpa using this
  · induction ps with
    | nil => simp at hb
    | cons q t ih =>
      rw [List.map_cons, List.map_cons, Km.rises, List.pairwise_cons] at h
      rw [List.dropWhile_cons] at hb
      split at hb
      · exact ih h.2 hb
      · rename_i e
        have hq : gtC k q = true := by simpa using e
        rcases List.mem_cons.1 hb with rfl | hb
        · exact hq
        · exact Km.bl_trans hq (h.1 (bts b.1) (List.mem_map.2 ⟨b.1, List.mem_map.2 ⟨b, hb, rfl⟩, rfl⟩))
theorem ins_keys {F F' : Ch} {k : ByteArray} {x : Pc} {ps : List Pc} (hx : x.1 = k) (h : KeyL F (ps.map (·.1))) (hk : F k = []) (hk' : F' k ≠ []) (ho : ∀ d, d ≠ k → (F' d = [] ↔ F d = [])) : KeyL F' ((insG (gtC k) x ps).map (·.1)) := by
  subst hx
  obtain ⟨A, B, hps, hin, hA, hB⟩ := ins_split (x := x) (k := x.1) h.1
  rw [hin]
  have hne : ∀ p ∈ ps, p.1 ≠ x.1 := fun p hp e => (h.2 p.1).1 (List.mem_map.2 ⟨p, hp, rfl⟩) (by rw [e]; exact hk)
  have hr := h.1
  rw [hps] at hr
  simp only [List.map_append, List.map_cons, Km.rises] at hr ⊢
  refine ⟨?_, fun d => ?_⟩
  · simp only [List.map_append, List.map_cons, Km.rises] at *
    rw [List.pairwise_append] at hr ⊢
    refine ⟨hr.1, List.pairwise_cons.2 ⟨fun b hb => ?_, hr.2.1⟩, fun a ha b hb => ?_⟩
    · obtain ⟨d, hd, rfl⟩ := List.mem_map.1 hb
      obtain ⟨q, hq, rfl⟩ := List.mem_map.1 hd
      exact hB q hq
    · rcases List.mem_cons.1 hb with rfl | hb
      · obtain ⟨d, hd, rfl⟩ := List.mem_map.1 ha
        obtain ⟨q, hq, rfl⟩ := List.mem_map.1 hd
        cases e : Op.bytesLess (bts q.1) (bts x.1) with
        | true => rfl
        | false =>
          exfalso
          have := Km.bl_tri e (hA q hq)
          exact hne q (by rw [hps]; exact List.mem_append_left _ hq) (ByteArray.ext (Array.toList_inj.1 this))
      · exact hr.2.2 a ha b hb
  · by_cases e : d = x.1
    · subst e
      exact ⟨fun _ => hk', fun _ => by simp⟩
    · have h1 := h.2 d
      rw [hps] at h1
      simp only [List.map_append, List.mem_append, List.mem_cons, ne_eq] at h1 ⊢
      rw [ho d e, ← h1]
      constructor
      · rintro (h2 | h2 | h2)
        · exact .inl h2
        · exact absurd h2 e
        · exact .inr h2
      · rintro (h2 | h2)
        · exact .inl h2
        · exact .inr (.inr h2)
theorem ins_mem {gt : Pc → Bool} {x p : Pc} {ps : List Pc} (h : p ∈ insG gt x ps) : p = x ∨ p ∈ ps := by
  unfold insG at h
  rcases List.mem_append.1 h with h | h
  · exact .inr (tw_imp p h).2
  · rcases List.mem_cons.1 h with h | h
    · exact .inl h
    · exact .inr ((List.dropWhile_suffix _).subset h)
theorem ins_len (gt : Pc → Bool) (x : Pc) (ps : List Pc) : (insG gt x ps).length = ps.length + 1 := by
  unfold insG
  have := congrArg List.length (List.takeWhile_append_dropWhile (p := fun y => !gt y) (l := ps))
  rw [List.length_append] at this ⊢
  rw [List.length_cons]
  omega
theorem outG_len (gt : Pc → Bool) (x : Pc) (ps : List Pc) : (outG gt x ps).length ≤ ps.length + 1 := by
  unfold outG
  split
  · rw [ins_len]
    exact Nat.le_refl _
  · omega
end Go.Proofs.YtjfmgplhcinkfaaGreat
/- What stores leave of the document's shard. -/
namespace Go.Proofs.YtjfmgplhcinkfaaGreat
open Go.RowKit
set_option linter.unusedVariables false
set_option linter.unusedSimpArgs false

theorem OwnR.aside {α : Type} {K : RK α} {w : World} {base b o : Nat} {v x : Value} {l : List α} (h : OwnR K w base v l) (hne : ∀ g, v.ownBlock = some g → g ≠ b) : OwnR K (w.setCell ⟨b, o, none⟩ x) base v l :=
  h.block (fun g e => Below.heap_setCell _ _ _ _ (hne g e))
/-- What a call that writes into it, or makes memory, leaves it with: what was made is its own, too. -/
def Tmore (T : Nat → Prop) (w w' : World) : Nat → Prop := fun j => T j ∨ (w.heap.size ≤ j ∧ j < w'.heap.size)
section
variable {w : World} {T : Nat → Prop} {rb : Nat} {rv cv ov v : Value} {ps qs : List Pc} {R l : List (ByteArray × ByteArray)} {F F' : Ch}
theorem RfS.putR (h : RfS w T rb rv cv ps R F) (hv : OwnR KR w 0 v l) (ht : ∀ g, v.ownBlock = some g → T g ∧ g ≠ rb ∧ cv.ownBlock ≠ some g) : RfS (w.setCell ⟨rb, 0, none⟩ v) T rb v cv ps l F :=
  ⟨fun j hj => by have := h.lt j hj; simpa using this, h.tb, World.cell?_setCell_same _ _ _ h.c0, by rw [World.cell?_setCell_other _ _ _ _ (by simp)]; exact h.c1,
    fun i => by have := h.fr i; simpa using this, hv.aside (fun g e => (ht g e).2.1), fun g e => ⟨(ht g e).1, (ht g e).2.1⟩, h.cr.aside (fun g e => (h.ct g e).2.1),
    fun g e => ⟨(h.ct g e).1, (h.ct g e).2.1, fun e2 => (ht g e2).2.2 e⟩, h.kl, fun p hp => ⟨(h.row p hp).1.aside (fun g e => ((h.row p hp).2 g e).2.1), (h.row p hp).2⟩⟩
theorem RfS.putC {T' : Nat → Prop} (h : RfS w T rb rv cv ps R F) (h1 : ∀ j, T j → T' j) (h2 : ∀ j, T' j → j < w.heap.size) (ho : OwnR KC w 0 ov qs) (hot : ∀ g, ov.ownBlock = some g → T' g ∧ g ≠ rb ∧ rv.ownBlock ≠ some g)
    (hkl : KeyL F' (qs.map (·.1))) (hrow : ∀ p ∈ qs, OwnR KW w 0 (pcv p) (F' p.1) ∧ ∀ g, (pcv p).ownBlock = some g → T' g ∧ g ≠ rb ∧ ov.ownBlock ≠ some g) : RfS (w.setCell ⟨rb, 1, none⟩ ov) T' rb rv ov qs R F' :=
  ⟨fun j hj => by have := h2 j hj; simpa using this, h1 _ h.tb, by rw [World.cell?_setCell_other _ _ _ _ (by simp)]; exact h.c0, World.cell?_setCell_same _ _ _ h.c1,
    fun i => by have := h.fr i; simpa using this, h.rr.aside (fun g e => (h.rt g e).2), fun g e => ⟨h1 g (h.rt g e).1, (h.rt g e).2⟩, ho.aside (fun g e => (hot g e).2.1), hot, hkl,
    fun p hp => ⟨(hrow p hp).1.aside (fun g e => ((hrow p hp).2 g e).2.1), (hrow p hp).2⟩⟩
/-- One chain written anew. -/
theorem rKC_set (ps : List Pc) (i : Nat) (hi : i < ps.length) (c : Option Addr × Nat × Nat) : (rV KC ps).set (i * 2 + 1) (.slice c.1 c.2.1 c.2.2) = rV KC (ps.set i (ps[i].1, c)) := by
  unfold rV
  induction ps generalizing i with
  | nil => simp at hi
  | cons a l ih =>
    cases i with
    | zero => simp [KC]
    | succ i =>
      have := ih i (by simpa using hi)
      rw [show (i + 1) * 2 + 1 = i * 2 + 1 + 1 + 1 by omega]
      simp only [KC, List.flatMap_cons, List.cons_append, List.nil_append, List.set_cons_succ, List.getElem_cons_succ] at this ⊢
      rw [this]
theorem OwnR.setC {base g cap : Nat} (h : OwnR KC w base (.slice (some ⟨g, 0, none⟩) ps.length cap) ps) (i : Nat) (hi : i < ps.length) (c : Option Addr × Nat × Nat) :
    OwnR KC (w.setCell ⟨g, i * 2 + 1, none⟩ (.slice c.1 c.2.1 c.2.2)) base (.slice (some ⟨g, 0, none⟩) ps.length cap) (ps.set i (ps[i].1, c)) := by
  have h3 := (h.stored (i * 2 + 1) (.slice c.1 c.2.1 c.2.2)).1
  unfold OwnR
  rw [List.length_set, ← rKC_set ps i hi c]
  exact h3
theorem map_set1 (ps : List Pc) (i : Nat) (hi : i < ps.length) (c : Option Addr × Nat × Nat) : (ps.set i (ps[i].1, c)).map (·.1) = ps.map (·.1) := by
  rw [List.map_set]
  apply List.ext_getElem?
  intro j
  rw [List.getElem?_set]
  split
  · rename_i e
    subst e
    simp [hi]
  · rfl
theorem RfS.putL {g cap : Nat} {T' : Nat → Prop} (h : RfS w T rb rv (.slice (some ⟨g, 0, none⟩) ps.length cap) ps R F) (h1 : ∀ j, T j → T' j) (h2 : ∀ j, T' j → j < w.heap.size) (i : Nat) (hi : i < ps.length) (c : Option Addr × Nat × Nat) (L : List Vw)
    (ho : OwnR KW w 0 (.slice c.1 c.2.1 c.2.2) L) (hot : ∀ g', (Value.slice c.1 c.2.1 c.2.2).ownBlock = some g' → T' g' ∧ g' ≠ rb ∧ g' ≠ g) (hL : L ≠ []) (hn : ∀ (j : Nat) (hj : j < ps.length), j ≠ i → ps[j].1 ≠ ps[i].1) :
    RfS (w.setCell ⟨g, i * 2 + 1, none⟩ (.slice c.1 c.2.1 c.2.2)) T' rb rv (.slice (some ⟨g, 0, none⟩) ps.length cap) (ps.set i (ps[i].1, c)) R (updF F ps[i].1 L) := by
  have hg := h.ct g rfl
  refine ⟨fun j hj => by have := h2 j hj; simpa using this, h1 _ h.tb, by rw [World.cell?_setCell_other _ _ _ _ (by simp)]; exact h.c0, by rw [World.cell?_setCell_other _ _ _ _ (by simp)]; exact h.c1,
    fun j => by have := h.fr j; simpa using this, h.rr.aside (fun g' e => fun e2 => hg.2.2 (by rw [← e2]; exact e)), fun g' e => ⟨h1 g' (h.rt g' e).1, (h.rt g' e).2⟩, OwnR.setC h.cr i hi c, fun g' e => ⟨h1 g' (h.ct g' e).1, (h.ct g' e).2⟩, ?_, fun p hp => ?_⟩
  · rw [map_set1 ps i hi c]
    refine h.kl.same fun k => ?_
    by_cases e : k = ps[i].1
    · rw [e, updF_same]
      have := (h.kl.2 ps[i].1).1 (List.mem_map.2 ⟨_, List.getElem_mem hi, rfl⟩)
      exact ⟨fun h3 => absurd h3 this, fun h3 => absurd h3 hL⟩
    · rw [updF_other _ _ e]
  · obtain ⟨j, hj, rfl⟩ := List.getElem_of_mem hp
    rw [List.length_set] at hj
    rw [List.getElem_set]
    split
    · rename_i e
      rw [updF_same]
      exact ⟨OwnR.aside ho (fun g' e => (hot g' e).2.2), fun g' e => ⟨(hot g' e).1, (hot g' e).2.1, fun e2 => (hot g' e).2.2 (by cases e2; rfl)⟩⟩
    · rename_i e
      have hp2 := h.row _ (List.getElem_mem hj)
      rw [updF_other _ _ (hn j hj (Ne.symm e))]
      exact ⟨hp2.1.aside (fun g' e3 => fun e4 => (hp2.2 g' e3).2.2 (by rw [e4]; rfl)), fun g' e3 => ⟨h1 g' (hp2.2 g' e3).1, (hp2.2 g' e3).2⟩⟩
end
end Go.Proofs.YtjfmgplhcinkfaaGreat
