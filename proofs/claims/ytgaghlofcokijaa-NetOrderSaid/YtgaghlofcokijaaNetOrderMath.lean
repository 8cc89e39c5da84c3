/- What NetOrder keeps from round to round. -/
import Derived.Test.YtgaghlofcokijaaNetStep
namespace Go.Proofs.Ytgaghlofcokijaa
open Go.RowKit
set_option linter.unusedVariables false
set_option linter.unusedSimpArgs false

theorem mod3 (z : Int) (h : -9223372036854775808 ≤ z ∧ z ≤ 9223372036854775807) : ∃ a : Nat, a < 3 ∧ (wrap64 (z.tmod 3 + 3)).tmod 3 = (a : Int) := by
  obtain ⟨h1, h2⟩ := tmod_bdT z 3 (by omega)
  rw [IntWalk.wrap64_in _ (by omega)]
  rw [Int.tmod_eq_emod_of_nonneg (by omega)]
  exact ⟨((z.tmod 3 + 3) % 3).toNat, by omega, by omega⟩
/-- The letters, each as a text. -/
def ltsN (T : List UInt8) : List ByteArray := T.map (fun b => ⟨#[b]⟩)
/-- The first so many of them, as one text. -/
def bsN (T : List UInt8) (k : Nat) : ByteArray := ⟨(T.take k).toArray⟩
theorem ltsN_len (T : List UInt8) : (ltsN T).length = T.length := by simp [ltsN]
theorem bsN_snoc (T : List UInt8) (c : UInt8) : bsN (T ++ [c]) (T ++ [c]).length = bsN T T.length ++ ⟨#[c]⟩ := by
  unfold bsN
  apply ByteArray.ext
  rw [ByteArray.data_append, List.take_length, List.take_length]
  simp
theorem bsN_old (T : List UInt8) (c : UInt8) {m : Nat} (h : m ≤ T.length) : bsN (T ++ [c]) m = bsN T m := by
  unfold bsN
  rw [List.take_append_of_le_length h]
theorem bsN_succ (T : List UInt8) {k : Nat} (h : k < T.length) : bsN T (k + 1) = bsN T k ++ ⟨#[T[k]]⟩ := by
  unfold bsN
  apply ByteArray.ext
  rw [ByteArray.data_append, List.take_succ_eq_append_getElem h]
  simp
theorem bsN_size (T : List UInt8) {k : Nat} (h : k ≤ T.length) : (bsN T k).size = k := by
  show (bsN T k).data.size = k
  simp [bsN]
  omega
theorem bsN_cut (T : List UInt8) {m : Nat} (h : m ≤ T.length) : (bsN T T.length).extract 0 m = bsN T m := by
  unfold bsN
  apply ByteArray.ext
  rw [ByteArray.data_extract]
  apply Array.ext'
  simp

/-- What the sessions are, by the letters that were sent. -/
structure Lt (st : Nat → Nat → Ses) (T : Nat → Nat → List UInt8) (x : Nat) : Prop where
  al : ∀ i j, i < 3 → j < 3 → (st i j).all = ltsN (T i j)
  dg : ∀ i, i < 3 → st i i = Ses.zero
  ml : ∀ i j, i < 3 → j < 3 → (st i j).m ≤ (T i j).length
  ln : ∀ i j, i < 3 → j < 3 → (T i j).length ≤ x
theorem Lt.start : Lt (fun _ _ => Ses.zero) (fun _ _ => []) 0 := ⟨fun _ _ _ _ => rfl, fun _ _ => rfl, fun _ _ _ _ => Nat.le_refl _, fun _ _ _ _ => Nat.le_refl _⟩
theorem Lt.mono {st : Nat → Nat → Ses} {T : Nat → Nat → List UInt8} {x : Nat} (h : Lt st T x) : Lt st T (x + 1) := ⟨h.al, h.dg, h.ml, fun i j hi hj => Nat.le_succ_of_le (h.ln i j hi hj)⟩
theorem Lt.len {st : Nat → Nat → Ses} {T : Nat → Nat → List UInt8} {x : Nat} (h : Lt st T x) {i j : Nat} (hi : i < 3) (hj : j < 3) : (st i j).all.length = (T i j).length := by rw [h.al i j hi hj, ltsN_len]
theorem Lt.diag {st : Nat → Nat → Ses} {T : Nat → Nat → List UInt8} {x : Nat} (h : Lt st T x) {i : Nat} (hi : i < 3) : T i i = [] ∧ (st i i).m = 0 := by
  have h1 := h.al i i hi hi
  have h2 := h.dg i hi
  rw [h2] at h1 ⊢
  refine ⟨?_, rfl⟩
  have : (ltsN (T i i)).length = 0 := by rw [← h1]; rfl
  rw [ltsN_len] at this
  exact List.length_eq_zero_iff.1 this
/-- Some session was turned, but nothing was sent. -/
theorem Lt.turn {st : Nat → Nat → Ses} {T : Nat → Nat → List UInt8} {x a b : Nat} (h : Lt st T x) (ha : a < 3) (hb : b < 3) (hab : a ≠ b) {s : Ses} (h1 : s.all = (st a b).all) (h2 : s.m ≤ s.all.length) : Lt (upd st a b s) T (x + 1) := by
  have hl := h.len ha hb
  refine ⟨fun i j hi hj => ?_, fun i hi => ?_, fun i j hi hj => ?_, h.mono.ln⟩
  · by_cases e : i = a ∧ j = b
    · obtain ⟨rfl, rfl⟩ := e
      rw [upd_same, h1]
      exact h.al i j hi hj
    · rw [upd_other _ _ e]; exact h.al i j hi hj
  · rw [upd_other _ _ (by omega)]; exact h.dg i hi
  · by_cases e : i = a ∧ j = b
    · obtain ⟨rfl, rfl⟩ := e
      rw [upd_same]
      rw [h1] at h2
      omega
    · rw [upd_other _ _ e]; exact h.ml i j hi hj
/-- One letter was sent. -/
theorem Lt.sent {st : Nat → Nat → Ses} {T : Nat → Nat → List UInt8} {x a b : Nat} (h : Lt st T x) (ha : a < 3) (hb : b < 3) (hab : a ≠ b) (c : UInt8) (ho : (st a b).opn < 8) : Lt (upd st a b ((st a b).sent ⟨#[c]⟩)) (upd T a b (T a b ++ [c])) (x + 1) := by
  have hs : (st a b).sent ⟨#[c]⟩ = ⟨(st a b).all ++ [⟨#[c]⟩], (st a b).m, (st a b).way ++ [(((st a b).all.length : Int), ⟨#[c]⟩)]⟩ := by unfold Ses.sent; rw [if_pos ho]
  rw [hs]
  refine ⟨fun i j hi hj => ?_, fun i hi => ?_, fun i j hi hj => ?_, fun i j hi hj => ?_⟩
  · by_cases e : i = a ∧ j = b
    · obtain ⟨rfl, rfl⟩ := e
      rw [upd_same, upd_same]
      show (st i j).all ++ [⟨#[c]⟩] = _
      rw [h.al i j hi hj]
      simp [ltsN]
    · rw [upd_other _ _ e, upd_other _ _ e]; exact h.al i j hi hj
  · rw [upd_other _ _ (by omega)]; exact h.dg i hi
  · by_cases e : i = a ∧ j = b
    · obtain ⟨rfl, rfl⟩ := e
      rw [upd_same, upd_same]
      have := h.ml i j hi hj
      simp
      omega
    · rw [upd_other _ _ e, upd_other _ _ e]; exact h.ml i j hi hj
  · by_cases e : i = a ∧ j = b
    · obtain ⟨rfl, rfl⟩ := e
      rw [upd_same]
      have := h.ln i j hi hj
      simp
      omega
    · rw [upd_other _ _ e]; have := h.ln i j hi hj; omega

/-- An array of three times three texts. -/
structure Nine (w : World) (B : Nat) (S : Nat → Nat → ByteArray) : Prop where
  c : ∀ i j, i < 3 → j < 3 → w.cell? ⟨B, i * 3 + j, none⟩ = some (.string (S i j))
  f : ∀ o, w.frozen? ⟨B, o, none⟩ = false
theorem Nine.lt {w : World} {B : Nat} {S : Nat → Nat → ByteArray} (h : Nine w B S) : B < w.heap.size := lt_of_cellN (h.c 0 0 (by decide) (by decide))
theorem Nine.block {w w' : World} {B : Nat} {S : Nat → Nat → ByteArray} (h : Nine w B S) (hb : w'.heap[B]? = w.heap[B]?) : Nine w' B S :=
  ⟨fun i j hi hj => by rw [World.cell?_of_block hb]; exact h.c i j hi hj, fun o => by rw [World.frozen?_of_block hb]; exact h.f o⟩
theorem Nine.below {w w' : World} {B : Nat} {S : Nat → Nat → ByteArray} (h : Nine w B S) (hb : Below w.heap.size w w') : Nine w' B S := h.block (hb.block B h.lt)
theorem Nine.mv {P : Nat → Prop} {w w' : World} {B : Nat} {S : Nat → Nat → ByteArray} (h : Nine w B S) (hb : Mv P w w') (hp : ¬ P B) : Nine w' B S := h.block (hb.block B h.lt hp)
theorem Nine.congr {w : World} {B : Nat} {S S' : Nat → Nat → ByteArray} (h : Nine w B S) (e : ∀ i j, i < 3 → j < 3 → S i j = S' i j) : Nine w B S' := ⟨fun i j hi hj => by rw [← e i j hi hj]; exact h.c i j hi hj, h.f⟩
theorem Nine.set {w : World} {B : Nat} {S : Nat → Nat → ByteArray} (h : Nine w B S) {a b : Nat} (ha : a < 3) (hb : b < 3) (t : ByteArray) : Nine (w.setCell ⟨B, a * 3 + b, none⟩ (.string t)) B (upd S a b t) := by
  refine ⟨fun i j hi hj => ?_, fun o => by simpa using h.f o⟩
  by_cases e : i = a ∧ j = b
  · obtain ⟨rfl, rfl⟩ := e
    rw [upd_same]
    exact World.cell?_setCell_same _ _ _ (h.c i j hi hj)
  · rw [upd_other _ _ e, World.cell?_setCell_other _ _ _ _ (by simp <;> omega)]
    exact h.c i j hi hj
theorem Nine.new (w : World) (T : TypeId) : Nine (w.alloc (.cells #[.string ⟨#[]⟩, .string ⟨#[]⟩, .string ⟨#[]⟩, .string ⟨#[]⟩, .string ⟨#[]⟩, .string ⟨#[]⟩, .string ⟨#[]⟩, .string ⟨#[]⟩, .string ⟨#[]⟩] T)) w.heap.size (fun _ _ => ⟨#[]⟩) := by
  refine ⟨fun i j hi hj => ?_, fun o => by simp⟩
  have : (i = 0 ∨ i = 1 ∨ i = 2) ∧ (j = 0 ∨ j = 1 ∨ j = 2) := by omega
  obtain ⟨rfl | rfl | rfl, rfl | rfl | rfl⟩ := this <;> simp

/-- What is none of the net: what was there, and the two arrays. -/
def Far9 (w1 : World) (SB TB : Nat) (k : Nat) : Prop := k < w1.heap.size ∨ k = SB ∨ k = TB
/-- The state of the law. -/
structure Od (w1 w : World) (SB TB n x : Nat) (st : Nat → Nat → Ses) (T : Nat → Nat → List UInt8) : Prop where
  net : NetAt w (Far9 w1 SB TB) n 3 st
  lt : Lt st T x
  bl : Below w1.heap.size w1 w
  s : Nine w SB (fun i j => bsN (T i j) (T i j).length)
  t : Nine w TB (fun i j => bsN (T i j) (st i j).m)
  ne : SB ≠ TB
  hs : w1.heap.size ≤ SB
  ht : w1.heap.size ≤ TB
theorem Od.below {w1 w w' : World} {SB TB n x : Nat} {st : Nat → Nat → Ses} {T : Nat → Nat → List UInt8} (h : Od w1 w SB TB n x st T) (hb : Below w.heap.size w w') : Od w1 w' SB TB n x st T :=
  ⟨h.net.below hb, h.lt, h.bl.trans (hb.mono h.bl.size), h.s.below hb, h.t.below hb, h.ne, h.hs, h.ht⟩
theorem Od.drew {w1 w : World} {SB TB n x : Nat} {st : Nat → Nat → Ses} {T : Nat → Nat → List UInt8} (h : Od w1 w SB TB n x st T) : Od w1 w.drew SB TB n x st T := h.below (bdrew10 w 1)
theorem Od.mono {w1 w : World} {SB TB n x : Nat} {st : Nat → Nat → Ses} {T : Nat → Nat → List UInt8} (h : Od w1 w SB TB n x st T) : Od w1 w SB TB n (x + 1) st T :=
  ⟨h.net, h.lt.mono, h.bl, h.s, h.t, h.ne, h.hs, h.ht⟩
/-- What a session's method leaves, told of the law's other things. -/
theorem Od.base {w1 w w' : World} {SB TB : Nat} (hb : Below w1.heap.size w1 w) (hm : Mv (fun k => ¬ Far9 w1 SB TB k) w w') : Below w1.heap.size w1 w' :=
  hb.trans (hm.below (fun k hk hn => hn (.inl hk)) hb.size)
/-- Something was done to a session of which nothing was told, and nothing was sent. -/
theorem Od.turn {w1 w w' : World} {SB TB n x a b : Nat} {st : Nat → Nat → Ses} {T : Nat → Nat → List UInt8} (h : Od w1 w SB TB n x st T) (ha : a < 3) (hb : b < 3) (hab : a ≠ b) {s' : Ses} (hn : NetAt w' (Far9 w1 SB TB) n 3 (upd st a b s')) (hm : Mv (fun k => ¬ Far9 w1 SB TB k) w w') (h1 : s'.all = (st a b).all) (h2 : s'.m = (st a b).m) : Od w1 w' SB TB n (x + 1) (upd st a b s') T := by
  have hl := h.lt.len ha hb
  have hml := h.lt.ml a b ha hb
  refine ⟨hn, h.lt.turn ha hb hab h1 (by rw [h1, h2, hl]; exact hml), Od.base h.bl hm, h.s.mv hm (fun e => e (.inr (.inl rfl))), (h.t.mv hm (fun e => e (.inr (.inr rfl)))).congr (fun i j hi hj => ?_), h.ne, h.hs, h.ht⟩
  by_cases e : i = a ∧ j = b
  · obtain ⟨rfl, rfl⟩ := e
    rw [upd_same, h2]
  · rw [upd_other _ _ e]
/-- A letter was sent, and laid to those that were sent. -/
theorem Od.sent {w1 w w' : World} {SB TB n x a b : Nat} {st : Nat → Nat → Ses} {T : Nat → Nat → List UInt8} (h : Od w1 w SB TB n x st T) (ha : a < 3) (hb : b < 3) (hab : a ≠ b) (c : UInt8) (ho : (st a b).opn < 8) (hn : NetAt w' (Far9 w1 SB TB) n 3 (upd st a b ((st a b).sent ⟨#[c]⟩))) (hm : Mv (fun k => ¬ Far9 w1 SB TB k) w w') :
    Nine w' SB (fun i j => bsN (T i j) (T i j).length) ∧ Od w1 (w'.setCell ⟨SB, a * 3 + b, none⟩ (.string (bsN (T a b) (T a b).length ++ ⟨#[c]⟩))) SB TB n (x + 1) (upd st a b ((st a b).sent ⟨#[c]⟩)) (upd T a b (T a b ++ [c])) := by
  have hS := h.s.mv hm (fun e => e (.inr (.inl rfl)))
  have hT := h.t.mv hm (fun e => e (.inr (.inr rfl)))
  have hb1 := Od.base h.bl hm
  have hml := h.lt.ml a b ha hb
  have hset : Mv (fun k => k = SB) w' (w'.setCell ⟨SB, a * 3 + b, none⟩ (.string (bsN (T a b) (T a b).length ++ ⟨#[c]⟩))) := (Mv.refl (fun k => k = SB) w').set rfl _
  refine ⟨hS, hn.mvf (hset.mono (fun k e => .inr (.inl e))), h.lt.sent ha hb hab c ho, hb1.setCell (p := ⟨SB, a * 3 + b, none⟩) h.hs _, (hS.set ha hb _).congr (fun i j hi hj => ?_), (hT.mv hset (fun e => h.ne e.symm)).congr (fun i j hi hj => ?_), h.ne, h.hs, h.ht⟩
  · by_cases e : i = a ∧ j = b
    · obtain ⟨rfl, rfl⟩ := e
      rw [upd_same, upd_same, bsN_snoc]
    · rw [upd_other _ _ e, upd_other _ _ e]
  · by_cases e : i = a ∧ j = b
    · obtain ⟨rfl, rfl⟩ := e
      rw [upd_same, upd_same, show ((st i j).sent ⟨#[c]⟩).m = (st i j).m by unfold Ses.sent; rw [if_pos ho], bsN_old _ _ hml]
    · rw [upd_other _ _ e, upd_other _ _ e]
/-- A letter was told, and laid to those that were told. -/
theorem Od.told {w1 w w' : World} {SB TB n x a b : Nat} {st : Nat → Nat → Ses} {T : Nat → Nat → List UInt8} (h : Od w1 w SB TB n x st T) (ha : a < 3) (hb : b < 3) (hab : a ≠ b) {s' : Ses} {d : ByteArray} (h1 : s'.all = (st a b).all) (h2 : ∃ hm : (st a b).m < (st a b).all.length, d = (st a b).all[(st a b).m] ∧ s'.m = (st a b).m + 1) (hn : NetAt w' (Far9 w1 SB TB) n 3 (upd st a b s')) (hm : Mv (fun k => ¬ Far9 w1 SB TB k) w w') :
    Nine w' TB (fun i j => bsN (T i j) (st i j).m) ∧ Od w1 (w'.setCell ⟨TB, a * 3 + b, none⟩ (.string (bsN (T a b) (st a b).m ++ d))) SB TB n (x + 1) (upd st a b s') T := by
  obtain ⟨hlt, rfl, h3⟩ := h2
  have hS := h.s.mv hm (fun e => e (.inr (.inl rfl)))
  have hT := h.t.mv hm (fun e => e (.inr (.inr rfl)))
  have hb1 := Od.base h.bl hm
  have hl := h.lt.len ha hb
  have hal := h.lt.al a b ha hb
  have hset : Mv (fun k => k = TB) w' (w'.setCell ⟨TB, a * 3 + b, none⟩ (.string (bsN (T a b) (st a b).m ++ (st a b).all[(st a b).m]))) := (Mv.refl (fun k => k = TB) w').set rfl _
  refine ⟨hT, hn.mvf (hset.mono (fun k e => .inr (.inr e))), h.lt.turn ha hb hab h1 (by rw [h1, h3]; omega), hb1.setCell (p := ⟨TB, a * 3 + b, none⟩) h.ht _, hS.mv hset h.ne, (hT.set ha hb _).congr (fun i j hi hj => ?_), h.ne, h.hs, h.ht⟩
  by_cases e : i = a ∧ j = b
  · obtain ⟨rfl, rfl⟩ := e
    rw [upd_same, upd_same, h3, bsN_succ _ (by omega)]
    congr 1
    simp only [hal, ltsN, List.getElem_map]
  · rw [upd_other _ _ e, upd_other _ _ e]
/-- What is looked at behind each step. -/
theorem Od.look {w1 w : World} {SB TB n x a b : Nat} {st : Nat → Nat → Ses} {T : Nat → Nat → List UInt8} (h : Od w1 w SB TB n x st T) (ha : a < 3) (hb : b < 3) : ∃ (X Y : ByteArray) (m k : Nat), X.size = k ∧ Y.size = m ∧ m ≤ k ∧ k ≤ x ∧ X.extract 0 m = Y ∧ w.cell? ⟨SB, a * 3 + b, none⟩ = some (.string X) ∧ w.cell? ⟨TB, a * 3 + b, none⟩ = some (.string Y) ∧ (a ≠ b → (st a b).opn = k - m) ∧ (a = b → k = 0) := by
  have hml := h.lt.ml a b ha hb
  refine ⟨_, _, _, _, bsN_size _ (Nat.le_refl _), bsN_size _ hml, hml, h.lt.ln a b ha hb, bsN_cut _ hml, h.s.c a b ha hb, h.t.c a b ha hb, fun _ => ?_, fun e => ?_⟩
  · unfold Ses.opn
    rw [h.lt.len ha hb]
  · subst e
    rw [(h.lt.diag ha).1]
    rfl
end Go.Proofs.Ytgaghlofcokijaa
