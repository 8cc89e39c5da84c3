/- Texts of this proof, one behind the other: Gen, WireRows, VaryNumber, RefNumber, StampRefBytes. -/
import Derived.Test.YtkaehjehpclgcaaGW15
import Derived.Shelf.GgClosure.Gives
import Derived.Test.YtkaehjehpclgcaaProg
import Derived.WalkKit
import Derived.WalkLawsBesides
import Derived.Lib.Hide
import Derived.Deep.RegionWith
import Derived.Deep.RegionHeld3
/- Rows of elements of whatever kind that a call makes: read, appended to. -/
namespace Go.Proofs.Ytkaehjehpclgcaa
open Go.RowKit
set_option linter.unusedVariables false

/-- A kind of row: the numbers of the element's type and of the slice's, cells and bytes of an element, its zero value, how an element lies. -/
structure RK (α : Type) where
  T : TypeId
  S : TypeId
  sz : Nat
  bt : Nat
  z : Value
  enc : α → List Value
structure RK.Ok {α : Type} (K : RK α) : Prop where
  len : ∀ x, (K.enc x).length = K.sz
  pos : 0 < K.sz
  one : ∀ x, ∀ u ∈ K.enc x, u.oneCell' = true
  und : Try.prog.underlying K.S = some (.slice K.T)
  inf : (Try.prog.info? K.T).map (fun i => (i.zero, i.size, i.bytes)) = some (some K.z, K.sz, K.bt)
  zc : K.z.cells.size = K.sz
  bb : K.bt ≤ 1000
section
variable {α : Type} {K : RK α}
def rV (K : RK α) (l : List α) : List Value := l.flatMap K.enc
theorem rV_nil : rV K [] = [] := rfl
theorem rV_snoc (l : List α) (x : α) : rV K (l ++ [x]) = rV K l ++ K.enc x := by simp [rV]
theorem rV_len (hK : K.Ok) (l : List α) : (rV K l).length = l.length * K.sz := by
  unfold rV
  induction l with
  | nil => simp
  | cons x l ih => rw [List.flatMap_cons, List.length_append, ih, hK.len, List.length_cons, Nat.succ_mul, Nat.add_comm]
theorem rV_get (hK : K.Ok) (l : List α) : ∀ (i : Nat) (h : i < l.length) (j : Nat), j < K.sz → (rV K l)[i * K.sz + j]? = (K.enc l[i])[j]? := by
  induction l with
  | nil => intro i h; simp at h
  | cons x l ih =>
    intro i h j hj
    have e : rV K (x :: l) = K.enc x ++ rV K l := by simp [rV]
    rw [e]
    cases i with
    | zero =>
      rw [List.getElem?_append_left (by rw [hK.len]; omega)]
      simp
    | succ i =>
      have e1 : (i + 1) * K.sz + j = K.sz + (i * K.sz + j) := by rw [Nat.succ_mul]; omega
      rw [List.getElem?_append_right (by rw [hK.len, e1]; omega), hK.len, e1, Nat.add_sub_cancel_left]
      exact ih i (by simpa using h) j hj
/-- A row of the call's own. -/
abbrev OwnR (K : RK α) (w : World) (base : Nat) (v : Value) (l : List α) : Prop := w.ownsRow base K.T K.sz v l.length (rV K l)
theorem OwnR.nil (K : RK α) (w : World) (base : Nat) : OwnR K w base (.slice none 0 0) [] := ⟨by simp [rV], .inl ⟨rfl, rfl⟩⟩
theorem OwnR.block {w w' : World} {base : Nat} {v : Value} {l : List α} (h : OwnR K w base v l) (hb : ∀ g, v.ownBlock = some g → w'.heap[g]? = w.heap[g]?) : OwnR K w' base v l := by
  refine ⟨h.1, ?_⟩
  rcases h.2 with h0 | ⟨g, cap, cur, rfl, hbg, hg, r⟩
  · exact .inl h0
  · exact .inr ⟨g, cap, cur, rfl, hbg, (hb g rfl).trans hg, r⟩
theorem OwnR.below {w w' : World} {base : Nat} {v : Value} {l : List α} (h : OwnR K w base v l) (hb : Below w.heap.size w w') : OwnR K w' base v l :=
  h.block (fun g e => hb.5 g (h.lt g e).2)
theorem OwnR.mono {w : World} {base base' : Nat} {v : Value} {l : List α} (h : OwnR K w base v l) (hb : base' ≤ base) : OwnR K w base' v l := by
  refine ⟨h.1, ?_⟩
  rcases h.2 with h0 | ⟨g, cap, cur, rfl, hbg, r⟩
  · exact .inl h0
  · exact .inr ⟨g, cap, cur, rfl, by omega, r⟩
theorem OwnR.shape {w : World} {base : Nat} {v : Value} {l : List α} (h : OwnR K w base v l) : ∃ a c, v = .slice a l.length c := by
  rcases h.2 with ⟨rfl, h0⟩ | ⟨g, cap, cur, rfl, _⟩
  · exact ⟨none, 0, by rw [h0]⟩
  · exact ⟨_, _, rfl⟩
theorem OwnR.len {w : World} {base : Nat} {a : Option Addr} {n c : Nat} {l : List α} (h : OwnR K w base (.slice a n c) l) : n = l.length := by
  obtain ⟨_, _, e⟩ := h.shape
  cases e
  rfl
theorem OwnR.lt' {w : World} {base : Nat} {v : Value} {l : List α} (h : OwnR K w base v l) {k : Nat} (hk : w.heap.size ≤ k) : v.ownBlock ≠ some k := fun e => by have := (h.lt k e).2; omega
theorem OwnR.lo {w : World} {base : Nat} {v : Value} {l : List α} (h : OwnR K w base v l) {k : Nat} (hk : k < base) : v.ownBlock ≠ some k := fun e => by have := (h.lt k e).1; omega
/-- What is read of it. -/
theorem OwnR.cell (hK : K.Ok) {w : World} {base : Nat} {v : Value} {l : List α} (h : OwnR K w base v l) (i : Nat) (hi : i < l.length) :
    ∃ g cap, v = .slice (some ⟨g, 0, none⟩) l.length cap ∧ l.length ≤ cap ∧ cap ≤ maxLen ∧ base ≤ g ∧ g < w.heap.size ∧ ∀ j u, (K.enc l[i])[j]? = some u → w.cell? ⟨g, 0 + i * K.sz + j, none⟩ = some u := by
  rcases h.2 with ⟨rfl, h0⟩ | ⟨g, cap, cur, rfl, hb, hg, hn, hm, hs, ht⟩
  · omega
  · refine ⟨g, cap, rfl, hn, hm, hb, (Array.getElem?_eq_some_iff.1 hg).1, fun j u hu => ?_⟩
    have hj : j < K.sz := by rw [← hK.len l[i]]; exact (List.getElem?_eq_some_iff.1 hu).1
    have hk := rV_get hK l i hi j hj
    rw [hu, ← ht, List.getElem?_take, if_pos (by
      have h1 : (i + 1) * K.sz ≤ l.length * K.sz := Nat.mul_le_mul_right _ hi
      rw [Nat.succ_mul] at h1
      omega), Array.getElem?_toList] at hk
    rw [Nat.zero_add]
    simp [World.cell?, hg, hk]
theorem OwnR.caps {w : World} {base : Nat} {a : Option Addr} {n cap : Nat} {l : List α} (h : OwnR K w base (.slice a n cap) l) : n ≤ cap ∧ cap ≤ maxLen ∧ (a = none → cap = 0) := by
  rcases h.2 with ⟨e, h0⟩ | ⟨g, cap', cur, e, hb, hg, hn, hm, hs, ht⟩
  · cases e
    exact ⟨by omega, by unfold maxLen; omega, fun _ => rfl⟩
  · cases e
    exact ⟨hn, hm, by simp⟩
/-- One element appended. -/
theorem wp_pushR (hK : K.Ok) {ops : Array Oper} {rest : List Oper} {o : Oper} {a : Act} {Q : Exit → Act → World → Prop} {wr : World} (hgd : o.guard = none) (s x : Operand)
    (hop : o.op = .call { callee := .builtin .append, args := #[s, x], argTypes := #[K.S, K.S] })
    (base : Nat) (v : Value) (l : List α) (y : α) (cs : Array Value) (hcs : cs.toList = K.enc y) (hs : a.eval s = v) (hown : OwnR K wr base v l) (hx : a.eval x = .slice (some ⟨wr.heap.size, 0, none⟩) 1 1) (hl : l.length ≤ 1000000) (hbs : base ≤ wr.heap.size)
    (h : ∀ g cap w', OwnR K w' base (.slice (some ⟨g, 0, none⟩) (l.length + 1) cap) (l ++ [y]) → Below base wr w' → KeptD v wr w' → (v.ownBlock = some g ∨ wr.heap.size ≤ g) → g < w'.heap.size → wpList Try.prog ops Q rest (a.put o.dst (.slice (some ⟨g, 0, none⟩) (l.length + 1) cap)) w') :
    wpList Try.prog ops Q (o :: rest) a (wr.alloc (.cells cs K.T)) := by
  obtain ⟨i0, hi, hz0, hz1, hz2⟩ := info_parts hK.inf
  have hbb := hK.bb
  refine wpList_append_lies _ hgd s x K.S hop base K.T i0 _ K.sz K.bt hK.und hi hz0 hz1 hz2 hK.zc hK.pos v l.length (rV K l) hs (hown.alloc _) ⟨wr.heap.size, 0, none⟩ 1 1 (K.enc y) hx (by rw [hK.len, Nat.one_mul])
    (fun j u hu => World.news_of_block (cs := cs) (t := K.T) (fr := (0, 0)) (heap_alloc_new wr _) j u (by rw [hcs]; exact hu)) (hK.one y) (by omega) (by unfold maxLen; omega) (Nat.le_trans (Nat.mul_le_mul (show l.length + 1 ≤ 1000001 by omega) hbb) (by decide)) (by simp; omega) (wr.heap.size + 1) (by simp) ?_
  intro g cap w' ho hg hat hlt
  refine h g cap w' (by unfold OwnR; rw [rV_snoc]; simpa using ho) (((Below.refl base wr).alloc hbs _).grown hg (by simp; omega) (fun k hk => (hown.lt k hk).1)) (fun j hj hne => ?_) (by rcases hat with h1 | h1; exact .inl h1; exact .inr (by omega)) hlt
  rw [hg.block j (by simp; omega) (fun e => hne e.symm)]
  exact Below.heap_alloc _ _ _ hj
/-- The same, as the run of the operation. -/
theorem run_pushR (hK : K.Ok) {wr : World} (ty : TypeId) (base : Nat) (v : Value) (l : List α) (y : α) (cs : Array Value) (hcs : cs.toList = K.enc y) (hown : OwnR K wr base v l) (hl : l.length ≤ 1000000) (hbs : base ≤ wr.heap.size) :
    ∃ g cap w', (Builtin.append_ #[K.S, K.S] ty #[v, .slice (some ⟨wr.heap.size, 0, none⟩) 1 1]).run Try.prog (wr.alloc (.cells cs K.T)) = .ok (.slice (some ⟨g, 0, none⟩) (l.length + 1) cap) w' ∧ OwnR K w' base (.slice (some ⟨g, 0, none⟩) (l.length + 1) cap) (l ++ [y]) ∧ Below base wr w' ∧ KeptD v wr w' ∧ (v.ownBlock = some g ∨ wr.heap.size ≤ g) ∧ g < w'.heap.size := by
  obtain ⟨i0, hi, hz0, hz1, hz2⟩ := info_parts hK.inf
  have hbb := hK.bb
  obtain ⟨g, cap, w', hrun, ho, hg, hat, hlt⟩ := run_append_lies (wr.alloc (.cells cs K.T)) K.S ty base K.T i0 _ K.sz K.bt hK.und hi hz0 hz1 hz2 hK.zc hK.pos v l.length (rV K l) (hown.alloc _) ⟨wr.heap.size, 0, none⟩ 1 1 (K.enc y) (by rw [hK.len, Nat.one_mul])
    (fun j u hu => World.news_of_block (cs := cs) (t := K.T) (fr := (0, 0)) (heap_alloc_new wr _) j u (by rw [hcs]; exact hu)) (hK.one y) (by omega) (by unfold maxLen; omega) (Nat.le_trans (Nat.mul_le_mul (show l.length + 1 ≤ 1000001 by omega) hbb) (by decide)) (by simp; omega) (wr.heap.size + 1) (by simp)
  refine ⟨g, cap, w', hrun, by unfold OwnR; rw [rV_snoc]; simpa using ho, ((Below.refl base wr).alloc hbs _).grown hg (by simp; omega) (fun k hk => (hown.lt k hk).1), fun j hj hne => ?_, by rcases hat with h1 | h1; exact .inl h1; exact .inr (by omega), hlt⟩
  rw [hg.block j (by simp; omega) (fun e => hne e.symm)]
  exact Below.heap_alloc _ _ _ hj
end

/-- A row of elements read in memory. -/
def RowIn {α : Type} (K : RK α) (w : World) (a : Option Addr) (l : List α) : Prop :=
  ∀ i (h : i < l.length), ∃ b off, a = some ⟨b, off, none⟩ ∧ b < w.heap.size ∧ ∀ j u, (K.enc l[i])[j]? = some u → w.cell? ⟨b, off + i * K.sz + j, none⟩ = some u
theorem RowIn.below {α : Type} {K : RK α} {w w' : World} {a : Option Addr} {l : List α} (h : RowIn K w a l) (hb : Below w.heap.size w w') : RowIn K w' a l := by
  intro i hi
  obtain ⟨b, off, rfl, hlt, hc⟩ := h i hi
  exact ⟨b, off, rfl, by have := hb.size; omega, fun j u hu => kcell hb hlt (hc j u hu)⟩
theorem RowIn.of_own {α : Type} {K : RK α} (hK : K.Ok) {w : World} {base : Nat} {a : Option Addr} {n c : Nat} {l : List α} (h : OwnR K w base (.slice a n c) l) : RowIn K w a l := by
  intro i hi
  obtain ⟨g, cap, e, _, _, _, hlt, hc⟩ := h.cell hK i hi
  cases e
  exact ⟨g, 0, rfl, hlt, hc⟩
/-- A slice that reads as these elements. -/
def RowAt {α : Type} (K : RK α) (w : World) (v : Value) (l : List α) : Prop := ∃ a cap, v = .slice a l.length cap ∧ l.length ≤ cap ∧ cap ≤ maxLen ∧ (a = none → cap = 0) ∧ RowIn K w a l
theorem RowAt.below {α : Type} {K : RK α} {w w' : World} {v : Value} {l : List α} (h : RowAt K w v l) (hb : Below w.heap.size w w') : RowAt K w' v l := by
  obtain ⟨a, cap, rfl, h1, h2, h3, hr⟩ := h
  exact ⟨a, cap, rfl, h1, h2, h3, hr.below hb⟩
theorem RowAt.of_own {α : Type} {K : RK α} (hK : K.Ok) {w : World} {base : Nat} {v : Value} {l : List α} (h : OwnR K w base v l) : RowAt K w v l := by
  obtain ⟨a, c, rfl⟩ := h.shape
  obtain ⟨h1, h2, h3⟩ := h.caps
  exact ⟨a, c, rfl, h1, h2, h3, RowIn.of_own hK h⟩
end Go.Proofs.Ytkaehjehpclgcaa
/- Rows of ints, texts, ranges and uint64s; numbers; so many parts of a kind; ranges that go on from one another. -/
namespace Go.Proofs.Ytkaehjehpclgcaa
open Go.RowKit
set_option linter.unusedVariables false
set_option linter.unusedSimpArgs false

def KI : RK Int where
  T := 3
  S := 38
  sz := 1
  bt := 8
  z := .int .i64 0
  enc x := [.int .i64 x]
theorem ki_ok : KI.Ok where
  len _ := rfl
  pos := by decide
  one x u hu := by simp [KI] at hu; subst hu; rfl
  und := Try.underlying38
  inf := by kernel_rfl
  zc := rfl
  bb := by decide
def KS : RK ByteArray where
  T := 9
  S := 107
  sz := 1
  bt := 16
  z := .string ⟨#[]⟩
  enc x := [.string x]
theorem ks_ok : KS.Ok where
  len _ := rfl
  pos := by decide
  one x u hu := by simp [KS] at hu; subst hu; rfl
  und := Try.underlying107
  inf := by kernel_rfl
  zc := rfl
  bb := by decide
def KR : RK (ByteArray × ByteArray) where
  T := 55
  S := 41
  sz := 2
  bt := 32
  z := .agg #[.string ⟨#[]⟩, .string ⟨#[]⟩]
  enc x := [.string x.1, .string x.2]
theorem kr_ok : KR.Ok where
  len _ := rfl
  pos := by decide
  one x u hu := by
    simp [KR] at hu
    rcases hu with rfl | rfl <;> rfl
  und := Try.underlying41
  inf := by kernel_rfl
  zc := rfl
  bb := by decide
def KU : RK Nat where
  T := 67
  S := 122
  sz := 1
  bt := 8
  z := .int .u64 0
  enc x := [.int .u64 (x : Int)]
theorem ku_ok : KU.Ok where
  len _ := rfl
  pos := by decide
  one x u hu := by simp [KU] at hu; subst hu; rfl
  und := Try.underlying122
  inf := by kernel_rfl
  zc := rfl
  bb := by decide

/-- An int of a row. -/
theorem RowIn.int {w : World} {a : Option Addr} {l : List Int} (h : RowIn KI w a l) (i : Nat) (hi : i < l.length) : ∃ b off, a = some ⟨b, off, none⟩ ∧ b < w.heap.size ∧ w.cell? ⟨b, off + i, none⟩ = some (.int .i64 l[i]) := by
  obtain ⟨b, off, e, hl, hc⟩ := h i hi
  have := hc 0 _ rfl
  rw [show KI.sz = 1 from rfl, Nat.mul_one, Nat.add_zero] at this
  exact ⟨b, off, e, hl, this⟩
theorem RowIn.str {w : World} {a : Option Addr} {l : List ByteArray} (h : RowIn KS w a l) (i : Nat) (hi : i < l.length) : ∃ b off, a = some ⟨b, off, none⟩ ∧ b < w.heap.size ∧ w.cell? ⟨b, off + i, none⟩ = some (.string l[i]) := by
  obtain ⟨b, off, e, hl, hc⟩ := h i hi
  have := hc 0 _ rfl
  rw [show KS.sz = 1 from rfl, Nat.mul_one, Nat.add_zero] at this
  exact ⟨b, off, e, hl, this⟩
theorem RowIn.rng {w : World} {a : Option Addr} {l : List (ByteArray × ByteArray)} (h : RowIn KR w a l) : RngIn w a l := by
  intro i hi
  obtain ⟨b, off, e, hl, hc⟩ := h i hi
  exact ⟨b, off, e, hl, hc 0 _ rfl, hc 1 _ rfl⟩
theorem RowIn.u64s {w : World} {a : Option Addr} {l : List Nat} (h : RowIn KU w a l) (hb : ∀ z ∈ l, z < 18446744073709551616) : U64s w a l := by
  refine ⟨hb, fun i hi => ?_⟩
  obtain ⟨b, off, e, hl, hc⟩ := h i hi
  have := hc 0 _ rfl
  rw [show KU.sz = 1 from rfl, Nat.mul_one, Nat.add_zero] at this
  exact ⟨b, off, e, this⟩
theorem encs_encO (l : List Int) : encs (l.map Int.toNat) = encO l := by
  unfold encs encO
  rw [List.flatMap_map]
theorem RowAt.drew {α : Type} {K : RK α} {w : World} {v : Value} {l : List α} (h : RowAt K w v l) : RowAt K w.drew v l := h
theorem Mv.low {P : Nat → Prop} {w w1 w2 : World} (h : Mv P w w1) (k : Below w.heap.size w1 w2) : Mv P w w2 :=
  ⟨k.os.trans h.os, k.tape.trans h.tape, k.output.trans h.output, Nat.le_trans h.size k.size, fun i hi hp => (k.block i hi).trans (h.block i hi hp)⟩

set_option maxRecDepth 100000 in
set_option maxHeartbeats 1600000 in
theorem numbers_any (v : Value) (l : List Int) (w : World) (hl : l.length ≤ 1000) (h0 : ∀ x ∈ l, 0 ≤ x ∧ x ≤ 9223372036854775807) (hr : RowAt KI w v l) :
    Calls Try.prog 35 #[v] w fun e w' => e = .returned (.string ⟨(encO l).toArray⟩) ∧ Below w.heap.size w w' := by
  obtain ⟨a, cap, rfl, _, _, _, hri⟩ := hr
  have HR := Lib.hid hri
  have H0 := Lib.hid h0
  clear hri h0
  go_enter Try.func35, Try.ntmps35
  go_wp2
  go_loopw [3, 8] (fun p i wr => ∃ k : Nat, k ≤ l.length ∧ i = .int .i64 k ∧ OwnR KU wr w.heap.size p ((l.take k).map Int.toNat) ∧ Below w.heap.size w wr) (fun _ i _ => l.length - (intOf i).toNat)
  case atStart => exact ⟨0, by omega, rfl, by rw [List.take_zero]; exact OwnR.nil _ _ _, Below.refl _ _⟩
  case round =>
    obtain ⟨k, hk, rfl, ho, hbel⟩ := hrel
    have hol : ((l.take k).map Int.toNat).length ≤ 100000 := by simp; omega
    have HO := Lib.hid ho
    obtain ⟨sa, sc, rfl⟩ := ho.shape
    have hbs := hbel.size
    clear ho
    by_cases hlt : k < l.length
    · obtain ⟨b, off, rfl, hbl, c0⟩ := (HR.out.below hbel).int k hlt
      have HT : Hid ((l.take (k + 1)).map Int.toNat = (l.take k).map Int.toNat ++ [l[k].toNat]) := Lib.hid (by rw [List.take_succ_eq_append_getElem hlt, List.map_append]; rfl)
      have hx := H0.out l[k] (List.getElem_mem hlt)
      generalize l[k] = x at c0 HT hx
      generalize (l.take k).map Int.toNat = acc at hol HO HT
      have hw : IntKind.u64.wrap x = x := IntWalk.u64_in _ (by omega)
      have hxx : [Value.int .u64 x] = KU.enc x.toNat := by show _ = [Value.int .u64 ((x.toNat : Nat) : Int)]; rw [Int.toNat_of_nonneg hx.1]
      have HX := Lib.hid hxx
      clear hx hxx
      go_wp2_with (at_builtin; refine wp_pushR ku_ok (wr := wr) rfl _ _ rfl w.heap.size (.slice sa acc.length sc) acc x.toNat #[.int .u64 x] HX.out rfl HO.out rfl (by omega) hbs ?_; intro g2 cap2 w2 ho2 hb2 hk2 hat2 hlt2)
      go_roundw
      case rel => exact ⟨k + 1, by omega, by go_num, by rw [HT.out]; exact ho2, hbel.trans hb2⟩
      case measure => simp [intOf]; omega
    · obtain rfl : k = l.length := by omega
      have hA : (l.take l.length).map Int.toNat = l.map Int.toNat := by rw [List.take_length]
      have hE : encs ((l.take l.length).map Int.toNat) = encO l := by rw [hA]; exact encs_encO l
      have hZ : ∀ z ∈ (l.take l.length).map Int.toNat, z < 18446744073709551616 := fun z hz => by
        rw [hA] at hz
        obtain ⟨x, hx, rfl⟩ := List.mem_map.1 hz
        have := H0.out x hx
        omega
      have HB := Lib.hid hbel
      clear hA hbel
      generalize (l.take l.length).map Int.toNat = acc at HO hol hE hZ
      have hj := join_at sa acc.length sc acc wr rfl ((RowIn.of_own ku_ok HO.out).u64s hZ) (by omega)
      rw [hE] at hj
      clear hE hZ hol
      go_wp2_with fail
      refine hj.mono ?_
      rintro e w2 ⟨rfl, hb2⟩
      go_wp2
      go_ret
      exact ⟨rfl, bstep HB.out hb2⟩

set_option maxRecDepth 100000 in
set_option maxHeartbeats 1600000 in
theorem split_wire (v : Value) (us : List (List UInt8)) (w : World) (hl : us.length ≤ 1000) (hr : RowAt KS w v (us.map fun u => ⟨u.toArray⟩)) :
    Calls Try.prog 66 #[v] w fun e w' => ∃ u, e = .returned u ∧ OwnR KR w' w.heap.size u (wbas (Km.chainL [] us)) ∧ Below w.heap.size w w' := by
  obtain ⟨a, cap, rfl, _, _, _, hri⟩ := hr
  rw [List.length_map]
  have HR := Lib.hid hri
  clear hri
  go_enter Try.func66, Try.ntmps66
  go_wp2
  go_loopw [3, 4, 9] (fun p f i wr => ∃ k : Nat, k ≤ us.length ∧ i = .int .i64 k ∧ f = .string ⟨(Km.lastL [] (us.take k)).toArray⟩ ∧ OwnR KR wr w.heap.size p (wbas (Km.preL [] (us.take k))) ∧ Below w.heap.size w wr) (fun _ _ i _ => us.length - (intOf i).toNat)
  case atStart => exact ⟨0, by omega, rfl, rfl, by rw [List.take_zero]; exact OwnR.nil _ _ _, Below.refl _ _⟩
  case round =>
    obtain ⟨k, hk, rfl, rfl, ho, hbel⟩ := hrel
    have hol : (wbas (Km.preL [] (us.take k))).length ≤ 100000 := by rw [wbas_len, Km.pre_len]; simp; omega
    have HO := Lib.hid ho
    obtain ⟨sa, sc, rfl⟩ := ho.shape
    have hbs := hbel.size
    clear ho
    by_cases hlt : k < us.length
    · obtain ⟨b, off, rfl, hbl, c0⟩ := (HR.out.below hbel).str k (by rw [List.length_map]; exact hlt)
      rw [List.getElem_map] at c0
      have HT : Hid (wbas (Km.preL [] (us.take (k + 1))) = wbas (Km.preL [] (us.take k)) ++ [(⟨(Km.lastL [] (us.take k)).toArray⟩, ⟨us[k].toArray⟩)]) := Lib.hid (by rw [List.take_succ_eq_append_getElem hlt, Km.pre_snoc]; simp [wbas])
      have HL : Hid ((⟨(Km.lastL [] (us.take (k + 1))).toArray⟩ : ByteArray) = ⟨us[k].toArray⟩) := Lib.hid (by rw [List.take_succ_eq_append_getElem hlt, Km.last_snoc])
      generalize (⟨us[k].toArray⟩ : ByteArray) = X at c0 HT HL
      generalize (⟨(Km.lastL [] (us.take k)).toArray⟩ : ByteArray) = F at HT ⊢
      generalize wbas (Km.preL [] (us.take k)) = acc at hol HO HT
      go_wp2_with (at_builtin; refine wp_pushR kr_ok (wr := wr) rfl _ _ rfl w.heap.size (.slice sa acc.length sc) acc (F, X) #[.string F, .string X] rfl rfl HO.out rfl (by omega) hbs ?_; intro g2 cap2 w2 ho2 hb2 hk2 hat2 hlt2)
      go_wp2
      go_roundw
      case rel => exact ⟨k + 1, by omega, by go_num, by rw [HL.out], by rw [HT.out]; exact ho2, hbel.trans hb2⟩
      case measure => simp [intOf]; omega
    · obtain rfl : k = us.length := by omega
      have HT : Hid (wbas (Km.preL [] (us.take us.length)) ++ [(⟨(Km.lastL [] (us.take us.length)).toArray⟩, ⟨#[]⟩)] = wbas (Km.chainL [] us)) := Lib.hid (by rw [List.take_length, Km.pre_chain]; simp [wbas])
      generalize (⟨(Km.lastL [] (us.take us.length)).toArray⟩ : ByteArray) = F at HT ⊢
      generalize wbas (Km.preL [] (us.take us.length)) = acc at hol HO HT
      go_wp2_with (at_builtin; refine wp_pushR kr_ok (wr := wr) rfl _ _ rfl w.heap.size (.slice sa acc.length sc) acc (F, ⟨#[]⟩) #[.string F, .string ⟨#[]⟩] rfl rfl HO.out rfl (by omega) hbs ?_; intro g2 cap2 w2 ho2 hb2 hk2 hat2 hlt2)
      go_wp2
      go_ret
      exact ⟨.slice (some ⟨g2, 0, none⟩) (acc.length + 1) cap2, rfl, by rw [← HT.out]; exact ho2, hbel.trans hb2⟩


end Go.Proofs.Ytkaehjehpclgcaa
/- What vary.Number and vary.Text answer. -/
namespace Go.Proofs.Ytkaehjehpclgcaa
open Go.RowKit

set_option maxRecDepth 100000 in
theorem number_any (n : Nat) (w : World) (hn : n < 18446744073709551616) :
    Calls Try.prog 74 #[.int .u64 n] w fun e w' => e = .returned (.string ⟨(Vm.enc n).toArray⟩) ∧ Below w.heap.size w w' := by
  have hu : U64s (w.alloc (.cells #[.int .u64 (n : Int)] 67)) (some ⟨w.heap.size, 0, none⟩) [n] := by
    refine ⟨by simpa using hn, fun i hi => ⟨_, _, rfl, ?_⟩⟩
    obtain rfl : i = 0 := by simpa using hi
    simp
  have he : encs [n] = Vm.enc n := by simp [encs]
  have HU := Lib.hid hu
  have HE := Lib.hid he
  clear hu he hn
  go_enter Try.func74, Try.ntmps74
  go_wp2_with (go_at_call 75; refine (join_at _ 1 1 [n] _ rfl HU.out (by simp)).mono ?_; rintro e w2 ⟨rfl, hbel⟩)
  go_ret
  refine ⟨ret_str (by rw [HE.out]), ?_⟩
  exact ((Below.refl _ w).alloc (Nat.le_refl _) _).trans (hbel.mono (by simp))

set_option maxRecDepth 100000 in
theorem text_any (s : ByteArray) (w : World) (hs : s.size ≤ 1099511627776) :
    Calls Try.prog 34 #[.string s] w fun e w' => e = .returned (.string ⟨(Vm.enc s.size ++ s.data.toList).toArray⟩) ∧ Below w.heap.size w w' := by
  have hq := Vm.enc_len10 (n := s.size) (by omega)
  go_enter Try.func34, Try.ntmps34
  go_wp2_with (go_at_call 74; refine (number_any s.size _ (by omega)).mono ?_; rintro e w2 ⟨rfl, hbel⟩)
  go_ret
  exact ⟨ret_str (str_add _ _), hbel⟩

end Go.Proofs.Ytkaehjehpclgcaa
/- What the document's own Number answers. -/
namespace Go.Proofs.Ytkaehjehpclgcaa
open Go.RowKit
set_option linter.unusedVariables false

/-- A slice of one byte, as a string. -/
theorem conv_one (w : World) (b off : Nat) (c : UInt8) (x : Int) (hx : x = (c.toNat : Int)) (h : w.cell? ⟨b, off, none⟩ = some (.int .u8 x)) :
    (convert 33 9 (.slice (some ⟨b, off, none⟩) 1 1)).run Try.prog w = .ok (.string ⟨#[c]⟩) w := by
  subst hx
  exact run_convert_bytes_back (P := Try.prog) w 33 9 5 ⟨b, off, none⟩ 1 [c] Try.underlying33 Try.underlying5 Try.underlying9 (by
    intro j hj
    obtain rfl : j = 0 := by simpa using hj
    rw [Addr.add_lit]
    simp [h])

set_option maxRecDepth 100000 in
set_option maxHeartbeats 400000 in
theorem refNumber_any (f : Nat) : ∀ (n : Nat) (w : World), n < 128 ^ f → n < 18446744073709551616 →
    Calls Try.prog 39 #[.int .u64 n] w fun e w' => e = .returned (.string ⟨(Vm.enc n).toArray⟩) ∧ Below w.heap.size w w' := by
  have small : ∀ (n : Nat) (w : World), n < 128 → Calls Try.prog 39 #[.int .u64 n] w fun e w' => e = .returned (.string ⟨(Vm.enc n).toArray⟩) ∧ Below w.heap.size w w' := by
    intro n w hc
    obtain ⟨c, hcn⟩ : ∃ c : UInt8, c = UInt8.ofNat n := ⟨_, rfl⟩
    have hcn2 : (n : Int) = (c.toNat : Int) := by rw [hcn]; simp; omega
    have hcv : ∀ (w' : World) (b off : Nat), w'.cell? ⟨b, off, none⟩ = some (.int .u8 (n : Int)) → _ := fun w' b off h => conv_one w' b off c n hcn2 h
    have HC := Lib.hid hcn
    clear hcn hcn2
    go_enter Try.func39, Try.ntmps39
    go_wp2
    go_ret
    refine ⟨ret_str ?_, (Below.refl _ w).alloc (Nat.le_refl _) _⟩
    rw [Vm.enc_lt hc, HC.out]
  induction f with
  | zero =>
    intro n w h _
    exact small n w (by simp at h; omega)
  | succ f ih =>
    intro n w h hn
    have IH := Lib.hid ih
    have Hn := Lib.hid hn
    have Hf := Lib.hid h
    have HS := Lib.hid small
    clear ih hn h small
    by_cases hc : n < 128
    · exact HS.out n w hc
    · have hx : ∀ w', Calls Try.prog 39 #[.int .u64 (IntKind.u64.wrap ((n : Int) / 128))] w' fun e w'' => e = .returned (.string ⟨(Vm.enc (n / 128)).toArray⟩) ∧ Below w'.heap.size w' w'' := by
        intro w'
        have h := IH.out (n / 128) w' (by have := Hf.out; rw [Nat.pow_succ] at this; exact Nat.div_lt_of_lt_mul (by rw [Nat.mul_comm]; exact this)) (by have := Hn.out; omega)
        rw [show ((n / 128 : Nat) : Int) = IntKind.u64.wrap ((n : Int) / 128) from by rw [IntWalk.u64_in _ (by have := Hn.out; omega)]; omega] at h
        exact h
      have HX := Lib.hid hx
      clear hx
      obtain ⟨c, hcn⟩ : ∃ c : UInt8, c = UInt8.ofNat (n % 128 + 128) := ⟨_, rfl⟩
      have hcn2 : c.toNat = n % 128 + 128 := by rw [hcn, UInt8.toNat_ofNat']; omega
      have hcv : ∀ (w' : World) (b off : Nat), w'.cell? ⟨b, off, none⟩ = some (.int .u8 (IntKind.u8.wrap (IntKind.u64.wrap (128 + (n : Int).tmod 128)))) → _ := fun w' b off h => conv_one w' b off c _ (by rw [Int.tmod_eq_emod_of_nonneg (by omega), IntWalk.u64_in _ (by omega), IntWalk.u8_in _ (by omega)]; omega) h
      have HC := Lib.hid hcn
      clear hcn hcn2
      go_enter Try.func39, Try.ntmps39
      go_wp2
      have hl10 := Vm.enc_len10 (n := n / 128) (by have := Hn.out; omega)
      go_region_with (go_at_call 39; ((with_reducible refine (HX.out _).mono ?_); rintro e w2 ⟨rfl, hb2⟩; try (have hc2 : w2.cell? ⟨w.heap.size, 0, none⟩ = some (.int .u8 (IntKind.u8.wrap (IntKind.u64.wrap (128 + (n : Int).tmod 128)))) := by (rw [hb2.cell (p := ⟨w.heap.size, 0, none⟩) (by simp)]; simp))))
      all_goals
        go_wp2
        go_ret
        refine ⟨ret_str ?_, ?_⟩
        · rw [Vm.enc_ge (n := n) (by omega), ← HC.out]
          exact str_add [c] ⟨(Vm.enc (n / 128)).toArray⟩
        · first
            | exact bstep ((Below.refl _ w).alloc (Nat.le_refl _) _).drew hb2
            | exact (bstep (Below.refl _ w).drew hb2).alloc (bstep (Below.refl _ w).drew hb2).size _

theorem refNumber (n : Nat) (w : World) (hn : n < 18446744073709551616) :
    Calls Try.prog 39 #[.int .u64 n] w fun e w' => e = .returned (.string ⟨(Vm.enc n).toArray⟩) ∧ Below w.heap.size w w' :=
  refNumber_any 10 n w (by have : (18446744073709551616 : Nat) ≤ 128 ^ 10 := by decide
                           omega) hn

end Go.Proofs.Ytkaehjehpclgcaa
/- What the document's own Bytes of stamps answers. -/
namespace Go.Proofs.Ytkaehjehpclgcaa
open Go.RowKit
set_option linter.unusedVariables false

set_option maxRecDepth 100000 in
set_option maxHeartbeats 1000000 in
theorem refBytes_any (n s : Int) (w : World) :
    Calls Try.prog 40 #[.agg #[.int .i64 n, .int .i64 s]] w fun e w' => e = .returned (.string ⟨(sbytes n s).toArray⟩) ∧ Below w.heap.size w w' := by
  cases h : Sm.ok n s with
  | false =>
    have he : sbytes n s = [] := by simp [sbytes, h]
    rw [he]
    have H := Lib.hid h
    clear h he
    go_enter Try.func40, Try.ntmps40
    go_wp2_with fail
    refine (refSCheck_any n s _).mono ?_
    rintro e w1 ⟨rfl, hb1⟩
    rw [H.out]
    have hb2 := bstep (balloc (Below.refl _ w) _) hb1
    clear hb1
    go_wp2
    go_ret
    exact ⟨rfl, hb2⟩
  | true =>
    have he : sbytes n s = Vm.enc n.toNat ++ Vm.enc s.toNat := by simp [sbytes, h]
    rw [he]
    have H := Lib.hid h
    obtain ⟨a, b, rfl, rfl, h1, h2, h3⟩ := Sm.ok_nat h
    clear h he
    simp only [Int.toNat_natCast]
    have l1 := Vm.enc_len10 (n := a) (by omega)
    have l2 := Vm.enc_len10 (n := b) (by omega)
    have hsum : ¬ 9223372036854775807 < (Vm.enc a).length + (Vm.enc b).length := by omega
    have u1 : IntKind.u64.wrap (a : Int) = (a : Int) := IntWalk.u64_in _ (by omega)
    have u2 : IntKind.u64.wrap (b : Int) = (b : Int) := IntWalk.u64_in _ (by omega)
    go_enter Try.func40, Try.ntmps40
    go_wp2_with fail
    refine (refSCheck_any a b _).mono ?_
    rintro e w1 ⟨rfl, hb1⟩
    rw [H.out]
    have c0 : w1.cell? ⟨w.heap.size, 0, none⟩ = some (.int .i64 a) := kc hb1 (by simp)
    have c1 : w1.cell? ⟨w.heap.size, 1, none⟩ = some (.int .i64 b) := kc hb1 (by simp)
    have hb2 := bstep (balloc (Below.refl _ w) _) hb1
    clear hb1
    have g0 := And.intro c0 c1
    go_wp2_with fail
    go_region_held3 (fun w' => w'.cell? ⟨w.heap.size, 0, none⟩ = some (.int .i64 a) ∧ w'.cell? ⟨w.heap.size, 1, none⟩ = some (.int .i64 b))
      (first | exact g0 | exact g1 | exact g2)
      (first
        | (go_at_call_of 39 (a); ((refine (refNumber a _ (by omega)).mono ?_); rintro e wa ⟨rfl, ha⟩; have g1 := And.intro (kc ha g0.1) (kc ha g0.2)))
        | (go_at_call_of 39 (b); ((refine (refNumber b _ (by omega)).mono ?_); rintro e wb ⟨rfl, hb⟩; have g2 := And.intro (kc hb g1.1) (kc hb g1.2))))
    have hb4 := bstep (bstep hb2.drew ha) hb
    clear ha hb hb2 g0 g1 g2
    go_wp2
    go_ret
    exact ⟨ret_str (str_add _ _), hb4⟩
end Go.Proofs.Ytkaehjehpclgcaa
