/- Texts of this proof, one behind the other: Gen, Kinds, WireRows, WireOne. -/
import Derived.Test.YtllagelopdedfaaGW13
import Derived.Shelf.GgClosure.Gives
/- Rows of elements of whatever kind that a call makes: read, appended to. -/
namespace Go.Proofs.Ytllagelopdedfaa
open Go.RowKit
set_option linter.unusedVariables false

/-- A kind of row: the numbers of the element's type and of the slice's, cells and bytes of an element, its zero value, how an element lies. -/
structure RK (α : Type) where
  T : TypeId
  S : TypeId
  sz : Nat
  bt : Nat
  z : Value
  enc : α → List Value
structure RK.Ok {α : Type} (K : RK α) : Prop where
  len : ∀ x, (K.enc x).length = K.sz
  pos : 0 < K.sz
  one : ∀ x, ∀ u ∈ K.enc x, u.oneCell' = true
  und : Try.prog.underlying K.S = some (.slice K.T)
  inf : (Try.prog.info? K.T).map (fun i => (i.zero, i.size, i.bytes)) = some (some K.z, K.sz, K.bt)
  zc : K.z.cells.size = K.sz
  bb : K.bt ≤ 1000
section
variable {α : Type} {K : RK α}
def rV (K : RK α) (l : List α) : List Value := l.flatMap K.enc
theorem rV_nil : rV K [] = [] := rfl
theorem rV_snoc (l : List α) (x : α) : rV K (l ++ [x]) = rV K l ++ K.enc x := by simp [rV]
theorem rV_len (hK : K.Ok) (l : List α) : (rV K l).length = l.length * K.sz := by
  unfold rV
  induction l with
  | nil => simp
  | cons x l ih => rw [List.flatMap_cons, List.length_append, ih, hK.len, List.length_cons, Nat.succ_mul, Nat.add_comm]
theorem rV_get (hK : K.Ok) (l : List α) : ∀ (i : Nat) (h : i < l.length) (j : Nat), j < K.sz → (rV K l)[i * K.sz + j]? = (K.enc l[i])[j]? := by
  induction l with
  | nil => intro i h; simp at h
  | cons x l ih =>
    intro i h j hj
    have e : rV K (x :: l) = K.enc x ++ rV K l := by simp [rV]
    rw [e]
    cases i with
    | zero =>
      rw [List.getElem?_append_left (by rw [hK.len]; omega)]
      simp
    | succ i =>
      have e1 : (i + 1) * K.sz + j = K.sz + (i * K.sz + j) := by rw [Nat.succ_mul]; omega
      rw [List.getElem?_append_right (by rw [hK.len, e1]; omega), hK.len, e1, Nat.add_sub_cancel_left]
      exact ih i (by simpa using h) j hj
/-- A row of the call's own. -/
abbrev OwnR (K : RK α) (w : World) (base : Nat) (v : Value) (l : List α) : Prop := w.ownsRow base K.T K.sz v l.length (rV K l)
theorem OwnR.nil (K : RK α) (w : World) (base : Nat) : OwnR K w base (.slice none 0 0) [] := ⟨by simp [rV], .inl ⟨rfl, rfl⟩⟩
theorem OwnR.block {w w' : World} {base : Nat} {v : Value} {l : List α} (h : OwnR K w base v l) (hb : ∀ g, v.ownBlock = some g → w'.heap[g]? = w.heap[g]?) : OwnR K w' base v l := by
  refine ⟨h.1, ?_⟩
  rcases h.2 with h0 | ⟨g, cap, cur, rfl, hbg, hg, r⟩
  · exact .inl h0
  · exact .inr ⟨g, cap, cur, rfl, hbg, (hb g rfl).trans hg, r⟩
theorem OwnR.below {w w' : World} {base : Nat} {v : Value} {l : List α} (h : OwnR K w base v l) (hb : Below w.heap.size w w') : OwnR K w' base v l :=
  h.block (fun g e => hb.5 g (h.lt g e).2)
theorem OwnR.mono {w : World} {base base' : Nat} {v : Value} {l : List α} (h : OwnR K w base v l) (hb : base' ≤ base) : OwnR K w base' v l := by
  refine ⟨h.1, ?_⟩
  rcases h.2 with h0 | ⟨g, cap, cur, rfl, hbg, r⟩
  · exact .inl h0
  · exact .inr ⟨g, cap, cur, rfl, by omega, r⟩
theorem OwnR.shape {w : World} {base : Nat} {v : Value} {l : List α} (h : OwnR K w base v l) : ∃ a c, v = .slice a l.length c := by
  rcases h.2 with ⟨rfl, h0⟩ | ⟨g, cap, cur, rfl, _⟩
  · exact ⟨none, 0, by rw [h0]⟩
  · exact ⟨_, _, rfl⟩
theorem OwnR.len {w : World} {base : Nat} {a : Option Addr} {n c : Nat} {l : List α} (h : OwnR K w base (.slice a n c) l) : n = l.length := by
  obtain ⟨_, _, e⟩ := h.shape
  cases e
  rfl
theorem OwnR.lt' {w : World} {base : Nat} {v : Value} {l : List α} (h : OwnR K w base v l) {k : Nat} (hk : w.heap.size ≤ k) : v.ownBlock ≠ some k := fun e => by have := (h.lt k e).2; omega
theorem OwnR.lo {w : World} {base : Nat} {v : Value} {l : List α} (h : OwnR K w base v l) {k : Nat} (hk : k < base) : v.ownBlock ≠ some k := fun e => by have := (h.lt k e).1; omega
/-- What is read of it. -/
theorem OwnR.cell (hK : K.Ok) {w : World} {base : Nat} {v : Value} {l : List α} (h : OwnR K w base v l) (i : Nat) (hi : i < l.length) :
    ∃ g cap, v = .slice (some ⟨g, 0, none⟩) l.length cap ∧ l.length ≤ cap ∧ cap ≤ maxLen ∧ base ≤ g ∧ g < w.heap.size ∧ ∀ j u, (K.enc l[i])[j]? = some u → w.cell? ⟨g, 0 + i * K.sz + j, none⟩ = some u := by
  rcases h.2 with ⟨rfl, h0⟩ | ⟨g, cap, cur, rfl, hb, hg, hn, hm, hs, ht⟩
  · omega
  · refine ⟨g, cap, rfl, hn, hm, hb, (Array.getElem?_eq_some_iff.1 hg).1, fun j u hu => ?_⟩
    have hj : j < K.sz := by rw [← hK.len l[i]]; exact (List.getElem?_eq_some_iff.1 hu).1
    have hk := rV_get hK l i hi j hj
    rw [hu, ← ht, List.getElem?_take, if_pos (by
      have h1 : (i + 1) * K.sz ≤ l.length * K.sz := Nat.mul_le_mul_right _ hi
      rw [Nat.succ_mul] at h1
      omega), Array.getElem?_toList] at hk
    rw [Nat.zero_add]
    simp [World.cell?, hg, hk]
theorem OwnR.caps {w : World} {base : Nat} {a : Option Addr} {n cap : Nat} {l : List α} (h : OwnR K w base (.slice a n cap) l) : n ≤ cap ∧ cap ≤ maxLen ∧ (a = none → cap = 0) := by
  rcases h.2 with ⟨e, h0⟩ | ⟨g, cap', cur, e, hb, hg, hn, hm, hs, ht⟩
  · cases e
    exact ⟨by omega, by unfold maxLen; omega, fun _ => rfl⟩
  · cases e
    exact ⟨hn, hm, by simp⟩
/-- One element appended. -/
theorem wp_pushR (hK : K.Ok) {ops : Array Oper} {rest : List Oper} {o : Oper} {a : Act} {Q : Exit → Act → World → Prop} {wr : World} (hgd : o.guard = none) (s x : Operand)
    (hop : o.op = .call { callee := .builtin .append, args := #[s, x], argTypes := #[K.S, K.S] })
    (base : Nat) (v : Value) (l : List α) (y : α) (cs : Array Value) (hcs : cs.toList = K.enc y) (hs : a.eval s = v) (hown : OwnR K wr base v l) (hx : a.eval x = .slice (some ⟨wr.heap.size, 0, none⟩) 1 1) (hl : l.length ≤ 1000000) (hbs : base ≤ wr.heap.size)
    (h : ∀ g cap w', OwnR K w' base (.slice (some ⟨g, 0, none⟩) (l.length + 1) cap) (l ++ [y]) → Below base wr w' → KeptD v wr w' → (v.ownBlock = some g ∨ wr.heap.size ≤ g) → g < w'.heap.size → wpList Try.prog ops Q rest (a.put o.dst (.slice (some ⟨g, 0, none⟩) (l.length + 1) cap)) w') :
    wpList Try.prog ops Q (o :: rest) a (wr.alloc (.cells cs K.T)) := by
  obtain ⟨i0, hi, hz0, hz1, hz2⟩ := info_parts hK.inf
  have hbb := hK.bb
  refine wpList_append_lies _ hgd s x K.S hop base K.T i0 _ K.sz K.bt hK.und hi hz0 hz1 hz2 hK.zc hK.pos v l.length (rV K l) hs (hown.alloc _) ⟨wr.heap.size, 0, none⟩ 1 1 (K.enc y) hx (by rw [hK.len, Nat.one_mul])
    (fun j u hu => World.news_of_block (cs := cs) (t := K.T) (fr := (0, 0)) (heap_alloc_new wr _) j u (by rw [hcs]; exact hu)) (hK.one y) (by omega) (by unfold maxLen; omega) (Nat.le_trans (Nat.mul_le_mul (show l.length + 1 ≤ 1000001 by omega) hbb) (by decide)) (by simp; omega) (wr.heap.size + 1) (by simp) ?_
  intro g cap w' ho hg hat hlt
  refine h g cap w' (by unfold OwnR; rw [rV_snoc]; simpa using ho) (((Below.refl base wr).alloc hbs _).grown hg (by simp; omega) (fun k hk => (hown.lt k hk).1)) (fun j hj hne => ?_) (by rcases hat with h1 | h1; exact .inl h1; exact .inr (by omega)) hlt
  rw [hg.block j (by simp; omega) (fun e => hne e.symm)]
  exact Below.heap_alloc _ _ _ hj
/-- The same, as the run of the operation. -/
theorem run_pushR (hK : K.Ok) {wr : World} (ty : TypeId) (base : Nat) (v : Value) (l : List α) (y : α) (cs : Array Value) (hcs : cs.toList = K.enc y) (hown : OwnR K wr base v l) (hl : l.length ≤ 1000000) (hbs : base ≤ wr.heap.size) :
    ∃ g cap w', (Builtin.append_ #[K.S, K.S] ty #[v, .slice (some ⟨wr.heap.size, 0, none⟩) 1 1]).run Try.prog (wr.alloc (.cells cs K.T)) = .ok (.slice (some ⟨g, 0, none⟩) (l.length + 1) cap) w' ∧ OwnR K w' base (.slice (some ⟨g, 0, none⟩) (l.length + 1) cap) (l ++ [y]) ∧ Below base wr w' ∧ KeptD v wr w' ∧ (v.ownBlock = some g ∨ wr.heap.size ≤ g) ∧ g < w'.heap.size := by
  obtain ⟨i0, hi, hz0, hz1, hz2⟩ := info_parts hK.inf
  have hbb := hK.bb
  obtain ⟨g, cap, w', hrun, ho, hg, hat, hlt⟩ := run_append_lies (wr.alloc (.cells cs K.T)) K.S ty base K.T i0 _ K.sz K.bt hK.und hi hz0 hz1 hz2 hK.zc hK.pos v l.length (rV K l) (hown.alloc _) ⟨wr.heap.size, 0, none⟩ 1 1 (K.enc y) (by rw [hK.len, Nat.one_mul])
    (fun j u hu => World.news_of_block (cs := cs) (t := K.T) (fr := (0, 0)) (heap_alloc_new wr _) j u (by rw [hcs]; exact hu)) (hK.one y) (by omega) (by unfold maxLen; omega) (Nat.le_trans (Nat.mul_le_mul (show l.length + 1 ≤ 1000001 by omega) hbb) (by decide)) (by simp; omega) (wr.heap.size + 1) (by simp)
  refine ⟨g, cap, w', hrun, by unfold OwnR; rw [rV_snoc]; simpa using ho, ((Below.refl base wr).alloc hbs _).grown hg (by simp; omega) (fun k hk => (hown.lt k hk).1), fun j hj hne => ?_, by rcases hat with h1 | h1; exact .inl h1; exact .inr (by omega), hlt⟩
  rw [hg.block j (by simp; omega) (fun e => hne e.symm)]
  exact Below.heap_alloc _ _ _ hj
end

/-- A row of elements read in memory. -/
def RowIn {α : Type} (K : RK α) (w : World) (a : Option Addr) (l : List α) : Prop :=
  ∀ i (h : i < l.length), ∃ b off, a = some ⟨b, off, none⟩ ∧ b < w.heap.size ∧ ∀ j u, (K.enc l[i])[j]? = some u → w.cell? ⟨b, off + i * K.sz + j, none⟩ = some u
theorem RowIn.below {α : Type} {K : RK α} {w w' : World} {a : Option Addr} {l : List α} (h : RowIn K w a l) (hb : Below w.heap.size w w') : RowIn K w' a l := by
  intro i hi
  obtain ⟨b, off, rfl, hlt, hc⟩ := h i hi
  exact ⟨b, off, rfl, by have := hb.size; omega, fun j u hu => kcell hb hlt (hc j u hu)⟩
theorem RowIn.of_own {α : Type} {K : RK α} (hK : K.Ok) {w : World} {base : Nat} {a : Option Addr} {n c : Nat} {l : List α} (h : OwnR K w base (.slice a n c) l) : RowIn K w a l := by
  intro i hi
  obtain ⟨g, cap, e, _, _, _, hlt, hc⟩ := h.cell hK i hi
  cases e
  exact ⟨g, 0, rfl, hlt, hc⟩
/-- A slice that reads as these elements. -/
def RowAt {α : Type} (K : RK α) (w : World) (v : Value) (l : List α) : Prop := ∃ a cap, v = .slice a l.length cap ∧ l.length ≤ cap ∧ cap ≤ maxLen ∧ (a = none → cap = 0) ∧ RowIn K w a l
theorem RowAt.below {α : Type} {K : RK α} {w w' : World} {v : Value} {l : List α} (h : RowAt K w v l) (hb : Below w.heap.size w w') : RowAt K w' v l := by
  obtain ⟨a, cap, rfl, h1, h2, h3, hr⟩ := h
  exact ⟨a, cap, rfl, h1, h2, h3, hr.below hb⟩
theorem RowAt.of_own {α : Type} {K : RK α} (hK : K.Ok) {w : World} {base : Nat} {v : Value} {l : List α} (h : OwnR K w base v l) : RowAt K w v l := by
  obtain ⟨a, c, rfl⟩ := h.shape
  obtain ⟨h1, h2, h3⟩ := h.caps
  exact ⟨a, c, rfl, h1, h2, h3, RowIn.of_own hK h⟩
end Go.Proofs.Ytllagelopdedfaa
/- Rows of ints, texts, ranges, uint64s: their kinds. -/
namespace Go.Proofs.Ytllagelopdedfaa
open Go.RowKit
set_option linter.unusedVariables false
set_option linter.unusedSimpArgs false

def KI : RK Int where
  T := 3
  S := 23
  sz := 1
  bt := 8
  z := .int .i64 0
  enc x := [.int .i64 x]
theorem ki_ok : KI.Ok where
  len _ := rfl
  pos := by decide
  one x u hu := by simp [KI] at hu; subst hu; rfl
  und := Try.underlying23
  inf := by kernel_rfl
  zc := rfl
  bb := by decide
def KS : RK ByteArray where
  T := 9
  S := 89
  sz := 1
  bt := 16
  z := .string ⟨#[]⟩
  enc x := [.string x]
theorem ks_ok : KS.Ok where
  len _ := rfl
  pos := by decide
  one x u hu := by simp [KS] at hu; subst hu; rfl
  und := Try.underlying89
  inf := by kernel_rfl
  zc := rfl
  bb := by decide
def KR : RK (ByteArray × ByteArray) where
  T := 44
  S := 22
  sz := 2
  bt := 32
  z := .agg #[.string ⟨#[]⟩, .string ⟨#[]⟩]
  enc x := [.string x.1, .string x.2]
theorem kr_ok : KR.Ok where
  len _ := rfl
  pos := by decide
  one x u hu := by
    simp [KR] at hu
    rcases hu with rfl | rfl <;> rfl
  und := Try.underlying22
  inf := by kernel_rfl
  zc := rfl
  bb := by decide
def KU : RK Nat where
  T := 100
  S := 119
  sz := 1
  bt := 8
  z := .int .u64 0
  enc x := [.int .u64 (x : Int)]
theorem ku_ok : KU.Ok where
  len _ := rfl
  pos := by decide
  one x u hu := by simp [KU] at hu; subst hu; rfl
  und := Try.underlying119
  inf := by kernel_rfl
  zc := rfl
  bb := by decide

/-- An int of a row. -/
theorem RowIn.int {w : World} {a : Option Addr} {l : List Int} (h : RowIn KI w a l) (i : Nat) (hi : i < l.length) : ∃ b off, a = some ⟨b, off, none⟩ ∧ b < w.heap.size ∧ w.cell? ⟨b, off + i, none⟩ = some (.int .i64 l[i]) := by
  obtain ⟨b, off, e, hl, hc⟩ := h i hi
  have := hc 0 _ rfl
  rw [show KI.sz = 1 from rfl, Nat.mul_one, Nat.add_zero] at this
  exact ⟨b, off, e, hl, this⟩
theorem RowIn.str {w : World} {a : Option Addr} {l : List ByteArray} (h : RowIn KS w a l) (i : Nat) (hi : i < l.length) : ∃ b off, a = some ⟨b, off, none⟩ ∧ b < w.heap.size ∧ w.cell? ⟨b, off + i, none⟩ = some (.string l[i]) := by
  obtain ⟨b, off, e, hl, hc⟩ := h i hi
  have := hc 0 _ rfl
  rw [show KS.sz = 1 from rfl, Nat.mul_one, Nat.add_zero] at this
  exact ⟨b, off, e, hl, this⟩
theorem RowIn.rng {w : World} {a : Option Addr} {l : List (ByteArray × ByteArray)} (h : RowIn KR w a l) : RngIn w a l := by
  intro i hi
  obtain ⟨b, off, e, hl, hc⟩ := h i hi
  exact ⟨b, off, e, hl, hc 0 _ rfl, hc 1 _ rfl⟩
theorem RowAt.drew {α : Type} {K : RK α} {w : World} {v : Value} {l : List α} (h : RowAt K w v l) : RowAt K w.drew v l := h
end Go.Proofs.Ytllagelopdedfaa
/- Rows of ints, texts, ranges and uint64s; numbers; so many parts of a kind; ranges that go on from one another. -/
namespace Go.Proofs.Ytllagelopdedfaa
open Go.RowKit
set_option linter.unusedVariables false
set_option linter.unusedSimpArgs false

theorem RowIn.u64s {w : World} {a : Option Addr} {l : List Nat} (h : RowIn KU w a l) (hb : ∀ z ∈ l, z < 18446744073709551616) : U64s w a l := by
  refine ⟨hb, fun i hi => ?_⟩
  obtain ⟨b, off, e, hl, hc⟩ := h i hi
  have := hc 0 _ rfl
  rw [show KU.sz = 1 from rfl, Nat.mul_one, Nat.add_zero] at this
  exact ⟨b, off, e, this⟩
theorem encs_encO (l : List Int) : encs (l.map Int.toNat) = encO l := by
  unfold encs encO
  rw [List.flatMap_map]
theorem Mv.low {P : Nat → Prop} {w w1 w2 : World} (h : Mv P w w1) (k : Below w.heap.size w1 w2) : Mv P w w2 :=
  ⟨k.os.trans h.os, k.tape.trans h.tape, k.output.trans h.output, Nat.le_trans h.size k.size, fun i hi hp => (k.block i hi).trans (h.block i hi hp)⟩

set_option maxRecDepth 100000 in
set_option maxHeartbeats 1600000 in
theorem numbers_any (v : Value) (l : List Int) (w : World) (hl : l.length ≤ 1000) (h0 : ∀ x ∈ l, 0 ≤ x ∧ x ≤ 9223372036854775807) (hr : RowAt KI w v l) :
    Calls Try.prog 55 #[v] w fun e w' => e = .returned (.string ⟨(encO l).toArray⟩) ∧ Below w.heap.size w w' := by
  obtain ⟨a, cap, rfl, _, _, _, hri⟩ := hr
  have HR := Lib.hid hri
  have H0 := Lib.hid h0
  clear hri h0
  go_enter Try.func55, Try.ntmps55
  go_wp2
  go_loopw [3, 8] (fun p i wr => ∃ k : Nat, k ≤ l.length ∧ i = .int .i64 k ∧ OwnR KU wr w.heap.size p ((l.take k).map Int.toNat) ∧ Below w.heap.size w wr) (fun _ i _ => l.length - (intOf i).toNat)
  case atStart => exact ⟨0, by omega, rfl, by rw [List.take_zero]; exact OwnR.nil _ _ _, Below.refl _ _⟩
  case round =>
    obtain ⟨k, hk, rfl, ho, hbel⟩ := hrel
    have hol : ((l.take k).map Int.toNat).length ≤ 100000 := by simp; omega
    have HO := Lib.hid ho
    obtain ⟨sa, sc, rfl⟩ := ho.shape
    have hbs := hbel.size
    clear ho
    by_cases hlt : k < l.length
    · obtain ⟨b, off, rfl, hbl, c0⟩ := (HR.out.below hbel).int k hlt
      have HT : Hid ((l.take (k + 1)).map Int.toNat = (l.take k).map Int.toNat ++ [l[k].toNat]) := Lib.hid (by rw [List.take_succ_eq_append_getElem hlt, List.map_append]; rfl)
      have hx := H0.out l[k] (List.getElem_mem hlt)
      generalize l[k] = x at c0 HT hx
      generalize (l.take k).map Int.toNat = acc at hol HO HT
      have hw : IntKind.u64.wrap x = x := IntWalk.u64_in _ (by omega)
      have hxx : [Value.int .u64 x] = KU.enc x.toNat := by show _ = [Value.int .u64 ((x.toNat : Nat) : Int)]; rw [Int.toNat_of_nonneg hx.1]
      have HX := Lib.hid hxx
      clear hx hxx
      go_wp2_with (at_builtin; refine wp_pushR ku_ok (wr := wr) rfl _ _ rfl w.heap.size (.slice sa acc.length sc) acc x.toNat #[.int .u64 x] HX.out rfl HO.out rfl (by omega) hbs ?_; intro g2 cap2 w2 ho2 hb2 hk2 hat2 hlt2)
      go_roundw
      case rel => exact ⟨k + 1, by omega, by go_num, by rw [HT.out]; exact ho2, hbel.trans hb2⟩
      case measure => simp [intOf]; omega
    · obtain rfl : k = l.length := by omega
      have hA : (l.take l.length).map Int.toNat = l.map Int.toNat := by rw [List.take_length]
      have hE : encs ((l.take l.length).map Int.toNat) = encO l := by rw [hA]; exact encs_encO l
      have hZ : ∀ z ∈ (l.take l.length).map Int.toNat, z < 18446744073709551616 := fun z hz => by
        rw [hA] at hz
        obtain ⟨x, hx, rfl⟩ := List.mem_map.1 hz
        have := H0.out x hx
        omega
      have HB := Lib.hid hbel
      clear hA hbel
      generalize (l.take l.length).map Int.toNat = acc at HO hol hE hZ
      have hj := join_at sa acc.length sc acc wr rfl ((RowIn.of_own ku_ok HO.out).u64s hZ) (by omega)
      rw [hE] at hj
      clear hE hZ hol
      go_wp2_with fail
      refine hj.mono ?_
      rintro e w2 ⟨rfl, hb2⟩
      go_wp2
      go_ret
      exact ⟨rfl, bstep HB.out hb2⟩

set_option maxRecDepth 100000 in
set_option maxHeartbeats 1600000 in
theorem split_wire (v : Value) (us : List (List UInt8)) (w : World) (hl : us.length ≤ 1000) (hr : RowAt KS w v (us.map fun u => ⟨u.toArray⟩)) :
    Calls Try.prog 63 #[v] w fun e w' => ∃ u, e = .returned u ∧ OwnR KR w' w.heap.size u (wbas (Km.chainL [] us)) ∧ Below w.heap.size w w' := by
  obtain ⟨a, cap, rfl, _, _, _, hri⟩ := hr
  rw [List.length_map]
  have HR := Lib.hid hri
  clear hri
  go_enter Try.func63, Try.ntmps63
  go_wp2
  go_loopw [3, 4, 9] (fun p f i wr => ∃ k : Nat, k ≤ us.length ∧ i = .int .i64 k ∧ f = .string ⟨(Km.lastL [] (us.take k)).toArray⟩ ∧ OwnR KR wr w.heap.size p (wbas (Km.preL [] (us.take k))) ∧ Below w.heap.size w wr) (fun _ _ i _ => us.length - (intOf i).toNat)
  case atStart => exact ⟨0, by omega, rfl, rfl, by rw [List.take_zero]; exact OwnR.nil _ _ _, Below.refl _ _⟩
  case round =>
    obtain ⟨k, hk, rfl, rfl, ho, hbel⟩ := hrel
    have hol : (wbas (Km.preL [] (us.take k))).length ≤ 100000 := by rw [wbas_len, Km.pre_len]; simp; omega
    have HO := Lib.hid ho
    obtain ⟨sa, sc, rfl⟩ := ho.shape
    have hbs := hbel.size
    clear ho
    by_cases hlt : k < us.length
    · obtain ⟨b, off, rfl, hbl, c0⟩ := (HR.out.below hbel).str k (by rw [List.length_map]; exact hlt)
      rw [List.getElem_map] at c0
      have HT : Hid (wbas (Km.preL [] (us.take (k + 1))) = wbas (Km.preL [] (us.take k)) ++ [(⟨(Km.lastL [] (us.take k)).toArray⟩, ⟨us[k].toArray⟩)]) := Lib.hid (by rw [List.take_succ_eq_append_getElem hlt, Km.pre_snoc]; simp [wbas])
      have HL : Hid ((⟨(Km.lastL [] (us.take (k + 1))).toArray⟩ : ByteArray) = ⟨us[k].toArray⟩) := Lib.hid (by rw [List.take_succ_eq_append_getElem hlt, Km.last_snoc])
      generalize (⟨us[k].toArray⟩ : ByteArray) = X at c0 HT HL
      generalize (⟨(Km.lastL [] (us.take k)).toArray⟩ : ByteArray) = F at HT ⊢
      generalize wbas (Km.preL [] (us.take k)) = acc at hol HO HT
      go_wp2_with (at_builtin; refine wp_pushR kr_ok (wr := wr) rfl _ _ rfl w.heap.size (.slice sa acc.length sc) acc (F, X) #[.string F, .string X] rfl rfl HO.out rfl (by omega) hbs ?_; intro g2 cap2 w2 ho2 hb2 hk2 hat2 hlt2)
      go_wp2
      go_roundw
      case rel => exact ⟨k + 1, by omega, by go_num, by rw [HL.out], by rw [HT.out]; exact ho2, hbel.trans hb2⟩
      case measure => simp [intOf]; omega
    · obtain rfl : k = us.length := by omega
      have HT : Hid (wbas (Km.preL [] (us.take us.length)) ++ [(⟨(Km.lastL [] (us.take us.length)).toArray⟩, ⟨#[]⟩)] = wbas (Km.chainL [] us)) := Lib.hid (by rw [List.take_length, Km.pre_chain]; simp [wbas])
      generalize (⟨(Km.lastL [] (us.take us.length)).toArray⟩ : ByteArray) = F at HT ⊢
      generalize wbas (Km.preL [] (us.take us.length)) = acc at hol HO HT
      go_wp2_with (at_builtin; refine wp_pushR kr_ok (wr := wr) rfl _ _ rfl w.heap.size (.slice sa acc.length sc) acc (F, ⟨#[]⟩) #[.string F, .string ⟨#[]⟩] rfl rfl HO.out rfl (by omega) hbs ?_; intro g2 cap2 w2 ho2 hb2 hk2 hat2 hlt2)
      go_wp2
      go_ret
      exact ⟨.slice (some ⟨g2, 0, none⟩) (acc.length + 1) cap2, rfl, by rw [← HT.out]; exact ho2, hbel.trans hb2⟩


end Go.Proofs.Ytllagelopdedfaa
/- One part, to its place; so many parts of a kind, to the list at their place. -/
namespace Go.Proofs.Ytllagelopdedfaa
open Go.RowKit
set_option linter.unusedVariables false
set_option linter.unusedSimpArgs false


set_option maxRecDepth 100000 in
set_option maxHeartbeats 800000 in
theorem one_text (R B o : Nat) (s : ByteArray) (a : Int) (y0 : Value) (w : World) (hs : s.size ≤ 9223372036854775807) (h : RdP w R s a) (hne : B ≠ R) (c0 : w.cell? ⟨B, o, none⟩ = some y0) (f0 : w.frozen? ⟨B, o, none⟩ = false) :
    Calls Try.prog 74 #[.pointer (some ⟨B, o, none⟩), .func (.func 60) #[.pointer (some ⟨R, 0, none⟩)] #[]] w fun e w' => ∃ (wm : World) (x : ByteArray) (m : Nat), e = .returned (.bool (rdt s.data.toList a (s.size : Int)).isSome) ∧ w' = (wm.setCell ⟨B, o, none⟩ (.string x)) ∧ RdP wm R s m ∧ (∀ z k, rdt s.data.toList a (s.size : Int) = some (z, k) → x = ⟨z.toArray⟩ ∧ m = k) ∧ Mv (· = R) w wm := by
  have hc := text_part R s a w hs h
  clear h
  go_enter Try.func74, Try.ntmps74
  go_wp2_with fail
  refine hc.mono ?_
  rintro e wm ⟨x, m, rfl, hR, hx, hmv⟩
  have HX := Lib.hid hx
  have k0 : wm.cell? ⟨B, o, none⟩ = some y0 := hmv.cell (fun e => hne e) c0
  have q0 : wm.frozen? ⟨B, o, none⟩ = false := by rw [World.frozen?_of_block (hmv.block B (lt_of_cellN c0) (fun e => hne e))]; exact f0
  have HR := Lib.hid hR
  have HMV := Lib.hid hmv
  clear hx hc hR hmv
  go_wp2
  go_ret
  exact ⟨wm, x, m, rfl, rfl, HR.out, HX.out, HMV.out⟩

set_option maxRecDepth 100000 in
set_option maxHeartbeats 800000 in
theorem one_flag (R B o : Nat) (s : ByteArray) (a : Int) (y0 : Value) (w : World) (hs : s.size ≤ 9223372036854775807) (h : RdP w R s a) (hne : B ≠ R) (c0 : w.cell? ⟨B, o, none⟩ = some y0) (f0 : w.frozen? ⟨B, o, none⟩ = false) :
    Calls Try.prog 75 #[.pointer (some ⟨B, o, none⟩), .func (.func 76) #[.pointer (some ⟨R, 0, none⟩)] #[]] w fun e w' => ∃ (wm : World) (x : Bool) (m : Nat), e = .returned (.bool (rdF s.data.toList a).isSome) ∧ w' = (wm.setCell ⟨B, o, none⟩ (.bool x)) ∧ RdP wm R s m ∧ (∀ z k, rdF s.data.toList a = some (z, k) → x = z ∧ m = k) ∧ Mv (· = R) w wm := by
  have hc := flag_part R s a w hs h
  clear h
  go_enter Try.func75, Try.ntmps75
  go_wp2_with fail
  refine hc.mono ?_
  rintro e wm ⟨x, m, rfl, hR, hx, hmv⟩
  have HX := Lib.hid hx
  have k0 : wm.cell? ⟨B, o, none⟩ = some y0 := hmv.cell (fun e => hne e) c0
  have q0 : wm.frozen? ⟨B, o, none⟩ = false := by rw [World.frozen?_of_block (hmv.block B (lt_of_cellN c0) (fun e => hne e))]; exact f0
  have HR := Lib.hid hR
  have HMV := Lib.hid hmv
  clear hx hc hR hmv
  go_wp2
  go_ret
  exact ⟨wm, x, m, rfl, rfl, HR.out, HX.out, HMV.out⟩

set_option maxRecDepth 100000 in
set_option maxHeartbeats 800000 in
theorem one_number (R B o : Nat) (s : ByteArray) (a : Int) (y0 : Value) (w : World) (hs : s.size ≤ 9223372036854775807) (h : RdP w R s a) (hne : B ≠ R) (c0 : w.cell? ⟨B, o, none⟩ = some y0) (f0 : w.frozen? ⟨B, o, none⟩ = false) :
    Calls Try.prog 57 #[.pointer (some ⟨B, o, none⟩), .func (.func 58) #[.pointer (some ⟨R, 0, none⟩)] #[]] w fun e w' => ∃ (wm : World) (x : Int) (m : Nat), e = .returned (.bool (rdI s.data.toList a).isSome) ∧ w' = (wm.setCell ⟨B, o, none⟩ (.int .i64 x)) ∧ RdP wm R s m ∧ (∀ z k, rdI s.data.toList a = some (z, k) → x = z ∧ m = k) ∧ Mv (· = R) w wm := by
  have hc := number_part R s a w hs h
  clear h
  go_enter Try.func57, Try.ntmps57
  go_wp2_with fail
  refine hc.mono ?_
  rintro e wm ⟨x, m, rfl, hR, hx, hmv⟩
  have HX := Lib.hid hx
  have k0 : wm.cell? ⟨B, o, none⟩ = some y0 := hmv.cell (fun e => hne e) c0
  have q0 : wm.frozen? ⟨B, o, none⟩ = false := by rw [World.frozen?_of_block (hmv.block B (lt_of_cellN c0) (fun e => hne e))]; exact f0
  have HR := Lib.hid hR
  have HMV := Lib.hid hmv
  clear hx hc hR hmv
  go_wp2
  go_ret
  exact ⟨wm, x, m, rfl, rfl, HR.out, HX.out, HMV.out⟩

set_option maxRecDepth 100000 in
set_option maxHeartbeats 800000 in
theorem one_past (R B o : Nat) (s : ByteArray) (a : Int) (y0 : Value) (w : World) (hs : s.size ≤ 9223372036854775807) (h : RdP w R s a) (hne : B ≠ R) (c0 : w.cell? ⟨B, o, none⟩ = some y0) (f0 : w.frozen? ⟨B, o, none⟩ = false) :
    Calls Try.prog 79 #[.pointer (some ⟨B, o, none⟩), .func (.func 80) #[.pointer (some ⟨R, 0, none⟩)] #[]] w fun e w' => ∃ (wm : World) (u : Value) (m : Nat), e = .returned (.bool (prD s.data.toList a).isSome) ∧ w' = (wm.setCell ⟨B, o, none⟩ u) ∧ RdP wm R s m ∧ OwnD wm w.heap.size u (prL (prD s.data.toList a)) ∧ (∀ z k, prD s.data.toList a = some (z, k) → m = k) ∧ Mv (· = R) w wm := by
  have hc := past_part R s a w hs h
  clear h
  go_enter Try.func79, Try.ntmps79
  go_wp2_with fail
  refine hc.mono ?_
  rintro e wm ⟨u, m, rfl, hR, ho, hx, hmv⟩
  obtain ⟨sa, sc, rfl⟩ := ho.shape
  have HO := Lib.hid ho
  clear ho
  have HX := Lib.hid hx
  have k0 : wm.cell? ⟨B, o, none⟩ = some y0 := hmv.cell (fun e => hne e) c0
  have q0 : wm.frozen? ⟨B, o, none⟩ = false := by rw [World.frozen?_of_block (hmv.block B (lt_of_cellN c0) (fun e => hne e))]; exact f0
  have HR := Lib.hid hR
  have HMV := Lib.hid hmv
  clear hx hc hR hmv
  go_wp2
  go_ret
  exact ⟨wm, _, m, rfl, rfl, HR.out, HO.out, HX.out, HMV.out⟩

set_option maxRecDepth 100000 in
set_option maxHeartbeats 800000 in
theorem one_stamp (R B o : Nat) (s : ByteArray) (a : Int) (y0 y1 : Value) (w : World) (hs : s.size ≤ 9223372036854775807) (h : RdP w R s a) (hne : B ≠ R) (c0 : w.cell? ⟨B, o, none⟩ = some y0) (f0 : w.frozen? ⟨B, o, none⟩ = false) (c1 : w.cell? ⟨B, o + 1, none⟩ = some y1) (f1 : w.frozen? ⟨B, o + 1, none⟩ = false) :
    Calls Try.prog 77 #[.pointer (some ⟨B, o, none⟩), .func (.func 78) #[.pointer (some ⟨R, 0, none⟩)] #[]] w fun e w' => ∃ (wm : World) (x y : Int) (m : Nat), e = .returned (.bool (Sm.rdS (rd s.data.toList) a).isSome) ∧ w' = ((wm.setCell ⟨B, o, none⟩ (.int .i64 x)).setCell ⟨B, o + 1, none⟩ (.int .i64 y)) ∧ RdP wm R s m ∧ (∀ z k, Sm.rdS (rd s.data.toList) a = some (z, k) → (x, y) = z ∧ m = k) ∧ Mv (· = R) w wm := by
  have hc := stamp_part R s a w hs h
  clear h
  go_enter Try.func77, Try.ntmps77
  go_wp2_with fail
  refine hc.mono ?_
  rintro e w1 ⟨x, y, m, rfl, hR, hx, hmv⟩
  have HX := Lib.hid hx
  have hbn := balloc (Below.refl _ w1) (.cells #[.int .i64 x, .int .i64 y] 67)
  have HR := Lib.hid (hR.keep hbn)
  have hmv2 := hmv.alloc (.cells #[.int .i64 x, .int .i64 y] 67)
  have k0 : (w1.alloc (.cells #[.int .i64 x, .int .i64 y] 67)).cell? ⟨B, o, none⟩ = some y0 := hmv2.cell (fun e => hne e) c0
  have q0 : (w1.alloc (.cells #[.int .i64 x, .int .i64 y] 67)).frozen? ⟨B, o, none⟩ = false := by rw [World.frozen?_of_block (hmv2.block B (lt_of_cellN c0) (fun e => hne e))]; exact f0
  have k1 : (w1.alloc (.cells #[.int .i64 x, .int .i64 y] 67)).cell? ⟨B, o + 1, none⟩ = some y1 := hmv2.cell (fun e => hne e) c1
  have q1 : (w1.alloc (.cells #[.int .i64 x, .int .i64 y] 67)).frozen? ⟨B, o + 1, none⟩ = false := by rw [World.frozen?_of_block (hmv2.block B (lt_of_cellN c0) (fun e => hne e))]; exact f1
  have v0 : (w1.alloc (.cells #[.int .i64 x, .int .i64 y] 67)).cell? ⟨w1.heap.size, 0, none⟩ = some (.int .i64 x) := by simp
  have v1 : (w1.alloc (.cells #[.int .i64 x, .int .i64 y] 67)).cell? ⟨w1.heap.size, 1, none⟩ = some (.int .i64 y) := by simp
  have HMV := Lib.hid hmv2
  have hBs : B ≠ w1.heap.size := by have := hmv.size; have := lt_of_cellN c0; omega
  clear hx hc hR hmv hmv2 hbn c0 c1 f0 f1
  go_wp2
  go_ret
  exact ⟨_, x, y, m, rfl, rfl, HR.out, HX.out, HMV.out⟩
end Go.Proofs.Ytllagelopdedfaa
