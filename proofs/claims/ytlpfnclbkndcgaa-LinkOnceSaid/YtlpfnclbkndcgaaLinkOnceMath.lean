/- What the law LinkOnce keeps from round to round. -/
import Derived.Test.YtlpfnclbkndcgaaLinkAwake
import Derived.Test.YtlpfnclbkndcgaaOpen10
import Derived.Laws.IdiomStrings
namespace Go.Proofs.Ytlpfnclbkndcgaa
open Go.RowKit
set_option linter.unusedVariables false
set_option linter.unusedSimpArgs false

/-- The letters, each as a text. -/
def lts (T : List UInt8) : List ByteArray := T.map (fun b => ⟨#[b]⟩)
/-- The first so many of them, as one text. -/
def bsT (T : List UInt8) (k : Nat) : ByteArray := ⟨(T.take k).toArray⟩
theorem lts_len (T : List UInt8) : (lts T).length = T.length := by simp [lts]
theorem lts_succ (T : List UInt8) {k : Nat} (h : k < T.length) : (lts T).take (k + 1) = (lts T).take k ++ [⟨#[T[k]]⟩] := by
  rw [List.take_succ_eq_append_getElem (by rw [lts_len]; exact h)]
  simp [lts]
theorem bsT_zero (T : List UInt8) : bsT T 0 = ⟨#[]⟩ := by simp [bsT]
theorem bsT_succ (T : List UInt8) {k : Nat} (h : k < T.length) : bsT T k ++ ⟨#[T[k]]⟩ = bsT T (k + 1) := by
  unfold bsT
  apply ByteArray.ext
  rw [ByteArray.data_append, List.take_succ_eq_append_getElem h]
  simp
theorem bsT_size (T : List UInt8) {k : Nat} (h : k ≤ T.length) : (bsT T k).size = k := by
  show (bsT T k).data.size = k
  simp [bsT]
  omega
theorem bsT_cut (T : List UInt8) {m k : Nat} (h : m ≤ k) (hk : k ≤ T.length) : (bsT T k).extract 0 m = bsT T m := by
  unfold bsT
  apply ByteArray.ext
  rw [ByteArray.data_extract]
  apply Array.ext'
  simp
  rw [List.take_take, Nat.min_eq_left h]

/-- A text of one byte. -/
theorem conv_one (w : World) (b : UInt8) :
    (convert 50 9 (.slice (some ⟨w.heap.size, 0, none⟩) 1 1)).run Try.prog (w.alloc (.cells #[.int .u8 (b.toNat : Int)] 5)) = .ok (.string ⟨#[b]⟩) (w.alloc (.cells #[.int .u8 (b.toNat : Int)] 5)) :=
  run_convert_bytes_back (P := Try.prog) _ 50 9 5 ⟨w.heap.size, 0, none⟩ 1 [b] Try.underlying50 Try.underlying5 Try.underlying9 (fun j hj => by
    obtain rfl : j = 0 := by simp at hj; omega
    simp [Addr.add])
/-- Both ends and the row of what was sent. -/
structure On (W w : World) (B R : Nat) (T : List UInt8) (v : Value) (k m : Nat) : Prop where
  ed : Ed W w B R m (((lts T).take k).drop m) m
  row : OwnR KPk w W.heap.size v (Lk.pk 0 ((lts T).take k))
  nb : v.ownBlock ≠ some B
  nr : v.ownBlock ≠ some R
  hk : k ≤ T.length
  hm : m ≤ k
theorem On.keep {W w w' : World} {B R k m : Nat} {T : List UInt8} {v : Value} (h : On W w B R T v k m) (hb : Below w.heap.size w w') : On W w' B R T v k m :=
  ⟨h.ed.keep hb, h.row.below hb, h.nb, h.nr, h.hk, h.hm⟩
theorem On.oplen {W w : World} {B R k m : Nat} {T : List UInt8} {v : Value} (h : On W w B R T v k m) : (((lts T).take k).drop m).length = k - m := by
  rw [List.length_drop, List.length_take, lts_len, Nat.min_eq_left h.hk]
theorem On.rlen {W w : World} {B R k m : Nat} {T : List UInt8} {v : Value} (h : On W w B R T v k m) : (Lk.pk 0 ((lts T).take k)).length = k := by
  rw [Lk.pk_len, List.length_take, lts_len, Nat.min_eq_left h.hk]
theorem On.shape {W w : World} {B R k m : Nat} {T : List UInt8} {v : Value} (h : On W w B R T v k m) : ∃ a c, v = .slice a k c := by
  obtain ⟨a, c, e⟩ := h.row.shape
  rw [h.rlen] at e
  exact ⟨a, c, e⟩
theorem ownMv {α : Type} {K : RK α} {P : Nat → Prop} {w w' : World} {base : Nat} {v : Value} {l : List α} (h : OwnR K w base v l) (hm : Mv P w w') (hp : ∀ g, v.ownBlock = some g → ¬ P g) : OwnR K w' base v l :=
  h.block (fun g e => hm.block g (h.lt g e).2 (hp g e))
theorem On.send {W w w1 : World} {B R k m : Nat} {T : List UInt8} {v : Value} (h : On W w B R T v k m) (hb : Below w.heap.size w w1) (hk : k ≤ 20) (L : UInt8) :
    (k - m < 8 → Calls Try.prog 17 #[.pointer (some ⟨B, 0, none⟩), .string ⟨#[L]⟩] w1 fun e w' => e = .returned (.tuple #[.agg #[.int .i64 (k : Int), .string ⟨#[L]⟩], .int .i64 0]) ∧ SnAt w' B m (((lts T).take k).drop m ++ [⟨#[L]⟩]) ∧ Mv (fun j => j = B) w1 w') ∧
    (¬ k - m < 8 → Calls Try.prog 17 #[.pointer (some ⟨B, 0, none⟩), .string ⟨#[L]⟩] w1 fun e w' => e = .returned (.tuple #[.agg #[.int .i64 0, .string ⟨#[]⟩], .int .i64 15]) ∧ SnAt w' B m (((lts T).take k).drop m) ∧ Mv (fun j => j = B) w1 w') := by
  have hs := h.ed.sn.keep hb
  have hl := h.oplen
  have hm := h.hm
  constructor
  · intro h8
    have := send_ok B m _ ⟨#[L]⟩ w1 hs (by rw [hl]; exact h8) (by omega)
    unfold SentAt at this
    rw [hl, show m + (k - m) = k by omega] at this
    exact this
  · intro h8
    exact send_full B m _ ⟨#[L]⟩ w1 hs (by rw [hl]; have := hs.1; rw [hl] at this; omega)
/-- What is behind a Send that was taken on, and the append. -/
theorem On.sent {W w w1 w2 w3 : World} {B R k m g cap : Nat} {T : List UInt8} {v : Value} (h : On W w B R T v k m) (hk : k < T.length)
    (hs : SnAt w1 B m (((lts T).take k).drop m ++ [⟨#[T[k]]⟩])) (hm : Mv (fun j => j = B) w w1) (hb : Below w1.heap.size w1 w2)
    (ho : OwnR KPk w3 W.heap.size (.slice (some ⟨g, 0, none⟩) (k + 1) cap) (Lk.pk 0 ((lts T).take k) ++ [((k : Int), ⟨#[T[k]]⟩)])) (hb3 : Below W.heap.size w2 w3) (hk3 : KeptD v w2 w3) (hg : v.ownBlock = some g ∨ w2.heap.size ≤ g) :
    On W w3 B R T (.slice (some ⟨g, 0, none⟩) (k + 1) cap) (k + 1) m := by
  have hd : ((lts T).take (k + 1)).drop m = ((lts T).take k).drop m ++ [⟨#[T[k]]⟩] := by
    rw [lts_succ T hk, List.drop_append_of_le_length (by rw [List.length_take, lts_len]; have := h.hm; omega)]
  have hp : Lk.pk 0 ((lts T).take (k + 1)) = Lk.pk 0 ((lts T).take k) ++ [((k : Int), ⟨#[T[k]]⟩)] := by
    rw [lts_succ T hk, Lk.pk_snoc, List.length_take, lts_len, Nat.min_eq_left h.hk, Nat.zero_add]
  have e2 := (h.ed.s hs hm).keep hb
  have hgo : ∀ j, (Value.slice (some ⟨g, 0, none⟩) (k + 1) cap).ownBlock = some j → j = g := fun j hj => by simp [Value.ownBlock] at hj; exact hj.symm
  have hgne : ∀ j, j < w2.heap.size → v.ownBlock ≠ some j → (Value.slice (some ⟨g, 0, none⟩) (k + 1) cap).ownBlock ≠ some j := fun j hj hn e => by
    have := hgo j e
    subst this
    rcases hg with h1 | h1
    · exact hn h1
    · omega
  refine ⟨⟨?_, ?_, e2.ne, e2.lb, e2.lr, e2.bl.trans hb3⟩, by rw [hp]; exact ho, hgne B e2.sn.lt h.nb, hgne R e2.rc.lt h.nr, hk, by have := h.hm; omega⟩
  · rw [hd]
    exact e2.sn.block (hk3 B e2.sn.lt h.nb)
  · exact e2.rc.block (hk3 R e2.rc.lt h.nr)
/-- What is behind a Send that was not taken on. -/
theorem On.full {W w w1 : World} {B R k m : Nat} {T : List UInt8} {v : Value} (h : On W w B R T v k m) (hs : SnAt w1 B m (((lts T).take k).drop m)) (hm : Mv (fun j => j = B) w w1) : On W w1 B R T v k m :=
  ⟨h.ed.s hs hm, ownMv h.row hm (fun g e e2 => h.nb (by rw [e, e2])), h.nb, h.nr, h.hk, h.hm⟩
theorem wp_pushRk {α : Type} {K : RK α} (hK : K.Ok) {ops : Array Oper} {rest : List Oper} {o : Oper} {a : Act} {Q : Exit → Act → World → Prop} {wr : World} (hgd : o.guard = none) (s x : Operand)
    (hop : o.op = .call { callee := .builtin .append, args := #[s, x], argTypes := #[K.S, K.S] })
    (base : Nat) (v : Value) (l : List α) (k : Nat) (hlen : l.length = k) (y : α) (cs : Array Value) (hcs : cs.toList = K.enc y) (hs : a.eval s = v) (hown : OwnR K wr base v l) (hx : a.eval x = .slice (some ⟨wr.heap.size, 0, none⟩) 1 1) (hl : k ≤ 1000000) (hbs : base ≤ wr.heap.size)
    (h : ∀ g cap w', OwnR K w' base (.slice (some ⟨g, 0, none⟩) (k + 1) cap) (l ++ [y]) → Below base wr w' → KeptD v wr w' → (v.ownBlock = some g ∨ wr.heap.size ≤ g) → g < w'.heap.size → wpList Try.prog ops Q rest (a.put o.dst (.slice (some ⟨g, 0, none⟩) (k + 1) cap)) w') :
    wpList Try.prog ops Q (o :: rest) a (wr.alloc (.cells cs K.T)) := by
  subst hlen
  exact wp_pushR hK hgd s x hop base v l y cs hcs hs hown hx hl hbs h
/-- What is behind a Take that told nothing. -/
theorem On.miss {W w w1 : World} {B R k m : Nat} {T : List UInt8} {v : Value} (h : On W w B R T v k m) (hr : RcAt w1 R m) (hm : Mv (fun j => j = R) w w1) : On W w1 B R T v k m :=
  ⟨h.ed.r hr hm, ownMv h.row hm (fun g e e2 => h.nr (by rw [e, e2])), h.nb, h.nr, h.hk, h.hm⟩
/-- What is behind a Take that told, and its Answer. -/
theorem On.hit {W w w1 w2 : World} {B R k m : Nat} {T : List UInt8} {v : Value} (h : On W w B R T v k m) (hmk : m < k) (hr : RcAt w1 R (m + 1)) (hm : Mv (fun j => j = R) w w1)
    (hs : SnAt w2 B (m + 1) ((((lts T).take k).drop m).drop 1)) (hm2 : Mv (fun j => j = B) w1 w2) : On W w2 B R T v k (m + 1) := by
  rw [List.drop_drop] at hs
  exact ⟨(h.ed.r hr hm).s hs hm2, ownMv (ownMv h.row hm (fun g e e2 => h.nr (by rw [e, e2]))) hm2 (fun g e e2 => h.nb (by rw [e, e2])), h.nb, h.nr, h.hk, by omega⟩
/-- The packet of that number in the row. -/
theorem On.at {W w : World} {B R k m n cap : Nat} {T : List UInt8} {a : Option Addr} (h : On W w B R T (.slice a n cap) k m) {q : Nat} (hq : q < k) :
    ∃ b off, a = some ⟨b, off, none⟩ ∧ w.cell? ⟨b, off + q * 2, none⟩ = some (.int .i64 (q : Int)) ∧ w.cell? ⟨b, off + q * 2 + 1, none⟩ = some (.string ⟨#[T[q]'(Nat.lt_of_lt_of_le hq h.hk)]⟩) := by
  have hl : q < ((lts T).take k).length := by rw [List.length_take, lts_len]; have := h.hk; omega
  obtain ⟨b, off, e, _, h0, h1⟩ := (RowIn.of_own kpk_ok h.row).pkN q hl
  rw [Nat.zero_add] at h0
  refine ⟨b, off, e, h0, ?_⟩
  rw [h1]
  simp [lts]
/-- An Answer to the next number. -/
theorem answer_next (b m M : Nat) (hM : m + 1 = M) (op : List ByteArray) (w : World) (h : SnAt w b m op) (ho : 0 < op.length) :
    Calls Try.prog 13 #[.pointer (some ⟨b, 0, none⟩), .int .i64 (M : Int)] w fun e w' => e = .returned (.int .i64 1) ∧ SnAt w' b M (op.drop 1) ∧ Mv (fun j => j = b) w w' := by
  subst hM
  have hK : Lk.ak m op.length ((m + 1 : Nat) : Int) = 1 := by
    have := Lk.ak_yes (ans := m) (n := op.length) (seq := ((m + 1 : Nat) : Int)) (by omega) (by omega)
    omega
  have := answer_at b m op ((m + 1 : Nat) : Int) w h
  unfold AnsAt at this
  rw [hK] at this
  exact this
theorem On.opened {W w : World} {B R k m : Nat} {T : List UInt8} {v : Value} (h : On W w B R T v k m) :
    Calls Try.prog 20 #[.pointer (some ⟨B, 0, none⟩)] w fun e w' => ∃ g, e = .returned (.slice (some ⟨g, 0, none⟩) (k - m) (k - m)) ∧ Below w.heap.size w w' := by
  refine (open_at B m _ w h.ed.sn).mono ?_
  rintro e w' ⟨g, rfl, _, _, hb⟩
  exact ⟨g, by rw [h.oplen], hb⟩
theorem and1 (n : Int) : bits .and .i64 n 1 = n % 2 := by
  have e : bits .and .i64 n 1 = IntKind.i64.wrap ((BitVec.ofInt 64 n &&& BitVec.ofInt 64 1).toNat : Nat) := rfl
  have h : (BitVec.ofInt 64 n).toNat = _ := BitVec.toNat_ofInt n
  have l : (BitVec.ofInt 64 n &&& BitVec.ofInt 64 1).toNat = (BitVec.ofInt 64 n).toNat % 2 := by
    rw [BitVec.toNat_and, show (BitVec.ofInt 64 1).toNat = 2 ^ 1 - 1 by decide, Nat.and_two_pow_sub_one_eq_mod]
  rw [e, l, IntKind.wrap_i64]
  omega
end Go.Proofs.Ytlpfnclbkndcgaa
