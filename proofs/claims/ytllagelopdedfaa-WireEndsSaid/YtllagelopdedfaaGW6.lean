/- Texts of this proof, one behind the other: PastSrt, VaryAdd, VaryJoin, StampBytes, PastCheck, PastBytesMath. -/
import Derived.Test.YtllagelopdedfaaGW5
import Derived.Test.YtllagelopdedfaaProg
import Derived.WalkKit
import Derived.WalkLawsBesides
import Derived.Lib.Hide
import Derived.Laws.BitsAllLaws
/- Pasts that may be: rows that rise. Plain mathematics. -/
namespace Go.Proofs.Ytllagelopdedfaa
open Go.RowKit
set_option linter.unusedVariables false

theorem ba_inj {a b : ByteArray} (h : a.data.toList = b.data.toList) : a = b := ByteArray.ext (Array.toList_inj.1 h)
theorem klt_irrefl (a : ByteArray) : klt a a = false := Km.bl_irrefl _
theorem klt_trans {a b c : ByteArray} (h : klt a b = true) (k : klt b c = true) : klt a c = true := Km.bl_trans h k
theorem klt_asymm {a b : ByteArray} (h : klt a b = true) : klt b a = false := Km.bl_asymm h
theorem klt_tri {a b : ByteArray} (h : klt a b = false) (k : klt b a = false) : a = b := ba_inj (Km.bl_tri h k)
theorem klt_ne {a b : ByteArray} (h : klt a b = true) : a ≠ b := by
  rintro rfl
  rw [klt_irrefl] at h
  cases h

/-- All may be, and the keys rise. -/
def Srt (l : List De) : Prop := (∀ d ∈ l, okD d = true) ∧ l.Pairwise (fun x y => klt x.1 y.1 = true)
instance (l : List De) : Decidable (Srt l) := inferInstanceAs (Decidable (_ ∧ _))
theorem Srt.nil : Srt [] := ⟨by simp, List.Pairwise.nil⟩
theorem Srt.take {l : List De} (h : Srt l) (k : Nat) : Srt (l.take k) := ⟨fun d hd => h.1 d (List.mem_of_mem_take hd), h.2.sublist (List.take_sublist k l)⟩
theorem Srt.tail {d : De} {l : List De} (h : Srt (d :: l)) : Srt l := ⟨fun e he => h.1 e (List.mem_cons_of_mem _ he), (List.pairwise_cons.1 h.2).2⟩
theorem Srt.sub {l m : List De} (h : Srt l) (s : m.Sublist l) : Srt m := ⟨fun d hd => h.1 d (s.subset hd), h.2.sublist s⟩

theorem srt_snoc (p : List De) (d : De) : Srt (p ++ [d]) ↔ Srt p ∧ folD p d = true := by
  unfold Srt folD
  rw [List.pairwise_append]
  constructor
  · rintro ⟨h1, h2, h3, h4⟩
    refine ⟨⟨fun e he => h1 e (by simp [he]), h2⟩, ?_⟩
    rw [h1 d (by simp), Bool.true_and]
    cases hg : p.getLast? with
    | none => rfl
    | some x =>
      have hx : x ∈ p := List.mem_of_getLast? hg
      exact h4 x hx d (by simp)
  · rintro ⟨⟨h1, h2⟩, h3⟩
    simp only [Bool.and_eq_true] at h3
    obtain ⟨h3, h4⟩ := h3
    refine ⟨fun e he => ?_, h2, List.pairwise_singleton _ _, ?_⟩
    · simp at he
      rcases he with he | rfl
      · exact h1 e he
      · exact h3
    · intro x hx y hy
      simp at hy
      subst hy
      cases hg : p.getLast? with
      | none =>
        rw [List.getLast?_eq_none_iff] at hg
        subst hg
        simp at hx
      | some z =>
        rw [hg] at h4
        simp only at h4
        obtain ⟨q, rfl⟩ := List.getLast?_eq_some_iff.1 hg
        simp at hx
        rcases hx with hx | rfl
        · exact klt_trans ((List.pairwise_append.1 h2).2.2 x hx z (by simp)) h4
        · exact h4
/-- May this past be? -/
def chkD (l : List De) : Bool := decide (l.length ≤ 24) && decide (Srt l)
theorem srt_step {l : List De} {k : Nat} (h : k < l.length) : Srt (l.take (k + 1)) ↔ Srt (l.take k) ∧ folD (l.take k) l[k] = true := by
  rw [List.take_succ_eq_append_getElem h, srt_snoc]
theorem srt_stop {l : List De} {k : Nat} (h : k < l.length) (hf : folD (l.take k) l[k] = false) : ¬ Srt l := by
  intro hs
  have := ((srt_step h).1 (hs.take (k + 1))).2
  rw [hf] at this
  cases this
theorem wid4 (l : List UInt8) : Km.wid l ≤ 4 := by
  unfold Km.wid
  split
  · omega
  · rename_i h
    exact (Km.widN_le (List.length_pos_iff.2 h)).2
theorem cnt_ge (low : Nat) (l : List UInt8) (n : Nat) (h : Km.cnt low l = some n) : l.length ≤ 4 * n := by
  induction hk : l.length using Nat.strongRecOn generalizing l n with
  | ind k ih =>
    by_cases h0 : l = []
    · subst h0
      simp at hk
      omega
    · by_cases hb : Km.wid l = 0 ∨ Km.nth l 0 < low
      · rw [Km.cnt_bad h0 hb] at h
        cases h
      · rw [Km.cnt_go h0 (by omega) (by omega)] at h
        have hp := List.length_pos_iff.2 h0
        cases hc : Km.cnt low (l.drop (Km.wid l)) with
        | none => rw [hc] at h; cases h
        | some m =>
          rw [hc] at h
          simp only [Option.map_some, Option.some.injEq] at h
          have := ih (l.drop (Km.wid l)).length (by simp; omega) (l.drop (Km.wid l)) m hc rfl
          have h4 := wid4 l
          simp at this
          omega
theorem chk_size {l : List UInt8} (h : Km.chk l = true) : l.length ≤ 32 ∧ 1 ≤ l.length := by
  unfold Km.chk Km.capV at h
  cases hc : Km.cnt 33 l with
  | none => rw [hc] at h; simp at h
  | some n =>
    rw [hc] at h
    have h1 := cnt_ge 33 l n hc
    have h2 := Km.cnt_le 33 l n hc
    simp at h
    split at h <;> simp at h
    omega
theorem okD_chk {d : De} (h : okD d = true) : Km.chk d.1.data.toList = true := by
  unfold okD at h
  simp at h
  exact h.1
theorem okD_size {d : De} (h : okD d = true) : d.1.size ≤ 32 := (chk_size (okD_chk h)).1
end Go.Proofs.Ytllagelopdedfaa
/- What the closure of vary.Join does: it appends the bytes of one number to the captured row. -/
namespace Go.Proofs.Ytllagelopdedfaa
open Go.RowKit

theorem info_u8 : (Try.prog.info? 5).map (fun i => (i.zero, i.size, i.bytes)) = some (some (.int .u8 0), 1, 1) := by kernel_rfl

def bytesV (l : List UInt8) : List Value := l.map fun c => .int .u8 (c.toNat : Int)

/-- The captured row of bytes: Bv is the variable's block, base: from where on the call's own blocks lie. -/
structure Buf (base Bv : Nat) (l : List UInt8) (w : World) : Prop where
  le : base ≤ Bv
  var : ∃ v, w.heap[Bv]? = some (.cells #[v] 56 (0, 0)) ∧ w.ownsRow base 5 1 v l.length (bytesV l)

theorem own_shape {w1 : World} {base e n : Nat} {v' : Value} {xs : List Value} (h : w1.ownsRow base e 1 v' n xs) : ∃ a k c, v' = .slice a k c := by
  rcases h.2 with ⟨rfl, _⟩ | ⟨g, cap, cur, rfl, _⟩
  · exact ⟨_, _, _, rfl⟩
  · exact ⟨_, _, _, rfl⟩

theorem buf_push {base Bv : Nat} {l : List UInt8} {c : UInt8} {wr w1 : World} {v v' : Value} {X : Obj} (hle : base ≤ Bv) (hbs : base ≤ wr.heap.size)
    (hv : wr.heap[Bv]? = some (.cells #[v] 56 (0, 0))) (ho : wr.ownsRow base 5 1 v l.length (bytesV l))
    (ho' : w1.ownsRow base 5 1 v' (l.length + 1) (bytesV l ++ [.int .u8 (c.toNat : Int)])) (hg : (wr.alloc X).grownBy w1 v.ownBlock) :
    w1.cell? ⟨Bv, 0, none⟩ = some v ∧ w1.frozen? ⟨Bv, 0, none⟩ = false ∧ Buf base Bv (l ++ [c]) (w1.setCell ⟨Bv, 0, none⟩ v') ∧ Below base wr (w1.setCell ⟨Bv, 0, none⟩ v') := by
  have hlt := lt_of_block hv
  have hne : some Bv ≠ v.ownBlock := by
    intro e
    rcases ho.2 with ⟨rfl, _⟩ | ⟨g, cap, cur, rfl, _, hh, _⟩
    · simp [Value.ownBlock] at e
    · simp [Value.ownBlock] at e
      subst e
      rw [hh] at hv
      simp at hv
  have hv1 : w1.heap[Bv]? = some (.cells #[v] 56 (0, 0)) := by
    rw [hg.block Bv (by simp; omega) hne, Below.heap_alloc _ _ _ hlt]
    exact hv
  have hne' : v'.ownBlock ≠ some Bv := by
    intro e
    rcases ho'.2 with ⟨rfl, _⟩ | ⟨g, cap, cur, rfl, _, hh, _⟩
    · simp [Value.ownBlock] at e
    · simp [Value.ownBlock] at e
      subst e
      rw [hh] at hv1
      simp at hv1
  refine ⟨cell_of_one hv1, free_of_one hv1, ⟨hle, _, one_setCell hv1, ?_⟩, ?_⟩
  · have := ownsRow_setCell_other ho' (a := ⟨Bv, 0, none⟩) hne' v'
    simpa [bytesV] using this
  · refine Below.setCell ?_ hle _
    refine ((Below.refl base wr).alloc hbs X).grown hg (by simp; omega) ?_
    intro k hk
    exact (ho.lt k hk).1

set_option maxRecDepth 100000 in
set_option maxHeartbeats 400000 in
theorem add_any (base Bv n : Nat) (l : List UInt8) (w : World) (hn : n < 18446744073709551616) (hl : l.length ≤ 1099511627776) (hb : Buf base Bv l w) :
    Calls Try.prog 108 #[.int .u64 n, .pointer (some ⟨Bv, 0, none⟩)] w fun e w' => e = .returned (.tuple #[]) ∧ Buf base Bv (l ++ Vm.enc n) w' ∧ Below base w w' := by
  obtain ⟨i0, hi, hz0, hz1, hz2⟩ := info_parts info_u8
  have Hn := Lib.hid hn
  clear hn
  go_enter Try.func108, Try.ntmps108
  go_wp2
  go_loopw [0] (fun a wr => ∃ (m : Nat) (p : List UInt8), m < 18446744073709551616 ∧ a = .int .u64 m ∧ Buf base Bv p wr ∧ Below base w wr ∧ p ++ Vm.enc m = l ++ Vm.enc n) (fun a _ => (intOf a).toNat)
  case atStart => exact ⟨n, l, Hn.out, rfl, hb, Below.refl _ _, rfl⟩
  case round =>
    obtain ⟨m, p, hm, rfl, ⟨hle, v, hv, ho⟩, hbel, he⟩ := hrel
    have He := Lib.hid he
    have Hm := Lib.hid hm
    have hbs : base ≤ wr.heap.size := by have := lt_of_block hv; omega
    have hp : p.length ≤ 1099511627786 := by
      have e := congrArg List.length He.out
      have q := Vm.enc_len10 Hn.out
      simp at e
      omega
    have cV := cell_of_one hv
    have fV := free_of_one hv
    clear he hm
    by_cases hc : m < 128
    · go_wp2_with (at_builtin; refine wpList_append_own _ rfl _ _ 56 rfl base 5 i0 (.int .u8 0) 1 1 Try.underlying56 hi hz0 hz1 hz2 rfl (by decide) _ _ _ rfl (ho.alloc _) ⟨wr.heap.size, 0, none⟩ 1 1 [.int .u8 (m : Int)] rfl rfl ?d1 ?d2 ?d3 ?d4 ?d5 ?_)
      case d1 =>
        intro j u hj
        match j, hj with
        | 0, hj => simp at hj; subst hj; simp [Addr.add]
      case d2 => intro u hu; simp at hu; subst hu; rfl
      case d3 => unfold maxLen; omega
      case d4 => omega
      case d5 => simp; omega
      · intro v' w1 ho' hg _
        rw [Vm.low128 hc] at ho'
        obtain ⟨k1, k2, k3, k4⟩ := buf_push hle hbs hv ho ho' hg
        obtain ⟨sa, sn, sc, rfl⟩ := own_shape ho'
        clear ho' hg cV fV
        go_wp2
        go_end0
        have e := He.out
        rw [Vm.enc_lt hc] at e
        rw [e] at k3
        exact ⟨rfl, k3, hbel.trans k4⟩
    · go_wp2_with (at_builtin; refine wpList_append_own _ rfl _ _ 56 rfl base 5 i0 (.int .u8 0) 1 1 Try.underlying56 hi hz0 hz1 hz2 rfl (by decide) _ _ _ rfl (ho.alloc _) ⟨wr.heap.size, 0, none⟩ 1 1 [.int .u8 (bits BinOp.or IntKind.u8 ((m : Int) % 256) 128)] rfl rfl ?c1 ?c2 ?c3 ?c4 ?c5 ?_)
      case c1 =>
        intro j u hj
        match j, hj with
        | 0, hj => simp at hj; subst hj; simp [Addr.add]
      case c2 => intro u hu; simp at hu; subst hu; rfl
      case c3 => unfold maxLen; omega
      case c4 => omega
      case c5 => simp; omega
      · intro v' w1 ho' hg _
        rw [Vm.or128] at ho'
        obtain ⟨k1, k2, k3, k4⟩ := buf_push hle hbs hv ho ho' hg
        obtain ⟨sa, sn, sc, rfl⟩ := own_shape ho'
        clear ho' hg cV fV
        go_wp2
        go_roundw
        case rel =>
          have e := He.out
          rw [Vm.enc_ge (by omega)] at e
          exact ⟨m / 128, _, by have := Hm.out; omega, by go_num, k3, hbel.trans k4, by simpa using e⟩
        case measure => simp [intOf]; omega
end Go.Proofs.Ytllagelopdedfaa
/- What vary.Join answers. -/
namespace Go.Proofs.Ytllagelopdedfaa
open Go.RowKit

theorem lt_of_cell? {w : World} {a : Addr} {v : Value} (h : w.cell? a = some v) : a.block < w.heap.size := by
  unfold World.cell? at h
  split at h
  · rename_i hb
    exact lt_of_block hb
  · cases h

/-- A row of numbers of 64 bits that is read: nil, or cells. -/
def U64s (w : World) (a : Option Addr) (zs : List Nat) : Prop :=
  (∀ z ∈ zs, z < 18446744073709551616) ∧ ∀ i (h : i < zs.length), ∃ b off, a = some ⟨b, off, none⟩ ∧ w.cell? ⟨b, off + i, none⟩ = some (.int .u64 (zs[i] : Int))

theorem buf_string {base Bv : Nat} {l : List UInt8} {w : World} (h : Buf base Bv l w) : ∃ v, w.cell? ⟨Bv, 0, none⟩ = some v ∧ (convert 56 9 v).run Try.prog w = .ok (.string ⟨l.toArray⟩) w := by
  obtain ⟨_, v, hv, ho⟩ := h
  refine ⟨v, cell_of_one hv, ?_⟩
  rcases ho.2 with ⟨rfl, h0⟩ | ⟨g, cap, cur, rfl, r⟩
  · obtain rfl : l = [] := List.length_eq_zero_iff.1 h0
    rw [run_convert_bytes_string w 56 9 5 none 0 0 Try.underlying56 Try.underlying5 Try.underlying9]
    rfl
  · have hcells : ∀ j (hj : j < l.length), w.cell? ((⟨g, 0, none⟩ : Addr).add j) = some (.int .u8 (l[j].toNat : Int)) := fun j hj => by
      rw [Addr.add_lit, Nat.zero_add, ho.cellAt j (by omega)]
      simp [bytesV, hj]
    exact run_convert_bytes_back (P := Try.prog) w 56 9 5 ⟨g, 0, none⟩ cap l Try.underlying56 Try.underlying5 Try.underlying9 hcells

/-- The bytes of all numbers, one behind the other. -/
def encs (zs : List Nat) : List UInt8 := zs.flatMap Vm.enc
theorem encs_len {zs : List Nat} (h : ∀ z ∈ zs, z < 18446744073709551616) : (encs zs).length ≤ 10 * zs.length := by
  induction zs with
  | nil => simp [encs]
  | cons z r ih =>
    have h1 := Vm.enc_len10 (h z (by simp))
    have h2 := ih (fun x hx => h x (by simp [hx]))
    simp [encs] at h2 ⊢
    omega
theorem encs_snoc (zs : List Nat) (k : Nat) (hk : k < zs.length) : encs (zs.take (k + 1)) = encs (zs.take k) ++ Vm.enc zs[k] := by
  unfold encs
  rw [List.take_succ_eq_append_getElem hk, List.flatMap_append, List.flatMap_singleton]

set_option maxRecDepth 100000 in
set_option maxHeartbeats 400000 in
theorem join_any (a : Option Addr) (cap : Nat) (zs : List Nat) (w : World) (hz : U64s w a zs) (hl : zs.length ≤ 1000000) :
    Calls Try.prog 89 #[.slice a zs.length cap] w fun e w' => e = .returned (.string ⟨(encs zs).toArray⟩) ∧ Below w.heap.size w w' := by
  obtain ⟨i0, hi, hz0, hz1, hz2⟩ := info_parts info_u8
  have hmf : ∀ (fn : Fn) (first cap : Array Value) (w : World), (Instr.makeFunc fn first cap).run Try.prog w = .ok (.func fn first cap) w := fun _ _ _ _ => rfl
  have HZ := Lib.hid hz
  clear hz
  go_enter Try.func89, Try.ntmps89
  go_wp2_with (at_make; refine wpList_make_own _ rfl _ _ 56 rfl w.heap.size 5 i0 (.int .u8 0) 1 Try.underlying56 hi hz0 hz1 _ _ _ zs.length rfl rfl (by omega) ?b2 ?b3 (Nat.le_refl _) ?_)
  case b2 => rw [hz2]; omega
  case b3 => unfold maxLen; omega
  intro w0 hown0 hgrow0
  have hsz0 : w.heap.size ≤ w0.heap.size := hgrow0.size
  have hbuf0 : Buf w.heap.size w0.heap.size (encs (zs.take 0)) (w0.alloc (.cells #[.slice (some ⟨w.heap.size, 0, none⟩) 0 zs.length] 56)) :=
    ⟨hsz0, _, heap_alloc_new _ _, by simpa [encs, bytesV] using hown0.alloc _⟩
  have hbel0 : Below w.heap.size w (w0.alloc (.cells #[.slice (some ⟨w.heap.size, 0, none⟩) 0 zs.length] 56)) :=
    ((Below.refl _ w).grown hgrow0 (Nat.le_refl _) (by simp)).alloc hsz0 _
  clear hown0 hgrow0
  go_wp2
  go_loopw [13] (fun i wr => ∃ k : Nat, k ≤ zs.length ∧ i = .int .i64 k ∧ Buf w.heap.size w0.heap.size (encs (zs.take k)) wr ∧ Below w.heap.size w wr) (fun i _ => zs.length - (intOf i).toNat)
  case atStart => exact ⟨0, Nat.zero_le _, rfl, hbuf0, hbel0⟩
  case round =>
    obtain ⟨k, hk, rfl, hb, hbel⟩ := hrel
    clear hbuf0 hbel0
    by_cases hlt : k < zs.length
    · obtain ⟨bb, off, rfl, hcw⟩ := HZ.out.2 k hlt
      have hcr : wr.cell? ⟨bb, off + k, none⟩ = some (.int .u64 (zs[k] : Int)) := (hbel.cell (p := ⟨bb, off + k, none⟩) (lt_of_cell? hcw)).trans hcw
      clear hcw
      have hle : (encs (zs.take k)).length ≤ 1099511627776 := by
        have := encs_len (zs := zs.take k) (fun z hz => HZ.out.1 z (List.mem_of_mem_take hz))
        simp at this
        omega
      go_wp2_with (go_at_call 108; refine (add_any w.heap.size w0.heap.size zs[k] (encs (zs.take k)) _ (HZ.out.1 _ (by simp)) hle hb).mono ?_; rintro e w2 ⟨rfl, hb', hbel'⟩)
      go_roundw
      case rel => exact ⟨k + 1, by omega, by go_num, by rw [encs_snoc zs k hlt]; exact hb', hbel.trans hbel'⟩
      case measure => simp [intOf]; omega
    · obtain rfl : k = zs.length := by omega
      rw [List.take_length] at hb
      obtain ⟨v, hcv, hconv⟩ := buf_string hb
      go_wp2
      go_ret
      exact ⟨rfl, hbel⟩

theorem join_at (a : Option Addr) (len cap : Nat) (zs : List Nat) (w : World) (hlen : zs.length = len) (hz : U64s w a zs) (hl : zs.length ≤ 1000000) :
    Calls Try.prog 89 #[.slice a len cap] w fun e w' => e = .returned (.string ⟨(encs zs).toArray⟩) ∧ Below w.heap.size w w' := by
  subst hlen
  exact join_any a cap zs w hz hl

end Go.Proofs.Ytllagelopdedfaa
/- What stamp.Bytes answers. -/
namespace Go.Proofs.Ytllagelopdedfaa
open Go.RowKit
set_option linter.unusedVariables false

/-- The bytes of a stamp. -/
def sbytes (n s : Int) : List UInt8 := if Sm.ok n s = true then Vm.enc n.toNat ++ Vm.enc s.toNat else []

theorem Sm.ok_nat {n s : Int} (h : Sm.ok n s = true) : ∃ a b : Nat, n = a ∧ s = b ∧ 1 ≤ a ∧ a ≤ 1099511627776 ∧ b < 6 := by
  simp only [Sm.ok, decide_eq_true_eq] at h
  exact ⟨n.toNat, s.toNat, by omega, by omega, by omega, by omega, by omega⟩

set_option maxRecDepth 100000 in
set_option maxHeartbeats 1000000 in
theorem bytes_any (n s : Int) (w : World) :
    Calls Try.prog 82 #[.agg #[.int .i64 n, .int .i64 s]] w fun e w' => e = .returned (.string ⟨(sbytes n s).toArray⟩) ∧ Below w.heap.size w w' := by
  cases h : Sm.ok n s with
  | false =>
    have he : sbytes n s = [] := by simp [sbytes, h]
    rw [he]
    have H := Lib.hid h
    clear h he
    go_enter Try.func82, Try.ntmps82
    go_wp2_with fail
    refine (scheck_any n s _).mono ?_
    rintro e w1 ⟨rfl, hb1⟩
    rw [H.out]
    have hb2 := bstep (balloc (Below.refl _ w) _) hb1
    clear hb1
    go_wp2
    go_ret
    exact ⟨rfl, hb2⟩
  | true =>
    have he : sbytes n s = Vm.enc n.toNat ++ Vm.enc s.toNat := by simp [sbytes, h]
    rw [he]
    have H := Lib.hid h
    obtain ⟨a, b, rfl, rfl, h1, h2, h3⟩ := Sm.ok_nat h
    clear h he
    simp only [Int.toNat_natCast]
    have henc : encs [a, b] = Vm.enc a ++ Vm.enc b := by simp [encs]
    have HE := Lib.hid henc
    clear henc
    go_enter Try.func82, Try.ntmps82
    go_wp2_with fail
    refine (scheck_any a b _).mono ?_
    rintro e w1 ⟨rfl, hb1⟩
    rw [H.out]
    have c0 : w1.cell? ⟨w.heap.size, 0, none⟩ = some (.int .i64 a) := kc hb1 (by simp)
    have c1 : w1.cell? ⟨w.heap.size, 1, none⟩ = some (.int .i64 b) := kc hb1 (by simp)
    have hb2 := bstep (balloc (Below.refl _ w) _) hb1
    clear hb1
    have hu : U64s (w1.alloc (.cells #[.int .u64 (a : Int), .int .u64 (b : Int)] 100)) (some ⟨w1.heap.size, 0, none⟩) [a, b] := by
      refine ⟨by intro z hz; simp at hz; omega, fun i hi => ⟨_, _, rfl, ?_⟩⟩
      match i, hi with
      | 0, _ => simp
      | 1, _ => simp
    have HU := Lib.hid hu
    clear hu
    go_wp2_with fail
    refine (join_at _ 2 2 [a, b] _ rfl HU.out (by simp)).mono ?_
    rintro e w2 ⟨rfl, hb3⟩
    have hb4 := bstep (balloc hb2 _) hb3
    clear hb2 hb3
    go_wp2
    go_ret
    exact ⟨ret_str (by rw [HE.out]), hb4⟩
end Go.Proofs.Ytllagelopdedfaa
/- What past.Check and the document's Check answer. -/
namespace Go.Proofs.Ytllagelopdedfaa
open Go.RowKit
set_option linter.unusedVariables false
set_option linter.unusedSimpArgs false

/-- No key is longer than a string can be. -/
def Szd (l : List De) : Prop := ∀ d ∈ l, d.1.size ≤ 9223372036854775807
theorem Srt.szd {l : List De} (h : Srt l) : Szd l := fun d hd => by have := okD_size (h.1 d hd); omega

theorem boxed3 {wr w1 : World} {x y z : Value} {T : TypeId} (hb : Below (wr.alloc (.cells #[x, y, z] T)).heap.size (wr.alloc (.cells #[x, y, z] T)) w1) : Below wr.heap.size wr w1 := (box3 hb).2.2.2.2

set_option maxRecDepth 100000 in
set_option maxHeartbeats 1600000 in
theorem pcheck_any (v : Value) (l : List De) (w : World) (hl : l.length ≤ 1000000) (hz : Szd l) (hr : DepAt w v l) :
    Calls Try.prog 105 #[v] w fun e w' => e = .returned (.bool (chkD l)) ∧ Below w.heap.size w w' := by
  obtain ⟨a, cap, rfl, hcap, hmx, _, hr⟩ := hr
  unfold maxLen at hmx
  have HR := Lib.hid hr
  have HZ := Lib.hid hz
  clear hr hz
  by_cases h24 : l.length ≤ 24
  · have hlt24 : ¬ (24 : Int) < (l.length : Int) := by omega
    have hc24 : chkD l = decide (Srt l) := by simp [chkD, h24]
    rw [hc24]
    clear hc24
    go_enter Try.func105, Try.ntmps105
    go_wp2
    go_loopw [10] (fun i wr => ∃ k : Nat, k ≤ l.length ∧ i = .int .i64 k ∧ Srt (l.take k) ∧ Below w.heap.size w wr) (fun i _ => l.length - (intOf i).toNat)
    case atStart => exact ⟨0, by omega, rfl, by simpa using Srt.nil, Below.refl _ _⟩
    case round =>
      obtain ⟨k, hk, rfl, hst, hbel⟩ := hrel
      have HS := Lib.hid hst
      clear hst
      by_cases hlt : k < l.length
      · obtain ⟨b, off, rfl, hbl, c0, c1, c2⟩ := HR.out.below hbel k hlt
        have HD := Lib.hid (HR.out.below hbel)
        have HP := Lib.hid (@srt_step l k hlt)
        have HQ := Lib.hid (@srt_stop l k hlt)
        have hs := HZ.out l[k] (List.getElem_mem hlt)
        generalize l[k] = d at c0 c1 c2 HP HQ hs
        obtain ⟨x, y, z⟩ := d
        dsimp only at c0 c1 c2 hs
        have hki : (k : Int) ≤ (cap : Int) := by omega
        have g0 : (wr.alloc (.cells #[.string x, .int .i64 y, .int .i64 z] 148)).cell? ⟨wr.heap.size, 0, none⟩ = some (.string x) ∧ (wr.alloc (.cells #[.string x, .int .i64 y, .int .i64 z] 148)).cell? ⟨wr.heap.size, 1, none⟩ = some (.int .i64 y) ∧ (wr.alloc (.cells #[.string x, .int .i64 y, .int .i64 z] 148)).cell? ⟨wr.heap.size, 2, none⟩ = some (.int .i64 z) := by
          refine ⟨?_, ?_, ?_⟩ <;> simp
        have HG := Lib.hid (HD.out.below (balloc (Below.refl _ wr) (.cells #[.string x, .int .i64 y, .int .i64 z] 148)))
        have hkl : Hid ((l.take k).length = k) := Lib.hid (by simp; omega)
        generalize hf : folD (l.take k) (x, y, z) = c at HP HQ
        have HF := Lib.hid hf
        clear hf
        go_wp2_with fail
        go_region_held3 (fun w' => w'.cell? ⟨wr.heap.size, 0, none⟩ = some (.string x) ∧ w'.cell? ⟨wr.heap.size, 1, none⟩ = some (.int .i64 y) ∧ w'.cell? ⟨wr.heap.size, 2, none⟩ = some (.int .i64 z))
          (first | exact g0 | exact g1)
          (first
            | (go_at_call 112; ((refine (follows_at _ k cap (l.take k) x y z c _ hkl.out (by have := hkl.out; omega) (HG.out.take k).drew hs HF.out).mono ?_); rintro e wa ⟨rfl, ha⟩; have g1 := keepC3 ha g0)))
        have hb2 := bstep hbel (boxed3 (bstep (Below.refl _ _).drew ha))
        cases c with
        | true =>
          go_wp2
          go_roundw
          case rel => exact ⟨k + 1, by omega, by go_num, HP.out.2 ⟨HS.out, rfl⟩, hb2⟩
          case measure => simp [intOf]; omega
        | false =>
          go_wp2
          go_ret
          exact ⟨ret_bool (decide_eq_false (HQ.out (by first | rfl | trivial))).symm, hb2⟩
      · obtain rfl : k = l.length := by omega
        have HE : Hid (Srt l) := Lib.hid (by have h := HS.out; rw [List.take_of_length_le (Nat.le_refl _)] at h; exact h)
        go_wp2
        go_ret
        exact ⟨ret_bool (decide_eq_true HE.out).symm, hbel⟩
  · have hlt24 : (24 : Int) < (l.length : Int) := by omega
    rw [show chkD l = false by simp [chkD, h24]]
    go_enter Try.func105, Try.ntmps105
    go_wp2
    go_ret
    exact ⟨rfl, Below.refl _ _⟩
end Go.Proofs.Ytllagelopdedfaa
/- The bytes of a past: plain mathematics. -/
namespace Go.Proofs.Ytllagelopdedfaa
open Go.RowKit
set_option linter.unusedVariables false

theorem enc_ne (n : Nat) : Vm.enc n ≠ [] := by
  rw [Vm.enc]
  split <;> simp
def dbytes (d : De) : List UInt8 := (Vm.enc d.1.size ++ d.1.data.toList) ++ sbytes d.2.1 d.2.2
def pbody (l : List De) : List UInt8 := l.flatMap dbytes
/-- The bytes of a past; none: it may not be. -/
def pbV (l : List De) : List UInt8 := if chkD l = true then Vm.enc l.length ++ pbody l else []
theorem pbody_take (l : List De) (k : Nat) (h : k < l.length) : pbody (l.take (k + 1)) = pbody (l.take k) ++ dbytes l[k] := by
  unfold pbody
  rw [List.take_succ_eq_append_getElem h, List.flatMap_append]
  simp
theorem pbody_cons (d : De) (l : List De) : pbody (d :: l) = dbytes d ++ pbody l := by simp [pbody]
theorem sbytes_len20 (n s : Int) : (sbytes n s).length ≤ 20 := by
  unfold sbytes
  split
  · rename_i h
    obtain ⟨a, b, rfl, rfl, h1, h2, h3⟩ := Sm.ok_nat h
    have e1 := Vm.enc_len10 (n := a) (by omega)
    have e2 := Vm.enc_len10 (n := b) (by omega)
    simp only [Int.toNat_natCast, List.length_append]
    omega
  · simp
theorem dbytes_len {d : De} (h : d.1.size ≤ 32) : (dbytes d).length ≤ 62 := by
  have e1 := Vm.enc_len10 (n := d.1.size) (by omega)
  have e2 := sbytes_len20 d.2.1 d.2.2
  have e3 : d.1.data.toList.length = d.1.size := rfl
  unfold dbytes
  simp only [List.length_append]
  omega
theorem pbody_len : ∀ (l : List De), (∀ d ∈ l, d.1.size ≤ 32) → (pbody l).length ≤ l.length * 62
  | [], _ => by simp [pbody]
  | d :: l, h => by
    have h1 := dbytes_len (h d (by simp))
    have h2 := pbody_len l (fun e he => h e (List.mem_cons_of_mem _ he))
    rw [pbody_cons, List.length_append, List.length_cons]
    omega
theorem srt_sizes {l : List De} (h : Srt l) : ∀ d ∈ l, d.1.size ≤ 32 := fun d hd => okD_size (h.1 d hd)
theorem chkD_parts {l : List De} (h : chkD l = true) : l.length ≤ 24 ∧ Srt l := by
  simp [chkD] at h
  exact h
end Go.Proofs.Ytllagelopdedfaa
