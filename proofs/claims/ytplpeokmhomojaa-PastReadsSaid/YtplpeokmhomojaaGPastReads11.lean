/- Texts of this proof, one behind the other: VaryAdd, VaryJoin, StampBytes, PastBytesMath, PastRefCheck, RefNumber, RefTexts, StampRefBytes, Build, VaryNumber. -/
import Derived.Test.YtplpeokmhomojaaGPastReads10
import Derived.Test.YtplpeokmhomojaaProg
import Derived.WalkKit
import Derived.WalkLawsBesides
import Derived.Lib.Hide
import Derived.Laws.BitsAllLaws
import Derived.Deep.QuietTactic
import Derived.BigQuiet
import Derived.Deep.RegionWith
import Derived.Deep.RegionHeld3
import Derived.Lib.Builder
/- What the closure of vary.Join does: it appends the bytes of one number to the captured row. -/
namespace Go.Proofs.Ytplpeokmhomojaa
open Go.RowKit

theorem info_u8 : (Try.prog.info? 5).map (fun i => (i.zero, i.size, i.bytes)) = some (some (.int .u8 0), 1, 1) := by kernel_rfl

def bytesV (l : List UInt8) : List Value := l.map fun c => .int .u8 (c.toNat : Int)

/-- The captured row of bytes: Bv is the variable's block, base: from where on the call's own blocks lie. -/
structure Buf (base Bv : Nat) (l : List UInt8) (w : World) : Prop where
  le : base ≤ Bv
  var : ∃ v, w.heap[Bv]? = some (.cells #[v] 43 (0, 0)) ∧ w.ownsRow base 5 1 v l.length (bytesV l)

theorem own_shape {w1 : World} {base e n : Nat} {v' : Value} {xs : List Value} (h : w1.ownsRow base e 1 v' n xs) : ∃ a k c, v' = .slice a k c := by
  rcases h.2 with ⟨rfl, _⟩ | ⟨g, cap, cur, rfl, _⟩
  · exact ⟨_, _, _, rfl⟩
  · exact ⟨_, _, _, rfl⟩

theorem buf_push {base Bv : Nat} {l : List UInt8} {c : UInt8} {wr w1 : World} {v v' : Value} {X : Obj} (hle : base ≤ Bv) (hbs : base ≤ wr.heap.size)
    (hv : wr.heap[Bv]? = some (.cells #[v] 43 (0, 0))) (ho : wr.ownsRow base 5 1 v l.length (bytesV l))
    (ho' : w1.ownsRow base 5 1 v' (l.length + 1) (bytesV l ++ [.int .u8 (c.toNat : Int)])) (hg : (wr.alloc X).grownBy w1 v.ownBlock) :
    w1.cell? ⟨Bv, 0, none⟩ = some v ∧ w1.frozen? ⟨Bv, 0, none⟩ = false ∧ Buf base Bv (l ++ [c]) (w1.setCell ⟨Bv, 0, none⟩ v') ∧ Below base wr (w1.setCell ⟨Bv, 0, none⟩ v') := by
  have hlt := lt_of_block hv
  have hne : some Bv ≠ v.ownBlock := by
    intro e
    rcases ho.2 with ⟨rfl, _⟩ | ⟨g, cap, cur, rfl, _, hh, _⟩
    · simp [Value.ownBlock] at e
    · simp [Value.ownBlock] at e
      subst e
      rw [hh] at hv
      simp at hv
  have hv1 : w1.heap[Bv]? = some (.cells #[v] 43 (0, 0)) := by
    rw [hg.block Bv (by simp; omega) hne, Below.heap_alloc _ _ _ hlt]
    exact hv
  have hne' : v'.ownBlock ≠ some Bv := by
    intro e
    rcases ho'.2 with ⟨rfl, _⟩ | ⟨g, cap, cur, rfl, _, hh, _⟩
    · simp [Value.ownBlock] at e
    · simp [Value.ownBlock] at e
      subst e
      rw [hh] at hv1
      simp at hv1
  refine ⟨cell_of_one hv1, free_of_one hv1, ⟨hle, _, one_setCell hv1, ?_⟩, ?_⟩
  · have := ownsRow_setCell_other ho' (a := ⟨Bv, 0, none⟩) hne' v'
    simpa [bytesV] using this
  · refine Below.setCell ?_ hle _
    refine ((Below.refl base wr).alloc hbs X).grown hg (by simp; omega) ?_
    intro k hk
    exact (ho.lt k hk).1

set_option maxRecDepth 100000 in
set_option maxHeartbeats 400000 in
theorem add_any (base Bv n : Nat) (l : List UInt8) (w : World) (hn : n < 18446744073709551616) (hl : l.length ≤ 1099511627776) (hb : Buf base Bv l w) :
    Calls Try.prog 101 #[.int .u64 n, .pointer (some ⟨Bv, 0, none⟩)] w fun e w' => e = .returned (.tuple #[]) ∧ Buf base Bv (l ++ Vm.enc n) w' ∧ Below base w w' := by
  obtain ⟨i0, hi, hz0, hz1, hz2⟩ := info_parts info_u8
  have Hn := Lib.hid hn
  clear hn
  go_enter Try.func101, Try.ntmps101
  go_wp2
  go_loopw [0] (fun a wr => ∃ (m : Nat) (p : List UInt8), m < 18446744073709551616 ∧ a = .int .u64 m ∧ Buf base Bv p wr ∧ Below base w wr ∧ p ++ Vm.enc m = l ++ Vm.enc n) (fun a _ => (intOf a).toNat)
  case atStart => exact ⟨n, l, Hn.out, rfl, hb, Below.refl _ _, rfl⟩
  case round =>
    obtain ⟨m, p, hm, rfl, ⟨hle, v, hv, ho⟩, hbel, he⟩ := hrel
    have He := Lib.hid he
    have Hm := Lib.hid hm
    have hbs : base ≤ wr.heap.size := by have := lt_of_block hv; omega
    have hp : p.length ≤ 1099511627786 := by
      have e := congrArg List.length He.out
      have q := Vm.enc_len10 Hn.out
      simp at e
      omega
    have cV := cell_of_one hv
    have fV := free_of_one hv
    clear he hm
    by_cases hc : m < 128
    · go_wp2_with (at_builtin; refine wpList_append_own _ rfl _ _ 43 rfl base 5 i0 (.int .u8 0) 1 1 Try.underlying43 hi hz0 hz1 hz2 rfl (by decide) _ _ _ rfl (ho.alloc _) ⟨wr.heap.size, 0, none⟩ 1 1 [.int .u8 (m : Int)] rfl rfl ?d1 ?d2 ?d3 ?d4 ?d5 ?_)
      case d1 =>
        intro j u hj
        match j, hj with
        | 0, hj => simp at hj; subst hj; simp [Addr.add]
      case d2 => intro u hu; simp at hu; subst hu; rfl
      case d3 => unfold maxLen; omega
      case d4 => omega
      case d5 => simp; omega
      · intro v' w1 ho' hg _
        rw [Vm.low128 hc] at ho'
        obtain ⟨k1, k2, k3, k4⟩ := buf_push hle hbs hv ho ho' hg
        obtain ⟨sa, sn, sc, rfl⟩ := own_shape ho'
        clear ho' hg cV fV
        go_wp2
        go_end0
        have e := He.out
        rw [Vm.enc_lt hc] at e
        rw [e] at k3
        exact ⟨rfl, k3, hbel.trans k4⟩
    · go_wp2_with (at_builtin; refine wpList_append_own _ rfl _ _ 43 rfl base 5 i0 (.int .u8 0) 1 1 Try.underlying43 hi hz0 hz1 hz2 rfl (by decide) _ _ _ rfl (ho.alloc _) ⟨wr.heap.size, 0, none⟩ 1 1 [.int .u8 (bits BinOp.or IntKind.u8 ((m : Int) % 256) 128)] rfl rfl ?c1 ?c2 ?c3 ?c4 ?c5 ?_)
      case c1 =>
        intro j u hj
        match j, hj with
        | 0, hj => simp at hj; subst hj; simp [Addr.add]
      case c2 => intro u hu; simp at hu; subst hu; rfl
      case c3 => unfold maxLen; omega
      case c4 => omega
      case c5 => simp; omega
      · intro v' w1 ho' hg _
        rw [Vm.or128] at ho'
        obtain ⟨k1, k2, k3, k4⟩ := buf_push hle hbs hv ho ho' hg
        obtain ⟨sa, sn, sc, rfl⟩ := own_shape ho'
        clear ho' hg cV fV
        go_wp2
        go_roundw
        case rel =>
          have e := He.out
          rw [Vm.enc_ge (by omega)] at e
          exact ⟨m / 128, _, by have := Hm.out; omega, by go_num, k3, hbel.trans k4, by simpa using e⟩
        case measure => simp [intOf]; omega
end Go.Proofs.Ytplpeokmhomojaa
/- What vary.Join answers. -/
namespace Go.Proofs.Ytplpeokmhomojaa
open Go.RowKit

theorem lt_of_cell? {w : World} {a : Addr} {v : Value} (h : w.cell? a = some v) : a.block < w.heap.size := by
  unfold World.cell? at h
  split at h
  · rename_i hb
    exact lt_of_block hb
  · cases h

/-- A row of numbers of 64 bits that is read: nil, or cells. -/
def U64s (w : World) (a : Option Addr) (zs : List Nat) : Prop :=
  (∀ z ∈ zs, z < 18446744073709551616) ∧ ∀ i (h : i < zs.length), ∃ b off, a = some ⟨b, off, none⟩ ∧ w.cell? ⟨b, off + i, none⟩ = some (.int .u64 (zs[i] : Int))

theorem buf_string {base Bv : Nat} {l : List UInt8} {w : World} (h : Buf base Bv l w) : ∃ v, w.cell? ⟨Bv, 0, none⟩ = some v ∧ (convert 43 9 v).run Try.prog w = .ok (.string ⟨l.toArray⟩) w := by
  obtain ⟨_, v, hv, ho⟩ := h
  refine ⟨v, cell_of_one hv, ?_⟩
  rcases ho.2 with ⟨rfl, h0⟩ | ⟨g, cap, cur, rfl, r⟩
  · obtain rfl : l = [] := List.length_eq_zero_iff.1 h0
    rw [run_convert_bytes_string w 43 9 5 none 0 0 Try.underlying43 Try.underlying5 Try.underlying9]
    rfl
  · have hcells : ∀ j (hj : j < l.length), w.cell? ((⟨g, 0, none⟩ : Addr).add j) = some (.int .u8 (l[j].toNat : Int)) := fun j hj => by
      rw [Addr.add_lit, Nat.zero_add, ho.cellAt j (by omega)]
      simp [bytesV, hj]
    exact run_convert_bytes_back (P := Try.prog) w 43 9 5 ⟨g, 0, none⟩ cap l Try.underlying43 Try.underlying5 Try.underlying9 hcells

/-- The bytes of all numbers, one behind the other. -/
def encs (zs : List Nat) : List UInt8 := zs.flatMap Vm.enc
theorem encs_len {zs : List Nat} (h : ∀ z ∈ zs, z < 18446744073709551616) : (encs zs).length ≤ 10 * zs.length := by
  induction zs with
  | nil => simp [encs]
  | cons z r ih =>
    have h1 := Vm.enc_len10 (h z (by simp))
    have h2 := ih (fun x hx => h x (by simp [hx]))
    simp [encs] at h2 ⊢
    omega
theorem encs_snoc (zs : List Nat) (k : Nat) (hk : k < zs.length) : encs (zs.take (k + 1)) = encs (zs.take k) ++ Vm.enc zs[k] := by
  unfold encs
  rw [List.take_succ_eq_append_getElem hk, List.flatMap_append, List.flatMap_singleton]

set_option maxRecDepth 100000 in
set_option maxHeartbeats 400000 in
theorem join_any (a : Option Addr) (cap : Nat) (zs : List Nat) (w : World) (hz : U64s w a zs) (hl : zs.length ≤ 1000000) :
    Calls Try.prog 83 #[.slice a zs.length cap] w fun e w' => e = .returned (.string ⟨(encs zs).toArray⟩) ∧ Below w.heap.size w w' := by
  obtain ⟨i0, hi, hz0, hz1, hz2⟩ := info_parts info_u8
  have hmf : ∀ (fn : Fn) (first cap : Array Value) (w : World), (Instr.makeFunc fn first cap).run Try.prog w = .ok (.func fn first cap) w := fun _ _ _ _ => rfl
  have HZ := Lib.hid hz
  clear hz
  go_enter Try.func83, Try.ntmps83
  go_wp2_with (at_make; refine wpList_make_own _ rfl _ _ 43 rfl w.heap.size 5 i0 (.int .u8 0) 1 Try.underlying43 hi hz0 hz1 _ _ _ zs.length rfl rfl (by omega) ?b2 ?b3 (Nat.le_refl _) ?_)
  case b2 => rw [hz2]; omega
  case b3 => unfold maxLen; omega
  intro w0 hown0 hgrow0
  have hsz0 : w.heap.size ≤ w0.heap.size := hgrow0.size
  have hbuf0 : Buf w.heap.size w0.heap.size (encs (zs.take 0)) (w0.alloc (.cells #[.slice (some ⟨w.heap.size, 0, none⟩) 0 zs.length] 43)) :=
    ⟨hsz0, _, heap_alloc_new _ _, by simpa [encs, bytesV] using hown0.alloc _⟩
  have hbel0 : Below w.heap.size w (w0.alloc (.cells #[.slice (some ⟨w.heap.size, 0, none⟩) 0 zs.length] 43)) :=
    ((Below.refl _ w).grown hgrow0 (Nat.le_refl _) (by simp)).alloc hsz0 _
  clear hown0 hgrow0
  go_wp2
  go_loopw [13] (fun i wr => ∃ k : Nat, k ≤ zs.length ∧ i = .int .i64 k ∧ Buf w.heap.size w0.heap.size (encs (zs.take k)) wr ∧ Below w.heap.size w wr) (fun i _ => zs.length - (intOf i).toNat)
  case atStart => exact ⟨0, Nat.zero_le _, rfl, hbuf0, hbel0⟩
  case round =>
    obtain ⟨k, hk, rfl, hb, hbel⟩ := hrel
    clear hbuf0 hbel0
    by_cases hlt : k < zs.length
    · obtain ⟨bb, off, rfl, hcw⟩ := HZ.out.2 k hlt
      have hcr : wr.cell? ⟨bb, off + k, none⟩ = some (.int .u64 (zs[k] : Int)) := (hbel.cell (p := ⟨bb, off + k, none⟩) (lt_of_cell? hcw)).trans hcw
      clear hcw
      have hle : (encs (zs.take k)).length ≤ 1099511627776 := by
        have := encs_len (zs := zs.take k) (fun z hz => HZ.out.1 z (List.mem_of_mem_take hz))
        simp at this
        omega
      go_wp2_with (go_at_call 101; refine (add_any w.heap.size w0.heap.size zs[k] (encs (zs.take k)) _ (HZ.out.1 _ (by simp)) hle hb).mono ?_; rintro e w2 ⟨rfl, hb', hbel'⟩)
      go_roundw
      case rel => exact ⟨k + 1, by omega, by go_num, by rw [encs_snoc zs k hlt]; exact hb', hbel.trans hbel'⟩
      case measure => simp [intOf]; omega
    · obtain rfl : k = zs.length := by omega
      rw [List.take_length] at hb
      obtain ⟨v, hcv, hconv⟩ := buf_string hb
      go_wp2
      go_ret
      exact ⟨rfl, hbel⟩

theorem join_at (a : Option Addr) (len cap : Nat) (zs : List Nat) (w : World) (hlen : zs.length = len) (hz : U64s w a zs) (hl : zs.length ≤ 1000000) :
    Calls Try.prog 83 #[.slice a len cap] w fun e w' => e = .returned (.string ⟨(encs zs).toArray⟩) ∧ Below w.heap.size w w' := by
  subst hlen
  exact join_any a cap zs w hz hl

end Go.Proofs.Ytplpeokmhomojaa
/- What stamp.Bytes answers. -/
namespace Go.Proofs.Ytplpeokmhomojaa
open Go.RowKit
set_option linter.unusedVariables false

/-- The bytes of a stamp. -/
def sbytes (n s : Int) : List UInt8 := if Sm.ok n s = true then Vm.enc n.toNat ++ Vm.enc s.toNat else []

theorem Sm.ok_nat {n s : Int} (h : Sm.ok n s = true) : ∃ a b : Nat, n = a ∧ s = b ∧ 1 ≤ a ∧ a ≤ 1099511627776 ∧ b < 6 := by
  simp only [Sm.ok, decide_eq_true_eq] at h
  exact ⟨n.toNat, s.toNat, by omega, by omega, by omega, by omega, by omega⟩

set_option maxRecDepth 100000 in
set_option maxHeartbeats 1000000 in
theorem bytes_any (n s : Int) (w : World) :
    Calls Try.prog 58 #[.agg #[.int .i64 n, .int .i64 s]] w fun e w' => e = .returned (.string ⟨(sbytes n s).toArray⟩) ∧ Below w.heap.size w w' := by
  cases h : Sm.ok n s with
  | false =>
    have he : sbytes n s = [] := by simp [sbytes, h]
    rw [he]
    have H := Lib.hid h
    clear h he
    go_enter Try.func58, Try.ntmps58
    go_wp2_with fail
    refine (scheck_any n s _).mono ?_
    rintro e w1 ⟨rfl, hb1⟩
    rw [H.out]
    have hb2 := bstep (balloc (Below.refl _ w) _) hb1
    clear hb1
    go_wp2
    go_ret
    exact ⟨rfl, hb2⟩
  | true =>
    have he : sbytes n s = Vm.enc n.toNat ++ Vm.enc s.toNat := by simp [sbytes, h]
    rw [he]
    have H := Lib.hid h
    obtain ⟨a, b, rfl, rfl, h1, h2, h3⟩ := Sm.ok_nat h
    clear h he
    simp only [Int.toNat_natCast]
    have henc : encs [a, b] = Vm.enc a ++ Vm.enc b := by simp [encs]
    have HE := Lib.hid henc
    clear henc
    go_enter Try.func58, Try.ntmps58
    go_wp2_with fail
    refine (scheck_any a b _).mono ?_
    rintro e w1 ⟨rfl, hb1⟩
    rw [H.out]
    have c0 : w1.cell? ⟨w.heap.size, 0, none⟩ = some (.int .i64 a) := kc hb1 (by simp)
    have c1 : w1.cell? ⟨w.heap.size, 1, none⟩ = some (.int .i64 b) := kc hb1 (by simp)
    have hb2 := bstep (balloc (Below.refl _ w) _) hb1
    clear hb1
    have hu : U64s (w1.alloc (.cells #[.int .u64 (a : Int), .int .u64 (b : Int)] 84)) (some ⟨w1.heap.size, 0, none⟩) [a, b] := by
      refine ⟨by intro z hz; simp at hz; omega, fun i hi => ⟨_, _, rfl, ?_⟩⟩
      match i, hi with
      | 0, _ => simp
      | 1, _ => simp
    have HU := Lib.hid hu
    clear hu
    go_wp2_with fail
    refine (join_at _ 2 2 [a, b] _ rfl HU.out (by simp)).mono ?_
    rintro e w2 ⟨rfl, hb3⟩
    have hb4 := bstep (balloc hb2 _) hb3
    clear hb2 hb3
    go_wp2
    go_ret
    exact ⟨ret_str (by rw [HE.out]), hb4⟩
end Go.Proofs.Ytplpeokmhomojaa
/- The bytes of a past: plain mathematics. -/
namespace Go.Proofs.Ytplpeokmhomojaa
open Go.RowKit
set_option linter.unusedVariables false

theorem enc_ne (n : Nat) : Vm.enc n ≠ [] := by
  rw [Vm.enc]
  split <;> simp
def dbytes (d : De) : List UInt8 := (Vm.enc d.1.size ++ d.1.data.toList) ++ sbytes d.2.1 d.2.2
def pbody (l : List De) : List UInt8 := l.flatMap dbytes
/-- The bytes of a past; none: it may not be. -/
def pbV (l : List De) : List UInt8 := if chkD l = true then Vm.enc l.length ++ pbody l else []
theorem pbody_take (l : List De) (k : Nat) (h : k < l.length) : pbody (l.take (k + 1)) = pbody (l.take k) ++ dbytes l[k] := by
  unfold pbody
  rw [List.take_succ_eq_append_getElem h, List.flatMap_append]
  simp
theorem pbody_cons (d : De) (l : List De) : pbody (d :: l) = dbytes d ++ pbody l := by simp [pbody]
theorem sbytes_len20 (n s : Int) : (sbytes n s).length ≤ 20 := by
  unfold sbytes
  split
  · rename_i h
    obtain ⟨a, b, rfl, rfl, h1, h2, h3⟩ := Sm.ok_nat h
    have e1 := Vm.enc_len10 (n := a) (by omega)
    have e2 := Vm.enc_len10 (n := b) (by omega)
    simp only [Int.toNat_natCast, List.length_append]
    omega
  · simp
theorem dbytes_len {d : De} (h : d.1.size ≤ 32) : (dbytes d).length ≤ 62 := by
  have e1 := Vm.enc_len10 (n := d.1.size) (by omega)
  have e2 := sbytes_len20 d.2.1 d.2.2
  have e3 : d.1.data.toList.length = d.1.size := rfl
  unfold dbytes
  simp only [List.length_append]
  omega
theorem pbody_len : ∀ (l : List De), (∀ d ∈ l, d.1.size ≤ 32) → (pbody l).length ≤ l.length * 62
  | [], _ => by simp [pbody]
  | d :: l, h => by
    have h1 := dbytes_len (h d (by simp))
    have h2 := pbody_len l (fun e he => h e (List.mem_cons_of_mem _ he))
    rw [pbody_cons, List.length_append, List.length_cons]
    omega
theorem srt_sizes {l : List De} (h : Srt l) : ∀ d ∈ l, d.1.size ≤ 32 := fun d hd => okD_size (h.1 d hd)
theorem chkD_parts {l : List De} (h : chkD l = true) : l.length ≤ 24 ∧ Srt l := by
  simp [chkD] at h
  exact h
end Go.Proofs.Ytplpeokmhomojaa
/- What the document's Check of pasts answers. -/
namespace Go.Proofs.Ytplpeokmhomojaa
open Go.RowKit
set_option linter.unusedVariables false
set_option linter.unusedSimpArgs false

theorem folD_false {p : List De} {d : De} (h : okD d = false) : folD p d = false := by simp [folD, h]
theorem folD_nil {d : De} (h : okD d = true) : folD [] d = true := by simp [folD, h]
theorem folD_at {l : List De} {k : Nat} {d : De} (hk : k + 1 ≤ l.length) (h : okD d = true) : folD (l.take (k + 1)) d = klt (l[k]'(by omega)).1 d.1 := by
  unfold folD
  rw [h, Bool.true_and, List.take_succ_eq_append_getElem (by omega), List.getLast?_concat]

set_option maxRecDepth 100000 in
set_option maxHeartbeats 3200000 in
theorem refPCheck_any (v : Value) (l : List De) (w : World) (hl : l.length ≤ 1000000) (hz : Szd l) (hr : DepAt w v l) :
    Calls Try.prog 24 #[v] w fun e w' => e = .returned (.bool (chkD l)) ∧ Below w.heap.size w w' := by
  obtain ⟨a, cap, rfl, hcap, hmx, _, hr⟩ := hr
  unfold maxLen at hmx
  have HR := Lib.hid hr
  have HZ := Lib.hid hz
  clear hr hz
  go_enter Try.func24, Try.ntmps24
  go_wp2
  go_loopw [3] (fun i wr => ∃ k : Nat, k ≤ l.length ∧ i = .int .i64 k ∧ Srt (l.take k) ∧ Below w.heap.size w wr) (fun i _ => l.length - (intOf i).toNat)
  case atStart => exact ⟨0, by omega, rfl, by simpa using Srt.nil, Below.refl _ _⟩
  case round =>
    obtain ⟨k, hk, rfl, hst, hbel⟩ := hrel
    have HS := Lib.hid hst
    clear hst
    by_cases hlt : k < l.length
    · obtain ⟨b, off, rfl, hbl, c0, c1, c2⟩ := HR.out.below hbel k hlt
      have HP := Lib.hid (@srt_step l k hlt)
      have HQ := Lib.hid (@srt_stop l k hlt)
      have hs := HZ.out l[k] (List.getElem_mem hlt)
      generalize l[k] = d at c0 c1 c2 HP HQ hs
      obtain ⟨x, y, z⟩ := d
      dsimp only at c0 c1 c2 hs
      go_wp2_with fail
      refine (refCheck_any x _ hs).mono ?_
      rintro e w1 ⟨rfl, rfl⟩
      generalize hkc : Km.chk x.data.toList = kc
      have HK := Lib.hid hkc
      clear hkc
      go_wp2_with fail
      refine (refSCheck_any y z _).mono ?_
      rintro e w2 ⟨rfl, hb1⟩
      have d0 := kcell hb1 hbl c0
      have HB := Lib.hid (bstep hbel hb1)
      clear c0 c1 c2 hb1 hbel
      generalize hsc : Sm.ok y z = sc
      have HC := Lib.hid hsc
      clear hsc
      have hod : okD (x, y, z) = (kc && sc) := by simp [okD, HK.out, HC.out]
      have HO := Lib.hid hod
      clear hod
      cases kc with
      | false =>
        go_wp2_with fail
        go_quiet (fail)
        go_wp2
        go_ret
        exact ⟨ret_bool (by rw [chkD, decide_eq_false (HQ.out (folD_false (by rw [HO.out]; rfl))), Bool.and_false]), bstep HB.out (bdrewN _ _)⟩
      | true =>
        cases sc with
        | false =>
          go_wp2_with fail
          go_quiet (fail)
          go_wp2
          go_ret
          exact ⟨ret_bool (by rw [chkD, decide_eq_false (HQ.out (folD_false (by rw [HO.out]; rfl))), Bool.and_false]), bstep HB.out (bdrewN _ _)⟩
        | true =>
          cases k with
          | zero =>
            go_wp2_with fail
            go_quiet (fail)
            go_wp2
            go_roundw
            case rel => exact ⟨1, by omega, by go_num, HP.out.2 ⟨HS.out, by rw [List.take_zero]; exact folD_nil HO.out⟩, bstep HB.out (bdrewN _ _)⟩
            case measure => simp [intOf]; omega
          | succ m =>
            obtain ⟨b', off', e', _, p0, _, _⟩ := HR.out.below HB.out m (by omega)
            cases e'
            have HF := Lib.hid (@folD_at l m (x, y, z) (by omega) HO.out)
            generalize (l[m]'(by omega)).1 = p at p0 HF
            have hw1 : IntKind.i64.wrap (m : Int) = (m : Int) := IntWalk.i64_in _ (by omega)
            have hw3 : (m : Int) < (l.length : Int) := by omega
            have hw4 : (m : Int) + 1 < (l.length : Int) := by omega
            have hbk : Hid (klt p x = Op.bytesLess p.toList x.toList) := Lib.hid (by rw [Lib.toList_data, Lib.toList_data]; rfl)
            cases hq : Op.bytesLess p.toList x.toList with
            | true =>
              go_wp2_with fail
              go_quiet (fail)
              go_wp2
              go_roundw
              case rel => exact ⟨m + 1 + 1, by omega, by go_num, HP.out.2 ⟨HS.out, by rw [HF.out, hbk.out]; exact hq⟩, bstep HB.out (bdrewN _ _)⟩
              case measure => simp [intOf]; omega
            | false =>
              go_wp2_with fail
              go_quiet (fail)
              go_wp2
              go_ret
              exact ⟨ret_bool (by rw [chkD, decide_eq_false (HQ.out (by rw [HF.out, hbk.out]; exact hq)), Bool.and_false]), bstep HB.out (bdrewN _ _)⟩
    · obtain rfl : k = l.length := by omega
      have HE : Hid (Srt l) := Lib.hid (by have h := HS.out; rw [List.take_of_length_le (Nat.le_refl _)] at h; exact h)
      go_wp2
      go_ret
      exact ⟨ret_bool (by rw [chkD, decide_eq_true HE.out, Bool.and_true]; simp; omega), hbel⟩
end Go.Proofs.Ytplpeokmhomojaa
/- What the document's own Number answers. -/
namespace Go.Proofs.Ytplpeokmhomojaa
open Go.RowKit
set_option linter.unusedVariables false

/-- A slice of one byte, as a string. -/
theorem conv_one (w : World) (b off : Nat) (c : UInt8) (x : Int) (hx : x = (c.toNat : Int)) (h : w.cell? ⟨b, off, none⟩ = some (.int .u8 x)) :
    (convert 43 9 (.slice (some ⟨b, off, none⟩) 1 1)).run Try.prog w = .ok (.string ⟨#[c]⟩) w := by
  subst hx
  exact run_convert_bytes_back (P := Try.prog) w 43 9 5 ⟨b, off, none⟩ 1 [c] Try.underlying43 Try.underlying5 Try.underlying9 (by
    intro j hj
    obtain rfl : j = 0 := by simpa using hj
    rw [Addr.add_lit]
    simp [h])

set_option maxRecDepth 100000 in
set_option maxHeartbeats 400000 in
theorem refNumber_any (f : Nat) : ∀ (n : Nat) (w : World), n < 128 ^ f → n < 18446744073709551616 →
    Calls Try.prog 60 #[.int .u64 n] w fun e w' => e = .returned (.string ⟨(Vm.enc n).toArray⟩) ∧ Below w.heap.size w w' := by
  have small : ∀ (n : Nat) (w : World), n < 128 → Calls Try.prog 60 #[.int .u64 n] w fun e w' => e = .returned (.string ⟨(Vm.enc n).toArray⟩) ∧ Below w.heap.size w w' := by
    intro n w hc
    obtain ⟨c, hcn⟩ : ∃ c : UInt8, c = UInt8.ofNat n := ⟨_, rfl⟩
    have hcn2 : (n : Int) = (c.toNat : Int) := by rw [hcn]; simp; omega
    have hcv : ∀ (w' : World) (b off : Nat), w'.cell? ⟨b, off, none⟩ = some (.int .u8 (n : Int)) → _ := fun w' b off h => conv_one w' b off c n hcn2 h
    have HC := Lib.hid hcn
    clear hcn hcn2
    go_enter Try.func60, Try.ntmps60
    go_wp2
    go_ret
    refine ⟨ret_str ?_, (Below.refl _ w).alloc (Nat.le_refl _) _⟩
    rw [Vm.enc_lt hc, HC.out]
  induction f with
  | zero =>
    intro n w h _
    exact small n w (by simp at h; omega)
  | succ f ih =>
    intro n w h hn
    have IH := Lib.hid ih
    have Hn := Lib.hid hn
    have Hf := Lib.hid h
    have HS := Lib.hid small
    clear ih hn h small
    by_cases hc : n < 128
    · exact HS.out n w hc
    · have hx : ∀ w', Calls Try.prog 60 #[.int .u64 (IntKind.u64.wrap ((n : Int) / 128))] w' fun e w'' => e = .returned (.string ⟨(Vm.enc (n / 128)).toArray⟩) ∧ Below w'.heap.size w' w'' := by
        intro w'
        have h := IH.out (n / 128) w' (by have := Hf.out; rw [Nat.pow_succ] at this; exact Nat.div_lt_of_lt_mul (by rw [Nat.mul_comm]; exact this)) (by have := Hn.out; omega)
        rw [show ((n / 128 : Nat) : Int) = IntKind.u64.wrap ((n : Int) / 128) from by rw [IntWalk.u64_in _ (by have := Hn.out; omega)]; omega] at h
        exact h
      have HX := Lib.hid hx
      clear hx
      obtain ⟨c, hcn⟩ : ∃ c : UInt8, c = UInt8.ofNat (n % 128 + 128) := ⟨_, rfl⟩
      have hcn2 : c.toNat = n % 128 + 128 := by rw [hcn, UInt8.toNat_ofNat']; omega
      have hcv : ∀ (w' : World) (b off : Nat), w'.cell? ⟨b, off, none⟩ = some (.int .u8 (IntKind.u8.wrap (IntKind.u64.wrap (128 + (n : Int).tmod 128)))) → _ := fun w' b off h => conv_one w' b off c _ (by rw [Int.tmod_eq_emod_of_nonneg (by omega), IntWalk.u64_in _ (by omega), IntWalk.u8_in _ (by omega)]; omega) h
      have HC := Lib.hid hcn
      clear hcn hcn2
      go_enter Try.func60, Try.ntmps60
      go_wp2
      have hl10 := Vm.enc_len10 (n := n / 128) (by have := Hn.out; omega)
      go_region_with (go_at_call 60; ((with_reducible refine (HX.out _).mono ?_); rintro e w2 ⟨rfl, hb2⟩; try (have hc2 : w2.cell? ⟨w.heap.size, 0, none⟩ = some (.int .u8 (IntKind.u8.wrap (IntKind.u64.wrap (128 + (n : Int).tmod 128)))) := by (rw [hb2.cell (p := ⟨w.heap.size, 0, none⟩) (by simp)]; simp))))
      all_goals
        go_wp2
        go_ret
        refine ⟨ret_str ?_, ?_⟩
        · rw [Vm.enc_ge (n := n) (by omega), ← HC.out]
          exact str_add [c] ⟨(Vm.enc (n / 128)).toArray⟩
        · first
            | exact bstep ((Below.refl _ w).alloc (Nat.le_refl _) _).drew hb2
            | exact (bstep (Below.refl _ w).drew hb2).alloc (bstep (Below.refl _ w).drew hb2).size _

theorem refNumber (n : Nat) (w : World) (hn : n < 18446744073709551616) :
    Calls Try.prog 60 #[.int .u64 n] w fun e w' => e = .returned (.string ⟨(Vm.enc n).toArray⟩) ∧ Below w.heap.size w w' :=
  refNumber_any 10 n w (by have : (18446744073709551616 : Nat) ≤ 128 ^ 10 := by decide
                           omega) hn

end Go.Proofs.Ytplpeokmhomojaa
/- What the document's own Text answers. -/
namespace Go.Proofs.Ytplpeokmhomojaa
open Go.RowKit
set_option linter.unusedVariables false

set_option maxRecDepth 100000 in
theorem refText (s : ByteArray) (w : World) (hs : s.size ≤ 1099511627776) :
    Calls Try.prog 61 #[.string s] w fun e w' => e = .returned (.string ⟨(Vm.enc s.size ++ s.data.toList).toArray⟩) ∧ Below w.heap.size w w' := by
  have hq := Vm.enc_len10 (n := s.size) (by omega)
  go_enter Try.func61, Try.ntmps61
  go_wp2_with (go_at_call 60; refine (refNumber s.size _ (by omega)).mono ?_; rintro e w2 ⟨rfl, hbel⟩)
  go_ret
  exact ⟨ret_str (str_add _ _), hbel⟩

end Go.Proofs.Ytplpeokmhomojaa
/- What the document's own Bytes of stamps answers. -/
namespace Go.Proofs.Ytplpeokmhomojaa
open Go.RowKit
set_option linter.unusedVariables false

set_option maxRecDepth 100000 in
set_option maxHeartbeats 1000000 in
theorem refBytes_any (n s : Int) (w : World) :
    Calls Try.prog 62 #[.agg #[.int .i64 n, .int .i64 s]] w fun e w' => e = .returned (.string ⟨(sbytes n s).toArray⟩) ∧ Below w.heap.size w w' := by
  cases h : Sm.ok n s with
  | false =>
    have he : sbytes n s = [] := by simp [sbytes, h]
    rw [he]
    have H := Lib.hid h
    clear h he
    go_enter Try.func62, Try.ntmps62
    go_wp2_with fail
    refine (refSCheck_any n s _).mono ?_
    rintro e w1 ⟨rfl, hb1⟩
    rw [H.out]
    have hb2 := bstep (balloc (Below.refl _ w) _) hb1
    clear hb1
    go_wp2
    go_ret
    exact ⟨rfl, hb2⟩
  | true =>
    have he : sbytes n s = Vm.enc n.toNat ++ Vm.enc s.toNat := by simp [sbytes, h]
    rw [he]
    have H := Lib.hid h
    obtain ⟨a, b, rfl, rfl, h1, h2, h3⟩ := Sm.ok_nat h
    clear h he
    simp only [Int.toNat_natCast]
    have l1 := Vm.enc_len10 (n := a) (by omega)
    have l2 := Vm.enc_len10 (n := b) (by omega)
    have hsum : ¬ 9223372036854775807 < (Vm.enc a).length + (Vm.enc b).length := by omega
    have u1 : IntKind.u64.wrap (a : Int) = (a : Int) := IntWalk.u64_in _ (by omega)
    have u2 : IntKind.u64.wrap (b : Int) = (b : Int) := IntWalk.u64_in _ (by omega)
    go_enter Try.func62, Try.ntmps62
    go_wp2_with fail
    refine (refSCheck_any a b _).mono ?_
    rintro e w1 ⟨rfl, hb1⟩
    rw [H.out]
    have c0 : w1.cell? ⟨w.heap.size, 0, none⟩ = some (.int .i64 a) := kc hb1 (by simp)
    have c1 : w1.cell? ⟨w.heap.size, 1, none⟩ = some (.int .i64 b) := kc hb1 (by simp)
    have hb2 := bstep (balloc (Below.refl _ w) _) hb1
    clear hb1
    have g0 := And.intro c0 c1
    go_wp2_with fail
    go_region_held3 (fun w' => w'.cell? ⟨w.heap.size, 0, none⟩ = some (.int .i64 a) ∧ w'.cell? ⟨w.heap.size, 1, none⟩ = some (.int .i64 b))
      (first | exact g0 | exact g1 | exact g2)
      (first
        | (go_at_call_of 60 (a); ((refine (refNumber a _ (by omega)).mono ?_); rintro e wa ⟨rfl, ha⟩; have g1 := And.intro (kc ha g0.1) (kc ha g0.2)))
        | (go_at_call_of 60 (b); ((refine (refNumber b _ (by omega)).mono ?_); rintro e wb ⟨rfl, hb⟩; have g2 := And.intro (kc hb g1.1) (kc hb g1.2))))
    have hb4 := bstep (bstep hb2.drew ha) hb
    clear ha hb hb2 g0 g1 g2
    go_wp2
    go_ret
    exact ⟨ret_str (str_add _ _), hb4⟩
end Go.Proofs.Ytplpeokmhomojaa
/- What strings.Builder's copyCheck and WriteString do with a builder of the call's own. -/
namespace Go.Proofs.Ytplpeokmhomojaa
open Go.RowKit
set_option linter.unusedVariables false
set_option linter.unusedSimpArgs false

theorem info_bld : (Try.prog.info? 78).map (·.size) = some 2 := by kernel_rfl
theorem lies_bld : liesAt Try.prog Try.prog.depth 78 (2 / Try.prog.cellsOf 78) 0 78 1 = true := by kernel_rfl
theorem info_byte : (Try.prog.info? 5).map (fun i => (i.zero, i.size, i.bytes)) = some (some (.int .u8 0), 1, 1) := by kernel_rfl
abbrev IsB (B b : Nat) (bs : List Value) (w : World) : Prop := Lib.IsBuilder 78 5 B b bs w

/-- Blocks but the builder's and its buffer's are as they were. -/
def KpB (b : Nat) (w w' : World) : Prop := ∀ j, j < w.heap.size → j ≠ b → (∀ v, w.cell? ⟨b, 1, none⟩ = some v → v.ownBlock ≠ some j) → w'.heap[j]? = w.heap[j]?
theorem isB_own {B b : Nat} {bs : List Value} {w : World} (h : IsB B b bs w) {v : Value} (hv : w.cell? ⟨b, 1, none⟩ = some v) {j : Nat} (hj : w.heap.size ≤ j) : v.ownBlock ≠ some j := by
  have key : ∀ p, Lib.BuilderAt 78 5 B b p bs w → v.ownBlock ≠ some j := by
    rintro p ⟨_, u, hb, ho, _⟩
    rw [Lib.cell_of_heap hb] at hv
    have e : u = v := by simpa using hv
    subst e
    intro e
    have := (ho.lt j e).2
    omega
  rcases h with h | h
  · exact key _ h
  · exact key _ h
theorem isB_lt {B b : Nat} {bs : List Value} {w : World} (h : IsB B b bs w) : b < w.heap.size := by
  rcases h with h | h
  · exact h.lt
  · exact h.lt

set_option maxHeartbeats 1000000 in
set_option maxRecDepth 100000 in
theorem copyCheck_used (b : Nat) (w : World) (h0 : w.cell? ⟨b, 0, none⟩ = some (.pointer (some ⟨b, 0, none⟩))) :
    Calls Try.prog 82 #[.pointer (some ⟨b, 0, none⟩)] w fun e w' => e = .returned (.tuple #[]) ∧ w' = w := by
  obtain ⟨j, hj, _⟩ := Option.map_eq_some_iff.1 info_bld
  go_enter Try.func82, Try.ntmps82
  go_wp2
  rw [Lib.run_neq_ptr_same w _ Try.underlying76 hj]
  go_wp2
  go_end0
  exact ⟨rfl, rfl⟩

set_option maxHeartbeats 1000000 in
set_option maxRecDepth 100000 in
theorem copyCheck_fresh (b : Nat) (w : World) (h0 : w.cell? ⟨b, 0, none⟩ = some (.pointer none)) (hsh : w.shape? b = some (78, 2)) (hfz : w.frozen? ⟨b, 0, none⟩ = false) :
    Calls Try.prog 82 #[.pointer (some ⟨b, 0, none⟩)] w fun e w' => e = .returned (.tuple #[]) ∧ w' = w.setCell ⟨b, 0, none⟩ (.pointer (some ⟨b, 0, none⟩)) := by
  obtain ⟨j, hj, hjs⟩ := Option.map_eq_some_iff.1 info_bld
  go_enter Try.func82, Try.ntmps82
  go_wp2
  rw [Lib.run_to_unsafe w ⟨b, 0, none⟩ Try.underlying76 Try.underlying132 hj (by rw [hjs]; decide) hsh (Nat.zero_lt_succ 1)]
  simp only [Result.andThen]
  rw [Oper.upon_value]
  go_wp2
  rw [run_callFunc_extern Try.func100 (by kernel_rfl) (by kernel_rfl) (by kernel_rfl) (e := Extern.AbiNoEscape.same) (by kernel_rfl)]
  rw [Lib.run_noEscape]
  simp only [Result.andThen]
  rw [Oper.upon_value]
  go_wp2
  rw [Lib.run_from_unsafe w ⟨b, 0, none⟩ Try.underlying132 Try.underlying76 hj hsh lies_bld]
  simp only [Result.andThen]
  rw [Oper.upon_value]
  go_wp2
  go_end0
  exact ⟨rfl, rfl⟩

theorem copyCheck_any (B b : Nat) (bs : List Value) (w : World) (h : IsB B b bs w) :
    Calls Try.prog 82 #[.pointer (some ⟨b, 0, none⟩)] w fun e w' => e = .returned (.tuple #[]) ∧ (Lib.BuilderAt 78 5 B b (.pointer (some ⟨b, 0, none⟩)) bs w' ∧ Below B w w' ∧ w'.heap.size = w.heap.size ∧ w'.cell? ⟨b, 1, none⟩ = w.cell? ⟨b, 1, none⟩ ∧ ∀ j, j ≠ b → w'.heap[j]? = w.heap[j]?) := by
  rcases h with h | h
  · refine (copyCheck_fresh b w h.cell0 h.shape h.frozen0).mono ?_
    rintro e w' ⟨rfl, rfl⟩
    exact ⟨rfl, h.used _, (Below.refl B w).setCell (p := ⟨b, 0, none⟩) h.1 _, by simp [World.setCell], World.cell?_setCell_other _ _ _ _ (by simp), fun j hj => Below.heap_setCell _ _ _ _ hj⟩
  · refine (copyCheck_used b w h.cell0).mono ?_
    rintro e w' ⟨rfl, rfl⟩
    exact ⟨rfl, h, Below.refl B _, rfl, rfl, fun _ _ => rfl⟩

set_option maxHeartbeats 1000000 in
set_option maxRecDepth 100000 in
/-- WriteString: the text's bytes behind those that are there. -/
theorem writeStr_any (B b : Nat) (bs : List Value) (s : ByteArray) (w : World) (h : IsB B b bs w) (hlen : bs.length + s.size ≤ 140737488355328) (hBw : B ≤ w.heap.size) :
    Calls Try.prog 55 #[.pointer (some ⟨b, 0, none⟩), .string s] w fun e w' => e = .returned (.tuple #[.int .i64 s.size, .nilIface]) ∧ (IsB B b (bs ++ Lib.strCells s) w' ∧ Below B w w' ∧ KpB b w w') := by
  obtain ⟨i0, hi, hz0, hz1, hz2⟩ := info_parts info_byte
  go_enter Try.func55, Try.ntmps55
  go_wp2_with fail
  refine (copyCheck_any B b bs _ h).mono ?_
  rintro e w1 ⟨rfl, h1, hb1, hsz1, hcl1, hkp1⟩
  have HK1 := Lib.hid hkp1
  have HC1 := Lib.hid hcl1
  clear hkp1 hcl1
  obtain ⟨hB, v, hbk, hown, hne⟩ := h1
  have c0 : w1.cell? ⟨b, 0, none⟩ = some (.pointer (some ⟨b, 0, none⟩)) := by rw [Lib.cell_of_heap hbk]; rfl
  have c1 : w1.cell? ⟨b, 1, none⟩ = some v := by rw [Lib.cell_of_heap hbk]; rfl
  go_wp2_with (at_builtin; refine Lib.wpList_append_own_string _ rfl _ _ 43 9 rfl B 5 i0 Try.underlying43 Try.underlying9 hi hz0 hz1 hz2 _ _ _ rfl hown s rfl ?c3 ?c4 ?c5 ?_)
  case c3 => unfold maxLen; omega
  case c4 => omega
  case c5 => have := hb1.size; omega
  intro v' w2 hown' hgrow _
  have hlt : b < w1.heap.size := by
    rcases Nat.lt_or_ge b w1.heap.size with h' | h'
    · exact h'
    · simp [Array.getElem?_eq_none h'] at hbk
  have hb2 : w2.heap[b]? = some (.cells #[.pointer (some ⟨b, 0, none⟩), v] 78 (0, 0)) := by
    rw [hgrow.block b hlt (fun e => hne e.symm)]
    exact hbk
  have d0 : w2.cell? ⟨b, 0, none⟩ = some (.pointer (some ⟨b, 0, none⟩)) := by rw [Lib.cell_of_heap hb2]; rfl
  have d1 : w2.cell? ⟨b, 1, none⟩ = some v := by rw [Lib.cell_of_heap hb2]; rfl
  have f1 : w2.frozen? ⟨b, 1, none⟩ = false := Lib.frozen_of_heap hb2 1
  obtain ⟨ao, n', cap, rfl⟩ : ∃ ao n' cap, v' = .slice ao n' cap := by
    rcases hown'.2 with ⟨hv, _⟩ | ⟨g, cap, cur, hv, _⟩
    · exact ⟨_, _, _, hv⟩
    · exact ⟨_, _, _, hv⟩
  go_wp2
  go_ret2
  refine ⟨rfl, ?_, ?_, ?_⟩
  · exact .inr (Lib.BuilderAt.put (T := 78) (e := 5) hB hb2 (bs' := bs ++ Lib.strCells s) (by simpa [Lib.strCells_length] using hown') (by decide))
  · exact (hb1.grown hgrow (by have := hb1.size; omega) (fun k hk => (hown.lt k hk).1)).setCell (p := ⟨b, 1, none⟩) hB _
  · intro j hj hjb hjo
    rw [Below.heap_setCell _ _ _ _ hjb, hgrow.block j (by omega) (fun e => hjo v (by rw [← HC1.out]; exact c1) e.symm)]
    exact HK1.out j hjb
end Go.Proofs.Ytplpeokmhomojaa
/- What vary.Number and vary.Text answer. -/
namespace Go.Proofs.Ytplpeokmhomojaa
open Go.RowKit

set_option maxRecDepth 100000 in
theorem number_any (n : Nat) (w : World) (hn : n < 18446744073709551616) :
    Calls Try.prog 56 #[.int .u64 n] w fun e w' => e = .returned (.string ⟨(Vm.enc n).toArray⟩) ∧ Below w.heap.size w w' := by
  have hu : U64s (w.alloc (.cells #[.int .u64 (n : Int)] 84)) (some ⟨w.heap.size, 0, none⟩) [n] := by
    refine ⟨by simpa using hn, fun i hi => ⟨_, _, rfl, ?_⟩⟩
    obtain rfl : i = 0 := by simpa using hi
    simp
  have he : encs [n] = Vm.enc n := by simp [encs]
  have HU := Lib.hid hu
  have HE := Lib.hid he
  clear hu he hn
  go_enter Try.func56, Try.ntmps56
  go_wp2_with (go_at_call 83; refine (join_at _ 1 1 [n] _ rfl HU.out (by simp)).mono ?_; rintro e w2 ⟨rfl, hbel⟩)
  go_ret
  refine ⟨ret_str (by rw [HE.out]), ?_⟩
  exact ((Below.refl _ w).alloc (Nat.le_refl _) _).trans (hbel.mono (by simp))

set_option maxRecDepth 100000 in
theorem text_any (s : ByteArray) (w : World) (hs : s.size ≤ 1099511627776) :
    Calls Try.prog 57 #[.string s] w fun e w' => e = .returned (.string ⟨(Vm.enc s.size ++ s.data.toList).toArray⟩) ∧ Below w.heap.size w w' := by
  have hq := Vm.enc_len10 (n := s.size) (by omega)
  go_enter Try.func57, Try.ntmps57
  go_wp2_with (go_at_call 56; refine (number_any s.size _ (by omega)).mono ?_; rintro e w2 ⟨rfl, hbel⟩)
  go_ret
  exact ⟨ret_str (str_add _ _), hbel⟩

end Go.Proofs.Ytplpeokmhomojaa
