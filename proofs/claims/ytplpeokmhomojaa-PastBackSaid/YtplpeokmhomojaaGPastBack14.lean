/- Texts of this proof, one behind the other: PastMade, VaryAdd, VaryJoin, StampBytes, PastBytesMath, Build, VaryNumber. -/
import Derived.Test.YtplpeokmhomojaaGPastBack13
import Derived.Test.YtplpeokmhomojaaProg
import Derived.WalkKit
import Derived.WalkLawsBesides
import Derived.Lib.Hide
import Derived.Laws.BitsAllLaws
import Derived.Lib.Builder
/- What the law's own 'made' answers. -/
namespace Go.Proofs.Ytplpeokmhomojaa
open Go.RowKit
set_option linter.unusedVariables false
set_option linter.unusedSimpArgs false

def k20 (k : ByteArray) : ByteArray := if 20 < k.size then k.extract 0 20 else k
theorem k20_size (k : ByteArray) : (k20 k).size ≤ 20 := by
  unfold k20
  split
  · rw [ByteArray.size_extract]; omega
  · omega
def cutD (d : De) : De := (k20 d.1, d.2)
/-- The past that 'made' makes. -/
def mdD (l : List De) : List De := addAll [] ((l.take 12).map cutD)
theorem mdD_srt (l : List De) : Srt (mdD l) := (IsMerge.nil.all ((l.take 12).map cutD)).srt
theorem mdD_len (l : List De) : (mdD l).length ≤ 12 := by
  have h1 := addAll_len ((l.take 12).map cutD) []
  rw [List.length_map, List.length_take, List.length_nil] at h1
  unfold mdD
  omega
theorem mdK_step (l : List De) (k : Nat) (h : k < l.length) : addAll [] ((l.take (k + 1)).map cutD) = addR (addAll [] ((l.take k).map cutD)) (cutD l[k]) := by
  rw [List.take_succ_eq_append_getElem h, List.map_append, List.map_singleton, addAll_snoc]
theorem mdK_all (l : List De) (k : Nat) (hk : k ≤ l.length) (h12 : k ≤ 12) (hx : ¬ (k < l.length ∧ k < 12)) : addAll [] ((l.take k).map cutD) = mdD l := by
  unfold mdD
  by_cases e : k = 12
  · rw [e]
  · rw [List.take_of_length_le (by omega), List.take_of_length_le (by omega)]

set_option maxRecDepth 100000 in
set_option maxHeartbeats 3200000 in
theorem made_any (v : Value) (l : List De) (w : World) (hl : l.length ≤ 9223372036854775807) (hz : Szd l) (hr : DepAt w v l) :
    Calls Try.prog 10 #[v] w fun e w' => ∃ u, e = .returned u ∧ DepAt w' u (mdD l) ∧ Below w.heap.size w w' := by
  obtain ⟨a, cap, rfl, _, _, _, hr⟩ := hr
  have HR := Lib.hid hr
  have HZ := Lib.hid hz
  clear hr hz
  go_enter Try.func10, Try.ntmps10
  go_wp2
  go_loopw [3, 4] (fun o i wr => ∃ k : Nat, k ≤ l.length ∧ k ≤ 12 ∧ i = .int .i64 k ∧ DepAt wr o (addAll [] ((l.take k).map cutD)) ∧ Below w.heap.size w wr) (fun _ i _ => 12 - (intOf i).toNat)
  case atStart => exact ⟨0, by omega, by omega, rfl, DepAt.nil w, Below.refl _ _⟩
  case round =>
    obtain ⟨k, hk, hk12, rfl, hd, hbel⟩ := hrel
    obtain ⟨da, dc, rfl, _, _, _, _⟩ := id hd
    have HD := Lib.hid hd
    clear hd
    by_cases hlt : k < l.length ∧ k < 12
    · obtain ⟨h1, h2⟩ := hlt
      obtain ⟨b, off, rfl, hbl, c0, c1, c2⟩ := HR.out.below hbel k h1
      have HS := Lib.hid (mdK_step l k h1)
      have hsz := HZ.out l[k] (List.getElem_mem h1)
      have hal := addAll_len ((l.take k).map cutD) []
      have htl : ((l.take k).map cutD).length ≤ 12 := by simp; omega
      generalize l[k] = d at c0 c1 c2 HS hsz
      obtain ⟨x, y, z⟩ := d
      dsimp only at c0 c1 c2 hsz
      generalize hqq : addAll [] ((l.take k).map cutD) = q at HD HS hal
      clear hqq
      have hql : q.length ≤ 12 := by simp at hal; omega
      have h1i : (k : Int) < (l.length : Int) := by omega
      have h2i : (k : Int) < 12 := by omega
      have hd1 : decide (k < l.length) = true := by simpa using h1
      have hb1 : Below wr.heap.size wr (wr.alloc (.cells #[.string x, .int .i64 y, .int .i64 z] 26)) := balloc (Below.refl _ _) _
      by_cases h20 : 20 < x.size
      · have h20i : (20 : Int) < (x.size : Int) := by omega
        have hk20 : k20 x = x.extract 0 20 := by simp [k20, h20]
        have hks := k20_size x
        rw [hk20] at hks
        have HC : Hid (cutD (x, y, z) = (x.extract 0 20, y, z)) := Lib.hid (by simp [cutD, hk20])
        clear hk20
        have hb3 : Below wr.heap.size wr (wr.alloc (.cells #[.string (x.extract 0 20), .int .i64 y, .int .i64 z] 26)) := balloc (Below.refl _ _) _
        go_wp2_with fail
        refine (refAddP_any _ q (x.extract 0 20) y z _ (by omega) (by omega) (HD.out.below hb3)).mono ?_
        rintro e w2 ⟨v2, rfl, hd2, hb2⟩
        obtain ⟨va, vc, rfl, _, _, _, _⟩ := id hd2
        have HD2 := Lib.hid hd2
        clear hd2
        go_wp2
        go_roundw
        case rel => exact ⟨k + 1, by omega, by omega, by go_num, by rw [HS.out, HC.out]; exact HD2.out, bstep hbel (bstep hb3 hb2)⟩
        case measure => simp [intOf]; omega
      · have h20i : ¬ (20 : Int) < (x.size : Int) := by omega
        have HC : Hid (cutD (x, y, z) = (x, y, z)) := Lib.hid (by simp [cutD, k20, h20])
        go_wp2_with fail
        refine (refAddP_any _ q x y z _ (by omega) hsz (HD.out.below hb1)).mono ?_
        rintro e w2 ⟨v2, rfl, hd2, hb2⟩
        obtain ⟨va, vc, rfl, _, _, _, _⟩ := id hd2
        have HD2 := Lib.hid hd2
        clear hd2
        go_wp2
        go_roundw
        case rel => exact ⟨k + 1, by omega, by omega, by go_num, by rw [HS.out, HC.out]; exact HD2.out, bstep hbel (bstep hb1 hb2)⟩
        case measure => simp [intOf]; omega
    · have HX := Lib.hid (mdK_all l k hk hk12 hlt)
      rcases (show (decide (k < l.length) = false) ∨ (decide (k < l.length) = true ∧ decide ((k : Int) < 12) = false) by simp; omega) with hd | ⟨hd, hd2⟩
      all_goals
        go_wp2
        go_ret
        exact ⟨_, rfl, by rw [← HX.out]; exact HD.out, hbel⟩
end Go.Proofs.Ytplpeokmhomojaa
/- What the closure of vary.Join does: it appends the bytes of one number to the captured row. -/
namespace Go.Proofs.Ytplpeokmhomojaa
open Go.RowKit

theorem info_u8 : (Try.prog.info? 5).map (fun i => (i.zero, i.size, i.bytes)) = some (some (.int .u8 0), 1, 1) := by kernel_rfl

def bytesV (l : List UInt8) : List Value := l.map fun c => .int .u8 (c.toNat : Int)

/-- The captured row of bytes: Bv is the variable's block, base: from where on the call's own blocks lie. -/
structure Buf (base Bv : Nat) (l : List UInt8) (w : World) : Prop where
  le : base ≤ Bv
  var : ∃ v, w.heap[Bv]? = some (.cells #[v] 43 (0, 0)) ∧ w.ownsRow base 5 1 v l.length (bytesV l)

theorem own_shape {w1 : World} {base e n : Nat} {v' : Value} {xs : List Value} (h : w1.ownsRow base e 1 v' n xs) : ∃ a k c, v' = .slice a k c := by
  rcases h.2 with ⟨rfl, _⟩ | ⟨g, cap, cur, rfl, _⟩
  · exact ⟨_, _, _, rfl⟩
  · exact ⟨_, _, _, rfl⟩

theorem buf_push {base Bv : Nat} {l : List UInt8} {c : UInt8} {wr w1 : World} {v v' : Value} {X : Obj} (hle : base ≤ Bv) (hbs : base ≤ wr.heap.size)
    (hv : wr.heap[Bv]? = some (.cells #[v] 43 (0, 0))) (ho : wr.ownsRow base 5 1 v l.length (bytesV l))
    (ho' : w1.ownsRow base 5 1 v' (l.length + 1) (bytesV l ++ [.int .u8 (c.toNat : Int)])) (hg : (wr.alloc X).grownBy w1 v.ownBlock) :
    w1.cell? ⟨Bv, 0, none⟩ = some v ∧ w1.frozen? ⟨Bv, 0, none⟩ = false ∧ Buf base Bv (l ++ [c]) (w1.setCell ⟨Bv, 0, none⟩ v') ∧ Below base wr (w1.setCell ⟨Bv, 0, none⟩ v') := by
  have hlt := lt_of_block hv
  have hne : some Bv ≠ v.ownBlock := by
    intro e
    rcases ho.2 with ⟨rfl, _⟩ | ⟨g, cap, cur, rfl, _, hh, _⟩
    · simp [Value.ownBlock] at e
    · simp [Value.ownBlock] at e
      subst e
      rw [hh] at hv
      simp at hv
  have hv1 : w1.heap[Bv]? = some (.cells #[v] 43 (0, 0)) := by
    rw [hg.block Bv (by simp; omega) hne, Below.heap_alloc _ _ _ hlt]
    exact hv
  have hne' : v'.ownBlock ≠ some Bv := by
    intro e
    rcases ho'.2 with ⟨rfl, _⟩ | ⟨g, cap, cur, rfl, _, hh, _⟩
    · simp [Value.ownBlock] at e
    · simp [Value.ownBlock] at e
      subst e
      rw [hh] at hv1
      simp at hv1
  refine ⟨cell_of_one hv1, free_of_one hv1, ⟨hle, _, one_setCell hv1, ?_⟩, ?_⟩
  · have := ownsRow_setCell_other ho' (a := ⟨Bv, 0, none⟩) hne' v'
    simpa [bytesV] using this
  · refine Below.setCell ?_ hle _
    refine ((Below.refl base wr).alloc hbs X).grown hg (by simp; omega) ?_
    intro k hk
    exact (ho.lt k hk).1

set_option maxRecDepth 100000 in
set_option maxHeartbeats 400000 in
theorem add_any (base Bv n : Nat) (l : List UInt8) (w : World) (hn : n < 18446744073709551616) (hl : l.length ≤ 1099511627776) (hb : Buf base Bv l w) :
    Calls Try.prog 101 #[.int .u64 n, .pointer (some ⟨Bv, 0, none⟩)] w fun e w' => e = .returned (.tuple #[]) ∧ Buf base Bv (l ++ Vm.enc n) w' ∧ Below base w w' := by
  obtain ⟨i0, hi, hz0, hz1, hz2⟩ := info_parts info_u8
  have Hn := Lib.hid hn
  clear hn
  go_enter Try.func101, Try.ntmps101
  go_wp2
  go_loopw [0] (fun a wr => ∃ (m : Nat) (p : List UInt8), m < 18446744073709551616 ∧ a = .int .u64 m ∧ Buf base Bv p wr ∧ Below base w wr ∧ p ++ Vm.enc m = l ++ Vm.enc n) (fun a _ => (intOf a).toNat)
  case atStart => exact ⟨n, l, Hn.out, rfl, hb, Below.refl _ _, rfl⟩
  case round =>
    obtain ⟨m, p, hm, rfl, ⟨hle, v, hv, ho⟩, hbel, he⟩ := hrel
    have He := Lib.hid he
    have Hm := Lib.hid hm
    have hbs : base ≤ wr.heap.size := by have := lt_of_block hv; omega
    have hp : p.length ≤ 1099511627786 := by
      have e := congrArg List.length He.out
      have q := Vm.enc_len10 Hn.out
      simp at e
      omega
    have cV := cell_of_one hv
    have fV := free_of_one hv
    clear he hm
    by_cases hc : m < 128
    · go_wp2_with (at_builtin; refine wpList_append_own _ rfl _ _ 43 rfl base 5 i0 (.int .u8 0) 1 1 Try.underlying43 hi hz0 hz1 hz2 rfl (by decide) _ _ _ rfl (ho.alloc _) ⟨wr.heap.size, 0, none⟩ 1 1 [.int .u8 (m : Int)] rfl rfl ?d1 ?d2 ?d3 ?d4 ?d5 ?_)
      case d1 =>
        intro j u hj
        match j, hj with
        | 0, hj => simp at hj; subst hj; simp [Addr.add]
      case d2 => intro u hu; simp at hu; subst hu; rfl
      case d3 => unfold maxLen; omega
      case d4 => omega
      case d5 => simp; omega
      · intro v' w1 ho' hg _
        rw [Vm.low128 hc] at ho'
        obtain ⟨k1, k2, k3, k4⟩ := buf_push hle hbs hv ho ho' hg
        obtain ⟨sa, sn, sc, rfl⟩ := own_shape ho'
        clear ho' hg cV fV
        go_wp2
        go_end0
        have e := He.out
        rw [Vm.enc_lt hc] at e
        rw [e] at k3
        exact ⟨rfl, k3, hbel.trans k4⟩
    · go_wp2_with (at_builtin; refine wpList_append_own _ rfl _ _ 43 rfl base 5 i0 (.int .u8 0) 1 1 Try.underlying43 hi hz0 hz1 hz2 rfl (by decide) _ _ _ rfl (ho.alloc _) ⟨wr.heap.size, 0, none⟩ 1 1 [.int .u8 (bits BinOp.or IntKind.u8 ((m : Int) % 256) 128)] rfl rfl ?c1 ?c2 ?c3 ?c4 ?c5 ?_)
      case c1 =>
        intro j u hj
        match j, hj with
        | 0, hj => simp at hj; subst hj; simp [Addr.add]
      case c2 => intro u hu; simp at hu; subst hu; rfl
      case c3 => unfold maxLen; omega
      case c4 => omega
      case c5 => simp; omega
      · intro v' w1 ho' hg _
        rw [Vm.or128] at ho'
        obtain ⟨k1, k2, k3, k4⟩ := buf_push hle hbs hv ho ho' hg
        obtain ⟨sa, sn, sc, rfl⟩ := own_shape ho'
        clear ho' hg cV fV
        go_wp2
        go_roundw
        case rel =>
          have e := He.out
          rw [Vm.enc_ge (by omega)] at e
          exact ⟨m / 128, _, by have := Hm.out; omega, by go_num, k3, hbel.trans k4, by simpa using e⟩
        case measure => simp [intOf]; omega
end Go.Proofs.Ytplpeokmhomojaa
/- What vary.Join answers. -/
namespace Go.Proofs.Ytplpeokmhomojaa
open Go.RowKit

theorem lt_of_cell? {w : World} {a : Addr} {v : Value} (h : w.cell? a = some v) : a.block < w.heap.size := by
  unfold World.cell? at h
  split at h
  · rename_i hb
    exact lt_of_block hb
  · cases h

/-- A row of numbers of 64 bits that is read: nil, or cells. -/
def U64s (w : World) (a : Option Addr) (zs : List Nat) : Prop :=
  (∀ z ∈ zs, z < 18446744073709551616) ∧ ∀ i (h : i < zs.length), ∃ b off, a = some ⟨b, off, none⟩ ∧ w.cell? ⟨b, off + i, none⟩ = some (.int .u64 (zs[i] : Int))

theorem buf_string {base Bv : Nat} {l : List UInt8} {w : World} (h : Buf base Bv l w) : ∃ v, w.cell? ⟨Bv, 0, none⟩ = some v ∧ (convert 43 9 v).run Try.prog w = .ok (.string ⟨l.toArray⟩) w := by
  obtain ⟨_, v, hv, ho⟩ := h
  refine ⟨v, cell_of_one hv, ?_⟩
  rcases ho.2 with ⟨rfl, h0⟩ | ⟨g, cap, cur, rfl, r⟩
  · obtain rfl : l = [] := List.length_eq_zero_iff.1 h0
    rw [run_convert_bytes_string w 43 9 5 none 0 0 Try.underlying43 Try.underlying5 Try.underlying9]
    rfl
  · have hcells : ∀ j (hj : j < l.length), w.cell? ((⟨g, 0, none⟩ : Addr).add j) = some (.int .u8 (l[j].toNat : Int)) := fun j hj => by
      rw [Addr.add_lit, Nat.zero_add, ho.cellAt j (by omega)]
      simp [bytesV, hj]
    exact run_convert_bytes_back (P := Try.prog) w 43 9 5 ⟨g, 0, none⟩ cap l Try.underlying43 Try.underlying5 Try.underlying9 hcells

/-- The bytes of all numbers, one behind the other. -/
def encs (zs : List Nat) : List UInt8 := zs.flatMap Vm.enc
theorem encs_len {zs : List Nat} (h : ∀ z ∈ zs, z < 18446744073709551616) : (encs zs).length ≤ 10 * zs.length := by
  induction zs with
  | nil => simp [encs]
  | cons z r ih =>
    have h1 := Vm.enc_len10 (h z (by simp))
    have h2 := ih (fun x hx => h x (by simp [hx]))
    simp [encs] at h2 ⊢
    omega
theorem encs_snoc (zs : List Nat) (k : Nat) (hk : k < zs.length) : encs (zs.take (k + 1)) = encs (zs.take k) ++ Vm.enc zs[k] := by
  unfold encs
  rw [List.take_succ_eq_append_getElem hk, List.flatMap_append, List.flatMap_singleton]

set_option maxRecDepth 100000 in
set_option maxHeartbeats 400000 in
theorem join_any (a : Option Addr) (cap : Nat) (zs : List Nat) (w : World) (hz : U64s w a zs) (hl : zs.length ≤ 1000000) :
    Calls Try.prog 83 #[.slice a zs.length cap] w fun e w' => e = .returned (.string ⟨(encs zs).toArray⟩) ∧ Below w.heap.size w w' := by
  obtain ⟨i0, hi, hz0, hz1, hz2⟩ := info_parts info_u8
  have hmf : ∀ (fn : Fn) (first cap : Array Value) (w : World), (Instr.makeFunc fn first cap).run Try.prog w = .ok (.func fn first cap) w := fun _ _ _ _ => rfl
  have HZ := Lib.hid hz
  clear hz
  go_enter Try.func83, Try.ntmps83
  go_wp2_with (at_make; refine wpList_make_own _ rfl _ _ 43 rfl w.heap.size 5 i0 (.int .u8 0) 1 Try.underlying43 hi hz0 hz1 _ _ _ zs.length rfl rfl (by omega) ?b2 ?b3 (Nat.le_refl _) ?_)
  case b2 => rw [hz2]; omega
  case b3 => unfold maxLen; omega
  intro w0 hown0 hgrow0
  have hsz0 : w.heap.size ≤ w0.heap.size := hgrow0.size
  have hbuf0 : Buf w.heap.size w0.heap.size (encs (zs.take 0)) (w0.alloc (.cells #[.slice (some ⟨w.heap.size, 0, none⟩) 0 zs.length] 43)) :=
    ⟨hsz0, _, heap_alloc_new _ _, by simpa [encs, bytesV] using hown0.alloc _⟩
  have hbel0 : Below w.heap.size w (w0.alloc (.cells #[.slice (some ⟨w.heap.size, 0, none⟩) 0 zs.length] 43)) :=
    ((Below.refl _ w).grown hgrow0 (Nat.le_refl _) (by simp)).alloc hsz0 _
  clear hown0 hgrow0
  go_wp2
  go_loopw [13] (fun i wr => ∃ k : Nat, k ≤ zs.length ∧ i = .int .i64 k ∧ Buf w.heap.size w0.heap.size (encs (zs.take k)) wr ∧ Below w.heap.size w wr) (fun i _ => zs.length - (intOf i).toNat)
  case atStart => exact ⟨0, Nat.zero_le _, rfl, hbuf0, hbel0⟩
  case round =>
    obtain ⟨k, hk, rfl, hb, hbel⟩ := hrel
    clear hbuf0 hbel0
    by_cases hlt : k < zs.length
    · obtain ⟨bb, off, rfl, hcw⟩ := HZ.out.2 k hlt
      have hcr : wr.cell? ⟨bb, off + k, none⟩ = some (.int .u64 (zs[k] : Int)) := (hbel.cell (p := ⟨bb, off + k, none⟩) (lt_of_cell? hcw)).trans hcw
      clear hcw
      have hle : (encs (zs.take k)).length ≤ 1099511627776 := by
        have := encs_len (zs := zs.take k) (fun z hz => HZ.out.1 z (List.mem_of_mem_take hz))
        simp at this
        omega
      go_wp2_with (go_at_call 101; refine (add_any w.heap.size w0.heap.size zs[k] (encs (zs.take k)) _ (HZ.out.1 _ (by simp)) hle hb).mono ?_; rintro e w2 ⟨rfl, hb', hbel'⟩)
      go_roundw
      case rel => exact ⟨k + 1, by omega, by go_num, by rw [encs_snoc zs k hlt]; exact hb', hbel.trans hbel'⟩
      case measure => simp [intOf]; omega
    · obtain rfl : k = zs.length := by omega
      rw [List.take_length] at hb
      obtain ⟨v, hcv, hconv⟩ := buf_string hb
      go_wp2
      go_ret
      exact ⟨rfl, hbel⟩

theorem join_at (a : Option Addr) (len cap : Nat) (zs : List Nat) (w : World) (hlen : zs.length = len) (hz : U64s w a zs) (hl : zs.length ≤ 1000000) :
    Calls Try.prog 83 #[.slice a len cap] w fun e w' => e = .returned (.string ⟨(encs zs).toArray⟩) ∧ Below w.heap.size w w' := by
  subst hlen
  exact join_any a cap zs w hz hl

end Go.Proofs.Ytplpeokmhomojaa
/- What stamp.Bytes answers. -/
namespace Go.Proofs.Ytplpeokmhomojaa
open Go.RowKit
set_option linter.unusedVariables false

/-- The bytes of a stamp. -/
def sbytes (n s : Int) : List UInt8 := if Sm.ok n s = true then Vm.enc n.toNat ++ Vm.enc s.toNat else []

theorem Sm.ok_nat {n s : Int} (h : Sm.ok n s = true) : ∃ a b : Nat, n = a ∧ s = b ∧ 1 ≤ a ∧ a ≤ 1099511627776 ∧ b < 6 := by
  simp only [Sm.ok, decide_eq_true_eq] at h
  exact ⟨n.toNat, s.toNat, by omega, by omega, by omega, by omega, by omega⟩

set_option maxRecDepth 100000 in
set_option maxHeartbeats 1000000 in
theorem bytes_any (n s : Int) (w : World) :
    Calls Try.prog 58 #[.agg #[.int .i64 n, .int .i64 s]] w fun e w' => e = .returned (.string ⟨(sbytes n s).toArray⟩) ∧ Below w.heap.size w w' := by
  cases h : Sm.ok n s with
  | false =>
    have he : sbytes n s = [] := by simp [sbytes, h]
    rw [he]
    have H := Lib.hid h
    clear h he
    go_enter Try.func58, Try.ntmps58
    go_wp2_with fail
    refine (scheck_any n s _).mono ?_
    rintro e w1 ⟨rfl, hb1⟩
    rw [H.out]
    have hb2 := bstep (balloc (Below.refl _ w) _) hb1
    clear hb1
    go_wp2
    go_ret
    exact ⟨rfl, hb2⟩
  | true =>
    have he : sbytes n s = Vm.enc n.toNat ++ Vm.enc s.toNat := by simp [sbytes, h]
    rw [he]
    have H := Lib.hid h
    obtain ⟨a, b, rfl, rfl, h1, h2, h3⟩ := Sm.ok_nat h
    clear h he
    simp only [Int.toNat_natCast]
    have henc : encs [a, b] = Vm.enc a ++ Vm.enc b := by simp [encs]
    have HE := Lib.hid henc
    clear henc
    go_enter Try.func58, Try.ntmps58
    go_wp2_with fail
    refine (scheck_any a b _).mono ?_
    rintro e w1 ⟨rfl, hb1⟩
    rw [H.out]
    have c0 : w1.cell? ⟨w.heap.size, 0, none⟩ = some (.int .i64 a) := kc hb1 (by simp)
    have c1 : w1.cell? ⟨w.heap.size, 1, none⟩ = some (.int .i64 b) := kc hb1 (by simp)
    have hb2 := bstep (balloc (Below.refl _ w) _) hb1
    clear hb1
    have hu : U64s (w1.alloc (.cells #[.int .u64 (a : Int), .int .u64 (b : Int)] 84)) (some ⟨w1.heap.size, 0, none⟩) [a, b] := by
      refine ⟨by intro z hz; simp at hz; omega, fun i hi => ⟨_, _, rfl, ?_⟩⟩
      match i, hi with
      | 0, _ => simp
      | 1, _ => simp
    have HU := Lib.hid hu
    clear hu
    go_wp2_with fail
    refine (join_at _ 2 2 [a, b] _ rfl HU.out (by simp)).mono ?_
    rintro e w2 ⟨rfl, hb3⟩
    have hb4 := bstep (balloc hb2 _) hb3
    clear hb2 hb3
    go_wp2
    go_ret
    exact ⟨ret_str (by rw [HE.out]), hb4⟩
end Go.Proofs.Ytplpeokmhomojaa
/- The bytes of a past: plain mathematics. -/
namespace Go.Proofs.Ytplpeokmhomojaa
open Go.RowKit
set_option linter.unusedVariables false

theorem enc_ne (n : Nat) : Vm.enc n ≠ [] := by
  rw [Vm.enc]
  split <;> simp
def dbytes (d : De) : List UInt8 := (Vm.enc d.1.size ++ d.1.data.toList) ++ sbytes d.2.1 d.2.2
def pbody (l : List De) : List UInt8 := l.flatMap dbytes
/-- The bytes of a past; none: it may not be. -/
def pbV (l : List De) : List UInt8 := if chkD l = true then Vm.enc l.length ++ pbody l else []
theorem pbody_take (l : List De) (k : Nat) (h : k < l.length) : pbody (l.take (k + 1)) = pbody (l.take k) ++ dbytes l[k] := by
  unfold pbody
  rw [List.take_succ_eq_append_getElem h, List.flatMap_append]
  simp
theorem pbody_cons (d : De) (l : List De) : pbody (d :: l) = dbytes d ++ pbody l := by simp [pbody]
theorem sbytes_len20 (n s : Int) : (sbytes n s).length ≤ 20 := by
  unfold sbytes
  split
  · rename_i h
    obtain ⟨a, b, rfl, rfl, h1, h2, h3⟩ := Sm.ok_nat h
    have e1 := Vm.enc_len10 (n := a) (by omega)
    have e2 := Vm.enc_len10 (n := b) (by omega)
    simp only [Int.toNat_natCast, List.length_append]
    omega
  · simp
theorem dbytes_len {d : De} (h : d.1.size ≤ 32) : (dbytes d).length ≤ 62 := by
  have e1 := Vm.enc_len10 (n := d.1.size) (by omega)
  have e2 := sbytes_len20 d.2.1 d.2.2
  have e3 : d.1.data.toList.length = d.1.size := rfl
  unfold dbytes
  simp only [List.length_append]
  omega
theorem pbody_len : ∀ (l : List De), (∀ d ∈ l, d.1.size ≤ 32) → (pbody l).length ≤ l.length * 62
  | [], _ => by simp [pbody]
  | d :: l, h => by
    have h1 := dbytes_len (h d (by simp))
    have h2 := pbody_len l (fun e he => h e (List.mem_cons_of_mem _ he))
    rw [pbody_cons, List.length_append, List.length_cons]
    omega
theorem srt_sizes {l : List De} (h : Srt l) : ∀ d ∈ l, d.1.size ≤ 32 := fun d hd => okD_size (h.1 d hd)
theorem chkD_parts {l : List De} (h : chkD l = true) : l.length ≤ 24 ∧ Srt l := by
  simp [chkD] at h
  exact h
end Go.Proofs.Ytplpeokmhomojaa
/- What strings.Builder's copyCheck and WriteString do with a builder of the call's own. -/
namespace Go.Proofs.Ytplpeokmhomojaa
open Go.RowKit
set_option linter.unusedVariables false
set_option linter.unusedSimpArgs false

theorem info_bld : (Try.prog.info? 78).map (·.size) = some 2 := by kernel_rfl
theorem lies_bld : liesAt Try.prog Try.prog.depth 78 (2 / Try.prog.cellsOf 78) 0 78 1 = true := by kernel_rfl
theorem info_byte : (Try.prog.info? 5).map (fun i => (i.zero, i.size, i.bytes)) = some (some (.int .u8 0), 1, 1) := by kernel_rfl
abbrev IsB (B b : Nat) (bs : List Value) (w : World) : Prop := Lib.IsBuilder 78 5 B b bs w

/-- Blocks but the builder's and its buffer's are as they were. -/
def KpB (b : Nat) (w w' : World) : Prop := ∀ j, j < w.heap.size → j ≠ b → (∀ v, w.cell? ⟨b, 1, none⟩ = some v → v.ownBlock ≠ some j) → w'.heap[j]? = w.heap[j]?
theorem isB_own {B b : Nat} {bs : List Value} {w : World} (h : IsB B b bs w) {v : Value} (hv : w.cell? ⟨b, 1, none⟩ = some v) {j : Nat} (hj : w.heap.size ≤ j) : v.ownBlock ≠ some j := by
  have key : ∀ p, Lib.BuilderAt 78 5 B b p bs w → v.ownBlock ≠ some j := by
    rintro p ⟨_, u, hb, ho, _⟩
    rw [Lib.cell_of_heap hb] at hv
    have e : u = v := by simpa using hv
    subst e
    intro e
    have := (ho.lt j e).2
    omega
  rcases h with h | h
  · exact key _ h
  · exact key _ h
theorem isB_lt {B b : Nat} {bs : List Value} {w : World} (h : IsB B b bs w) : b < w.heap.size := by
  rcases h with h | h
  · exact h.lt
  · exact h.lt

set_option maxHeartbeats 1000000 in
set_option maxRecDepth 100000 in
theorem copyCheck_used (b : Nat) (w : World) (h0 : w.cell? ⟨b, 0, none⟩ = some (.pointer (some ⟨b, 0, none⟩))) :
    Calls Try.prog 82 #[.pointer (some ⟨b, 0, none⟩)] w fun e w' => e = .returned (.tuple #[]) ∧ w' = w := by
  obtain ⟨j, hj, _⟩ := Option.map_eq_some_iff.1 info_bld
  go_enter Try.func82, Try.ntmps82
  go_wp2
  rw [Lib.run_neq_ptr_same w _ Try.underlying76 hj]
  go_wp2
  go_end0
  exact ⟨rfl, rfl⟩

set_option maxHeartbeats 1000000 in
set_option maxRecDepth 100000 in
theorem copyCheck_fresh (b : Nat) (w : World) (h0 : w.cell? ⟨b, 0, none⟩ = some (.pointer none)) (hsh : w.shape? b = some (78, 2)) (hfz : w.frozen? ⟨b, 0, none⟩ = false) :
    Calls Try.prog 82 #[.pointer (some ⟨b, 0, none⟩)] w fun e w' => e = .returned (.tuple #[]) ∧ w' = w.setCell ⟨b, 0, none⟩ (.pointer (some ⟨b, 0, none⟩)) := by
  obtain ⟨j, hj, hjs⟩ := Option.map_eq_some_iff.1 info_bld
  go_enter Try.func82, Try.ntmps82
  go_wp2
  rw [Lib.run_to_unsafe w ⟨b, 0, none⟩ Try.underlying76 Try.underlying132 hj (by rw [hjs]; decide) hsh (Nat.zero_lt_succ 1)]
  simp only [Result.andThen]
  rw [Oper.upon_value]
  go_wp2
  rw [run_callFunc_extern Try.func100 (by kernel_rfl) (by kernel_rfl) (by kernel_rfl) (e := Extern.AbiNoEscape.same) (by kernel_rfl)]
  rw [Lib.run_noEscape]
  simp only [Result.andThen]
  rw [Oper.upon_value]
  go_wp2
  rw [Lib.run_from_unsafe w ⟨b, 0, none⟩ Try.underlying132 Try.underlying76 hj hsh lies_bld]
  simp only [Result.andThen]
  rw [Oper.upon_value]
  go_wp2
  go_end0
  exact ⟨rfl, rfl⟩

theorem copyCheck_any (B b : Nat) (bs : List Value) (w : World) (h : IsB B b bs w) :
    Calls Try.prog 82 #[.pointer (some ⟨b, 0, none⟩)] w fun e w' => e = .returned (.tuple #[]) ∧ (Lib.BuilderAt 78 5 B b (.pointer (some ⟨b, 0, none⟩)) bs w' ∧ Below B w w' ∧ w'.heap.size = w.heap.size ∧ w'.cell? ⟨b, 1, none⟩ = w.cell? ⟨b, 1, none⟩ ∧ ∀ j, j ≠ b → w'.heap[j]? = w.heap[j]?) := by
  rcases h with h | h
  · refine (copyCheck_fresh b w h.cell0 h.shape h.frozen0).mono ?_
    rintro e w' ⟨rfl, rfl⟩
    exact ⟨rfl, h.used _, (Below.refl B w).setCell (p := ⟨b, 0, none⟩) h.1 _, by simp [World.setCell], World.cell?_setCell_other _ _ _ _ (by simp), fun j hj => Below.heap_setCell _ _ _ _ hj⟩
  · refine (copyCheck_used b w h.cell0).mono ?_
    rintro e w' ⟨rfl, rfl⟩
    exact ⟨rfl, h, Below.refl B _, rfl, rfl, fun _ _ => rfl⟩

set_option maxHeartbeats 1000000 in
set_option maxRecDepth 100000 in
/-- WriteString: the text's bytes behind those that are there. -/
theorem writeStr_any (B b : Nat) (bs : List Value) (s : ByteArray) (w : World) (h : IsB B b bs w) (hlen : bs.length + s.size ≤ 140737488355328) (hBw : B ≤ w.heap.size) :
    Calls Try.prog 55 #[.pointer (some ⟨b, 0, none⟩), .string s] w fun e w' => e = .returned (.tuple #[.int .i64 s.size, .nilIface]) ∧ (IsB B b (bs ++ Lib.strCells s) w' ∧ Below B w w' ∧ KpB b w w') := by
  obtain ⟨i0, hi, hz0, hz1, hz2⟩ := info_parts info_byte
  go_enter Try.func55, Try.ntmps55
  go_wp2_with fail
  refine (copyCheck_any B b bs _ h).mono ?_
  rintro e w1 ⟨rfl, h1, hb1, hsz1, hcl1, hkp1⟩
  have HK1 := Lib.hid hkp1
  have HC1 := Lib.hid hcl1
  clear hkp1 hcl1
  obtain ⟨hB, v, hbk, hown, hne⟩ := h1
  have c0 : w1.cell? ⟨b, 0, none⟩ = some (.pointer (some ⟨b, 0, none⟩)) := by rw [Lib.cell_of_heap hbk]; rfl
  have c1 : w1.cell? ⟨b, 1, none⟩ = some v := by rw [Lib.cell_of_heap hbk]; rfl
  go_wp2_with (at_builtin; refine Lib.wpList_append_own_string _ rfl _ _ 43 9 rfl B 5 i0 Try.underlying43 Try.underlying9 hi hz0 hz1 hz2 _ _ _ rfl hown s rfl ?c3 ?c4 ?c5 ?_)
  case c3 => unfold maxLen; omega
  case c4 => omega
  case c5 => have := hb1.size; omega
  intro v' w2 hown' hgrow _
  have hlt : b < w1.heap.size := by
    rcases Nat.lt_or_ge b w1.heap.size with h' | h'
    · exact h'
    · simp [Array.getElem?_eq_none h'] at hbk
  have hb2 : w2.heap[b]? = some (.cells #[.pointer (some ⟨b, 0, none⟩), v] 78 (0, 0)) := by
    rw [hgrow.block b hlt (fun e => hne e.symm)]
    exact hbk
  have d0 : w2.cell? ⟨b, 0, none⟩ = some (.pointer (some ⟨b, 0, none⟩)) := by rw [Lib.cell_of_heap hb2]; rfl
  have d1 : w2.cell? ⟨b, 1, none⟩ = some v := by rw [Lib.cell_of_heap hb2]; rfl
  have f1 : w2.frozen? ⟨b, 1, none⟩ = false := Lib.frozen_of_heap hb2 1
  obtain ⟨ao, n', cap, rfl⟩ : ∃ ao n' cap, v' = .slice ao n' cap := by
    rcases hown'.2 with ⟨hv, _⟩ | ⟨g, cap, cur, hv, _⟩
    · exact ⟨_, _, _, hv⟩
    · exact ⟨_, _, _, hv⟩
  go_wp2
  go_ret2
  refine ⟨rfl, ?_, ?_, ?_⟩
  · exact .inr (Lib.BuilderAt.put (T := 78) (e := 5) hB hb2 (bs' := bs ++ Lib.strCells s) (by simpa [Lib.strCells_length] using hown') (by decide))
  · exact (hb1.grown hgrow (by have := hb1.size; omega) (fun k hk => (hown.lt k hk).1)).setCell (p := ⟨b, 1, none⟩) hB _
  · intro j hj hjb hjo
    rw [Below.heap_setCell _ _ _ _ hjb, hgrow.block j (by omega) (fun e => hjo v (by rw [← HC1.out]; exact c1) e.symm)]
    exact HK1.out j hjb
end Go.Proofs.Ytplpeokmhomojaa
/- What vary.Number and vary.Text answer. -/
namespace Go.Proofs.Ytplpeokmhomojaa
open Go.RowKit

set_option maxRecDepth 100000 in
theorem number_any (n : Nat) (w : World) (hn : n < 18446744073709551616) :
    Calls Try.prog 56 #[.int .u64 n] w fun e w' => e = .returned (.string ⟨(Vm.enc n).toArray⟩) ∧ Below w.heap.size w w' := by
  have hu : U64s (w.alloc (.cells #[.int .u64 (n : Int)] 84)) (some ⟨w.heap.size, 0, none⟩) [n] := by
    refine ⟨by simpa using hn, fun i hi => ⟨_, _, rfl, ?_⟩⟩
    obtain rfl : i = 0 := by simpa using hi
    simp
  have he : encs [n] = Vm.enc n := by simp [encs]
  have HU := Lib.hid hu
  have HE := Lib.hid he
  clear hu he hn
  go_enter Try.func56, Try.ntmps56
  go_wp2_with (go_at_call 83; refine (join_at _ 1 1 [n] _ rfl HU.out (by simp)).mono ?_; rintro e w2 ⟨rfl, hbel⟩)
  go_ret
  refine ⟨ret_str (by rw [HE.out]), ?_⟩
  exact ((Below.refl _ w).alloc (Nat.le_refl _) _).trans (hbel.mono (by simp))

set_option maxRecDepth 100000 in
theorem text_any (s : ByteArray) (w : World) (hs : s.size ≤ 1099511627776) :
    Calls Try.prog 57 #[.string s] w fun e w' => e = .returned (.string ⟨(Vm.enc s.size ++ s.data.toList).toArray⟩) ∧ Below w.heap.size w w' := by
  have hq := Vm.enc_len10 (n := s.size) (by omega)
  go_enter Try.func57, Try.ntmps57
  go_wp2_with (go_at_call 56; refine (number_any s.size _ (by omega)).mono ?_; rintro e w2 ⟨rfl, hbel⟩)
  go_ret
  exact ⟨ret_str (str_add _ _), hbel⟩

end Go.Proofs.Ytplpeokmhomojaa
