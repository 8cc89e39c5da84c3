/- What the closure of vary.Join does: it appends the bytes of one number to the captured row. -/
import Derived.Test.YtplpeokmhomojaaProg
import Derived.Test.YtplpeokmhomojaaVaryMath
import Derived.WalkKit
import Derived.WalkLawsBesides
import Derived.Lib.Hide
import Derived.Laws.BitsAllLaws
namespace Go.Proofs.Ytplpeokmhomojaa
open Go.RowKit

theorem info_u8 : (Try.prog.info? 5).map (fun i => (i.zero, i.size, i.bytes)) = some (some (.int .u8 0), 1, 1) := by kernel_rfl

def bytesV (l : List UInt8) : List Value := l.map fun c => .int .u8 (c.toNat : Int)

/-- The captured row of bytes: Bv is the variable's block, base: from where on the call's own blocks lie. -/
structure Buf (base Bv : Nat) (l : List UInt8) (w : World) : Prop where
  le : base ≤ Bv
  var : ∃ v, w.heap[Bv]? = some (.cells #[v] 43 (0, 0)) ∧ w.ownsRow base 5 1 v l.length (bytesV l)

theorem own_shape {w1 : World} {base e n : Nat} {v' : Value} {xs : List Value} (h : w1.ownsRow base e 1 v' n xs) : ∃ a k c, v' = .slice a k c := by
  rcases h.2 with ⟨rfl, _⟩ | ⟨g, cap, cur, rfl, _⟩
  · exact ⟨_, _, _, rfl⟩
  · exact ⟨_, _, _, rfl⟩

theorem buf_push {base Bv : Nat} {l : List UInt8} {c : UInt8} {wr w1 : World} {v v' : Value} {X : Obj} (hle : base ≤ Bv) (hbs : base ≤ wr.heap.size)
    (hv : wr.heap[Bv]? = some (.cells #[v] 43 (0, 0))) (ho : wr.ownsRow base 5 1 v l.length (bytesV l))
    (ho' : w1.ownsRow base 5 1 v' (l.length + 1) (bytesV l ++ [.int .u8 (c.toNat : Int)])) (hg : (wr.alloc X).grownBy w1 v.ownBlock) :
    w1.cell? ⟨Bv, 0, none⟩ = some v ∧ w1.frozen? ⟨Bv, 0, none⟩ = false ∧ Buf base Bv (l ++ [c]) (w1.setCell ⟨Bv, 0, none⟩ v') ∧ Below base wr (w1.setCell ⟨Bv, 0, none⟩ v') := by
  have hlt := lt_of_block hv
  have hne : some Bv ≠ v.ownBlock := by
    intro e
    rcases ho.2 with ⟨rfl, _⟩ | ⟨g, cap, cur, rfl, _, hh, _⟩
    · simp [Value.ownBlock] at e
    · simp [Value.ownBlock] at e
      subst e
      rw [hh] at hv
      simp at hv
  have hv1 : w1.heap[Bv]? = some (.cells #[v] 43 (0, 0)) := by
    rw [hg.block Bv (by simp; omega) hne, Below.heap_alloc _ _ _ hlt]
    exact hv
  have hne' : v'.ownBlock ≠ some Bv := by
    intro e
    rcases ho'.2 with ⟨rfl, _⟩ | ⟨g, cap, cur, rfl, _, hh, _⟩
    · simp [Value.ownBlock] at e
    · simp [Value.ownBlock] at e
      subst e
      rw [hh] at hv1
      simp at hv1
  refine ⟨cell_of_one hv1, free_of_one hv1, ⟨hle, _, one_setCell hv1, ?_⟩, ?_⟩
  · have := ownsRow_setCell_other ho' (a := ⟨Bv, 0, none⟩) hne' v'
    simpa [bytesV] using this
  · refine Below.setCell ?_ hle _
    refine ((Below.refl base wr).alloc hbs X).grown hg (by simp; omega) ?_
    intro k hk
    exact (ho.lt k hk).1

set_option maxRecDepth 100000 in
set_option maxHeartbeats 400000 in
theorem add_any (base Bv n : Nat) (l : List UInt8) (w : World) (hn : n < 18446744073709551616) (hl : l.length ≤ 1099511627776) (hb : Buf base Bv l w) :
    Calls Try.prog 101 #[.int .u64 n, .pointer (some ⟨Bv, 0, none⟩)] w fun e w' => e = .returned (.tuple #[]) ∧ Buf base Bv (l ++ Vm.enc n) w' ∧ Below base w w' := by
  obtain ⟨i0, hi, hz0, hz1, hz2⟩ := info_parts info_u8
  have Hn := Lib.hid hn
  clear hn
  go_enter Try.func101, Try.ntmps101
  go_wp2
  go_loopw [0] (fun a wr => ∃ (m : Nat) (p : List UInt8), m < 18446744073709551616 ∧ a = .int .u64 m ∧ Buf base Bv p wr ∧ Below base w wr ∧ p ++ Vm.enc m = l ++ Vm.enc n) (fun a _ => (intOf a).toNat)
  case atStart => exact ⟨n, l, Hn.out, rfl, hb, Below.refl _ _, rfl⟩
  case round =>
    obtain ⟨m, p, hm, rfl, ⟨hle, v, hv, ho⟩, hbel, he⟩ := hrel
    have He := Lib.hid he
    have Hm := Lib.hid hm
    have hbs : base ≤ wr.heap.size := by have := lt_of_block hv; omega
    have hp : p.length ≤ 1099511627786 := by
      have e := congrArg List.length He.out
      have q := Vm.enc_len10 Hn.out
      simp at e
      omega
    have cV := cell_of_one hv
    have fV := free_of_one hv
    clear he hm
    by_cases hc : m < 128
    · go_wp2_with (at_builtin; refine wpList_append_own _ rfl _ _ 43 rfl base 5 i0 (.int .u8 0) 1 1 Try.underlying43 hi hz0 hz1 hz2 rfl (by decide) _ _ _ rfl (ho.alloc _) ⟨wr.heap.size, 0, none⟩ 1 1 [.int .u8 (m : Int)] rfl rfl ?d1 ?d2 ?d3 ?d4 ?d5 ?_)
      case d1 =>
        intro j u hj
        match j, hj with
        | 0, hj => simp at hj; subst hj; simp [Addr.add]
      case d2 => intro u hu; simp at hu; subst hu; rfl
      case d3 => unfold maxLen; omega
      case d4 => omega
      case d5 => simp; omega
      · intro v' w1 ho' hg _
        rw [Vm.low128 hc] at ho'
        obtain ⟨k1, k2, k3, k4⟩ := buf_push hle hbs hv ho ho' hg
        obtain ⟨sa, sn, sc, rfl⟩ := own_shape ho'
        clear ho' hg cV fV
        go_wp2
        go_end0
        have e := He.out
        rw [Vm.enc_lt hc] at e
        rw [e] at k3
        exact ⟨rfl, k3, hbel.trans k4⟩
    · go_wp2_with (at_builtin; refine wpList_append_own _ rfl _ _ 43 rfl base 5 i0 (.int .u8 0) 1 1 Try.underlying43 hi hz0 hz1 hz2 rfl (by decide) _ _ _ rfl (ho.alloc _) ⟨wr.heap.size, 0, none⟩ 1 1 [.int .u8 (bits BinOp.or IntKind.u8 ((m : Int) % 256) 128)] rfl rfl ?c1 ?c2 ?c3 ?c4 ?c5 ?_)
      case c1 =>
        intro j u hj
        match j, hj with
        | 0, hj => simp at hj; subst hj; simp [Addr.add]
      case c2 => intro u hu; simp at hu; subst hu; rfl
      case c3 => unfold maxLen; omega
      case c4 => omega
      case c5 => simp; omega
      · intro v' w1 ho' hg _
        rw [Vm.or128] at ho'
        obtain ⟨k1, k2, k3, k4⟩ := buf_push hle hbs hv ho ho' hg
        obtain ⟨sa, sn, sc, rfl⟩ := own_shape ho'
        clear ho' hg cV fV
        go_wp2
        go_roundw
        case rel =>
          have e := He.out
          rw [Vm.enc_ge (by omega)] at e
          exact ⟨m / 128, _, by have := Hm.out; omega, by go_num, k3, hbel.trans k4, by simpa using e⟩
        case measure => simp [intOf]; omega
end Go.Proofs.Ytplpeokmhomojaa
