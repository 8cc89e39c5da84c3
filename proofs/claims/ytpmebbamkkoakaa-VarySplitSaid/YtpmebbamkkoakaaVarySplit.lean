/- What vary.Split and the law's own helper 'same' answer. -/
import Derived.Test.YtpmebbamkkoakaaVaryText
import Derived.Test.YtpmebbamkkoakaaVaryJoin
import Derived.Deep.QuietTactic
import Derived.BigQuiet
namespace Go.Proofs.Ytpmebbamkkoakaa
open Go.RowKit
set_option linter.unusedVariables false

namespace Vm
/-- The numbers whose bytes make up a row of bytes. -/
def spF : Nat → List UInt8 → Option (List Nat)
  | 0, l => if l = [] then some [] else none
  | f + 1, l => if l = [] then some [] else
    match dec 0 l with
    | none => none
    | some (n, k) => (spF f (l.drop k)).map (n :: ·)
def sp (l : List UInt8) : Option (List Nat) := spF l.length l

theorem dec_pos {l : List UInt8} {n k : Nat} (h : dec 0 l = some (n, k)) : 1 ≤ k ∧ k ≤ l.length := by
  obtain ⟨h1, h2, h3⟩ := dec0_inv _ _ _ h
  have hp := enc_pos n
  rw [← h3, List.length_take] at hp
  omega
theorem spF_more : ∀ (f g : Nat) (l : List UInt8), l.length ≤ f → f ≤ g → spF f l = spF g l
  | 0, g, l, h, _ => by
    obtain rfl : l = [] := List.length_eq_zero_iff.1 (by omega)
    cases g <;> rfl
  | f + 1, 0, l, _, h => by omega
  | f + 1, g + 1, l, h, hg => by
    simp only [spF]
    split
    · rfl
    · cases hd : dec 0 l with
      | none => rfl
      | some x =>
        obtain ⟨n, k⟩ := x
        have hk := dec_pos hd
        simp only
        rw [spF_more f g (l.drop k) (by simp; omega) (by omega)]
theorem sp_nil : sp [] = some [] := rfl
theorem sp_none {l : List UInt8} (hl : l ≠ []) (h : dec 0 l = none) : sp l = none := by
  cases l with
  | nil => exact absurd rfl hl
  | cons b r => simp [sp, spF, h]
theorem sp_some {l : List UInt8} {n k : Nat} (h : dec 0 l = some (n, k)) : sp l = (sp (l.drop k)).map (n :: ·) := by
  have hk := dec_pos h
  cases l with
  | nil => simp [dec] at h
  | cons b r =>
    show spF (r.length + 1) (b :: r) = _
    simp only [spF, h]
    rw [if_neg (by simp)]
    congr 1
    exact (spF_more ((b :: r).drop k).length r.length _ (Nat.le_refl _) (by simp at hk ⊢; omega)).symm
end Vm

theorem info_u64 : (Try.prog.info? 22).map (fun i => (i.zero, i.size, i.bytes)) = some (some (.int .u64 0), 1, 8) := by kernel_rfl
def numsV (zs : List Nat) : List Value := zs.map fun (z : Nat) => Value.int .u64 (z : Int)

/-- A row that the call owns is a row that is read. -/
theorem owned_nums {w : World} {base : Nat} {v : Value} {zs : List Nat} (h : w.ownsRow base 22 1 v zs.length (numsV zs)) (hz : ∀ z ∈ zs, z < 18446744073709551616) :
    ∃ a cap, v = .slice a zs.length cap ∧ U64s w a zs := by
  rcases h.2 with ⟨rfl, h0⟩ | ⟨g, cap, cur, rfl, hg, hh, r⟩
  · obtain rfl : zs = [] := List.length_eq_zero_iff.1 h0
    exact ⟨none, 0, rfl, by simp, fun i hi => absurd hi (by simp)⟩
  · refine ⟨_, cap, rfl, hz, fun i hi => ⟨g, 0, rfl, ?_⟩⟩
    rw [Nat.zero_add, h.cellAt i (by omega)]
    simp [numsV, hi]

/-- What vary.Split leaves where the bytes are numbers. -/
def SplitPost (w : World) (zs : List Nat) (e : Ending) (w' : World) : Prop :=
  ∃ a cap, e = .returned (.tuple #[.slice a zs.length cap, .bool true]) ∧ U64s w' a zs ∧ zs.length ≤ 1099511627776 ∧ Below w.heap.size w w'
def SplitEnd (w : World) (x : Option (List Nat)) (e : Ending) (w' : World) : Prop :=
  match x with
  | none => e = .returned (.tuple #[.slice none 0 0, .bool false]) ∧ Below w.heap.size w w'
  | some zs => SplitPost w zs e w'

/-- How the loop of vary.Split stands. -/
structure Sp (w : World) (l : List UInt8) (p : Nat) (xs : List Nat) (v : Value) (wr : World) : Prop where
  le : p ≤ l.length
  few : xs.length ≤ p
  fit : ∀ x ∈ xs, x < 18446744073709551616
  own : wr.ownsRow w.heap.size 22 1 v xs.length (numsV xs)
  bel : Below w.heap.size w wr
  eq : Vm.sp l = (Vm.sp (l.drop p)).map (xs ++ ·)

theorem sp_push {w wr w1 : World} {l : List UInt8} {p n k : Nat} {xs : List Nat} {v v' : Value} {X : Obj} (h : Sp w l p xs v wr) (hd : Vm.dec 0 (l.drop p) = some (n, k))
    (ho : w1.ownsRow w.heap.size 22 1 v' (xs.length + 1) (numsV xs ++ [.int .u64 (n : Int)])) (hg : (wr.alloc X).grownBy w1 v.ownBlock) : Sp w l (p + k) (xs ++ [n]) v' w1 := by
  have hk := Vm.dec_pos hd
  have hi := Vm.dec0_inv _ _ _ hd
  have hle := h.le
  have hfew := h.few
  refine ⟨by simp at hk; omega, by simp; omega, ?_, by simpa [numsV] using ho, ?_, ?_⟩
  · intro x hx
    simp at hx
    rcases hx with hx | rfl
    · exact h.fit x hx
    · exact hi.1
  · refine (h.bel.alloc h.bel.size X).grown hg (Nat.le_trans h.bel.size (by simp)) ?_
    intro j hj
    exact (h.own.lt j hj).1
  · rw [h.eq, Vm.sp_some hd, List.drop_drop]
    cases Vm.sp (l.drop (p + k)) <;> simp

set_option maxRecDepth 100000 in
set_option maxHeartbeats 800000 in
theorem split_any (s : ByteArray) (w : World) (hs : s.size ≤ 1099511627776) :
    Calls Try.prog 24 #[.string s] w (SplitEnd w (Vm.sp s.data.toList)) := by
  obtain ⟨i0, hi, hz0, hz1, hz2⟩ := info_parts info_u64
  go_enter Try.func24, Try.ntmps24
  go_wp2
  go_loopw [4, 5] (fun v a wr => ∃ (p : Nat) (xs : List Nat), a = .int .i64 p ∧ Sp w s.data.toList p xs v wr) (fun _ a _ => s.size - (intOf a).toNat)
  case atStart => exact ⟨0, [], rfl, ⟨by simp, by simp, by simp, World.ownsRow_nil _ _ _ _, Below.refl _ _, by simp⟩⟩
  case round =>
    obtain ⟨p, xs, rfl, h⟩ := hrel
    have hp : p ≤ s.size := by simpa using h.le
    have hx := h.few
    have hsz := h.bel.size
    by_cases hlt : p < s.size
    · cases hd : Vm.dec 0 (s.data.toList.drop p) with
      | none =>
        have he : rd s.data.toList (p : Int) = none := by rw [rd, if_neg (by simp; omega)]; simp [hd]
        have HE := Lib.hid he
        have HD := Lib.hid hd
        clear he hd
        go_wp2_with fail
        refine (read_any s p _ (by omega)).mono ?_
        rintro e w' ⟨rfl, rfl⟩
        rw [HE.out]
        simp only [rdV]
        go_wp2
        go_ret2
        have hne : s.data.toList.drop p ≠ [] := by
          intro e
          have := congrArg List.length e
          simp at this
          omega
        have hnone : Vm.sp s.data.toList = none := by rw [h.eq, Vm.sp_none hne HD.out]; rfl
        rw [hnone]
        exact ⟨rfl, h.bel⟩
      | some x =>
        obtain ⟨n, k⟩ := x
        have hk := Vm.dec_pos hd
        have he : rd s.data.toList (p : Int) = some (n, p + k) := by rw [rd, if_neg (by simp; omega)]; simp [hd]
        have HE := Lib.hid he
        have HD := Lib.hid hd
        have hown := h.own
        simp only [List.length_drop, Array.length_toList] at hk
        obtain ⟨hk1, hk2⟩ := hk
        have hk3 : p + k ≤ s.size := by
          have e : s.data.size = s.size := rfl
          omega
        clear he hd hk2
        go_wp2_with fail
        refine (read_any s p _ (by omega)).mono ?_
        rintro e w' ⟨rfl, rfl⟩
        rw [HE.out]
        simp only [rdV]
        go_wp2_with (at_builtin; refine wpList_append_own _ rfl _ _ 23 rfl w.heap.size 22 i0 (.int .u64 0) 1 8 Try.underlying23 hi hz0 hz1 hz2 rfl (by decide) _ _ _ rfl (hown.alloc _) ⟨wr.heap.size, 0, none⟩ 1 1 [.int .u64 (n : Int)] rfl rfl ?c1 ?c2 ?c3 ?c4 ?c5 ?_)
        case c1 =>
          intro j u hj
          match j, hj with
          | 0, hj => simp at hj; subst hj; simp [Addr.add]
        case c2 => intro u hu; simp at hu; subst hu; rfl
        case c3 => unfold maxLen; omega
        case c4 => omega
        case c5 => simp; omega
        · intro v' w1 ho' hg _
          have R := sp_push h HD.out ho' hg
          clear ho' hg hown
          go_wp2
          go_roundw
          case rel => exact ⟨p + k, xs ++ [n], by go_num, R⟩
          case measure => simp [intOf]; omega
    · have hps : p = s.size := by omega
      have hsome : Vm.sp s.data.toList = some xs := by
        rw [h.eq, List.drop_eq_nil_of_le (by simp; omega), Vm.sp_nil]
        simp
      obtain ⟨a, cap, hv, hu⟩ := owned_nums h.own h.fit
      have hb := h.bel
      have HU := Lib.hid hu
      have HS := Lib.hid hsome
      clear hu hsome h hps
      subst hv
      go_wp2
      go_ret2
      rw [HS.out]
      exact ⟨a, cap, rfl, HU.out, by omega, hb⟩

end Go.Proofs.Ytpmebbamkkoakaa
