/- What vary.Read answers. -/
import Derived.Test.YtmfjoiajghmeoaaProg
import Derived.Test.YtmfjoiajghmeoaaVaryMath
import Derived.WalkKit
import Derived.WalkLawsBesides
import Derived.Lib.Hide
import Derived.Lib.Strings
import Derived.Laws.BitsAllLaws
namespace Go.Proofs.Ytmfjoiajghmeoaa
open Go.RowKit

/-- The answer of vary.Read. -/
def rd (l : List UInt8) (at_ : Int) : Option (Nat × Nat) :=
  if at_ < 0 ∨ (l.length : Int) < at_ then none else (Vm.dec 0 (l.drop at_.toNat)).map fun x => (x.1, at_.toNat + x.2)
def rdV : Option (Nat × Nat) → Value
  | none => .tuple #[.int .u64 0, .int .i64 0, .bool false]
  | some (n, e) => .tuple #[.int .u64 (n : Int), .int .i64 (e : Int), .bool true]

theorem or_shift (k acc x : Nat) (c : Int) (hc : c = x) (hacc : acc < 2 ^ (7 * k)) (hx : x * 2 ^ (7 * k) < 18446744073709551616) (hk : 2 ^ (7 * k) ≤ 18446744073709551616) :
    bits .or .u64 (acc : Int) (IntKind.u64.wrap (c * 2 ^ (7 * k))) = ((acc + x * 2 ^ (7 * k) : Nat) : Int) := by
  subst hc
  have e : ((x : Int) * 2 ^ (7 * k)) = ((x * 2 ^ (7 * k) : Nat) : Int) := by simp
  rw [e, IntKind.wrap_u64, Int.emod_eq_of_lt (by omega) (by omega), u64_or_nat _ _ (by omega) hx]
  congr 1
  rw [Nat.mul_comm, Nat.or_comm, ← Nat.two_pow_add_eq_or_of_lt hacc, Nat.add_comm]

theorem pow7 {k : Nat} (h : k ≤ 9) : 2 ^ (7 * k) ≤ 9223372036854775808 := by
  have : (2 : Nat) ^ (7 * k) ≤ 2 ^ 63 := Nat.pow_le_pow_right (by omega) (by omega)
  simpa using this
theorem pow7' {k : Nat} (h : k ≤ 8) : 2 ^ (7 * k) ≤ 72057594037927936 := by
  have : (2 : Nat) ^ (7 * k) ≤ 2 ^ 56 := Nat.pow_le_pow_right (by omega) (by omega)
  simpa using this

theorem drop_at (t : ByteArray) (k : Nat) (h : k < t.size) : t.data.toList.drop k = t[k] :: t.data.toList.drop (k + 1) := by
  rw [List.drop_eq_getElem_cons (by simpa using h)]
  rfl

theorem or_shift9 (acc x : Nat) (hacc : acc < 2 ^ (7 * 9)) (hx : (x : Int) ≤ 1) : bits .or .u64 (acc : Int) ((x : Int) * 9223372036854775808) = ((acc + x * 2 ^ (7 * 9) : Nat) : Int) := by
  have hx' : x ≤ 1 := by omega
  have h := or_shift 9 acc x x rfl hacc (by simp; omega) (by simp)
  rw [IntKind.wrap_u64, Int.emod_eq_of_lt (by omega) (by simp; omega)] at h
  simpa using h
theorem or_zero (acc p : Nat) (h : acc < 18446744073709551616) : bits .or .u64 (acc : Int) 0 = ((acc + 0 * p : Nat) : Int) := by
  have := u64_or_nat acc 0 h (by omega)
  simpa using this
theorem ret_rd {x y : Int} {n e : Nat} (hx : x = (n : Int)) (hy : y = (e : Int)) : Ending.returned (.tuple #[.int .u64 x, .int .i64 y, .bool true]) = .returned (rdV (some (n, e))) := by
  subst hx hy; rfl

section
variable {D : Option (Nat × Nat)} {k acc : Nat} {b : UInt8} {r : List UInt8}
theorem way_none9 (he : D = Vm.more k acc (Vm.dec k (b :: r))) (hk : k = 9) (hb : 1 < (b.toNat : Int)) : D = none := by
  rw [he, Vm.dec, if_pos (by omega)]; rfl
theorem way_none0 (he : D = Vm.more k acc (Vm.dec k (b :: r))) (hk : 0 < k) (hb : b.toNat = 0) : D = none := by
  rw [he, Vm.dec, if_neg (by omega), if_neg (by omega), if_pos (by omega)]; rfl
theorem way_ret (he : D = Vm.more k acc (Vm.dec k (b :: r))) (hb : (b.toNat : Int) < 128) (h9 : k = 9 → (b.toNat : Int) ≤ 1) (h0 : ¬ (b.toNat = 0 ∧ 0 < k)) : D = some (acc + b.toNat * 2 ^ (7 * k), k + 1) := by
  rw [he, Vm.dec, if_neg (by omega), if_neg (by omega), if_neg h0]; rfl
theorem way_more (he : D = Vm.more k acc (Vm.dec k (b :: r))) (hb : 128 ≤ (b.toNat : Int)) (h9 : ¬ k = 9) : D = Vm.more (k + 1) (acc + (b.toNat - 128) * 2 ^ (7 * k)) (Vm.dec (k + 1) r) := by
  rw [he, Vm.dec, if_neg (by omega), if_pos (by omega)]
  cases Vm.dec (k + 1) r with
  | none => rfl
  | some x =>
    simp only [Vm.more, Option.map_some, Option.some.injEq, Prod.mk.injEq]
    refine ⟨?_, by omega⟩
    rw [show 7 * (k + 1) = 7 * k + 7 from by omega, Nat.pow_add, Nat.add_mul, Nat.add_assoc]
    congr 2
    rw [Nat.mul_comm 128, Nat.mul_assoc, Nat.mul_comm 128]
end

set_option maxRecDepth 100000 in
theorem read_out (s : ByteArray) (at_ : Int) (w : World) (h : at_ < 0 ∨ (s.size : Int) < at_) :
    Calls Try.prog 27 #[.string s, .int .i64 at_] w fun e w' => e = .returned (rdV none) ∧ w = w' := by
  rcases h with h | h
  · go_enter Try.func27, Try.ntmps27
    go_wp2
    go_step3
    go_wp2
    rw [Exit.noGoto_ret]
    go_ret3
    exact ⟨rfl, rfl⟩
  · have h0 : ¬ at_ < 0 := by omega
    go_enter Try.func27, Try.ntmps27
    go_wp2
    go_step3
    go_wp2
    rw [Exit.noGoto_ret]
    go_ret3
    exact ⟨rfl, rfl⟩

set_option maxRecDepth 100000 in
set_option maxHeartbeats 2000000 in
theorem read_in (s : ByteArray) (a : Nat) (w : World) (hs : s.size ≤ 9223372036854775807) (h : a ≤ s.size) :
    Calls Try.prog 27 #[.string s, .int .i64 a] w fun e w' => e = .returned (rdV ((Vm.dec 0 (s.data.toList.drop a)).map fun x => (x.1, a + x.2))) ∧ w = w' := by
  have h0 : decide ((a : Int) < 0) = false := by simp
  have h1 : decide (s.size < a) = false := by simp; omega
  go_enter Try.func27, Try.ntmps27
  go_wp2
  go_step3
  go_wp2
  go_step3
  go_wp2
  all_goals
    generalize ht : s.extract a s.size = t
    have hts : t.size = s.size - a := by rw [← ht]; simp
    have htl : t.data.toList = s.data.toList.drop a := by rw [← ht, Lib.extract_data, List.take_of_length_le (by simp)]
    have Ht := Lib.hid htl
    have Hs := Lib.hid hts
    clear ht htl hts
    go_loop [4, 24] (fun n i => ∃ k acc : Nat, k ≤ 9 ∧ k ≤ t.size ∧ i = .int .i64 k ∧ n = .int .u64 acc ∧ acc < 2 ^ (7 * k) ∧ Vm.dec 0 (s.data.toList.drop a) = Vm.more k acc (Vm.dec k (t.data.toList.drop k))) (fun _ i => 10 - (intOf i).toNat)
    case atStart => exact ⟨0, 0, by omega, by omega, rfl, rfl, by simp, by rw [Ht.out]; simp [Vm.more]⟩
    case round =>
      obtain ⟨k, acc, hk, hkt, rfl, rfl, hacc, he⟩ := hrel
      have He := Lib.hid he
      have Hacc := Lib.hid hacc
      clear he hacc
      by_cases hlt : k < t.size
      · have hlt2 : k < s.size - a := by have := Hs.out; omega
        have He2 : Hid (Vm.dec 0 (s.data.toList.drop a) = Vm.more k acc (Vm.dec k (t[k] :: t.data.toList.drop (k + 1)))) := by rw [← drop_at t k hlt]; exact He.out
        clear He
        go_wp2
        · go_ret3
          rw [way_none9 He2.out (by omega) (by assumption)]
          exact ⟨rfl, rfl⟩
        · go_ret3
          rw [way_none0 He2.out (by omega) (by assumption)]
          exact ⟨rfl, rfl⟩
        · go_ret3
          rw [way_ret He2.out (by assumption) (fun _ => by assumption) (by omega)]
          have hacc := Hacc.out
          obtain rfl : k = 9 := by omega
          exact ⟨ret_rd (or_shift9 acc _ hacc (by assumption)) (by omega), rfl⟩
        · have hp := pow7' (k := k) (by omega)
          have hb : t[k].toNat < 256 := t[k].toNat_lt
          have h128 : 128 ≤ (t[k].toNat : Int) := by assumption
          go_round
          case rel =>
            refine ⟨k + 1, acc + (t[k].toNat - 128) * 2 ^ (7 * k), by omega, by omega, by go_num, ?_, ?_, way_more He2.out h128 (by omega)⟩
            · congr 1
              exact or_shift k acc _ _ (by omega) Hacc.out (by have := Nat.mul_le_mul_left (t[k].toNat - 128) hp; omega) (by omega)
            · have hq : (2 : Nat) ^ (7 * (k + 1)) = 2 ^ (7 * k) * 128 := by rw [show 7 * (k + 1) = 7 * k + 7 from by omega, Nat.pow_add]
              have h2 : (t[k].toNat - 128) * 2 ^ (7 * k) ≤ 127 * 2 ^ (7 * k) := Nat.mul_le_mul_right _ (by omega)
              have := Hacc.out
              rw [hq]
              omega
          case measure => simp [intOf]; omega
        · go_ret3
          rw [way_none0 He2.out (by omega) (by assumption)]
          exact ⟨rfl, rfl⟩
        · go_ret3
          have hp := pow7' (k := k) (by omega)
          have hb : (t[k].toNat : Int) < 128 := by assumption
          have hb0 : t[k].toNat = 0 := by assumption
          rw [way_ret He2.out hb (fun e => by omega) (by omega)]
          refine ⟨ret_rd ?_ (by omega), rfl⟩
          show _ = ((acc + t[k].toNat * 2 ^ (7 * k) : Nat) : Int)
          rw [hb0]
          exact or_zero acc _ (by have := Hacc.out; omega)
        · go_ret3
          have hp := pow7' (k := k) (by omega)
          have hb : (t[k].toNat : Int) < 128 := by assumption
          rw [way_ret He2.out hb (fun e => by omega) (by omega)]
          refine ⟨ret_rd ?_ (by omega), rfl⟩
          show _ = ((acc + t[k].toNat * 2 ^ (7 * k) : Nat) : Int)
          exact or_shift k acc _ _ rfl Hacc.out (by have := Nat.mul_le_mul_left t[k].toNat hp; omega) (by omega)
      · have hs2 := Hs.out
        have hlt2 : ¬ k < s.size - a := by omega
        have hnone : Vm.dec 0 (s.data.toList.drop a) = none := by
          rw [He.out, List.drop_eq_nil_of_le (by simpa using hlt)]
          simp [Vm.dec, Vm.more]
        have HN := Lib.hid hnone
        clear hnone hs2
        go_wp2
        all_goals
          go_ret3
          rw [HN.out]
          exact ⟨rfl, rfl⟩

theorem read_any (s : ByteArray) (at_ : Int) (w : World) (hs : s.size ≤ 9223372036854775807) :
    Calls Try.prog 27 #[.string s, .int .i64 at_] w fun e w' => e = .returned (rdV (rd s.data.toList at_)) ∧ w = w' := by
  by_cases h : at_ < 0 ∨ (s.size : Int) < at_
  · have e : rd s.data.toList at_ = none := by
      rw [rd, if_pos (by simpa using h)]
    rw [e]
    exact read_out s at_ w h
  · obtain ⟨a, rfl⟩ := Int.eq_ofNat_of_zero_le (show 0 ≤ at_ by omega)
    have e : rd s.data.toList (a : Int) = (Vm.dec 0 (s.data.toList.drop a)).map fun x => (x.1, a + x.2) := by
      rw [rd, if_neg (by simpa using h)]
      simp
    rw [e]
    exact read_in s a w hs (by omega)

end Go.Proofs.Ytmfjoiajghmeoaa
