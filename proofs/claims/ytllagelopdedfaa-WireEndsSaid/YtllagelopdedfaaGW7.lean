/- Texts of this proof, one behind the other: VaryRead, VaryText, StampRead, StampBackMath. -/
import Derived.Test.YtllagelopdedfaaGW6
import Derived.Test.YtllagelopdedfaaProg
import Derived.WalkKit
import Derived.WalkLawsBesides
import Derived.Lib.Hide
import Derived.Lib.Strings
import Derived.Laws.BitsAllLaws
/- What vary.Read answers. -/
namespace Go.Proofs.Ytllagelopdedfaa
open Go.RowKit

/-- The answer of vary.Read. -/
def rd (l : List UInt8) (at_ : Int) : Option (Nat × Nat) :=
  if at_ < 0 ∨ (l.length : Int) < at_ then none else (Vm.dec 0 (l.drop at_.toNat)).map fun x => (x.1, at_.toNat + x.2)
def rdV : Option (Nat × Nat) → Value
  | none => .tuple #[.int .u64 0, .int .i64 0, .bool false]
  | some (n, e) => .tuple #[.int .u64 (n : Int), .int .i64 (e : Int), .bool true]

theorem or_shift (k acc x : Nat) (c : Int) (hc : c = x) (hacc : acc < 2 ^ (7 * k)) (hx : x * 2 ^ (7 * k) < 18446744073709551616) (hk : 2 ^ (7 * k) ≤ 18446744073709551616) :
    bits .or .u64 (acc : Int) (IntKind.u64.wrap (c * 2 ^ (7 * k))) = ((acc + x * 2 ^ (7 * k) : Nat) : Int) := by
  subst hc
  have e : ((x : Int) * 2 ^ (7 * k)) = ((x * 2 ^ (7 * k) : Nat) : Int) := by simp
  rw [e, IntKind.wrap_u64, Int.emod_eq_of_lt (by omega) (by omega), u64_or_nat _ _ (by omega) hx]
  congr 1
  rw [Nat.mul_comm, Nat.or_comm, ← Nat.two_pow_add_eq_or_of_lt hacc, Nat.add_comm]

theorem pow7 {k : Nat} (h : k ≤ 9) : 2 ^ (7 * k) ≤ 9223372036854775808 := by
  have : (2 : Nat) ^ (7 * k) ≤ 2 ^ 63 := Nat.pow_le_pow_right (by omega) (by omega)
  simpa using this
theorem pow7' {k : Nat} (h : k ≤ 8) : 2 ^ (7 * k) ≤ 72057594037927936 := by
  have : (2 : Nat) ^ (7 * k) ≤ 2 ^ 56 := Nat.pow_le_pow_right (by omega) (by omega)
  simpa using this

theorem drop_at (t : ByteArray) (k : Nat) (h : k < t.size) : t.data.toList.drop k = t[k] :: t.data.toList.drop (k + 1) := by
  rw [List.drop_eq_getElem_cons (by simpa using h)]
  rfl

theorem or_shift9 (acc x : Nat) (hacc : acc < 2 ^ (7 * 9)) (hx : (x : Int) ≤ 1) : bits .or .u64 (acc : Int) ((x : Int) * 9223372036854775808) = ((acc + x * 2 ^ (7 * 9) : Nat) : Int) := by
  have hx' : x ≤ 1 := by omega
  have h := or_shift 9 acc x x rfl hacc (by simp; omega) (by simp)
  rw [IntKind.wrap_u64, Int.emod_eq_of_lt (by omega) (by simp; omega)] at h
  simpa using h
theorem or_zero (acc p : Nat) (h : acc < 18446744073709551616) : bits .or .u64 (acc : Int) 0 = ((acc + 0 * p : Nat) : Int) := by
  have := u64_or_nat acc 0 h (by omega)
  simpa using this
theorem ret_rd {x y : Int} {n e : Nat} (hx : x = (n : Int)) (hy : y = (e : Int)) : Ending.returned (.tuple #[.int .u64 x, .int .i64 y, .bool true]) = .returned (rdV (some (n, e))) := by
  subst hx hy; rfl

section
variable {D : Option (Nat × Nat)} {k acc : Nat} {b : UInt8} {r : List UInt8}
theorem way_none9 (he : D = Vm.more k acc (Vm.dec k (b :: r))) (hk : k = 9) (hb : 1 < (b.toNat : Int)) : D = none := by
  rw [he, Vm.dec, if_pos (by omega)]; rfl
theorem way_none0 (he : D = Vm.more k acc (Vm.dec k (b :: r))) (hk : 0 < k) (hb : b.toNat = 0) : D = none := by
  rw [he, Vm.dec, if_neg (by omega), if_neg (by omega), if_pos (by omega)]; rfl
theorem way_ret (he : D = Vm.more k acc (Vm.dec k (b :: r))) (hb : (b.toNat : Int) < 128) (h9 : k = 9 → (b.toNat : Int) ≤ 1) (h0 : ¬ (b.toNat = 0 ∧ 0 < k)) : D = some (acc + b.toNat * 2 ^ (7 * k), k + 1) := by
  rw [he, Vm.dec, if_neg (by omega), if_neg (by omega), if_neg h0]; rfl
theorem way_more (he : D = Vm.more k acc (Vm.dec k (b :: r))) (hb : 128 ≤ (b.toNat : Int)) (h9 : ¬ k = 9) : D = Vm.more (k + 1) (acc + (b.toNat - 128) * 2 ^ (7 * k)) (Vm.dec (k + 1) r) := by
  rw [he, Vm.dec, if_neg (by omega), if_pos (by omega)]
  cases Vm.dec (k + 1) r with
  | none => rfl
  | some x =>
    simp only [Vm.more, Option.map_some, Option.some.injEq, Prod.mk.injEq]
    refine ⟨?_, by omega⟩
    rw [show 7 * (k + 1) = 7 * k + 7 from by omega, Nat.pow_add, Nat.add_mul, Nat.add_assoc]
    congr 2
    rw [Nat.mul_comm 128, Nat.mul_assoc, Nat.mul_comm 128]
end

set_option maxRecDepth 100000 in
theorem read_out (s : ByteArray) (at_ : Int) (w : World) (h : at_ < 0 ∨ (s.size : Int) < at_) :
    Calls Try.prog 91 #[.string s, .int .i64 at_] w fun e w' => e = .returned (rdV none) ∧ w = w' := by
  rcases h with h | h
  · go_enter Try.func91, Try.ntmps91
    go_wp2
    go_step3
    go_wp2
    rw [Exit.noGoto_ret]
    go_ret3
    exact ⟨rfl, rfl⟩
  · have h0 : ¬ at_ < 0 := by omega
    go_enter Try.func91, Try.ntmps91
    go_wp2
    go_step3
    go_wp2
    rw [Exit.noGoto_ret]
    go_ret3
    exact ⟨rfl, rfl⟩

set_option maxRecDepth 100000 in
set_option maxHeartbeats 2000000 in
theorem read_in (s : ByteArray) (a : Nat) (w : World) (hs : s.size ≤ 9223372036854775807) (h : a ≤ s.size) :
    Calls Try.prog 91 #[.string s, .int .i64 a] w fun e w' => e = .returned (rdV ((Vm.dec 0 (s.data.toList.drop a)).map fun x => (x.1, a + x.2))) ∧ w = w' := by
  have h0 : decide ((a : Int) < 0) = false := by simp
  have h1 : decide (s.size < a) = false := by simp; omega
  go_enter Try.func91, Try.ntmps91
  go_wp2
  go_step3
  go_wp2
  go_step3
  go_wp2
  all_goals
    generalize ht : s.extract a s.size = t
    have hts : t.size = s.size - a := by rw [← ht]; simp
    have htl : t.data.toList = s.data.toList.drop a := by rw [← ht, Lib.extract_data, List.take_of_length_le (by simp)]
    have Ht := Lib.hid htl
    have Hs := Lib.hid hts
    clear ht htl hts
    go_loop [4, 24] (fun n i => ∃ k acc : Nat, k ≤ 9 ∧ k ≤ t.size ∧ i = .int .i64 k ∧ n = .int .u64 acc ∧ acc < 2 ^ (7 * k) ∧ Vm.dec 0 (s.data.toList.drop a) = Vm.more k acc (Vm.dec k (t.data.toList.drop k))) (fun _ i => 10 - (intOf i).toNat)
    case atStart => exact ⟨0, 0, by omega, by omega, rfl, rfl, by simp, by rw [Ht.out]; simp [Vm.more]⟩
    case round =>
      obtain ⟨k, acc, hk, hkt, rfl, rfl, hacc, he⟩ := hrel
      have He := Lib.hid he
      have Hacc := Lib.hid hacc
      clear he hacc
      by_cases hlt : k < t.size
      · have hlt2 : k < s.size - a := by have := Hs.out; omega
        have He2 : Hid (Vm.dec 0 (s.data.toList.drop a) = Vm.more k acc (Vm.dec k (t[k] :: t.data.toList.drop (k + 1)))) := by rw [← drop_at t k hlt]; exact He.out
        clear He
        go_wp2
        · go_ret3
          rw [way_none9 He2.out (by omega) (by assumption)]
          exact ⟨rfl, rfl⟩
        · go_ret3
          rw [way_none0 He2.out (by omega) (by assumption)]
          exact ⟨rfl, rfl⟩
        · go_ret3
          rw [way_ret He2.out (by assumption) (fun _ => by assumption) (by omega)]
          have hacc := Hacc.out
          obtain rfl : k = 9 := by omega
          exact ⟨ret_rd (or_shift9 acc _ hacc (by assumption)) (by omega), rfl⟩
        · have hp := pow7' (k := k) (by omega)
          have hb : t[k].toNat < 256 := t[k].toNat_lt
          have h128 : 128 ≤ (t[k].toNat : Int) := by assumption
          go_round
          case rel =>
            refine ⟨k + 1, acc + (t[k].toNat - 128) * 2 ^ (7 * k), by omega, by omega, by go_num, ?_, ?_, way_more He2.out h128 (by omega)⟩
            · congr 1
              exact or_shift k acc _ _ (by omega) Hacc.out (by have := Nat.mul_le_mul_left (t[k].toNat - 128) hp; omega) (by omega)
            · have hq : (2 : Nat) ^ (7 * (k + 1)) = 2 ^ (7 * k) * 128 := by rw [show 7 * (k + 1) = 7 * k + 7 from by omega, Nat.pow_add]
              have h2 : (t[k].toNat - 128) * 2 ^ (7 * k) ≤ 127 * 2 ^ (7 * k) := Nat.mul_le_mul_right _ (by omega)
              have := Hacc.out
              rw [hq]
              omega
          case measure => simp [intOf]; omega
        · go_ret3
          rw [way_none0 He2.out (by omega) (by assumption)]
          exact ⟨rfl, rfl⟩
        · go_ret3
          have hp := pow7' (k := k) (by omega)
          have hb : (t[k].toNat : Int) < 128 := by assumption
          have hb0 : t[k].toNat = 0 := by assumption
          rw [way_ret He2.out hb (fun e => by omega) (by omega)]
          refine ⟨ret_rd ?_ (by omega), rfl⟩
          show _ = ((acc + t[k].toNat * 2 ^ (7 * k) : Nat) : Int)
          rw [hb0]
          exact or_zero acc _ (by have := Hacc.out; omega)
        · go_ret3
          have hp := pow7' (k := k) (by omega)
          have hb : (t[k].toNat : Int) < 128 := by assumption
          rw [way_ret He2.out hb (fun e => by omega) (by omega)]
          refine ⟨ret_rd ?_ (by omega), rfl⟩
          show _ = ((acc + t[k].toNat * 2 ^ (7 * k) : Nat) : Int)
          exact or_shift k acc _ _ rfl Hacc.out (by have := Nat.mul_le_mul_left t[k].toNat hp; omega) (by omega)
      · have hs2 := Hs.out
        have hlt2 : ¬ k < s.size - a := by omega
        have hnone : Vm.dec 0 (s.data.toList.drop a) = none := by
          rw [He.out, List.drop_eq_nil_of_le (by simpa using hlt)]
          simp [Vm.dec, Vm.more]
        have HN := Lib.hid hnone
        clear hnone hs2
        go_wp2
        all_goals
          go_ret3
          rw [HN.out]
          exact ⟨rfl, rfl⟩

theorem read_any (s : ByteArray) (at_ : Int) (w : World) (hs : s.size ≤ 9223372036854775807) :
    Calls Try.prog 91 #[.string s, .int .i64 at_] w fun e w' => e = .returned (rdV (rd s.data.toList at_)) ∧ w = w' := by
  by_cases h : at_ < 0 ∨ (s.size : Int) < at_
  · have e : rd s.data.toList at_ = none := by
      rw [rd, if_pos (by simpa using h)]
    rw [e]
    exact read_out s at_ w h
  · obtain ⟨a, rfl⟩ := Int.eq_ofNat_of_zero_le (show 0 ≤ at_ by omega)
    have e : rd s.data.toList (a : Int) = (Vm.dec 0 (s.data.toList.drop a)).map fun x => (x.1, a + x.2) := by
      rw [rd, if_neg (by simpa using h)]
      simp
    rw [e]
    exact read_in s a w hs (by omega)

end Go.Proofs.Ytllagelopdedfaa
/- What vary.ReadText answers. -/
namespace Go.Proofs.Ytllagelopdedfaa
open Go.RowKit

/-- The answer of vary.ReadText. -/
def rdt (l : List UInt8) (at_ most : Int) : Option (List UInt8 × Nat) :=
  match rd l at_ with
  | none => none
  | some (n, e) => if most < (n : Int) ∨ l.length < e + n then none else some ((l.drop e).take n, e + n)
def rdtV : Option (List UInt8 × Nat) → Value
  | none => .tuple #[.string ⟨#[]⟩, .int .i64 0, .bool false]
  | some (t, e) => .tuple #[.string ⟨t.toArray⟩, .int .i64 (e : Int), .bool true]

theorem ret_rdt {x : ByteArray} {y : Int} {t : List UInt8} {e : Nat} (hx : x.data.toList = t) (hy : y = (e : Int)) : Ending.returned (.tuple #[.string x, .int .i64 y, .bool true]) = .returned (rdtV (some (t, e))) := by
  subst hx hy; rfl

theorem rd_some {l : List UInt8} {at_ : Int} {n e : Nat} (h : rd l at_ = some (n, e)) : n < 18446744073709551616 ∧ e ≤ l.length ∧ 0 ≤ at_ ∧ at_ < e := by
  rw [rd] at h
  by_cases c : at_ < 0 ∨ (l.length : Int) < at_
  · rw [if_pos c] at h; cases h
  · rw [if_neg c] at h
    cases hd : Vm.dec 0 (l.drop at_.toNat) with
    | none => rw [hd] at h; cases h
    | some x =>
      obtain ⟨m, k⟩ := x
      rw [hd] at h
      simp at h
      obtain ⟨rfl, rfl⟩ := h
      obtain ⟨h1, h2, h3⟩ := Vm.dec0_inv _ _ _ hd
      have hp := Vm.enc_pos m
      have hk : k = (Vm.enc m).length := by rw [← h3]; simp; simp at h2; omega
      simp at h2
      exact ⟨h1, by omega, by omega, by omega⟩

set_option maxRecDepth 100000 in
theorem readText_any (s : ByteArray) (at_ most : Int) (w : World) (hs : s.size ≤ 9223372036854775807) (hm : -9223372036854775808 ≤ most ∧ most ≤ 9223372036854775807) :
    Calls Try.prog 94 #[.string s, .int .i64 at_, .int .i64 most] w fun e w' => e = .returned (rdtV (rdt s.data.toList at_ most)) ∧ w = w' := by
  cases hr : rd s.data.toList at_ with
  | none =>
    have hf : rdt s.data.toList at_ most = none := by rw [rdt, hr]
    have HF := Lib.hid hf
    have HR := Lib.hid hr
    clear hf hr
    go_enter Try.func94, Try.ntmps94
    go_wp2_with fail
    refine (read_any s at_ _ hs).mono ?_
    rintro e w' ⟨rfl, rfl⟩
    rw [HR.out]
    simp only [rdV]
    go_wp2
    go_ret3
    rw [HF.out]
    exact ⟨rfl, rfl⟩
  | some x =>
    obtain ⟨n, k⟩ := x
    obtain ⟨h1, h2, h3, h4⟩ := rd_some hr
    have h2 : k ≤ s.size := by simpa using h2
    have HR := Lib.hid hr
    by_cases c : most < (n : Int) ∨ s.size < k + n
    · have hf : rdt s.data.toList at_ most = none := by rw [rdt, hr]; simp only; rw [if_pos (by simpa using c)]
      have HF := Lib.hid hf
      clear hf hr
      by_cases c1 : most < 0
      · go_enter Try.func94, Try.ntmps94
        go_wp2_with fail
        refine (read_any s at_ _ hs).mono ?_
        rintro e w' ⟨rfl, rfl⟩
        rw [HR.out]
        simp only [rdV]
        go_wp2
        go_ret3
        rw [HF.out]
        exact ⟨rfl, rfl⟩
      · by_cases c2 : most < (n : Int)
        · go_enter Try.func94, Try.ntmps94
          go_wp2_with fail
          refine (read_any s at_ _ hs).mono ?_
          rintro e w' ⟨rfl, rfl⟩
          rw [HR.out]
          simp only [rdV]
          go_wp2
          go_ret3
          rw [HF.out]
          exact ⟨rfl, rfl⟩
        · have c3 : (s.size : Int) - k < n := by omega
          go_enter Try.func94, Try.ntmps94
          go_wp2_with fail
          refine (read_any s at_ _ hs).mono ?_
          rintro e w' ⟨rfl, rfl⟩
          rw [HR.out]
          simp only [rdV]
          go_wp2
          go_ret3
          rw [HF.out]
          exact ⟨rfl, rfl⟩
    · have hf : rdt s.data.toList at_ most = some ((s.data.toList.drop k).take n, k + n) := by rw [rdt, hr]; simp only; rw [if_neg (by simpa using c)]
      have HF := Lib.hid hf
      clear hf hr
      have c0 : 0 ≤ most := by omega
      have c1 : (n : Int) ≤ most := by omega
      have c2 : k + n ≤ s.size := by omega
      clear c
      go_enter Try.func94, Try.ntmps94
      go_wp2_with fail
      refine (read_any s at_ _ hs).mono ?_
      rintro e w' ⟨rfl, rfl⟩
      rw [HR.out]
      simp only [rdV]
      have hsl := run_slice_string (P := Try.prog) (w := w) 9 s .i64 .i64 k (k + n) Try.underlying9 (by omega) (by omega) (by omega)
      rw [show ((k : Int) + n).toNat = k + n from by omega, Int.toNat_natCast] at hsl
      go_wp2
      go_ret3
      rw [HF.out]
      refine ⟨ret_rdt ?_ (by omega), rfl⟩
      rw [Lib.extract_data]
      simp

/-! What was written is read, wherever it stands. -/
theorem rd_back (a b : List UInt8) (n : Nat) (hn : n < 18446744073709551616) : rd (a ++ Vm.enc n ++ b) (a.length : Int) = some (n, a.length + (Vm.enc n).length) := by
  rw [rd, if_neg (by simp; omega), Int.toNat_natCast, List.append_assoc, List.drop_left, Vm.dec0_enc n b hn]
  rfl
theorem rdt_back (a b t : List UInt8) (most : Int) (ht : t.length < 18446744073709551616) (hm : (t.length : Int) ≤ most) :
    rdt (a ++ (Vm.enc t.length ++ t) ++ b) (a.length : Int) most = some (t, a.length + (Vm.enc t.length).length + t.length) := by
  have e : a ++ (Vm.enc t.length ++ t) ++ b = a ++ Vm.enc t.length ++ (t ++ b) := by simp
  rw [rdt, e, rd_back a (t ++ b) t.length ht]
  simp only
  rw [if_neg (by simp; omega)]
  congr 2
  have e2 : a.length + (Vm.enc t.length).length = (a ++ Vm.enc t.length).length := by simp
  rw [e2, List.drop_left, List.take_left]
theorem rdt_less (a b t : List UInt8) (most : Int) (ht : t.length < 18446744073709551616) (hm : most < (t.length : Int)) :
    rdt (a ++ (Vm.enc t.length ++ t) ++ b) (a.length : Int) most = none := by
  have e : a ++ (Vm.enc t.length ++ t) ++ b = a ++ Vm.enc t.length ++ (t ++ b) := by simp
  rw [rdt, e, rd_back a (t ++ b) t.length ht]
  simp only
  rw [if_pos (Or.inl hm)]

end Go.Proofs.Ytllagelopdedfaa
/- What stamp.Read answers. -/
namespace Go.Proofs.Ytllagelopdedfaa
open Go.RowKit
set_option linter.unusedVariables false

/-- The answer of stamp.Read, as a value. -/
def srV : Option ((Int × Int) × Nat) → Value
  | none => .tuple #[.agg #[.int .i64 0, .int .i64 0], .int .i64 0, .bool false]
  | some (p, e) => .tuple #[.agg #[.int .i64 p.1, .int .i64 p.2], .int .i64 (e : Int), .bool true]

theorem rd_bounds {l : List UInt8} {a : Int} {n e : Nat} (h : rd l a = some (n, e)) : n < 18446744073709551616 ∧ e ≤ l.length ∧ 0 ≤ a ∧ a < e := by
  unfold rd at h
  split at h
  · cases h
  · rename_i hc
    cases hd : Vm.dec 0 (l.drop a.toNat) with
    | none => rw [hd] at h; cases h
    | some x =>
      obtain ⟨y, k⟩ := x
      rw [hd] at h
      simp at h
      obtain ⟨rfl, rfl⟩ := h
      obtain ⟨h1, h2, h3⟩ := Vm.dec0_inv _ _ _ hd
      have h4 := Vm.enc_pos y
      rw [← h3] at h4
      simp at h2 h4
      exact ⟨h1, by omega, by omega, by omega⟩

theorem ok_wrap (n k : Nat) (hn : n < 18446744073709551616) (hk : k < 18446744073709551616) : Sm.ok (wrap64 n) (wrap64 k) = Sm.ok n k := by
  unfold wrap64
  exact decide_eq_decide.2 (by omega)

set_option maxRecDepth 100000 in
set_option maxHeartbeats 1000000 in
theorem sread_any (s : ByteArray) (at_ : Int) (w : World) (hs : s.size ≤ 9223372036854775807) :
    Calls Try.prog 101 #[.string s, .int .i64 at_] w fun e w' => e = .returned (srV (Sm.rdS (rd s.data.toList) at_)) ∧ Below w.heap.size w w' := by
  cases h : rd s.data.toList at_ with
  | none =>
    have he : Sm.rdS (rd s.data.toList) at_ = none := by simp [Sm.rdS, h]
    rw [he]
    have H := Lib.hid h
    clear h he
    go_enter Try.func101, Try.ntmps101
    go_wp2_with fail
    refine (read_any s at_ _ hs).mono ?_
    rintro e w1 ⟨rfl, rfl⟩
    rw [H.out, rdV]
    go_wp2
    refine bodyPost_ret (v := srV none) (by simp [results, Try.results101, go_sem, srV]) rfl ⟨rfl, balloc (Below.refl _ w) _⟩
  | some x =>
    obtain ⟨n, m⟩ := x
    obtain ⟨hn, hm, _, _⟩ := rd_bounds h
    have hm' : m ≤ s.size := by simpa using hm
    have H := Lib.hid h
    cases h2 : rd s.data.toList (m : Int) with
    | none =>
      have he : Sm.rdS (rd s.data.toList) at_ = none := by simp [Sm.rdS, h, h2]
      rw [he]
      have H2 := Lib.hid h2
      clear h h2 he hm
      go_enter Try.func101, Try.ntmps101
      go_wp2_with fail
      refine (read_any s at_ _ hs).mono ?_
      rintro e w1 ⟨rfl, rfl⟩
      rw [H.out, rdV]
      go_wp2_with fail
      refine (read_any s m _ hs).mono ?_
      rintro e w1 ⟨rfl, rfl⟩
      rw [H2.out, rdV]
      clear hn
      go_wp2
      refine bodyPost_ret (v := srV none) (by simp [results, Try.results101, go_sem, srV]) rfl ⟨rfl, balloc (Below.refl _ w) _⟩
    | some y =>
      obtain ⟨k, e⟩ := y
      obtain ⟨hk, hq, _, _⟩ := rd_bounds h2
      have hq' : e ≤ s.size := by simpa using hq
      have he : Sm.rdS (rd s.data.toList) at_ = if Sm.ok n k = true then some (((n : Int), (k : Int)), e) else none := by simp [Sm.rdS, h, h2]
      have H2 := Lib.hid h2
      have HN := Lib.hid hn
      have HK := Lib.hid hk
      clear h h2 hm hq hn hk
      cases ho : Sm.ok n k with
      | false =>
        rw [ho, if_neg (by simp)] at he
        rw [he]
        have HO := Lib.hid ho
        clear he ho
        go_enter Try.func101, Try.ntmps101
        go_wp2_with fail
        refine (read_any s at_ _ hs).mono ?_
        rintro e w1 ⟨rfl, rfl⟩
        rw [H.out, rdV]
        go_wp2_with fail
        refine (read_any s m _ hs).mono ?_
        rintro e w1 ⟨rfl, rfl⟩
        rw [H2.out, rdV]
        go_wp2_with fail
        refine (scheck_any (wrap64 n) (wrap64 k) _).mono ?_
        rintro e2 w2 ⟨rfl, hb⟩
        rw [ok_wrap n k HN.out HK.out, HO.out]
        have c0 : w2.cell? ⟨w.heap.size, 0, none⟩ = some (.int .i64 (wrap64 n)) := kc hb (by simp)
        have c1 : w2.cell? ⟨w.heap.size, 1, none⟩ = some (.int .i64 (wrap64 k)) := kc hb (by simp)
        have f0 : w2.frozen? ⟨w.heap.size, 0, none⟩ = false := (hb.frozen (p := ⟨w.heap.size, 0, none⟩) (by simp)).trans (by simp)
        have f1 : w2.frozen? ⟨w.heap.size, 1, none⟩ = false := (hb.frozen (p := ⟨w.heap.size, 1, none⟩) (by simp)).trans (by simp)
        have hb2 := bstep (balloc (Below.refl _ w) _) hb
        have HV := Lib.hid (Var2.mk (p := (wrap64 n, wrap64 k)) c0 c1 f0 f1)
        clear hb
        go_wp2
        have hv := HV.out.put 0 0
        have r0 := hv.c0
        have r1 := hv.c1
        simp only at r0 r1
        refine bodyPost_ret (v := srV none) (by simp [results, Try.results101, go_sem, srV, r0, r1]) rfl ⟨rfl, below_put hb2 (Nat.le_refl _) _ _⟩
      | true =>
        rw [ho, if_pos rfl] at he
        rw [he]
        have e1 : wrap64 (n : Int) = n := by
          have := ho
          simp only [Sm.ok, decide_eq_true_eq] at this
          unfold wrap64; omega
        have e2 : wrap64 (k : Int) = k := by
          have := ho
          simp only [Sm.ok, decide_eq_true_eq] at this
          unfold wrap64; omega
        have E1 := Lib.hid e1
        have E2 := Lib.hid e2
        have HO := Lib.hid ho
        clear he ho e1 e2
        go_enter Try.func101, Try.ntmps101
        go_wp2_with fail
        refine (read_any s at_ _ hs).mono ?_
        rintro e w1 ⟨rfl, rfl⟩
        rw [H.out, rdV]
        go_wp2_with fail
        refine (read_any s m _ hs).mono ?_
        rintro e w1 ⟨rfl, rfl⟩
        rw [H2.out, rdV]
        go_wp2_with fail
        refine (scheck_any (wrap64 n) (wrap64 k) _).mono ?_
        rintro e2 w2 ⟨rfl, hb⟩
        rw [ok_wrap n k HN.out HK.out, HO.out]
        have c0 : w2.cell? ⟨w.heap.size, 0, none⟩ = some (.int .i64 (wrap64 n)) := kc hb (by simp)
        have c1 : w2.cell? ⟨w.heap.size, 1, none⟩ = some (.int .i64 (wrap64 k)) := kc hb (by simp)
        have f0 : w2.frozen? ⟨w.heap.size, 0, none⟩ = false := (hb.frozen (p := ⟨w.heap.size, 0, none⟩) (by simp)).trans (by simp)
        have f1 : w2.frozen? ⟨w.heap.size, 1, none⟩ = false := (hb.frozen (p := ⟨w.heap.size, 1, none⟩) (by simp)).trans (by simp)
        have hb2 := bstep (balloc (Below.refl _ w) _) hb
        have HV := Lib.hid (Var2.mk (p := (wrap64 n, wrap64 k)) c0 c1 f0 f1)
        clear hb
        rw [E1.out] at c0 HV
        rw [E2.out] at c1 HV
        go_wp2
        have hv := HV.out.put n k
        have r0 := hv.c0
        have r1 := hv.c1
        simp only at r0 r1
        refine bodyPost_ret (v := srV (some ((n, k), e))) (by simp [results, Try.results101, go_sem, srV, r0, r1]) rfl ⟨rfl, below_put hb2 (Nat.le_refl _) _ _⟩
end Go.Proofs.Ytllagelopdedfaa
/- What was written as a stamp's bytes is read, wherever it stands. -/
namespace Go.Proofs.Ytllagelopdedfaa
open Go.RowKit
set_option linter.unusedVariables false

theorem rd_at (p r : List UInt8) (n : Nat) (hn : n < 18446744073709551616) : rd (p ++ (Vm.enc n ++ r)) (p.length : Int) = some (n, p.length + (Vm.enc n).length) := by
  unfold rd
  rw [if_neg (by simp; omega), Int.toNat_natCast, List.drop_left' rfl, Vm.dec0_enc n r hn]
  rfl
theorem sbytes_ok {n s : Int} (h : Sm.ok n s = true) : sbytes n s = Vm.enc n.toNat ++ Vm.enc s.toNat := by simp [sbytes, h]
theorem sbytes_len (n s : Int) : (sbytes n s).length ≤ 20 := by
  unfold sbytes
  split
  · rename_i h
    simp only [Sm.ok, decide_eq_true_eq] at h
    have h1 := Vm.enc_len10 (n := n.toNat) (by omega)
    have h2 := Vm.enc_len10 (n := s.toNat) (by omega)
    simp; omega
  · simp
theorem sbytes_pos {n s : Int} (h : Sm.ok n s = true) : 2 ≤ (sbytes n s).length := by
  rw [sbytes_ok h]
  have h1 := Vm.enc_pos n.toNat
  have h2 := Vm.enc_pos s.toNat
  simp; omega
theorem srd_at (p r : List UInt8) {n s : Int} (h : Sm.ok n s = true) : Sm.rdS (rd (p ++ (sbytes n s ++ r))) (p.length : Int) = some ((n, s), p.length + (sbytes n s).length) := by
  have hk := h
  simp only [Sm.ok, decide_eq_true_eq] at hk
  rw [sbytes_ok h]
  have e1 := rd_at p (Vm.enc s.toNat ++ r) n.toNat (by omega)
  have e2 := rd_at (p ++ Vm.enc n.toNat) r s.toNat (by omega)
  rw [List.length_append, List.append_assoc] at e2
  unfold Sm.rdS
  rw [List.append_assoc, e1]
  simp only
  rw [e2]
  simp only
  rw [Int.toNat_of_nonneg (by omega), Int.toNat_of_nonneg (by omega), if_pos h]
  simp
  omega

theorem bytes_data (x y z : ByteArray) : (x ++ y ++ z).data.toList = x.data.toList ++ (y.data.toList ++ z.data.toList) := by simp
theorem srd_bytes (x z : ByteArray) (l : List UInt8) {n s : Int} (h : Sm.ok n s = true) (hl : sbytes n s = l) : Sm.rdS (rd (x ++ ⟨l.toArray⟩ ++ z).data.toList) (x.size : Int) = some ((n, s), x.size + l.length) := by
  subst hl
  rw [bytes_data]
  have := srd_at x.data.toList z.data.toList h
  simpa using this
end Go.Proofs.Ytllagelopdedfaa
