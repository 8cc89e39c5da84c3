/- What vary.ReadText answers. -/
import Derived.Test.YtpmebbamkkoakaaVaryRead
namespace Go.Proofs.Ytpmebbamkkoakaa
open Go.RowKit

/-- The answer of vary.ReadText. -/
def rdt (l : List UInt8) (at_ most : Int) : Option (List UInt8 × Nat) :=
  match rd l at_ with
  | none => none
  | some (n, e) => if most < (n : Int) ∨ l.length < e + n then none else some ((l.drop e).take n, e + n)
def rdtV : Option (List UInt8 × Nat) → Value
  | none => .tuple #[.string ⟨#[]⟩, .int .i64 0, .bool false]
  | some (t, e) => .tuple #[.string ⟨t.toArray⟩, .int .i64 (e : Int), .bool true]

theorem ret_rdt {x : ByteArray} {y : Int} {t : List UInt8} {e : Nat} (hx : x.data.toList = t) (hy : y = (e : Int)) : Ending.returned (.tuple #[.string x, .int .i64 y, .bool true]) = .returned (rdtV (some (t, e))) := by
  subst hx hy; rfl

theorem rd_some {l : List UInt8} {at_ : Int} {n e : Nat} (h : rd l at_ = some (n, e)) : n < 18446744073709551616 ∧ e ≤ l.length ∧ 0 ≤ at_ ∧ at_ < e := by
  rw [rd] at h
  by_cases c : at_ < 0 ∨ (l.length : Int) < at_
  · rw [if_pos c] at h; cases h
  · rw [if_neg c] at h
    cases hd : Vm.dec 0 (l.drop at_.toNat) with
    | none => rw [hd] at h; cases h
    | some x =>
      obtain ⟨m, k⟩ := x
      rw [hd] at h
      simp at h
      obtain ⟨rfl, rfl⟩ := h
      obtain ⟨h1, h2, h3⟩ := Vm.dec0_inv _ _ _ hd
      have hp := Vm.enc_pos m
      have hk : k = (Vm.enc m).length := by rw [← h3]; simp; simp at h2; omega
      simp at h2
      exact ⟨h1, by omega, by omega, by omega⟩

set_option maxRecDepth 100000 in
theorem readText_any (s : ByteArray) (at_ most : Int) (w : World) (hs : s.size ≤ 9223372036854775807) (hm : -9223372036854775808 ≤ most ∧ most ≤ 9223372036854775807) :
    Calls Try.prog 22 #[.string s, .int .i64 at_, .int .i64 most] w fun e w' => e = .returned (rdtV (rdt s.data.toList at_ most)) ∧ w = w' := by
  cases hr : rd s.data.toList at_ with
  | none =>
    have hf : rdt s.data.toList at_ most = none := by rw [rdt, hr]
    have HF := Lib.hid hf
    have HR := Lib.hid hr
    clear hf hr
    go_enter Try.func22, Try.ntmps22
    go_wp2_with fail
    refine (read_any s at_ _ hs).mono ?_
    rintro e w' ⟨rfl, rfl⟩
    rw [HR.out]
    simp only [rdV]
    go_wp2
    go_ret3
    rw [HF.out]
    exact ⟨rfl, rfl⟩
  | some x =>
    obtain ⟨n, k⟩ := x
    obtain ⟨h1, h2, h3, h4⟩ := rd_some hr
    have h2 : k ≤ s.size := by simpa using h2
    have HR := Lib.hid hr
    by_cases c : most < (n : Int) ∨ s.size < k + n
    · have hf : rdt s.data.toList at_ most = none := by rw [rdt, hr]; simp only; rw [if_pos (by simpa using c)]
      have HF := Lib.hid hf
      clear hf hr
      by_cases c1 : most < 0
      · go_enter Try.func22, Try.ntmps22
        go_wp2_with fail
        refine (read_any s at_ _ hs).mono ?_
        rintro e w' ⟨rfl, rfl⟩
        rw [HR.out]
        simp only [rdV]
        go_wp2
        go_ret3
        rw [HF.out]
        exact ⟨rfl, rfl⟩
      · by_cases c2 : most < (n : Int)
        · go_enter Try.func22, Try.ntmps22
          go_wp2_with fail
          refine (read_any s at_ _ hs).mono ?_
          rintro e w' ⟨rfl, rfl⟩
          rw [HR.out]
          simp only [rdV]
          go_wp2
          go_ret3
          rw [HF.out]
          exact ⟨rfl, rfl⟩
        · have c3 : (s.size : Int) - k < n := by omega
          go_enter Try.func22, Try.ntmps22
          go_wp2_with fail
          refine (read_any s at_ _ hs).mono ?_
          rintro e w' ⟨rfl, rfl⟩
          rw [HR.out]
          simp only [rdV]
          go_wp2
          go_ret3
          rw [HF.out]
          exact ⟨rfl, rfl⟩
    · have hf : rdt s.data.toList at_ most = some ((s.data.toList.drop k).take n, k + n) := by rw [rdt, hr]; simp only; rw [if_neg (by simpa using c)]
      have HF := Lib.hid hf
      clear hf hr
      have c0 : 0 ≤ most := by omega
      have c1 : (n : Int) ≤ most := by omega
      have c2 : k + n ≤ s.size := by omega
      clear c
      go_enter Try.func22, Try.ntmps22
      go_wp2_with fail
      refine (read_any s at_ _ hs).mono ?_
      rintro e w' ⟨rfl, rfl⟩
      rw [HR.out]
      simp only [rdV]
      have hsl := run_slice_string (P := Try.prog) (w := w) 9 s .i64 .i64 k (k + n) Try.underlying9 (by omega) (by omega) (by omega)
      rw [show ((k : Int) + n).toNat = k + n from by omega, Int.toNat_natCast] at hsl
      go_wp2
      go_ret3
      rw [HF.out]
      refine ⟨ret_rdt ?_ (by omega), rfl⟩
      rw [Lib.extract_data]
      simp

/-! What was written is read, wherever it stands. -/
theorem rd_back (a b : List UInt8) (n : Nat) (hn : n < 18446744073709551616) : rd (a ++ Vm.enc n ++ b) (a.length : Int) = some (n, a.length + (Vm.enc n).length) := by
  rw [rd, if_neg (by simp; omega), Int.toNat_natCast, List.append_assoc, List.drop_left, Vm.dec0_enc n b hn]
  rfl
theorem rdt_back (a b t : List UInt8) (most : Int) (ht : t.length < 18446744073709551616) (hm : (t.length : Int) ≤ most) :
    rdt (a ++ (Vm.enc t.length ++ t) ++ b) (a.length : Int) most = some (t, a.length + (Vm.enc t.length).length + t.length) := by
  have e : a ++ (Vm.enc t.length ++ t) ++ b = a ++ Vm.enc t.length ++ (t ++ b) := by simp
  rw [rdt, e, rd_back a (t ++ b) t.length ht]
  simp only
  rw [if_neg (by simp; omega)]
  congr 2
  have e2 : a.length + (Vm.enc t.length).length = (a ++ Vm.enc t.length).length := by simp
  rw [e2, List.drop_left, List.take_left]
theorem rdt_less (a b t : List UInt8) (most : Int) (ht : t.length < 18446744073709551616) (hm : most < (t.length : Int)) :
    rdt (a ++ (Vm.enc t.length ++ t) ++ b) (a.length : Int) most = none := by
  have e : a ++ (Vm.enc t.length ++ t) ++ b = a ++ Vm.enc t.length ++ (t ++ b) := by simp
  rw [rdt, e, rd_back a (t ++ b) t.length ht]
  simp only
  rw [if_pos (Or.inl hm)]

end Go.Proofs.Ytpmebbamkkoakaa
