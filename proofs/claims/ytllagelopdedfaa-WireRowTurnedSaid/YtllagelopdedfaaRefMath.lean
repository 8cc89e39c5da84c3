/- The value of a row of bytes, seven bits each; which rows are a number's bytes. Plain mathematics. -/
import Derived.Test.YtllagelopdedfaaGW27
namespace Go.Proofs.Ytllagelopdedfaa.Vm

def val : List UInt8 → Nat
  | [] => 0
  | b :: r => b.toNat % 128 + 128 * val r
theorem val_enc : ∀ (f n : Nat), n < 128 ^ f → val (enc n) = n
  | 0, n, h => by
    obtain rfl : n = 0 := by simpa using h
    rw [enc_lt (by omega)]
    rfl
  | f + 1, n, h => by
    by_cases c : n < 128
    · rw [enc_lt c]
      simp [val]
      omega
    · rw [enc_ge (by omega)]
      have ih := val_enc f (n / 128) (by rw [Nat.pow_succ] at h; exact Nat.div_lt_of_lt_mul (by rw [Nat.mul_comm]; exact h))
      simp only [val, ih, UInt8.toNat_ofNat']
      omega
theorem val_enc64 {n : Nat} (h : n < 18446744073709551616) : val (enc n) = n :=
  val_enc 10 n (by have : (18446744073709551616 : Nat) ≤ 128 ^ 10 := by decide
                   omega)
theorem val_snoc (l : List UInt8) (b : UInt8) : val (l ++ [b]) = val l + b.toNat % 128 * 128 ^ l.length := by
  induction l with
  | nil => simp [val]
  | cons c r ih =>
    simp only [List.cons_append, val, ih, List.length_cons, Nat.pow_succ]
    rw [Nat.mul_add, ← Nat.add_assoc]
    congr 1
    rw [Nat.mul_comm (128 ^ r.length) 128, Nat.mul_left_comm]
/-- All bytes but the last go on. -/
theorem enc_shape : ∀ (f n : Nat), n < 128 ^ f → ∀ i (h : i < (enc n).length), (enc n)[i].toNat < 128 ↔ i + 1 = (enc n).length
  | 0, n, h => by
    obtain rfl : n = 0 := by simpa using h
    intro i hi
    rw [enc_lt (by omega)] at hi
    obtain rfl : i = 0 := by simpa using hi
    simp only [enc_lt (n := 0) (by omega)]
    simp
  | f + 1, n, h => by
    intro i hi
    by_cases c : n < 128
    · simp only [enc_lt c] at hi ⊢
      obtain rfl : i = 0 := by simpa using hi
      simp
      omega
    · simp only [enc_ge (n := n) (by omega)] at hi ⊢
      have ih := enc_shape f (n / 128) (by rw [Nat.pow_succ] at h; exact Nat.div_lt_of_lt_mul (by rw [Nat.mul_comm]; exact h))
      cases i with
      | zero =>
        have hp := enc_pos (n / 128)
        simp only [List.getElem_cons_zero, List.length_cons, UInt8.toNat_ofNat']
        omega
      | succ i =>
        have := ih i (by simpa using hi)
        simp only [List.getElem_cons_succ, List.length_cons, this]
        omega
theorem enc_shape64 {n : Nat} (h : n < 18446744073709551616) (i : Nat) (hi : i < (enc n).length) : (enc n)[i].toNat < 128 ↔ i + 1 = (enc n).length :=
  enc_shape 10 n (by have : (18446744073709551616 : Nat) ≤ 128 ^ 10 := by decide
                     omega) i hi

/-- Where dec answers, the first byte that does not go on is the last one. -/
theorem dec_last {t : List UInt8} {m j : Nat} (h : dec 0 t = some (m, j)) : m < 18446744073709551616 ∧ j = (enc m).length ∧ 1 ≤ j ∧ j ≤ 10 ∧ j ≤ t.length ∧ t.take j = enc m ∧ ∀ i (hi : i < t.length), i < j → (t[i].toNat < 128 ↔ i + 1 = j) := by
  obtain ⟨h1, h2, h3⟩ := dec0_inv _ _ _ h
  have hj : j = (enc m).length := by rw [← h3]; simp; omega
  have hp := enc_pos m
  have h10 := enc_len10 h1
  refine ⟨h1, hj, by omega, by omega, h2, h3, fun i hi hij => ?_⟩
  have hs := enc_shape64 h1 i (by omega)
  have e : (enc m)[i]'(by omega) = t[i] := by
    have : (t.take j)[i]'(by simp; omega) = t[i] := by simp
    rw [← this]
    congr 1
    exact h3.symm
  rw [← e, hs, hj]

/-- The first k bytes go on, the next one does not: the number, if there is one, is their value. -/
theorem dec_at {t : List UInt8} {k : Nat} (hk : k < t.length) (hgo : ∀ j (hj : j < t.length), j < k → 128 ≤ t[j].toNat) (hlast : t[k].toNat < 128) :
    dec 0 t = if enc (val (t.take (k + 1)) % 18446744073709551616) = t.take (k + 1) then some (val (t.take (k + 1)) % 18446744073709551616, k + 1) else none := by
  split
  · rename_i he
    have hn : val (t.take (k + 1)) % 18446744073709551616 < 18446744073709551616 := Nat.mod_lt _ (by omega)
    have hd := dec0_enc _ (t.drop (k + 1)) hn
    rw [he, List.take_append_drop] at hd
    rw [hd]
    congr 2
    simp
    omega
  · rename_i he
    cases h : dec 0 t with
    | none => rfl
    | some x =>
      obtain ⟨m, j⟩ := x
      obtain ⟨h1, h2, h3, h4, h5, h6, h7⟩ := dec_last h
      have hj : j = k + 1 := by
        rcases Nat.lt_trichotomy j (k + 1) with hlt | heq | hgt
        · have a := (h7 (j - 1) (by omega) (by omega)).2 (by omega)
          have b := hgo (j - 1) (by omega) (by omega)
          omega
        · exact heq
        · have a := (h7 k hk (by omega)).1 hlast
          omega
      subst hj
      exfalso
      apply he
      rw [h6, val_enc64 h1, Nat.mod_eq_of_lt h1]
/-- No byte of the first ten ends a number. -/
theorem dec_never {t : List UInt8} {k : Nat} (hk : k = 10 ∨ t.length ≤ k) (hgo : ∀ j (hj : j < t.length), j < k → 128 ≤ t[j].toNat) : dec 0 t = none := by
  cases h : dec 0 t with
  | none => rfl
  | some x =>
    obtain ⟨m, j⟩ := x
    obtain ⟨h1, h2, h3, h4, h5, h6, h7⟩ := dec_last h
    have a := (h7 (j - 1) (by omega) (by omega)).2 (by omega)
    have b := hgo (j - 1) (by omega) (by omega)
    omega

end Go.Proofs.Ytllagelopdedfaa.Vm
