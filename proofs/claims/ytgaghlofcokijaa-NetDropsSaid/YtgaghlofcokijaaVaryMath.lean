/- The bytes of a number, as plain mathematics: no Go in sight. -/
import Derived.WalkKit
namespace Go.Proofs.Ytgaghlofcokijaa

theorem ret_int {k : IntKind} {a b : Int} (h : a = b) : Ending.returned (.int k a) = .returned (.int k b) := by rw [h]
theorem ret_str {a b : ByteArray} (h : a = b) : Ending.returned (.string a) = .returned (.string b) := by rw [h]
theorem ret_bool {a b : Bool} (h : a = b) : Ending.returned (.bool a) = .returned (.bool b) := by rw [h]

theorem str_take (l : List UInt8) (k : Nat) : ((⟨l.toArray⟩ : ByteArray).extract 0 k).toList = l.take k := by
  rw [ByteArray.toList_eq, ByteArray.data_extract]
  simp
theorem str_add (l : List UInt8) (s : ByteArray) : (⟨l.toArray⟩ ++ s : ByteArray) = ⟨(l ++ s.data.toList).toArray⟩ := by
  apply ByteArray.ext
  simp

open Go.RowKit in
/-- Two calls, one behind the other, that only make memory. -/
theorem bstep {w a b : World} (h : Below w.heap.size w a) (k : Below a.heap.size a b) : Below w.heap.size w b := h.trans (k.mono h.size)

open Go.RowKit in
theorem balloc {w a : World} (h : Below w.heap.size w a) (o : Obj) : Below w.heap.size w (a.alloc o) := h.alloc h.size o

namespace Vm

/-- The bytes of a number: seven bits each, the lowest first; all but the last have the greatest bit. -/
def enc (n : Nat) : List UInt8 := if n < 128 then [UInt8.ofNat n] else UInt8.ofNat (n % 128 + 128) :: enc (n / 128)
termination_by n
decreasing_by omega

theorem enc_lt {n : Nat} (h : n < 128) : enc n = [UInt8.ofNat n] := by rw [enc, if_pos h]
theorem enc_ge {n : Nat} (h : 128 ≤ n) : enc n = UInt8.ofNat (n % 128 + 128) :: enc (n / 128) := by rw [enc, if_neg (by omega)]

theorem enc_pos (n : Nat) : 1 ≤ (enc n).length := by
  rw [enc]; split <;> simp

/-- Each seven bits more take a byte more. -/
theorem enc_len : ∀ (k n : Nat), n < 128 ^ (k + 1) → (enc n).length ≤ k + 1
  | 0, n, h => by rw [enc_lt (by simpa using h)]; simp
  | k + 1, n, h => by
    by_cases c : n < 128
    · rw [enc_lt c]; simp
    · rw [enc_ge (by omega)]
      have := enc_len k (n / 128) (by rw [Nat.pow_succ] at h; exact Nat.div_lt_of_lt_mul (by rw [Nat.mul_comm]; exact h))
      simp; omega
theorem enc_len_ge : ∀ (k n : Nat), 128 ^ k ≤ n → k + 1 ≤ (enc n).length
  | 0, n, _ => by have := enc_pos n; omega
  | k + 1, n, h => by
    have hn : 128 ≤ n := by
      have : 128 ^ 1 ≤ 128 ^ (k + 1) := Nat.pow_le_pow_right (by omega) (by omega)
      omega
    rw [enc_ge hn]
    have := enc_len_ge k (n / 128) (by rw [Nat.pow_succ] at h; exact (Nat.le_div_iff_mul_le (by omega)).2 h)
    simp; omega
theorem enc_len10 {n : Nat} (h : n < 18446744073709551616) : (enc n).length ≤ 10 :=
  enc_len 9 n (by have : (18446744073709551616 : Nat) ≤ 128 ^ 10 := by decide
                  omega)

theorem or128 (m : Nat) : bits .or .u8 ((m : Int) % 256) 128 = (((UInt8.ofNat (m % 128 + 128)).toNat : Nat) : Int) := by
  have h : ∀ k : Nat, k < 256 → bits .or .u8 (k : Int) 128 = ((k % 128 + 128 : Nat) : Int) := by decide +kernel
  have e : ((m : Int) % 256) = ((m % 256 : Nat) : Int) := by omega
  rw [e, h _ (by omega)]
  simp [UInt8.toNat_ofNat]
  omega
theorem low128 {m : Nat} (h : m < 128) : (m : Int) = (((UInt8.ofNat m).toNat : Nat) : Int) := by
  simp
  omega

/-- The number at whose i-th group a row of bytes begins, and how many bytes it takes. -/
def dec : Nat → List UInt8 → Option (Nat × Nat)
  | _, [] => none
  | i, b :: r =>
    if i = 9 ∧ 1 < b.toNat then none
    else if 128 ≤ b.toNat then (dec (i + 1) r).map fun x => (b.toNat - 128 + 128 * x.1, x.2 + 1)
    else if b.toNat = 0 ∧ 0 < i then none
    else some (b.toNat, 1)

theorem dec_enc : ∀ (j n : Nat) (r : List UInt8), j ≤ 9 → n < 2 ^ (7 * j + 1) → (j = 9 ∨ 0 < n) → dec (9 - j) (enc n ++ r) = some (n, (enc n).length)
  | 0, n, r, _, h, hn => by
    have h2 : n = 1 := by simp at h; omega
    subst h2
    rw [enc_lt (by omega)]
    simp [dec]
  | j + 1, n, r, hj, h, hn => by
    by_cases c : n < 128
    · rw [enc_lt c]
      have e : (UInt8.ofNat n).toNat = n := by simp; omega
      simp only [List.cons_append, List.nil_append, dec, e]
      rw [if_neg (by omega), if_neg (by omega), if_neg (by omega)]
      rfl
    · rw [enc_ge (by omega)]
      have e : (UInt8.ofNat (n % 128 + 128)).toNat = n % 128 + 128 := by simp; omega
      have e9 : 9 - (j + 1) + 1 = 9 - j := by omega
      have hp : (2 : Nat) ^ (7 * (j + 1) + 1) = 2 ^ (7 * j + 1) * 128 := by rw [show 7 * (j + 1) + 1 = (7 * j + 1) + 7 from by omega, Nat.pow_add]
      have ih := dec_enc j (n / 128) r (by omega) (by rw [hp] at h; exact Nat.div_lt_of_lt_mul (by rw [Nat.mul_comm]; exact h)) (by omega)
      simp only [List.cons_append, dec, e, e9, ih]
      rw [if_neg (by omega), if_pos (by omega)]
      simp
      omega

theorem dec_inv : ∀ (l : List UInt8) (j n k : Nat), j ≤ 9 → dec (9 - j) l = some (n, k) → n < 2 ^ (7 * j + 1) ∧ (j = 9 ∨ 0 < n) ∧ k ≤ l.length ∧ l.take k = enc n
  | [], j, n, k, _, h => by simp [dec] at h
  | b :: r, j, n, k, hj, h => by
    simp only [dec] at h
    by_cases c1 : 9 - j = 9 ∧ 1 < b.toNat
    · rw [if_pos c1] at h; cases h
    · rw [if_neg c1] at h
      have hb : b.toNat < 256 := b.toNat_lt
      by_cases c2 : 128 ≤ b.toNat
      · rw [if_pos c2] at h
        cases j with
        | zero => omega
        | succ j =>
          rw [show 9 - (j + 1) + 1 = 9 - j from by omega] at h
          cases hd : dec (9 - j) r with
          | none => rw [hd] at h; cases h
          | some x =>
            obtain ⟨m, q⟩ := x
            rw [hd] at h
            simp at h
            obtain ⟨rfl, rfl⟩ := h
            obtain ⟨i1, i2, i3, i4⟩ := dec_inv r j m q (by omega) hd
            have hp : (2 : Nat) ^ (7 * (j + 1) + 1) = 2 ^ (7 * j + 1) * 128 := by rw [show 7 * (j + 1) + 1 = (7 * j + 1) + 7 from by omega, Nat.pow_add]
            have hmp : 0 < m := by
              rcases i2 with i2 | i2
              · omega
              · exact i2
            refine ⟨by rw [hp]; omega, Or.inr (by omega), by simp; omega, ?_⟩
            rw [enc_ge (by omega), List.take_succ_cons, i4, show (b.toNat - 128 + 128 * m) / 128 = m from by omega]
            congr 1
            apply UInt8.toNat_inj.1
            simp
            omega
      · rw [if_neg c2] at h
        by_cases c3 : b.toNat = 0 ∧ 0 < 9 - j
        · rw [if_pos c3] at h; cases h
        · rw [if_neg c3] at h
          simp at h
          obtain ⟨rfl, rfl⟩ := h
          have hp : (2 : Nat) ^ 1 ≤ 2 ^ (7 * j + 1) := Nat.pow_le_pow_right (by omega) (by omega)
          refine ⟨?_, by omega, by simp, ?_⟩
          · by_cases c4 : j = 0
            · subst c4; simp; omega
            · have : (2 : Nat) ^ 8 ≤ 2 ^ (7 * j + 1) := Nat.pow_le_pow_right (by omega) (by omega)
              omega
          · rw [enc_lt (by omega)]
            simp

/-- The answer behind the first groups: they hold acc. -/
def more (k acc : Nat) (x : Option (Nat × Nat)) : Option (Nat × Nat) := x.map fun y => (acc + y.1 * 2 ^ (7 * k), k + y.2)

theorem dec0_enc (n : Nat) (r : List UInt8) (h : n < 18446744073709551616) : dec 0 (enc n ++ r) = some (n, (enc n).length) :=
  dec_enc 9 n r (Nat.le_refl _) (by simpa using h) (Or.inl rfl)
theorem dec0_inv (l : List UInt8) (n k : Nat) (h : dec 0 l = some (n, k)) : n < 18446744073709551616 ∧ k ≤ l.length ∧ l.take k = enc n := by
  have := dec_inv l 9 n k (Nat.le_refl _) h
  exact ⟨by simpa using this.1, this.2.2⟩

end Vm
end Go.Proofs.Ytgaghlofcokijaa
