/- The order of texts, byte by byte. Plain lemmas: they speak of no one program. -/
import Derived.Lib.Strings
namespace Go.Proofs.Ytgaghlofcokijaa.Km

theorem bl_eq (x : List UInt8) : ∀ y, Op.bytesLess x y = decide (x < y) := by
  induction x with
  | nil => intro y; cases y <;> simp [Op.bytesLess]
  | cons a x ih =>
    intro y
    cases y with
    | nil => simp [Op.bytesLess]
    | cons b y =>
      simp only [Op.bytesLess, ih, List.cons_lt_cons_iff]
      rw [Bool.eq_iff_iff]
      simp
theorem bl_irrefl (a : List UInt8) : Op.bytesLess a a = false := by rw [bl_eq]; simp
theorem bl_trans {a b c : List UInt8} (h : Op.bytesLess a b = true) (k : Op.bytesLess b c = true) : Op.bytesLess a c = true := by
  rw [bl_eq, decide_eq_true_iff] at *
  exact List.lt_trans h k
theorem bl_asymm {a b : List UInt8} (h : Op.bytesLess a b = true) : Op.bytesLess b a = false := by
  cases hc : Op.bytesLess b a with
  | false => rfl
  | true =>
    have := bl_trans h hc
    rw [bl_irrefl] at this
    cases this
theorem bl_tri : ∀ {a b : List UInt8}, Op.bytesLess a b = false → Op.bytesLess b a = false → a = b
  | [], [], _, _ => rfl
  | _ :: _, [], _, k => by simp [Op.bytesLess] at k
  | [], _ :: _, h, _ => by simp [Op.bytesLess] at h
  | a :: x, b :: y, h, k => by
    simp [Op.bytesLess] at h k
    have e : a = b := by
      rw [← UInt8.toNat_inj]
      have h1 := h.1
      have k1 := k.1
      rw [UInt8.le_iff_toNat_le] at h1 k1
      omega
    subst e
    rw [bl_tri (h.2 rfl) (k.2 rfl)]
theorem bl_gtr (a b : List UInt8) : (!Op.bytesLess b a && !(b == a)) = Op.bytesLess a b := by
  cases h : Op.bytesLess b a with
  | true => simp [bl_asymm h]
  | false =>
    cases k : Op.bytesLess a b with
    | true =>
      have hne : b ≠ a := by
        rintro rfl
        rw [h] at k
        cases k
      simpa using hne
    | false => simp [bl_tri h k]
theorem bl_nil (a : List UInt8) : Op.bytesLess a [] = false := by cases a <;> simp [Op.bytesLess]
theorem bl_nil_left {a : List UInt8} (h : a ≠ []) : Op.bytesLess [] a = true := by cases a <;> simp_all [Op.bytesLess]
/-- a is not above b, b is not above c. -/
theorem bl_le_trans {a b c : List UInt8} (h : Op.bytesLess b a = false) (k : Op.bytesLess c b = false) : Op.bytesLess c a = false := by
  cases hc : Op.bytesLess c a with
  | false => rfl
  | true =>
    cases hb : Op.bytesLess a b with
    | true =>
      rw [bl_trans hc hb] at k
      cases k
    | false =>
      have e := bl_tri hb h
      subst e
      rw [hc] at k
      cases k
theorem bl_lt_le {a b c : List UInt8} (h : Op.bytesLess a b = true) (k : Op.bytesLess c b = false) : Op.bytesLess a c = true := by
  cases hc : Op.bytesLess a c with
  | true => rfl
  | false =>
    have := bl_le_trans k hc
    rw [h] at this
    cases this
theorem bl_le_lt {a b c : List UInt8} (h : Op.bytesLess b a = false) (k : Op.bytesLess b c = true) : Op.bytesLess a c = true := by
  cases hc : Op.bytesLess a c with
  | true => rfl
  | false =>
    have := bl_le_trans hc h
    rw [k] at this
    cases this
end Go.Proofs.Ytgaghlofcokijaa.Km
