/- What was written as a stamp's bytes is read, wherever it stands. -/
import Derived.Test.YtmfjoiajghmeoaaStampRead
namespace Go.Proofs.Ytmfjoiajghmeoaa
open Go.RowKit
set_option linter.unusedVariables false

theorem rd_at (p r : List UInt8) (n : Nat) (hn : n < 18446744073709551616) : rd (p ++ (Vm.enc n ++ r)) (p.length : Int) = some (n, p.length + (Vm.enc n).length) := by
  unfold rd
  rw [if_neg (by simp; omega), Int.toNat_natCast, List.drop_left' rfl, Vm.dec0_enc n r hn]
  rfl
theorem sbytes_ok {n s : Int} (h : Sm.ok n s = true) : sbytes n s = Vm.enc n.toNat ++ Vm.enc s.toNat := by simp [sbytes, h]
theorem sbytes_len (n s : Int) : (sbytes n s).length ≤ 20 := by
  unfold sbytes
  split
  · rename_i h
    simp only [Sm.ok, decide_eq_true_eq] at h
    have h1 := Vm.enc_len10 (n := n.toNat) (by omega)
    have h2 := Vm.enc_len10 (n := s.toNat) (by omega)
    simp; omega
  · simp
theorem sbytes_pos {n s : Int} (h : Sm.ok n s = true) : 2 ≤ (sbytes n s).length := by
  rw [sbytes_ok h]
  have h1 := Vm.enc_pos n.toNat
  have h2 := Vm.enc_pos s.toNat
  simp; omega
theorem srd_at (p r : List UInt8) {n s : Int} (h : Sm.ok n s = true) : Sm.rdS (rd (p ++ (sbytes n s ++ r))) (p.length : Int) = some ((n, s), p.length + (sbytes n s).length) := by
  have hk := h
  simp only [Sm.ok, decide_eq_true_eq] at hk
  rw [sbytes_ok h]
  have e1 := rd_at p (Vm.enc s.toNat ++ r) n.toNat (by omega)
  have e2 := rd_at (p ++ Vm.enc n.toNat) r s.toNat (by omega)
  rw [List.length_append, List.append_assoc] at e2
  unfold Sm.rdS
  rw [List.append_assoc, e1]
  simp only
  rw [e2]
  simp only
  rw [Int.toNat_of_nonneg (by omega), Int.toNat_of_nonneg (by omega), if_pos h]
  simp
  omega

theorem bytes_data (x y z : ByteArray) : (x ++ y ++ z).data.toList = x.data.toList ++ (y.data.toList ++ z.data.toList) := by simp
theorem srd_bytes (x z : ByteArray) (l : List UInt8) {n s : Int} (h : Sm.ok n s = true) (hl : sbytes n s = l) : Sm.rdS (rd (x ++ ⟨l.toArray⟩ ++ z).data.toList) (x.size : Int) = some ((n, s), x.size + l.length) := by
  subst hl
  rw [bytes_data]
  have := srd_at x.data.toList z.data.toList h
  simpa using this
end Go.Proofs.Ytmfjoiajghmeoaa
