/- What stamp.Bytes answers. -/
import Derived.Test.YtplpeokmhomojaaStampMax
import Derived.Test.YtplpeokmhomojaaVaryJoin
namespace Go.Proofs.Ytplpeokmhomojaa
open Go.RowKit
set_option linter.unusedVariables false

/-- The bytes of a stamp. -/
def sbytes (n s : Int) : List UInt8 := if Sm.ok n s = true then Vm.enc n.toNat ++ Vm.enc s.toNat else []

theorem Sm.ok_nat {n s : Int} (h : Sm.ok n s = true) : ∃ a b : Nat, n = a ∧ s = b ∧ 1 ≤ a ∧ a ≤ 1099511627776 ∧ b < 6 := by
  simp only [Sm.ok, decide_eq_true_eq] at h
  exact ⟨n.toNat, s.toNat, by omega, by omega, by omega, by omega, by omega⟩

set_option maxRecDepth 100000 in
set_option maxHeartbeats 1000000 in
theorem bytes_any (n s : Int) (w : World) :
    Calls Try.prog 58 #[.agg #[.int .i64 n, .int .i64 s]] w fun e w' => e = .returned (.string ⟨(sbytes n s).toArray⟩) ∧ Below w.heap.size w w' := by
  cases h : Sm.ok n s with
  | false =>
    have he : sbytes n s = [] := by simp [sbytes, h]
    rw [he]
    have H := Lib.hid h
    clear h he
    go_enter Try.func58, Try.ntmps58
    go_wp2_with fail
    refine (scheck_any n s _).mono ?_
    rintro e w1 ⟨rfl, hb1⟩
    rw [H.out]
    have hb2 := bstep (balloc (Below.refl _ w) _) hb1
    clear hb1
    go_wp2
    go_ret
    exact ⟨rfl, hb2⟩
  | true =>
    have he : sbytes n s = Vm.enc n.toNat ++ Vm.enc s.toNat := by simp [sbytes, h]
    rw [he]
    have H := Lib.hid h
    obtain ⟨a, b, rfl, rfl, h1, h2, h3⟩ := Sm.ok_nat h
    clear h he
    simp only [Int.toNat_natCast]
    have henc : encs [a, b] = Vm.enc a ++ Vm.enc b := by simp [encs]
    have HE := Lib.hid henc
    clear henc
    go_enter Try.func58, Try.ntmps58
    go_wp2_with fail
    refine (scheck_any a b _).mono ?_
    rintro e w1 ⟨rfl, hb1⟩
    rw [H.out]
    have c0 : w1.cell? ⟨w.heap.size, 0, none⟩ = some (.int .i64 a) := kc hb1 (by simp)
    have c1 : w1.cell? ⟨w.heap.size, 1, none⟩ = some (.int .i64 b) := kc hb1 (by simp)
    have hb2 := bstep (balloc (Below.refl _ w) _) hb1
    clear hb1
    have hu : U64s (w1.alloc (.cells #[.int .u64 (a : Int), .int .u64 (b : Int)] 84)) (some ⟨w1.heap.size, 0, none⟩) [a, b] := by
      refine ⟨by intro z hz; simp at hz; omega, fun i hi => ⟨_, _, rfl, ?_⟩⟩
      match i, hi with
      | 0, _ => simp
      | 1, _ => simp
    have HU := Lib.hid hu
    clear hu
    go_wp2_with fail
    refine (join_at _ 2 2 [a, b] _ rfl HU.out (by simp)).mono ?_
    rintro e w2 ⟨rfl, hb3⟩
    have hb4 := bstep (balloc hb2 _) hb3
    clear hb2 hb3
    go_wp2
    go_ret
    exact ⟨ret_str (by rw [HE.out]), hb4⟩
end Go.Proofs.Ytplpeokmhomojaa
