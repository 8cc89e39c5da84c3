/- What the document's own Number answers. -/
import Derived.Test.YtplpeokmhomojaaVaryMath
import Derived.Test.YtplpeokmhomojaaProg
import Derived.WalkKit
import Derived.WalkLawsBesides
import Derived.Lib.Hide
import Derived.Deep.RegionWith
import Derived.Deep.RegionHeld3
namespace Go.Proofs.Ytplpeokmhomojaa
open Go.RowKit
set_option linter.unusedVariables false

/-- A slice of one byte, as a string. -/
theorem conv_one (w : World) (b off : Nat) (c : UInt8) (x : Int) (hx : x = (c.toNat : Int)) (h : w.cell? ⟨b, off, none⟩ = some (.int .u8 x)) :
    (convert 43 9 (.slice (some ⟨b, off, none⟩) 1 1)).run Try.prog w = .ok (.string ⟨#[c]⟩) w := by
  subst hx
  exact run_convert_bytes_back (P := Try.prog) w 43 9 5 ⟨b, off, none⟩ 1 [c] Try.underlying43 Try.underlying5 Try.underlying9 (by
    intro j hj
    obtain rfl : j = 0 := by simpa using hj
    rw [Addr.add_lit]
    simp [h])

set_option maxRecDepth 100000 in
set_option maxHeartbeats 400000 in
theorem refNumber_any (f : Nat) : ∀ (n : Nat) (w : World), n < 128 ^ f → n < 18446744073709551616 →
    Calls Try.prog 60 #[.int .u64 n] w fun e w' => e = .returned (.string ⟨(Vm.enc n).toArray⟩) ∧ Below w.heap.size w w' := by
  have small : ∀ (n : Nat) (w : World), n < 128 → Calls Try.prog 60 #[.int .u64 n] w fun e w' => e = .returned (.string ⟨(Vm.enc n).toArray⟩) ∧ Below w.heap.size w w' := by
    intro n w hc
    obtain ⟨c, hcn⟩ : ∃ c : UInt8, c = UInt8.ofNat n := ⟨_, rfl⟩
    have hcn2 : (n : Int) = (c.toNat : Int) := by rw [hcn]; simp; omega
    have hcv : ∀ (w' : World) (b off : Nat), w'.cell? ⟨b, off, none⟩ = some (.int .u8 (n : Int)) → _ := fun w' b off h => conv_one w' b off c n hcn2 h
    have HC := Lib.hid hcn
    clear hcn hcn2
    go_enter Try.func60, Try.ntmps60
    go_wp2
    go_ret
    refine ⟨ret_str ?_, (Below.refl _ w).alloc (Nat.le_refl _) _⟩
    rw [Vm.enc_lt hc, HC.out]
  induction f with
  | zero =>
    intro n w h _
    exact small n w (by simp at h; omega)
  | succ f ih =>
    intro n w h hn
    have IH := Lib.hid ih
    have Hn := Lib.hid hn
    have Hf := Lib.hid h
    have HS := Lib.hid small
    clear ih hn h small
    by_cases hc : n < 128
    · exact HS.out n w hc
    · have hx : ∀ w', Calls Try.prog 60 #[.int .u64 (IntKind.u64.wrap ((n : Int) / 128))] w' fun e w'' => e = .returned (.string ⟨(Vm.enc (n / 128)).toArray⟩) ∧ Below w'.heap.size w' w'' := by
        intro w'
        have h := IH.out (n / 128) w' (by have := Hf.out; rw [Nat.pow_succ] at this; exact Nat.div_lt_of_lt_mul (by rw [Nat.mul_comm]; exact this)) (by have := Hn.out; omega)
        rw [show ((n / 128 : Nat) : Int) = IntKind.u64.wrap ((n : Int) / 128) from by rw [IntWalk.u64_in _ (by have := Hn.out; omega)]; omega] at h
        exact h
      have HX := Lib.hid hx
      clear hx
      obtain ⟨c, hcn⟩ : ∃ c : UInt8, c = UInt8.ofNat (n % 128 + 128) := ⟨_, rfl⟩
      have hcn2 : c.toNat = n % 128 + 128 := by rw [hcn, UInt8.toNat_ofNat']; omega
      have hcv : ∀ (w' : World) (b off : Nat), w'.cell? ⟨b, off, none⟩ = some (.int .u8 (IntKind.u8.wrap (IntKind.u64.wrap (128 + (n : Int).tmod 128)))) → _ := fun w' b off h => conv_one w' b off c _ (by rw [Int.tmod_eq_emod_of_nonneg (by omega), IntWalk.u64_in _ (by omega), IntWalk.u8_in _ (by omega)]; omega) h
      have HC := Lib.hid hcn
      clear hcn hcn2
      go_enter Try.func60, Try.ntmps60
      go_wp2
      have hl10 := Vm.enc_len10 (n := n / 128) (by have := Hn.out; omega)
      go_region_with (go_at_call 60; ((with_reducible refine (HX.out _).mono ?_); rintro e w2 ⟨rfl, hb2⟩; try (have hc2 : w2.cell? ⟨w.heap.size, 0, none⟩ = some (.int .u8 (IntKind.u8.wrap (IntKind.u64.wrap (128 + (n : Int).tmod 128)))) := by (rw [hb2.cell (p := ⟨w.heap.size, 0, none⟩) (by simp)]; simp))))
      all_goals
        go_wp2
        go_ret
        refine ⟨ret_str ?_, ?_⟩
        · rw [Vm.enc_ge (n := n) (by omega), ← HC.out]
          exact str_add [c] ⟨(Vm.enc (n / 128)).toArray⟩
        · first
            | exact bstep ((Below.refl _ w).alloc (Nat.le_refl _) _).drew hb2
            | exact (bstep (Below.refl _ w).drew hb2).alloc (bstep (Below.refl _ w).drew hb2).size _

theorem refNumber (n : Nat) (w : World) (hn : n < 18446744073709551616) :
    Calls Try.prog 60 #[.int .u64 n] w fun e w' => e = .returned (.string ⟨(Vm.enc n).toArray⟩) ∧ Below w.heap.size w w' :=
  refNumber_any 10 n w (by have : (18446744073709551616 : Nat) ≤ 128 ^ 10 := by decide
                           omega) hn

end Go.Proofs.Ytplpeokmhomojaa
