/- What the document's own Bytes of stamps answers. -/
import Derived.Test.YtplpeokmhomojaaStampRef
import Derived.Test.YtplpeokmhomojaaStampBytes
import Derived.Test.YtplpeokmhomojaaRefNumber
namespace Go.Proofs.Ytplpeokmhomojaa
open Go.RowKit
set_option linter.unusedVariables false

set_option maxRecDepth 100000 in
set_option maxHeartbeats 1000000 in
theorem refBytes_any (n s : Int) (w : World) :
    Calls Try.prog 62 #[.agg #[.int .i64 n, .int .i64 s]] w fun e w' => e = .returned (.string ⟨(sbytes n s).toArray⟩) ∧ Below w.heap.size w w' := by
  cases h : Sm.ok n s with
  | false =>
    have he : sbytes n s = [] := by simp [sbytes, h]
    rw [he]
    have H := Lib.hid h
    clear h he
    go_enter Try.func62, Try.ntmps62
    go_wp2_with fail
    refine (refSCheck_any n s _).mono ?_
    rintro e w1 ⟨rfl, hb1⟩
    rw [H.out]
    have hb2 := bstep (balloc (Below.refl _ w) _) hb1
    clear hb1
    go_wp2
    go_ret
    exact ⟨rfl, hb2⟩
  | true =>
    have he : sbytes n s = Vm.enc n.toNat ++ Vm.enc s.toNat := by simp [sbytes, h]
    rw [he]
    have H := Lib.hid h
    obtain ⟨a, b, rfl, rfl, h1, h2, h3⟩ := Sm.ok_nat h
    clear h he
    simp only [Int.toNat_natCast]
    have l1 := Vm.enc_len10 (n := a) (by omega)
    have l2 := Vm.enc_len10 (n := b) (by omega)
    have hsum : ¬ 9223372036854775807 < (Vm.enc a).length + (Vm.enc b).length := by omega
    have u1 : IntKind.u64.wrap (a : Int) = (a : Int) := IntWalk.u64_in _ (by omega)
    have u2 : IntKind.u64.wrap (b : Int) = (b : Int) := IntWalk.u64_in _ (by omega)
    go_enter Try.func62, Try.ntmps62
    go_wp2_with fail
    refine (refSCheck_any a b _).mono ?_
    rintro e w1 ⟨rfl, hb1⟩
    rw [H.out]
    have c0 : w1.cell? ⟨w.heap.size, 0, none⟩ = some (.int .i64 a) := kc hb1 (by simp)
    have c1 : w1.cell? ⟨w.heap.size, 1, none⟩ = some (.int .i64 b) := kc hb1 (by simp)
    have hb2 := bstep (balloc (Below.refl _ w) _) hb1
    clear hb1
    have g0 := And.intro c0 c1
    go_wp2_with fail
    go_region_held3 (fun w' => w'.cell? ⟨w.heap.size, 0, none⟩ = some (.int .i64 a) ∧ w'.cell? ⟨w.heap.size, 1, none⟩ = some (.int .i64 b))
      (first | exact g0 | exact g1 | exact g2)
      (first
        | (go_at_call_of 60 (a); ((refine (refNumber a _ (by omega)).mono ?_); rintro e wa ⟨rfl, ha⟩; have g1 := And.intro (kc ha g0.1) (kc ha g0.2)))
        | (go_at_call_of 60 (b); ((refine (refNumber b _ (by omega)).mono ?_); rintro e wb ⟨rfl, hb⟩; have g2 := And.intro (kc hb g1.1) (kc hb g1.2))))
    have hb4 := bstep (bstep hb2.drew ha) hb
    clear ha hb hb2 g0 g1 g2
    go_wp2
    go_ret
    exact ⟨ret_str (str_add _ _), hb4⟩
end Go.Proofs.Ytplpeokmhomojaa
