/- What the document's own Text answers. -/
import Derived.Test.YtplpeokmhomojaaRefNumber
namespace Go.Proofs.Ytplpeokmhomojaa
open Go.RowKit
set_option linter.unusedVariables false

set_option maxRecDepth 100000 in
theorem refText (s : ByteArray) (w : World) (hs : s.size ≤ 1099511627776) :
    Calls Try.prog 61 #[.string s] w fun e w' => e = .returned (.string ⟨(Vm.enc s.size ++ s.data.toList).toArray⟩) ∧ Below w.heap.size w w' := by
  have hq := Vm.enc_len10 (n := s.size) (by omega)
  go_enter Try.func61, Try.ntmps61
  go_wp2_with (go_at_call 60; refine (refNumber s.size _ (by omega)).mono ?_; rintro e w2 ⟨rfl, hbel⟩)
  go_ret
  exact ⟨ret_str (str_add _ _), hbel⟩

end Go.Proofs.Ytplpeokmhomojaa
