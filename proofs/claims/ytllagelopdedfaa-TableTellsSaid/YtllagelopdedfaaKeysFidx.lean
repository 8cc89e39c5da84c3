/- The place of the first range that has a key. -/
import Derived.Test.YtllagelopdedfaaKeysRng
namespace Go.Proofs.Ytllagelopdedfaa
open Go.RowKit
set_option linter.unusedVariables false

namespace Km
def fidx (rs : List (List UInt8 × List UInt8)) (key : List UInt8) : Int := match rs.findIdx? (fun r => has r.1 r.2 key) with | none => -1 | some i => i
theorem fidx_hit {rs : List (List UInt8 × List UInt8)} {key : List UInt8} {k : Nat} (hk : k < rs.length) (h : ∀ j (hj : j < rs.length), j < k → has rs[j].1 rs[j].2 key = false) (hh : has rs[k].1 rs[k].2 key = true) : fidx rs key = k := by
  unfold fidx
  have : rs.findIdx? (fun r => has r.1 r.2 key) = some k := by
    rw [List.findIdx?_eq_some_iff_getElem]
    refine ⟨hk, by simpa using hh, fun j hj => ?_⟩
    rw [h j (by omega) hj]
    simp
  rw [this]
theorem fidx_none {rs : List (List UInt8 × List UInt8)} {key : List UInt8} (h : ∀ j (hj : j < rs.length), has rs[j].1 rs[j].2 key = false) : fidx rs key = -1 := by
  unfold fidx
  have : rs.findIdx? (fun r => has r.1 r.2 key) = none := by
    rw [List.findIdx?_eq_none_iff]
    intro x hx
    obtain ⟨j, hj, rfl⟩ := List.getElem_of_mem hx
    exact h j hj
  rw [this]
end Km
end Go.Proofs.Ytllagelopdedfaa
