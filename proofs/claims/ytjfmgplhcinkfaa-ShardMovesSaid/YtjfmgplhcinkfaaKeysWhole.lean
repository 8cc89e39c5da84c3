/- What keys.Whole and keys.Find answer, and the document's. -/
import Derived.Test.YtjfmgplhcinkfaaGS28
import Derived.Test.YtjfmgplhcinkfaaKeysRef3
import Derived.Deep.QuietTactic
import Derived.BigQuiet
namespace Go.Proofs.Ytjfmgplhcinkfaa
open Go.RowKit
set_option linter.unusedVariables false

namespace Km
/-- Do ranges go on from e to the end? -/
def whGo (first : Bool) (e : List UInt8) : List (List UInt8 × List UInt8) → Bool
  | [] => e.isEmpty
  | r :: t => good r.1 r.2 && r.1 == e && (first || !e.isEmpty) && whGo false r.2 t
def whole (rs : List (List UInt8 × List UInt8)) : Bool := !rs.isEmpty && whGo true [] rs
end Km

/-- A boxed range, and what it needs. -/
def Szs (rs : List (ByteArray × ByteArray)) : Prop := ∀ r ∈ rs, r.1.size ≤ 1099511627776 ∧ r.2.size ≤ 1099511627776

theorem wh_step {rs : List (ByteArray × ByteArray)} {k : Nat} (h : k < rs.length) (b : Bool) (e : List UInt8) :
    Km.whGo b e ((tls rs).drop k) = (Km.good rs[k].1.data.toList rs[k].2.data.toList && rs[k].1.data.toList == e && (b || !e.isEmpty) && Km.whGo false rs[k].2.data.toList ((tls rs).drop (k + 1))) := by
  rw [List.drop_eq_getElem_cons (by rw [tls_len]; exact h), tls_get rs k h, Km.whGo]

end Go.Proofs.Ytjfmgplhcinkfaa
