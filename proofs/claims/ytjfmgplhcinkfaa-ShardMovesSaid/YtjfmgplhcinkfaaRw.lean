/- A row of the partition table, as plain data. -/
import Derived.Test.YtjfmgplhcinkfaaGS28
import Derived.Test.YtjfmgplhcinkfaaKeysWhole
namespace Go.Proofs.Ytjfmgplhcinkfaa
open Go.RowKit
set_option linter.unusedVariables false

/-- A row of the partition table. -/
structure Rw where
  rs : List (ByteArray × ByteArray)
  ow : List Int
  pa : List Int
def wbas (l : List (List UInt8 × List UInt8)) : List (ByteArray × ByteArray) := l.map fun r => (⟨r.1.toArray⟩, ⟨r.2.toArray⟩)
theorem wbas_len (l : List (List UInt8 × List UInt8)) : (wbas l).length = l.length := by simp [wbas]
theorem tls_wbas (l : List (List UInt8 × List UInt8)) : tls (wbas l) = l := by
  unfold tls wbas
  rw [List.map_map]
  conv => rhs; rw [← List.map_id l]
  rfl
theorem wbas_tls (l : List (ByteArray × ByteArray)) : wbas (tls l) = l := by
  unfold tls wbas
  rw [List.map_map]
  conv => rhs; rw [← List.map_id l]
  rfl
def noP (p : Int) : Bool := decide (p < -1) || decide (6 ≤ p)
def noO (n : Nat) (o : Int) : Bool := decide (o < 1) || decide (((2 ^ n : Nat) : Int) ≤ o)
def okRw (c : Rw) : Bool := decide (1 ≤ c.pa.length ∧ c.pa.length ≤ 6 ∧ c.rs.length ≤ 8 ∧ c.ow.length = c.rs.length) && Km.whole (tls c.rs) && !(c.pa.any noP) && !(c.ow.any (noO c.pa.length))
end Go.Proofs.Ytjfmgplhcinkfaa
