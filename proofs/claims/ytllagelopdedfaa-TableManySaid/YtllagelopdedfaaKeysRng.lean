/- Rows of ranges in memory. -/
import Derived.Test.YtllagelopdedfaaKeysHas
import Derived.Test.YtllagelopdedfaaOpen2
namespace Go.Proofs.Ytllagelopdedfaa
open Go.RowKit
set_option linter.unusedVariables false

theorem RngIn.below {w w' : World} {a : Option Addr} {rs : List (ByteArray × ByteArray)} (h : RngIn w a rs) (hb : Below w.heap.size w w') : RngIn w' a rs := by
  intro i hi
  obtain ⟨b, off, rfl, hlt, h0, h1⟩ := h i hi
  exact ⟨b, off, rfl, by have := hb.size; omega, kcell hb hlt h0, kcell hb hlt h1⟩

/-- The texts of ranges. -/
def tls (rs : List (ByteArray × ByteArray)) : List (List UInt8 × List UInt8) := rs.map fun r => (r.1.data.toList, r.2.data.toList)
theorem tls_len (rs : List (ByteArray × ByteArray)) : (tls rs).length = rs.length := by simp [tls]
theorem tls_get (rs : List (ByteArray × ByteArray)) (i : Nat) (h : i < rs.length) : (tls rs)[i]'(by rw [tls_len]; exact h) = (rs[i].1.data.toList, rs[i].2.data.toList) := by simp [tls]
theorem tls_take (rs : List (ByteArray × ByteArray)) (k : Nat) : (tls rs).take k = tls (rs.take k) := by simp [tls, List.map_take]

end Go.Proofs.Ytllagelopdedfaa
