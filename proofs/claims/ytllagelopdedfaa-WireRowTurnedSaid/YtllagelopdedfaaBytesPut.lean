/- A text as bytes, one of which is written anew. -/
import Derived.Test.YtllagelopdedfaaGW27
import Derived.Lib.ConvBytes
import Derived.Lib.SlBytesRow
import Derived.Lib.RabinKarpLaws
namespace Go.Proofs.Ytllagelopdedfaa
open Go.RowKit
set_option linter.unusedVariables false
set_option linter.unusedSimpArgs false

theorem conv_bytes (B : ByteArray) (w : World) : ∃ cp wb, (convert 9 56 (.string B)).run Try.prog w = .ok (.slice (some ⟨w.heap.size, 0, none⟩) B.size cp) wb ∧ Below w.heap.size w wb ∧ Lib.Bytes wb w.heap.size 0 B ∧ (∀ k, k < B.size → wb.frozen? ⟨w.heap.size, k, none⟩ = false) ∧ w.heap.size < wb.heap.size := by
  refine ⟨_, _, Lib.run_convert_string_bytes w _ _ 5 B Try.underlying9 Try.underlying56 Try.underlying5, ⟨rfl, rfl, rfl, by rw [Lib.bytesWorld_size]; omega, fun k hk => Lib.bytesWorld_at_old w _ B k hk⟩, ?_, ?_, by rw [Lib.bytesWorld_size]; omega⟩
  · intro i hi
    rw [Nat.zero_add, Lib.bytesWorld_cell w _ B i hi]
    congr 3
    rw [List.getD, byte_at B i hi]
    rfl
  · intro k hk
    simp [World.frozen?, Lib.bytesWorld_at_new, Lib.bytesCells]
    omega

theorem bidx (q : Int) (L : Nat) (h0 : 0 < L) (h1 : L ≤ 1600) : ∃ k : Nat, (wrap64 (q.tmod (L : Int) + (L : Int))).tmod (L : Int) = (k : Int) ∧ k < L := by
  have a1 := Int.tmod_lt_of_pos q (b := (L : Int)) (by omega)
  have a2 : -(L : Int) < q.tmod (L : Int) := by
    exact Int.lt_tmod_of_pos q (b := (L : Int)) (by omega)
  have a3 : wrap64 (q.tmod (L : Int) + (L : Int)) = q.tmod (L : Int) + (L : Int) := by unfold wrap64; omega
  rw [a3]
  have b1 := Int.tmod_lt_of_pos (q.tmod (L : Int) + (L : Int)) (b := (L : Int)) (by omega)
  have b2 := Int.tmod_nonneg (L : Int) (a := q.tmod (L : Int) + (L : Int)) (by omega)
  exact ⟨((q.tmod (L : Int) + (L : Int)).tmod (L : Int)).toNat, by omega, by omega⟩
theorem prL_len (s : List UInt8) (a : Int) : (prL (prD s a)).length ≤ 1000000 := by
  unfold prD
  cases rd s a with
  | none => simp [prL]
  | some x =>
    obtain ⟨n, e⟩ := x
    simp only
    split
    · simp [prL]
    · rename_i h24
      cases hg : goL s n [] e with
      | none => simp [finL, prL]
      | some y =>
        obtain ⟨l, e'⟩ := y
        obtain ⟨m, rfl, hm, _⟩ := goL_pre s n [] e l e' hg
        rw [finL]
        split
        · simp [prL]; omega
        · simp [prL]
theorem wrap_u8 (z : Int) : ∃ y : UInt8, IntKind.u8.wrap z = (y.toNat : Int) := by
  have h : IntKind.u8.wrap z = z % 256 := rfl
  refine ⟨UInt8.ofNat (z % 256).toNat, ?_⟩
  rw [h, UInt8.toNat_ofNat']
  omega
theorem xor_u8 (a b : Int) : ∃ y : UInt8, bits .xor .u8 a b = (y.toNat : Int) := by
  have e : bits .xor .u8 a b = IntKind.u8.wrap ((BitVec.ofInt 8 a ^^^ BitVec.ofInt 8 b).toNat : Nat) := rfl
  rw [e]
  exact wrap_u8 _
theorem bytes_put {w : World} {b : Nat} {B : ByteArray} (h : Lib.Bytes w b 0 B) {k : Nat} (hk : k < B.size) (x : UInt8) : ∃ S : ByteArray, S.size = B.size ∧ Lib.Bytes (w.setCell ⟨b, k, none⟩ (.int .u8 (x.toNat : Int))) b 0 S := by
  have hsz : ByteArray.size ⟨B.data.set k x hk⟩ = B.size := Array.size_set hk
  refine ⟨⟨B.data.set k x hk⟩, hsz, fun i hi => ?_⟩
  have hi' : i < B.size := by rw [← hsz]; exact hi
  rw [Nat.zero_add]
  have c0 := h i hi'
  rw [Nat.zero_add] at c0
  by_cases e : i = k
  · subst e
    rw [World.cell?_setCell_same _ _ _ c0]
    have : (⟨B.data.set i x hk⟩ : ByteArray)[i]'hi = x := by
      show (B.data.set i x hk)[i]'_ = x
      simp
    rw [this]
  · rw [World.cell?_setCell_other _ _ _ _ (by simp [e]), c0]
    have : (⟨B.data.set k x hk⟩ : ByteArray)[i]'hi = B[i]'hi' := by
      show (B.data.set k x hk)[i]'_ = B.data[i]'_
      rw [Array.getElem_set_ne]
      omega
    rw [this]
end Go.Proofs.Ytllagelopdedfaa
