/- Arrays among the arguments, opened. Plain lemmas: they speak of no one program. -/
import Derived.WalkKit
import Derived.ProofKit
import Derived.OpenShut
import Derived.Lib.SmallJoins
namespace Go.Proofs.Ytgaghlofcokijaa
open Go.ChangeShapes Go.WideShapes Go.ChangeAt Go.RowKit

theorem okWide_array {P : Program} {w : World} {r : Reach} {base n : Nat} {t e : TypeId} {v : Value} (ht : P.underlying t = some (.array n e)) (h : Value.okWide P w r base t v) : ∃ cs, v = .agg cs ∧ cs.size = P.cellsOf t := by
  simp only [Value.okWide, ht] at h
  obtain ⟨cs, h1, h2, _⟩ := h
  exact ⟨cs, h1, h2⟩

/-- An array of strings, opened. -/
theorem open_strs {H : Type} {enc : TypeId × Value → H} {P : Program} {w : World} {r : Reach} {base b0 n : Nat} {spare : Nat → Bool} {held : Bool} {t e : TypeId} {v : Value} {d : DataW H} {p : List MemPlace}
    (ht : P.underlying t = some (.array n e)) (he : P.underlying e = some .string) (hc : P.cellsOf t = n) (hce : P.cellsOf e = 1)
    (hv : Value.okWide P w r b0 t v) (h : DataW.Trod enc P w base spare held t v d p) :
    ∃ ss : List ByteArray, v = .agg (ss.map Value.string).toArray ∧ ss.length = n ∧ ∀ s ∈ ss, s.size ≤ maxLen := by
  obtain ⟨cs, rfl, hsz⟩ := okWide_array ht hv
  obtain ⟨fuel, hf⟩ := h
  obtain ⟨xs, m, _, _, hcl, hxl, hx⟩ := DataW.trod_array ht hf
  have key : ∀ i (hi : i < cs.size), ∃ s : ByteArray, cs[i] = .string s ∧ s.size ≤ maxLen := by
    intro i hi
    have hin : i < n := by omega
    have h1 := hx i hin
    rw [hce, Nat.mul_one] at h1
    have h2 : xs[i]? = some (xs[i]'(by omega)) := by simp
    rw [h2] at h1
    have h3 : ((Value.agg cs).cells.toList.drop i).take 1 = [cs[i]] := by
      have e : (Value.agg cs).cells = cs := rfl
      rw [e, List.drop_eq_getElem_cons (by simpa using hi)]
      simp
    obtain ⟨s, hs1, _, hs3⟩ := DataW.trod_string he h1
    rw [h3] at hs1
    simp at hs1
    exact ⟨s, hs1, hs3⟩
  refine ⟨cs.toList.map fun v => match v with | .string s => s | _ => ByteArray.empty, ?_, by simp; omega, ?_⟩
  · congr 1
    apply Array.ext'
    apply List.ext_getElem
    · simp
    · intro i h1 h2
      obtain ⟨s, hs, _⟩ := key i (by simpa using h1)
      simp [hs]
  · intro s hs
    simp at hs
    obtain ⟨v, hv, rfl⟩ := hs
    obtain ⟨i, hi, rfl⟩ := Array.mem_iff_getElem.1 hv
    obtain ⟨s, hs, hl⟩ := key i hi
    simp [hs, hl]

/-- A slice of strings that came in: its elements. -/
def StrsIn (w : World) (a : Option Addr) (len : Nat) (ss : List ByteArray) : Prop :=
  ss.length = len ∧ len ≤ 9223372036854775807 ∧ (∀ s ∈ ss, s.size ≤ maxLen) ∧ ∀ i (h : i < ss.length), ∃ b off, a = some ⟨b, off, none⟩ ∧ w.cell? ⟨b, off + i, none⟩ = some (.string ss[i])
theorem StrsIn.nil (w : World) : StrsIn w none 0 [] := ⟨rfl, by omega, by simp, fun i h => absurd h (by simp)⟩
theorem StrsIn.mk {w : World} {x : Addr} {len cap : Nat} {c : Bool} {ss : List ByteArray} (hl : len ≤ cap) (hm : cap ≤ maxLen) (hz : ss.length = if c = true then cap else len)
    (hcell : ∀ i, i < ss.length → w.cell? (x.add i) = some (.string (ss.getD i ByteArray.empty))) (hws : ∀ s ∈ ss, s.size ≤ maxLen) : StrsIn w (some x) len (ss.take len) := by
  have hle : len ≤ ss.length := by rw [hz]; split <;> omega
  unfold maxLen at hm
  refine ⟨by simp; omega, by omega, fun s hs => hws s (List.mem_of_mem_take hs), fun i hi => ?_⟩
  have hi' : i < ss.length := by simp at hi; omega
  obtain ⟨b, off, spot⟩ := x
  have hc := hcell i hi'
  have hspot : spot = none := by simpa [Addr.add] using World.cell?_spot (hcell 0 (by omega))
  subst hspot
  refine ⟨b, off, rfl, ?_⟩
  have e : (ss.take len)[i] = ss[i] := by simp
  rw [e]
  rw [Addr.add_lit] at hc
  simpa [List.getD_eq_getElem?_getD, hi'] using hc

/-- A slice of integers that came in: nil, or a row of 'cap' cells, the numbers zs; the first 'len' are its elements. -/
def IsRow (k : IntKind) (w : World) (a : Option Addr) (len cap : Nat) (zs : List Int) : Prop :=
  (a = none ∧ len = 0 ∧ cap = 0 ∧ zs = []) ∨
  ∃ x, a = some x ∧ len ≤ cap ∧ cap ≤ maxLen ∧ zs.length = cap ∧ (∀ i, i < zs.length → w.cell? (x.add i) = some (.int k (zs.getD i 0))) ∧ ∀ n ∈ zs, (Lit.int k n).wf = true

end Go.Proofs.Ytgaghlofcokijaa
