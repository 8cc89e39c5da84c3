/- Rows of writes that a law makes by itself. -/
import Derived.Test.YtfnfpanmbmkhmaaGN517
namespace Go.Proofs.Ytfnfpanmbmkhmaa
open Go.RowKit Go.Maps
set_option linter.unusedVariables false
set_option linter.unusedSimpArgs false

/-- A write, and where the row of what it saw lies. -/
abbrev Wp := Wr × (Option Addr × Nat)
def su (x : Wp) : Value := .slice x.2.1 x.1.saw.length x.2.2
def KWr : RK Wp where
  T := 49
  S := 22
  sz := 3
  bt := 40
  z := .agg #[.int .i64 0, .int .i64 0, .slice none 0 0]
  enc x := [.int .i64 x.1.key, .int .i64 x.1.site, su x]
theorem kwr_ok : KWr.Ok where
  len _ := rfl
  pos := by decide
  one x u hu := by
    simp [KWr] at hu
    rcases hu with rfl | rfl | rfl <;> rfl
  und := Try.underlying22
  inf := by kernel_rfl
  zc := rfl
  bb := by decide
theorem IntsIn.off {w w' : World} {u : Value} {a : Option Addr} {l : List Int} {c : Nat} (h : IntsIn w a l) (ho : l = [] ∨ ∀ g, u.ownBlock = some g → (Value.slice a l.length c).ownBlock ≠ some g) (hs : w.heap.size ≤ w'.heap.size) (hk : KeptD u w w') : IntsIn w' a l := by
  intro i hi
  obtain ⟨b, off, rfl, hlt, hc⟩ := h i hi
  rcases ho with e | ho
  · subst e
    simp at hi
  · exact ⟨b, off, rfl, by omega, by rw [World.cell?_of_block (hk b hlt (fun e => ho b e rfl))]; exact hc⟩
structure WMade (w : World) (base : Nat) (u : Value) (xs : List Wp) : Prop where
  own : OwnR KWr w base u xs
  ints : ∀ x ∈ xs, IntsIn w x.2.1 x.1.saw ∧ x.1.saw.length ≤ 9223372036854775807
  off : ∀ x ∈ xs, x.1.saw = [] ∨ ∀ g, u.ownBlock = some g → (su x).ownBlock ≠ some g
theorem WMade.nil (w : World) (base : Nat) : WMade w base (.slice none 0 0) [] := ⟨OwnR.nil _ _ _, by simp, by simp⟩
theorem WMade.below {w w' : World} {base : Nat} {u : Value} {xs : List Wp} (h : WMade w base u xs) (hb : Below w.heap.size w w') : WMade w' base u xs := ⟨h.own.below hb, fun x hx => ⟨(h.ints x hx).1.below hb, (h.ints x hx).2⟩, h.off⟩
theorem ints_lt {w : World} {a : Option Addr} {l : List Int} {c : Nat} (h : IntsIn w a l) (hne : l ≠ []) {b : Nat} (hb : (Value.slice a l.length c).ownBlock = some b) : b < w.heap.size := by
  obtain ⟨b', off, rfl, hlt, _⟩ := h 0 (List.length_pos_iff.2 hne)
  simp [Value.ownBlock] at hb
  omega
theorem WMade.push {w w' : World} {base g cap : Nat} {u : Value} {xs : List Wp} {x : Wp} (h : WMade w base u xs) (ho : OwnR KWr w' base (.slice (some ⟨g, 0, none⟩) (xs.length + 1) cap) (xs ++ [x])) (hk : KeptD u w w') (hs : w.heap.size ≤ w'.heap.size) (hat : u.ownBlock = some g ∨ w.heap.size ≤ g)
    (hp : IntsIn w x.2.1 x.1.saw ∧ x.1.saw.length ≤ 9223372036854775807) (hox : x.1.saw = [] ∨ ∀ g, u.ownBlock = some g → (su x).ownBlock ≠ some g) :
    WMade w' base (.slice (some ⟨g, 0, none⟩) (xs.length + 1) cap) (xs ++ [x]) := by
  have key : ∀ y : Wp, (IntsIn w y.2.1 y.1.saw ∧ y.1.saw.length ≤ 9223372036854775807) → (y.1.saw = [] ∨ ∀ g, u.ownBlock = some g → (su y).ownBlock ≠ some g) →
      (IntsIn w' y.2.1 y.1.saw ∧ y.1.saw.length ≤ 9223372036854775807) ∧ (y.1.saw = [] ∨ ∀ g', (Value.slice (some ⟨g, 0, none⟩) (xs.length + 1) cap).ownBlock = some g' → (su y).ownBlock ≠ some g') := by
    intro y hy hoy
    refine ⟨⟨hy.1.off (c := y.2.2) hoy hs hk, hy.2⟩, ?_⟩
    by_cases e : y.1.saw = []
    · exact .inl e
    · right
      intro g' e1 e2
      have e3 : g' = g := by simpa [Value.ownBlock] using e1.symm
      subst e3
      have hlt := ints_lt (c := y.2.2) hy.1 e e2
      rcases hat with h1 | h1
      · rcases hoy with h2 | h2
        · exact e h2
        · exact h2 _ h1 e2
      · omega
  refine ⟨ho, fun y hy => ?_, fun y hy => ?_⟩
  · rw [List.mem_append, List.mem_singleton] at hy
    rcases hy with hy | rfl
    · exact (key y (h.ints y hy) (h.off y hy)).1
    · exact (key y hp hox).1
  · rw [List.mem_append, List.mem_singleton] at hy
    rcases hy with hy | rfl
    · exact (key y (h.ints y hy) (h.off y hy)).2
    · exact (key y hp hox).2
theorem WMade.wr {w : World} {base : Nat} {a : Option Addr} {n c : Nat} {xs : List Wp} (h : WMade w base (.slice a n c) xs) : WrIn w a (xs.map Prod.fst) := by
  intro i hi
  have hi' : i < xs.length := by simpa using hi
  obtain ⟨b, off, rfl, hlt, hc⟩ := RowIn.of_own kwr_ok h.own i hi'
  obtain ⟨h1, h2⟩ := h.ints _ (List.getElem_mem hi')
  refine ⟨b, off, xs[i].2.1, xs[i].2.2, rfl, hlt, ?_, ?_, ?_, ?_, ?_⟩
  · have := hc 0 _ rfl
    simpa [KWr] using this
  · have := hc 1 _ rfl
    simpa [KWr] using this
  · have := hc 2 _ rfl
    simpa [KWr, su] using this
  · simpa using h2
  · simpa using h1
theorem rowW_snoc (k : Nat) : rowW (k + 1) = rowW k ++ [⟨(k : Int), 0, if 0 < k then [(k : Int) - 1] else []⟩] := by
  unfold rowW
  rw [List.range_succ, List.map_append]
  rfl
theorem rowW_len (k : Nat) : (rowW k).length = k := by simp [rowW]
theorem row_last : ∀ n : Fin 8, ((mkV (rowW (n.1 + 1)))[n.1]?.map fun v => v.key.data.toList) = some (keyAt n.1).data.toList := by
  decide +kernel
end Go.Proofs.Ytfnfpanmbmkhmaa
