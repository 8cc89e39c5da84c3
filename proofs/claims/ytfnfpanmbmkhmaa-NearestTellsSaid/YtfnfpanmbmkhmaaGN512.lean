/- Writes by plain numbers in memory. -/
import Derived.Test.YtfnfpanmbmkhmaaGN511
namespace Go.Proofs.Ytfnfpanmbmkhmaa
open Go.RowKit Go.Maps
set_option linter.unusedVariables false
set_option linter.unusedSimpArgs false

theorem i64_and7 (n : Int) : bits .and .i64 n 7 = n % 8 := by
  have e : bits .and .i64 n 7 = IntKind.i64.wrap ((BitVec.ofInt 64 n &&& BitVec.ofInt 64 7).toNat : Nat) := rfl
  have h : (BitVec.ofInt 64 n).toNat = _ := BitVec.toNat_ofInt n
  have l : (BitVec.ofInt 64 n &&& BitVec.ofInt 64 7).toNat = (BitVec.ofInt 64 n).toNat % 8 := by
    rw [BitVec.toNat_and, show (BitVec.ofInt 64 7).toNat = 2 ^ 3 - 1 by decide, Nat.and_two_pow_sub_one_eq_mod]
  rw [e, l, IntKind.wrap_i64]
  omega
theorem i64_and3 (n : Int) : bits .and .i64 n 3 = n % 4 := by
  have e : bits .and .i64 n 3 = IntKind.i64.wrap ((BitVec.ofInt 64 n &&& BitVec.ofInt 64 3).toNat : Nat) := rfl
  have h : (BitVec.ofInt 64 n).toNat = _ := BitVec.toNat_ofInt n
  have l : (BitVec.ofInt 64 n &&& BitVec.ofInt 64 3).toNat = (BitVec.ofInt 64 n).toNat % 4 := by
    rw [BitVec.toNat_and, show (BitVec.ofInt 64 3).toNat = 2 ^ 2 - 1 by decide, Nat.and_two_pow_sub_one_eq_mod]
  rw [e, l, IntKind.wrap_i64]
  omega
/-- A row of ints in memory. -/
def IntsIn (w : World) (a : Option Addr) (l : List Int) : Prop := ∀ i (h : i < l.length), ∃ b off, a = some ⟨b, off, none⟩ ∧ b < w.heap.size ∧ w.cell? ⟨b, off + i, none⟩ = some (.int .i64 l[i])
theorem IntsIn.below {w w' : World} {a : Option Addr} {l : List Int} (h : IntsIn w a l) (hb : Below w.heap.size w w') : IntsIn w' a l := by
  intro i hi
  obtain ⟨b, off, rfl, hlt, hc⟩ := h i hi
  exact ⟨b, off, rfl, by have := hb.size; omega, kcell hb hlt hc⟩
/-- A row of writes in memory. -/
def WrIn (w : World) (a : Option Addr) (ws : List Wr) : Prop :=
  ∀ i (h : i < ws.length), ∃ b off sa sc, a = some ⟨b, off, none⟩ ∧ b < w.heap.size ∧ w.cell? ⟨b, off + i * 3, none⟩ = some (.int .i64 ws[i].key) ∧ w.cell? ⟨b, off + i * 3 + 1, none⟩ = some (.int .i64 ws[i].site) ∧ w.cell? ⟨b, off + i * 3 + 2, none⟩ = some (.slice sa ws[i].saw.length sc) ∧ ws[i].saw.length ≤ 9223372036854775807 ∧ IntsIn w sa ws[i].saw
theorem WrIn.below {w w' : World} {a : Option Addr} {l : List Wr} (h : WrIn w a l) (hb : Below w.heap.size w w') : WrIn w' a l := by
  intro i hi
  obtain ⟨b, off, sa, sc, rfl, hlt, h0, h1, h2, h3, h4⟩ := h i hi
  exact ⟨b, off, sa, sc, rfl, by have := hb.size; omega, kcell hb hlt h0, kcell hb hlt h1, kcell hb hlt h2, h3, h4.below hb⟩
/-- A past that no change of the row's own block can turn. -/
def Off (u : Value) (x : Vp) : Prop := x.1.past = [] ∨ ∀ g, u.ownBlock = some g → (pu x).ownBlock ≠ some g
theorem DepAt.off {w w' : World} {u v : Value} {l : List De} (h : DepAt w v l) (ho : l = [] ∨ ∀ g, u.ownBlock = some g → v.ownBlock ≠ some g) (hs : w.heap.size ≤ w'.heap.size) (hk : KeptD u w w') : DepAt w' v l := by
  rcases ho with e | ho
  · obtain ⟨a, cap, rfl, h1, h2, h3, hr⟩ := h
    exact ⟨a, cap, rfl, h1, h2, h3, fun i hi => absurd hi (by rw [e]; simp)⟩
  · by_cases e : l = []
    · obtain ⟨a, cap, rfl, h1, h2, h3, hr⟩ := h
      exact ⟨a, cap, rfl, h1, h2, h3, fun i hi => absurd hi (by rw [e]; simp)⟩
    · refine h.block hs (fun b hb => hk b (h.lt e hb) (fun e2 => ho b e2 hb))
/-- Rows of versions that 'made' makes: the row, and the pasts apart from it. -/
structure VMade (w : World) (base : Nat) (u : Value) (xs : List Vp) : Prop where
  own : OwnR KV w base u xs
  pst : ∀ x ∈ xs, DepAt w (pu x) x.1.past
  off : ∀ x ∈ xs, Off u x
theorem VMade.nil (w : World) (base : Nat) : VMade w base (.slice none 0 0) [] := ⟨OwnR.nil _ _ _, by simp, by simp⟩
theorem VMade.below {w w' : World} {base : Nat} {u : Value} {xs : List Vp} (h : VMade w base u xs) (hb : Below w.heap.size w w') : VMade w' base u xs := ⟨h.own.below hb, fun x hx => (h.pst x hx).below hb, h.off⟩
theorem VMade.row {w : World} {base : Nat} {u : Value} {xs : List Vp} (h : VMade w base u xs) : VRow w u xs := VRow.of_own h.own h.pst
theorem VMade.mono {w : World} {base base' : Nat} {u : Value} {xs : List Vp} (h : VMade w base u xs) (hb : base' ≤ base) : VMade w base' u xs := ⟨h.own.mono hb, h.pst, h.off⟩
/-- One version more. -/
theorem VMade.push {w w' : World} {base g cap : Nat} {u : Value} {xs : List Vp} {x : Vp} (h : VMade w base u xs) (ho : OwnR KV w' base (.slice (some ⟨g, 0, none⟩) (xs.length + 1) cap) (xs ++ [x])) (hk : KeptD u w w') (hs : w.heap.size ≤ w'.heap.size) (hat : u.ownBlock = some g ∨ w.heap.size ≤ g) (hp : DepAt w (pu x) x.1.past) (hoff : Off u x) :
    VMade w' base (.slice (some ⟨g, 0, none⟩) (xs.length + 1) cap) (xs ++ [x]) := by
  have key : ∀ y : Vp, DepAt w (pu y) y.1.past → Off u y → DepAt w' (pu y) y.1.past ∧ Off (.slice (some ⟨g, 0, none⟩) (xs.length + 1) cap) y := by
    intro y hy hoy
    refine ⟨hy.off hoy hs hk, ?_⟩
    by_cases e : y.1.past = []
    · exact .inl e
    · right
      intro g' e1 e2
      have e3 : g' = g := by simpa [Value.ownBlock] using e1.symm
      subst e3
      have hlt := hy.lt e e2
      rcases hat with h1 | h1
      · rcases hoy with h2 | h2
        · exact e h2
        · exact h2 _ h1 e2
      · omega
  refine ⟨ho, fun y hy => ?_, fun y hy => ?_⟩
  · rw [List.mem_append, List.mem_singleton] at hy
    rcases hy with hy | rfl
    · exact (key y (h.pst y hy) (h.off y hy)).1
    · exact (key y hp hoff).1
  · rw [List.mem_append, List.mem_singleton] at hy
    rcases hy with hy | rfl
    · exact (key y (h.pst y hy) (h.off y hy)).2
    · exact (key y hp hoff).2
theorem inv_ok {out : List Ve} (h : Inv out) (hl : out.length ≤ 14) : ∀ v ∈ out, VOk v := by
  intro v hv
  obtain ⟨i, hi, e⟩ := h.keys v hv
  have h1 := h.snd.ok v hv
  have h2 := h.snd.chk v hv
  refine ⟨by rw [e]; simp [keyAt, ByteArray.size], ?_, chkD_srt h2, ?_⟩
  · simp [Sm.ok] at h1
    unfold In64
    omega
  · simp [chkD] at h2
    omega
theorem mk_take (ws : List Wr) {k : Nat} (h : k < ws.length) : (ws.take (k + 1)).foldl mkS [] = mkS ((ws.take k).foldl mkS []) ws[k] := by
  rw [List.take_succ_eq_append_getElem h, List.foldl_append]
  rfl
theorem mk_inv (ws : List Wr) {k : Nat} (h : k ≤ 14) : Inv ((ws.take k).foldl mkS []) ∧ ((ws.take k).foldl mkS []).length ≤ 14 := by
  have hl := List.length_take_le k ws
  obtain ⟨h1, h2⟩ := inv_go (ws.take k) [] inv_nil (by simp; omega)
  exact ⟨h1, by simp at h2; omega⟩
theorem mk_all (ws : List Wr) {k : Nat} (hk : k ≤ ws.length) (h14 : k ≤ 14) (h : ¬ (k < ws.length ∧ k < 14)) : (ws.take k).foldl mkS [] = mkV ws := by
  unfold mkV
  by_cases e : k = 14
  · rw [e]
  · rw [List.take_of_length_le (by omega), List.take_of_length_le (by omega)]
end Go.Proofs.Ytfnfpanmbmkhmaa
