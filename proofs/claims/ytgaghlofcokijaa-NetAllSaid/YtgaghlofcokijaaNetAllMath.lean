/- The mathematics of NetAll: what is sent again, and picked, comes. -/
import Derived.Test.YtgaghlofcokijaaNetMath
namespace Go.Proofs.Ytgaghlofcokijaa
set_option linter.unusedVariables false
namespace Ses
/-- The packets on their way are those that are open, in order. -/
def InOrder (s : Ses) : Prop := s.way = Lk.pk s.m (s.all.drop s.m)
theorem pick_len (s : Ses) (h : 0 < s.way.length) : (s.pick 0 0).way.length = s.way.length - 1 := by
  unfold Ses.pick
  rw [dif_pos ⟨by omega, by simpa using h⟩, if_neg (by decide), if_neg (by decide)]
  unfold Ses.dlv Ses.out
  split <;> exact List.length_eraseIdx_of_lt (by simpa using h)
theorem Ok.pick_opn {s : Ses} (h : s.Ok) : ((s.pickT 0 0).2 = false ∧ (s.pick 0 0).opn = s.opn) ∨ ((s.pickT 0 0).2 = true ∧ (s.pick 0 0).opn + 1 = s.opn) := by
  rcases h.pick_told 0 0 with ⟨e, e2⟩ | ⟨hm, e, e2⟩
  · left
    refine ⟨e, ?_⟩
    unfold opn
    rw [pick_all, e2]
  · right
    rw [e]
    refine ⟨rfl, ?_⟩
    unfold opn
    rw [pick_all, e2]
    omega
theorem InOrder.len {s : Ses} (h : s.InOrder) : s.way.length = s.opn := by
  rw [h, Lk.pk_len, List.length_drop]
  rfl
theorem InOrder.pick {s : Ses} (h : s.InOrder) (h0 : 0 < s.way.length) : (s.pick 0 0).InOrder := by
  have hl := h.len
  have hm : s.m < s.all.length := by unfold opn at hl; omega
  have hw : s.way = ((s.m : Int), s.all[s.m]) :: Lk.pk (s.m + 1) (s.all.drop (s.m + 1)) := by
    rw [h, List.drop_eq_getElem_cons hm]
    rfl
  unfold Ses.pick
  rw [dif_pos ⟨by omega, by simpa using h0⟩, if_neg (by decide), if_neg (by decide)]
  have e0 : s.way[(0 : Int).toNat]'(by simpa using h0) = ((s.m : Int), s.all[s.m]) := by
    have : ∀ (l : List (Int × ByteArray)) (e : s.way = l) (h : 0 < l.length), s.way[(0 : Int).toNat]'(by simpa using h0) = l[0] := by
      intro l e h
      subst e
      rfl
    rw [this _ hw (by simp)]
    rfl
  rw [e0]
  unfold Ses.dlv InOrder
  rw [if_pos rfl]
  show s.way.eraseIdx (0 : Int).toNat = Lk.pk (s.m + 1) (s.all.drop (s.m + 1))
  rw [hw]
  rfl
theorem Ok.again_order {s : Ses} (h : s.Ok) (h0 : s.way.length = 0) : s.again.InOrder := by
  have h8 := h.opn8
  have e : s.way = [] := List.length_eq_zero_iff.1 h0
  unfold InOrder Ses.again
  dsimp only
  rw [e, List.nil_append, List.take_of_length_le]
  rw [Lk.pk_len, List.length_drop]
  unfold opn at h8
  simp
  omega
/-- What holds in round r. -/
structure Rnd (O r came : Nat) (s : Ses) : Prop where
  sum : came + s.opn = O
  one : 1 ≤ r → s.InOrder
  two : 2 ≤ r → s.opn = 0
theorem Rnd.next {O r came : Nat} {s : Ses} (h : Rnd O r came s) (hok : s.Ok) (h0 : 0 < s.way.length) : Rnd O r (if (s.pickT 0 0).2 then came + 1 else came) (s.pick 0 0) := by
  have hs := h.sum
  rcases hok.pick_opn with ⟨e, e2⟩ | ⟨e, e2⟩
  · rw [e]
    refine ⟨by rw [e2]; exact hs, fun h1 => (h.one h1).pick h0, fun h2 => ?_⟩
    rw [e2]
    exact h.two h2
  · rw [e]
    refine ⟨?_, fun h1 => (h.one h1).pick h0, fun h2 => ?_⟩
    · rw [if_pos rfl]; omega
    · have := h.two h2
      omega
theorem Rnd.again {O r came : Nat} {s : Ses} (h : Rnd O r came s) (hok : s.Ok) (h0 : s.way.length = 0) : Rnd O (r + 1) came s.again := by
  refine ⟨h.sum, fun _ => hok.again_order h0, fun h2 => ?_⟩
  have h3 := (h.one (by omega)).len
  show s.opn = 0
  omega
end Ses
end Go.Proofs.Ytgaghlofcokijaa
