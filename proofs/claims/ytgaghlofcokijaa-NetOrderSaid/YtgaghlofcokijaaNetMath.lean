/- The sessions of a net: the mathematics (no Go in it). -/
import Derived.Test.YtgaghlofcokijaaLinkMath
namespace Go.Proofs.Ytgaghlofcokijaa
set_option linter.unusedVariables false

/-- A session: all that was sent, how many are answered (so many were told), the packets on their way. -/
structure Ses where
  all : List ByteArray
  m : Nat
  way : List (Int × ByteArray)
namespace Ses
def zero : Ses := ⟨[], 0, []⟩
def opn (s : Ses) : Nat := s.all.length - s.m
structure Ok (s : Ses) : Prop where
  lo : s.m ≤ s.all.length
  hi : s.all.length ≤ s.m + 8
  pk : ∀ p ∈ s.way, ∃ (i : Nat) (h : i < s.all.length), p = ((i : Int), s.all[i])
  ln : s.way.length ≤ 32 + s.opn
theorem zero_ok : Ok zero := ⟨by simp [zero], by simp [zero], by simp [zero], by simp [zero]⟩
theorem Ok.opn8 {s : Ses} (h : s.Ok) : s.opn ≤ 8 := by have := h.hi; unfold opn; omega
theorem Ok.ln40 {s : Ses} (h : s.Ok) : s.way.length ≤ 40 := by have := h.ln; have := h.opn8; omega
/-- A text sent. -/
def sent (s : Ses) (d : ByteArray) : Ses := if s.opn < 8 then ⟨s.all ++ [d], s.m, s.way ++ [((s.all.length : Int), d)]⟩ else s
def sentE (s : Ses) : Int := if s.opn < 8 then 0 else 15
theorem Ok.sent {s : Ses} (h : s.Ok) (d : ByteArray) : (s.sent d).Ok := by
  unfold Ses.sent
  split
  case isFalse => exact h
  case isTrue h8 =>
    have := h.lo
    have := h.hi
    have := h.ln
    unfold opn at h8 this
    refine ⟨by simp; omega, by simp; omega, fun p hp => ?_, by unfold opn; simp; omega⟩
    rcases List.mem_append.1 hp with hp | hp
    · obtain ⟨i, hi, e⟩ := h.pk p hp
      refine ⟨i, by simp; omega, ?_⟩
      rw [e, List.getElem_append_left hi]
    · simp at hp
      subst hp
      exact ⟨s.all.length, by simp, by simp⟩
/-- A packet sent once more. -/
def rep (s : Ses) (p : Int × ByteArray) : Ses := if 32 ≤ s.way.length then s else ⟨s.all, s.m, s.way ++ [p]⟩
theorem Ok.rep {s : Ses} (h : s.Ok) {p : Int × ByteArray} (hp : ∃ (i : Nat) (h : i < s.all.length), p = ((i : Int), s.all[i])) : (s.rep p).Ok := by
  unfold Ses.rep
  split
  case isTrue => exact h
  case isFalse h8 =>
    refine ⟨h.lo, h.hi, fun q hq => ?_, by simp; omega⟩
    rcases List.mem_append.1 hq with hq | hq
    · exact h.pk q hq
    · simp at hq
      subst hq
      exact hp
/-- A packet taken out. -/
def out (s : Ses) (i : Nat) : Ses := ⟨s.all, s.m, s.way.eraseIdx i⟩
theorem Ok.out {s : Ses} (h : s.Ok) (i : Nat) : (s.out i).Ok := by
  refine ⟨h.lo, h.hi, fun q hq => h.pk q (List.mem_of_mem_eraseIdx hq), ?_⟩
  have := h.ln
  have h2 := List.length_eraseIdx_le s.way i
  simp only [Ses.out, opn] at *
  omega
/-- A packet brought. -/
def dlv (s : Ses) (i : Nat) (p : Int × ByteArray) : Ses := if p.1 = (s.m : Int) then ⟨s.all, s.m + 1, s.way.eraseIdx i⟩ else s.out i
theorem Ok.dlv {s : Ses} (h : s.Ok) {i : Nat} (hi : i < s.way.length) : (s.dlv i s.way[i]).Ok := by
  unfold Ses.dlv
  split
  case isFalse => exact h.out i
  case isTrue he =>
    obtain ⟨j, hj, e⟩ := h.pk s.way[i] (List.getElem_mem hi)
    rw [e] at he
    have : j = s.m := Int.ofNat.inj he
    subst this
    refine ⟨by simp; omega, by have := h.hi; simp; omega, fun q hq => h.pk q (List.mem_of_mem_eraseIdx hq), ?_⟩
    have := h.ln
    have h2 : (s.way.eraseIdx i).length = s.way.length - 1 := List.length_eraseIdx_of_lt hi
    simp only [opn] at *
    omega
/-- Where what is brought is what is waited for, it is the next text. -/
theorem Ok.hit {s : Ses} (h : s.Ok) {i : Nat} (hi : i < s.way.length) (he : s.way[i].1 = (s.m : Int)) : ∃ (hm : s.m < s.all.length), s.way[i].2 = s.all[s.m] := by
  obtain ⟨j, hj, e⟩ := h.pk s.way[i] (List.getElem_mem hi)
  rw [e] at he ⊢
  have : j = s.m := Int.ofNat.inj he
  subst this
  exact ⟨hj, rfl⟩
/-- All that is open sent again. -/
def again (s : Ses) : Ses := ⟨s.all, s.m, s.way ++ (Lk.pk s.m (s.all.drop s.m)).take (32 - s.way.length)⟩
def againN (s : Ses) : Nat := min (32 - s.way.length) s.opn
theorem again_len (s : Ses) : s.again.way.length = s.way.length + s.againN := by
  simp only [again, againN, List.length_append, List.length_take, Lk.pk_len, List.length_drop, opn]
theorem Ok.again {s : Ses} (h : s.Ok) : s.again.Ok := by
  refine ⟨h.lo, h.hi, fun q hq => ?_, ?_⟩
  · rcases List.mem_append.1 hq with hq | hq
    · exact h.pk q hq
    · have hq := List.mem_of_mem_take hq
      obtain ⟨i, hi, rfl⟩ := List.getElem_of_mem hq
      rw [Lk.pk_get]
      rw [Lk.pk_len, List.length_drop] at hi
      exact ⟨s.m + i, by show s.m + i < s.all.length; omega, by rw [List.getElem_drop]; rfl⟩
  · have h1 := h.ln
    rw [again_len]
    have : s.again.opn = s.opn := rfl
    rw [this]
    unfold againN
    omega
/-- What is told of a place. -/
def tk (s : Ses) (p : Int × ByteArray) : ByteArray × Bool := Lk.tk s.m p.1 p.2
/-- What Pick makes of a session, and what it tells. -/
def pick (s : Ses) (at' how : Int) : Ses :=
  if h : 0 ≤ at' ∧ at'.toNat < s.way.length then
    if how % 4 = 1 then s.out at'.toNat else if how % 4 = 2 then s.rep (s.way[at'.toNat]'h.2) else s.dlv at'.toNat (s.way[at'.toNat]'h.2)
  else s
def pickT (s : Ses) (at' how : Int) : ByteArray × Bool :=
  if h : 0 ≤ at' ∧ at'.toNat < s.way.length then
    if how % 4 = 1 then (⟨#[]⟩, false) else if how % 4 = 2 then (⟨#[]⟩, false) else s.tk (s.way[at'.toNat]'h.2)
  else (⟨#[]⟩, false)
def takes (s : Ses) (at' : Int) : ByteArray × Bool :=
  if h : 0 ≤ at' ∧ at'.toNat < s.way.length then s.tk (s.way[at'.toNat]'h.2) else (⟨#[]⟩, false)
theorem takes_pick (s : Ses) (a : Int) : s.pickT a 0 = s.takes a := by
  unfold pickT takes
  split <;> simp
theorem Ok.pick {s : Ses} (h : s.Ok) (a how : Int) : (s.pick a how).Ok := by
  unfold Ses.pick
  split
  · split
    · exact h.out _
    · split
      · exact h.rep (h.pk _ (List.getElem_mem _))
      · exact h.dlv _
  · exact h
/-- What a Pick leaves: nothing more is sent, at most one more is told. -/
theorem pick_all (s : Ses) (a how : Int) : (s.pick a how).all = s.all := by
  unfold pick out rep dlv
  split <;> try rfl
  split <;> try rfl
  split
  · split <;> rfl
  · split <;> rfl
theorem Ok.pick_told {s : Ses} (h : s.Ok) (a how : Int) :
    ((s.pickT a how).2 = false ∧ (s.pick a how).m = s.m) ∨ ∃ hm : s.m < s.all.length, s.pickT a how = (s.all[s.m], true) ∧ (s.pick a how).m = s.m + 1 := by
  unfold Ses.pick pickT
  by_cases h1 : 0 ≤ a ∧ a.toNat < s.way.length
  · rw [dif_pos h1, dif_pos h1]
    by_cases h2 : how % 4 = 1
    · rw [if_pos h2, if_pos h2]; exact .inl ⟨rfl, rfl⟩
    · rw [if_neg h2, if_neg h2]
      by_cases h3 : how % 4 = 2
      · rw [if_pos h3, if_pos h3]
        refine .inl ⟨rfl, ?_⟩
        unfold Ses.rep
        split <;> rfl
      · rw [if_neg h3, if_neg h3]
        unfold Ses.dlv Ses.tk Lk.tk
        by_cases h4 : s.way[a.toNat].1 = (s.m : Int)
        · rw [if_pos h4, if_pos h4]
          obtain ⟨hm, e⟩ := h.hit h1.2 h4
          exact .inr ⟨hm, by rw [e], rfl⟩
        · rw [if_neg h4, if_neg h4]
          exact .inl ⟨rfl, rfl⟩
  · rw [dif_neg h1, dif_neg h1]; exact .inl ⟨rfl, rfl⟩
end Ses
end Go.Proofs.Ytgaghlofcokijaa
