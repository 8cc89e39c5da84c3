/- ShardOwns' invariant: no key is kept that no range has; and what a step leaves of a shard. -/
import Derived.Test.YtjfmgplhcinkfaaGreatGP20
namespace Go.Proofs.YtjfmgplhcinkfaaGreat
open Go.RowKit
set_option linter.unusedVariables false
set_option linter.unusedSimpArgs false

/-- What is kept of the chains at each step: of at most n versions each, within bounds, with no past, of keys that a range has. -/
structure Kp (R : List (ByteArray × ByteArray)) (F : Ch) (n : Nat) : Prop where
  len : ∀ d, (F d).length ≤ n
  bd : ∀ W d, ∀ x ∈ F d, VwB W x
  past : ∀ d, ∀ x ∈ F d, x.1.past = []
  own : ∀ d, F d ≠ [] → ownsK R d = true
theorem Kp.nil (R : List (ByteArray × ByteArray)) : Kp R (fun _ => []) 0 := ⟨fun d => by simp, fun W d x hx => (List.not_mem_nil hx).elim, fun d x hx => (List.not_mem_nil hx).elim, fun d h => absurd rfl h⟩
theorem Kp.mono {R : List (ByteArray × ByteArray)} {F : Ch} {n m : Nat} (h : Kp R F n) (hm : n ≤ m) : Kp R F m := ⟨fun d => Nat.le_trans (h.len d) hm, h.bd, h.past, h.own⟩
theorem Kp.put {R : List (ByteArray × ByteArray)} {F : Ch} {n : Nat} (h : Kp R F n) {x : Vw} (hx : ∀ W, VwB W x) (hp : x.1.past = []) : Kp R (putF R F x) (n + 1) := by
  refine ⟨fun d => putF_len R F x h.len d, putF_bd h.bd hx, fun d y hy => ?_, fun d hd => ?_⟩
  · rcases putF_mem hy with h1 | ⟨_, rfl, _⟩
    · exact h.past d y h1
    · exact hp
  · obtain ⟨y, hy⟩ := List.exists_mem_of_ne_nil _ hd
    rcases putF_mem hy with h1 | ⟨rfl, _, ho, _⟩
    · exact h.own d (fun e => by rw [e] at h1; cases h1)
    · exact ho
theorem Kp.cut {R R' : List (ByteArray × ByteArray)} {F : Ch} {n : Nat} (h : Kp R F n) : Kp R' (cutF F (ownsK R')) n := by
  refine ⟨cutF_len h.len, cutF_bd h.bd, fun d y hy => ?_, fun d hd => ?_⟩
  · by_cases e : ownsK R' d = true
    · rw [cutF_yes e] at hy
      exact h.past d y hy
    · rw [cutF_no (by simpa using e)] at hy
      cases hy
  · by_cases e : ownsK R' d = true
    · exact e
    · exact absurd (cutF_no (by simpa using e)) hd
theorem Kp.clean {R : List (ByteArray × ByteArray)} {F : Ch} {n : Nat} (h : Kp R F n) (s : Int × Int) (pins : List De) : Kp R (cleanF F s pins) n := by
  refine ⟨cleanF_len h.len, cleanF_bd h.bd, fun d y hy => h.past d y (cleanL_sub y hy), fun d hd => h.own d (fun e => hd (by
    unfold cleanF
    exact clean_ne.2 e))⟩
/-- What is found behind a put that went well. -/
theorem put_found {R : List (ByteArray × ByteArray)} {F : Ch} {x : Vw} (h : (ownsK R x.1.key && putOk (F x.1.key) x) = true) : (lastP (isS x.1.st) (putF R F x x.1.key)).isSome = true ∧ ((lastP (isS x.1.st) (putF R F x x.1.key)).getD vw0) = x := by
  rw [put_at h]
  exact ⟨rfl, rfl⟩
/-- A key of the list has a version, and a range has it. -/
theorem Kp.key {R : List (ByteArray × ByteArray)} {F : Ch} {n : Nat} (h : Kp R F n) {L : List ByteArray} (hl : KeyL F L) {k : ByteArray} (hk : k ∈ L) : ownsK R k = true ∧ (F k).getLast?.isSome = true := by
  have hne := (hl.2 k).1 hk
  refine ⟨h.own k hne, ?_⟩
  cases e : (F k).getLast? with
  | some y => rfl
  | none => exact absurd (List.getLast?_eq_none_iff.1 e) hne
end Go.Proofs.YtjfmgplhcinkfaaGreat
