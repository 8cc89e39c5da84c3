/- What the document's Merge, and the law's own 'made', answer. -/
import Derived.Test.YtplpeokmhomojaaPastMath
import Derived.Test.YtplpeokmhomojaaPastConc
namespace Go.Proofs.Ytplpeokmhomojaa
open Go.RowKit
set_option linter.unusedVariables false
set_option linter.unusedSimpArgs false

theorem addAll_len (l : List De) : ∀ r, (addAll r l).length ≤ r.length + l.length := by
  induction l with
  | nil => intro r; simp [addAll]
  | cons d l ih =>
    intro r
    have h1 := ih (addR r d)
    have h2 := addR_len r d
    simp only [addAll, List.foldl_cons, List.length_cons] at *
    omega
theorem addAll_snoc (r l : List De) (d : De) : addAll r (l ++ [d]) = addR (addAll r l) d := by simp [addAll]
theorem addAll_take (r l : List De) (k : Nat) (h : k < l.length) : addAll r (l.take (k + 1)) = addR (addAll r (l.take k)) l[k] := by
  rw [List.take_succ_eq_append_getElem h, addAll_snoc]
/-- The document's Merge. -/
def mergeR (ls : List (List De)) : List De := ls.foldl addAll []
theorem mergeR_take (ls : List (List De)) (k : Nat) (h : k < ls.length) : mergeR (ls.take (k + 1)) = addAll (mergeR (ls.take k)) ls[k] := by
  unfold mergeR
  rw [List.take_succ_eq_append_getElem h, List.foldl_append]
  rfl
theorem mergeR_len (ls : List (List De)) (k : Nat) (h : k ≤ ls.length) : (mergeR (ls.take k)).length ≤ tot (ls.take k) := by
  induction k with
  | zero => simp [mergeR, tot]
  | succ k ih =>
    have h1 := ih (by omega)
    rw [mergeR_take ls k (by omega), tot_take ls k (by omega)]
    have h2 := addAll_len ls[k] (mergeR (ls.take k))
    omega
theorem mergeR_is : ∀ (ls : List (List De)) (f r : List De), IsMerge f r → IsMerge (f ++ ls.flatten) (ls.foldl addAll r)
  | [], f, r, h => by simpa using h
  | l :: ls, f, r, h => by
    have := mergeR_is ls _ _ (h.all l)
    simpa [List.append_assoc] using this
theorem mergeR_spec (ls : List (List De)) : IsMerge ls.flatten (mergeR ls) := by unfold mergeR; simpa using mergeR_is ls [] [] IsMerge.nil

set_option maxRecDepth 100000 in
set_option maxHeartbeats 3200000 in
theorem refMerge_any (a : Option Addr) (cap : Nat) (ls : List (List De)) (w : World) (hn : ls.length ≤ 1000) (ht : tot ls ≤ 10000) (hz : ∀ l ∈ ls, Szd l) (hr : RowsAt w a ls) :
    Calls Try.prog 15 #[.slice a ls.length cap] w fun e w' => ∃ v', e = .returned v' ∧ DepAt w' v' (mergeR ls) ∧ Below w.heap.size w w' := by
  have HR := Lib.hid hr
  have HZ := Lib.hid hz
  clear hr hz
  go_enter Try.func15, Try.ntmps15
  go_wp2
  go_loopw [3, 4] (fun o i wr => ∃ k : Nat, k ≤ ls.length ∧ i = .int .i64 k ∧ DepAt wr o (mergeR (ls.take k)) ∧ Below w.heap.size w wr) (fun _ i _ => ls.length - (intOf i).toNat)
  case atStart => exact ⟨0, by omega, rfl, DepAt.nil w, Below.refl _ _⟩
  case round =>
    obtain ⟨k, hk, rfl, hd, hbel⟩ := hrel
    obtain ⟨da, dc, rfl, _, _, _, _⟩ := id hd
    have HD := Lib.hid hd
    clear hd
    by_cases hlt : k < ls.length
    · have hml := mergeR_len ls k hk
      have hm1 := tot_mono ls (k + 1)
      rw [tot_take ls k hlt] at hm1
      have HT := Lib.hid (mergeR_take ls k hlt)
      have HZK := Lib.hid (HZ.out ls[k] (List.getElem_mem hlt))
      obtain ⟨b, off, u, rfl, hbl, hc, hu⟩ := (HR.out.below hbel).get k hlt
      generalize ls[k] = m at hu HT HZK hm1
      generalize hq : mergeR (ls.take k) = q at HD HT hml
      have HQ := Lib.hid hq
      clear hq
      obtain ⟨ma, mc, rfl, _, _, _, _⟩ := id hu
      have HU := Lib.hid hu
      clear hu
      go_wp2
      go_loopw [3, 5] (fun o i wr' => ∃ j : Nat, j ≤ m.length ∧ i = .int .i64 j ∧ DepAt wr' o (addAll q (m.take j)) ∧ Below w.heap.size w wr' ∧ Below wr.heap.size wr wr') (fun _ i _ => m.length - (intOf i).toNat)
      case atStart => exact ⟨0, by omega, rfl, HD.out, hbel, Below.refl _ _⟩
      case round =>
        rename_i wr'
        obtain ⟨j, hj, rfl, hd, hbel', hbw⟩ := hrel
        obtain ⟨ea, ec, rfl, _, _, _, _⟩ := id hd
        have HD' := Lib.hid hd
        have hc' := kcell hbw hbl hc
        clear hd
        by_cases hlt' : j < m.length
        · obtain ⟨ua, uc, ue, _, _, _, hur⟩ := HU.out.below hbw
          cases ue
          obtain ⟨b2, off2, rfl, hbl2, c0, c1, c2⟩ := hur j hlt'
          have HA := Lib.hid (addAll_take q m j hlt')
          have hsz := HZK.out m[j] (List.getElem_mem hlt')
          have hal := addAll_len (m.take j) q
          have htl : (m.take j).length ≤ m.length := by simp; omega
          generalize m[j] = d at c0 c1 c2 HA hsz
          obtain ⟨x, y, z⟩ := d
          dsimp only at c0 c1 c2 hsz
          generalize hqq : addAll q (m.take j) = q' at HD' HA hal
          clear hqq
          go_wp2_with fail
          refine (refAddP_any _ q' x y z _ (by omega) hsz HD'.out).mono ?_
          rintro e w2 ⟨v2, rfl, hd2, hb2⟩
          obtain ⟨va, vc, rfl, _, _, _, _⟩ := id hd2
          have HD2 := Lib.hid hd2
          clear hd2
          go_wp2
          go_roundw
          case rel => exact ⟨j + 1, by omega, by go_num, by rw [HA.out]; exact HD2.out, bstep hbel' hb2, bstep hbw hb2⟩
          case measure => simp [intOf]; omega
        · obtain rfl : j = m.length := by omega
          have HE : Hid (addAll q (m.take m.length) = addAll q m) := Lib.hid (by rw [List.take_length])
          go_wp2
          go_roundw
          case rel => exact ⟨k + 1, by omega, by go_num, by rw [HT.out, ← HE.out]; exact HD'.out, hbel'⟩
          case measure => simp [intOf]; omega
    · obtain rfl : k = ls.length := by omega
      go_wp2
      go_ret
      exact ⟨_, rfl, by have h := HD.out; rw [List.take_length] at h ⊢; exact h, hbel⟩
end Go.Proofs.Ytplpeokmhomojaa
