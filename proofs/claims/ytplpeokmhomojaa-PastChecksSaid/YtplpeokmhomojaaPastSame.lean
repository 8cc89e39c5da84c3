/- What slices.Equal, past.Same and the document's Same answer. -/
import Derived.Test.YtplpeokmhomojaaPastVal
import Derived.Deep.QuietTactic
import Derived.BigQuiet
namespace Go.Proofs.Ytplpeokmhomojaa
open Go.RowKit
set_option linter.unusedVariables false

/-- Two dependencies compared as structs. -/
theorem eq_dep (w : World) (k : ByteArray) (n s : Int) (k' : ByteArray) (m t : Int) : (binOp .eql 26 (.agg #[.string k, .int .i64 n, .int .i64 s]) (.agg #[.string k', .int .i64 m, .int .i64 t])).run Try.prog w = .ok (.bool (decide (((k, n, s) : De) = (k', m, t)))) w := by
  rw [run_eql_struct, run_equalIn_agg w 9999 26 _ _ (by kernel_rfl) (by kernel_rfl)]
  unfold Program.fieldsOf
  rw [Try.underlying26]
  simp [go_sem, Try.underlying3, Try.underlying9]
  have hk : k.toList = k'.toList ↔ k = k' := by
    rw [Lib.toList_data, Lib.toList_data]
    exact ⟨fun h => ByteArray.ext (Array.toList_inj.1 h), fun h => by rw [h]⟩
  by_cases h1 : k = k' <;> by_cases h2 : n = m <;> by_cases h3 : s = t <;> simp [hk, h1, h2, h3]
theorem ne_dep (w : World) (k : ByteArray) (n s : Int) (k' : ByteArray) (m t : Int) : (binOp .neq 26 (.agg #[.string k, .int .i64 n, .int .i64 s]) (.agg #[.string k', .int .i64 m, .int .i64 t])).run Try.prog w = .ok (.bool (!decide (((k, n, s) : De) = (k', m, t)))) w := by
  have h := eq_dep w k n s k' m t
  rw [run_eql_struct] at h
  rw [run_neq_struct]
  generalize (Op.equalIn 10000 _ _ _).run _ _ = r at h
  cases r with
  | ok b w1 => simp at h ⊢; simp [h]
  | halt x w1 => simp at h
theorem bdrewN (w : World) (n : Nat) : Below w.heap.size w (w.drewN n) := ⟨rfl, rfl, rfl, Nat.le_refl _, fun _ _ => rfl⟩

set_option maxRecDepth 100000 in
set_option maxHeartbeats 1600000 in
theorem sliEqual_any (v1 v2 : Value) (l m : List De) (w : World) (hl : l.length ≤ 1000000) (h1 : DepAt w v1 l) (h2 : DepAt w v2 m) :
    Calls Try.prog 53 #[v1, v2] w fun e w' => e = .returned (.bool (decide (l = m))) ∧ Below w.heap.size w w' := by
  obtain ⟨a, ca, rfl, _, _, _, h1⟩ := h1
  obtain ⟨b, cb, rfl, _, _, _, h2⟩ := h2
  have HA := Lib.hid h1
  have HB := Lib.hid h2
  clear h1 h2
  by_cases hlen : l.length = m.length
  · rw [← hlen]
    have HN := Lib.hid hlen
    clear hlen
    have hnn : (l.length != l.length) = false := by simp
    have hni : ((l.length : Int) != (l.length : Int)) = false := by simp
    go_enter Try.func53, Try.ntmps53
    go_wp2
    go_loopw [13] (fun i wr => ∃ k n : Nat, k ≤ l.length ∧ i = .int .i64 k ∧ l.take k = m.take k ∧ wr = w.drewN n) (fun i _ => l.length - (intOf i).toNat)
    case atStart => exact ⟨0, 0, by omega, rfl, by simp, rfl⟩
    case round =>
      obtain ⟨k, n, hk, rfl, hst, rfl⟩ := hrel
      have HS := Lib.hid hst
      clear hst
      by_cases hlt : k < l.length
      · have hlm : k < m.length := by rw [← HN.out]; exact hlt
        obtain ⟨b1, o1, rfl, _, c10, c11, c12⟩ := HA.out k hlt
        obtain ⟨b2, o2, rfl, _, c20, c21, c22⟩ := HB.out k hlm
        have HL := Lib.hid (List.take_succ_eq_append_getElem hlt)
        have HM := Lib.hid (List.take_succ_eq_append_getElem hlm)
        have HNE : Hid (l[k] ≠ m[k] → l ≠ m) := Lib.hid (fun h e => h (by subst e; rfl))
        generalize l[k] = x at c10 c11 c12 HL HNE
        generalize m[k] = y at c20 c21 c22 HM HNE
        obtain ⟨x0, x1, x2⟩ := x
        obtain ⟨y0, y1, y2⟩ := y
        dsimp only at c10 c11 c12 c20 c21 c22
        have hne := fun w' => ne_dep w' x0 x1 x2 y0 y1 y2
        clear hlm
        by_cases hxy : ((x0, x1, x2) : De) = (y0, y1, y2)
        · have hd : (decide (((x0, x1, x2) : De) = (y0, y1, y2))) = true := by simpa using hxy
          rw [hd] at hne
          have HX := Lib.hid hxy
          clear hxy hd
          go_wp2_with fail
          go_quiet (fail)
          go_wp2
          go_roundw
          case rel => exact ⟨k + 1, _, by omega, by go_num, by rw [HL.out, HM.out, HS.out, HX.out], rfl⟩
          case measure => simp [intOf]; omega
        · have hd : (decide (((x0, x1, x2) : De) = (y0, y1, y2))) = false := by simpa using hxy
          rw [hd] at hne
          have HX := Lib.hid hxy
          clear hxy hd
          go_wp2_with fail
          go_quiet (fail)
          go_wp2
          go_ret
          exact ⟨ret_bool (decide_eq_false (HNE.out HX.out)).symm, bstep (bdrewN w _) (bdrewN _ _)⟩
      · obtain rfl : k = l.length := by omega
        have HE : Hid (l = m) := Lib.hid (by have h := HS.out; rw [List.take_of_length_le (Nat.le_refl _), HN.out, List.take_of_length_le (Nat.le_refl _)] at h; exact h)
        go_wp2
        go_ret
        exact ⟨ret_bool (decide_eq_true HE.out).symm, bdrewN w _⟩
  · have hnn : (l.length != m.length) = true := by simpa using hlen
    have hni : ((l.length : Int) != (m.length : Int)) = true := by simp; omega
    rw [show decide (l = m) = false from decide_eq_false (fun e => hlen (by rw [e]))]
    have hx : ¬ (l.length : Int) = (m.length : Int) := by omega
    go_enter Try.func53, Try.ntmps53
    go_wp2
    go_ret
    exact ⟨rfl, Below.refl _ _⟩

set_option maxRecDepth 100000 in
set_option maxHeartbeats 1600000 in
theorem refPSame_any (v1 v2 : Value) (l m : List De) (w : World) (hl : l.length ≤ 1000000) (h1 : DepAt w v1 l) (h2 : DepAt w v2 m) :
    Calls Try.prog 11 #[v1, v2] w fun e w' => e = .returned (.bool (decide (l = m))) ∧ Below w.heap.size w w' := by
  obtain ⟨a, ca, rfl, _, _, _, h1⟩ := h1
  obtain ⟨b, cb, rfl, _, _, _, h2⟩ := h2
  have HA := Lib.hid h1
  have HB := Lib.hid h2
  clear h1 h2
  by_cases hlen : l.length = m.length
  · rw [← hlen]
    have HN := Lib.hid hlen
    clear hlen
    have hnn : (l.length != l.length) = false := by simp
    have hni : ((l.length : Int) != (l.length : Int)) = false := by simp
    go_enter Try.func11, Try.ntmps11
    go_wp2
    go_loopw [5] (fun i wr => ∃ k n : Nat, k ≤ l.length ∧ i = .int .i64 k ∧ l.take k = m.take k ∧ wr = w.drewN n) (fun i _ => l.length - (intOf i).toNat)
    case atStart => exact ⟨0, 0, by omega, rfl, by simp, rfl⟩
    case round =>
      obtain ⟨k, n, hk, rfl, hst, rfl⟩ := hrel
      have HS := Lib.hid hst
      clear hst
      by_cases hlt : k < l.length
      · have hlm : k < m.length := by rw [← HN.out]; exact hlt
        obtain ⟨b1, o1, rfl, _, c10, c11, c12⟩ := HA.out k hlt
        obtain ⟨b2, o2, rfl, _, c20, c21, c22⟩ := HB.out k hlm
        have HL := Lib.hid (List.take_succ_eq_append_getElem hlt)
        have HM := Lib.hid (List.take_succ_eq_append_getElem hlm)
        have HNE : Hid (l[k] ≠ m[k] → l ≠ m) := Lib.hid (fun h e => h (by subst e; rfl))
        generalize l[k] = x at c10 c11 c12 HL HNE
        generalize m[k] = y at c20 c21 c22 HM HNE
        obtain ⟨x0, x1, x2⟩ := x
        obtain ⟨y0, y1, y2⟩ := y
        dsimp only at c10 c11 c12 c20 c21 c22
        have hne := fun w' => ne_dep w' x0 x1 x2 y0 y1 y2
        clear hlm
        by_cases hxy : ((x0, x1, x2) : De) = (y0, y1, y2)
        · have hd : (decide (((x0, x1, x2) : De) = (y0, y1, y2))) = true := by simpa using hxy
          rw [hd] at hne
          have HX := Lib.hid hxy
          clear hxy hd
          go_wp2_with fail
          go_quiet (fail)
          go_wp2
          go_roundw
          case rel => exact ⟨k + 1, _, by omega, by go_num, by rw [HL.out, HM.out, HS.out, HX.out], rfl⟩
          case measure => simp [intOf]; omega
        · have hd : (decide (((x0, x1, x2) : De) = (y0, y1, y2))) = false := by simpa using hxy
          rw [hd] at hne
          have HX := Lib.hid hxy
          clear hxy hd
          go_wp2_with fail
          go_quiet (fail)
          go_wp2
          go_ret
          exact ⟨ret_bool (decide_eq_false (HNE.out HX.out)).symm, bstep (bdrewN w _) (bdrewN _ _)⟩
      · obtain rfl : k = l.length := by omega
        have HE : Hid (l = m) := Lib.hid (by have h := HS.out; rw [List.take_of_length_le (Nat.le_refl _), HN.out, List.take_of_length_le (Nat.le_refl _)] at h; exact h)
        go_wp2
        go_ret
        exact ⟨ret_bool (decide_eq_true HE.out).symm, bdrewN w _⟩
  · have hnn : (l.length != m.length) = true := by simpa using hlen
    have hni : ((l.length : Int) != (m.length : Int)) = true := by simp; omega
    rw [show decide (l = m) = false from decide_eq_false (fun e => hlen (by rw [e]))]
    have hx : ¬ (l.length : Int) = (m.length : Int) := by omega
    go_enter Try.func11, Try.ntmps11
    go_wp2
    go_ret
    exact ⟨rfl, Below.refl _ _⟩

set_option maxRecDepth 100000 in
theorem same_any (v1 v2 : Value) (l m : List De) (w : World) (hl : l.length ≤ 1000000) (h1 : DepAt w v1 l) (h2 : DepAt w v2 m) :
    Calls Try.prog 22 #[v1, v2] w fun e w' => e = .returned (.bool (decide (l = m))) ∧ Below w.heap.size w w' := by
  have hcon := sliEqual_any v1 v2 l m w hl h1 h2
  generalize decide (l = m) = c at hcon ⊢
  obtain ⟨a, ca, rfl, _, _, _, _⟩ := h1
  obtain ⟨b, cb, rfl, _, _, _, _⟩ := h2
  go_enter Try.func22, Try.ntmps22
  go_wp2_with fail
  refine hcon.mono ?_
  rintro e w1 ⟨rfl, hb⟩
  go_wp2
  go_ret
  exact ⟨rfl, hb⟩
end Go.Proofs.Ytplpeokmhomojaa
