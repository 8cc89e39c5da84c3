/- What a net's Pick and Takes do. -/
import Derived.Test.YtgaghlofcokijaaNetNet
namespace Go.Proofs.Ytgaghlofcokijaa
open Go.RowKit
set_option linter.unusedVariables false
set_option linter.unusedSimpArgs false

theorem and3N (n : Int) : bits .and .i64 n 3 = n % 4 := by
  have e : bits .and .i64 n 3 = IntKind.i64.wrap ((BitVec.ofInt 64 n &&& BitVec.ofInt 64 3).toNat : Nat) := rfl
  have h : (BitVec.ofInt 64 n).toNat = _ := BitVec.toNat_ofInt n
  have l : (BitVec.ofInt 64 n &&& BitVec.ofInt 64 3).toNat = (BitVec.ofInt 64 n).toNat % 4 := by
    rw [BitVec.toNat_and, show (BitVec.ofInt 64 3).toNat = 2 ^ 2 - 1 by decide, Nat.and_two_pow_sub_one_eq_mod]
  rw [e, l, IntKind.wrap_i64]
  omega

set_option maxRecDepth 100000 in
set_option maxHeartbeats 3200000 in
theorem npick_ses {w : World} (nv : Value) (a b at' how : Int) (B : Nat) (s : Ses) (v : Value) (hs : Calls Try.prog 19 #[nv, .int .i64 a, .int .i64 b] w fun e w' => e = .returned (.pointer (some ⟨B, 0, none⟩)) ∧ w' = w)
    (h : SesAt w B s v) (hok : s.Ok) (hn : s.all.length ≤ 900000) :
    Calls Try.prog 13 #[nv, .int .i64 a, .int .i64 b, .int .i64 at', .int .i64 how] w fun e w' => e = .returned (.tuple #[.string (s.pickT at' how).1, .bool (s.pickT at' how).2]) ∧ SesTo w B v w' (s.pick at' how) := by
  have hhas := has_at B s v at' w h
  unfold Ses.pick Ses.pickT
  by_cases hin : 0 ≤ at' ∧ at'.toNat < s.way.length
  · rw [dif_pos hin, dif_pos hin]
    rw [decide_eq_true hin] at hhas
    obtain ⟨i, rfl⟩ : ∃ i : Nat, at' = (i : Int) := ⟨at'.toNat, by omega⟩
    have hi : i < s.way.length := by have := hin.2; omega
    have e0 : (i : Int).toNat = i := by omega
    simp only [e0]
    have hl : s.way.length ≤ 1000 := by have := hok.ln40; omega
    have hq := and3N how
    generalize how % 4 = q at hq ⊢
    by_cases h1 : q = 1
    · have hrm := remove_at B s v i w h hi hl
      subst h1
      simp only [if_pos]
      generalize s.way[i] = pk at *
      obtain ⟨n, d⟩ := pk
      dsimp only at hrm ⊢
      clear h hok hn
      go_enter Try.func13, Try.ntmps13
      go_wp2_with fail
      refine hs.mono ?_
      rintro e w2 ⟨rfl, rfl⟩
      clear hs
      go_wp2_with fail
      refine hhas.mono ?_
      rintro e w3 ⟨rfl, rfl⟩
      clear hhas
      go_wp2_with fail
      refine hrm.mono ?_
      rintro e w4 ⟨rfl, ht⟩
      go_wp2
      go_ret2
      exact ⟨rfl, ht⟩
    · rw [if_neg h1, if_neg h1]
      have g1 : decide (q = 1) = false := by simpa using h1
      by_cases h2 : q = 2
      · rw [if_pos h2, if_pos h2]
        have hrp := repeat_at B s v s.way[i].1 s.way[i].2 w h hl
        obtain ⟨g, cap, rfl, _, _⟩ := h.row.pos (by omega)
        have hf := h.fl
        obtain ⟨p0, p1⟩ := h.row.at i hi
        have hii : (i : Int) < (s.way.length : Int) := by omega
        subst h2
        generalize s.way[i] = pk at *
        clear h hok hn h1
        obtain ⟨n, d⟩ := pk
        dsimp only at hrp p0 p1 ⊢
        go_enter Try.func13, Try.ntmps13
        go_wp2_with fail
        refine hs.mono ?_
        rintro e w2 ⟨rfl, rfl⟩
        clear hs
        go_wp2_with fail
        refine hhas.mono ?_
        rintro e w3 ⟨rfl, rfl⟩
        clear hhas
        go_wp2_with fail
        refine hrp.mono ?_
        rintro e w4 ⟨rfl, ht⟩
        go_wp2
        go_ret2
        exact ⟨rfl, ht⟩
      · rw [if_neg h2, if_neg h2]
        have g2 : decide (q = 2) = false := by simpa using h2
        have hdl := deliver_at B s v i w h hi hl hok hn
        generalize s.way[i] = pk at *
        clear h hok hn
        go_enter Try.func13, Try.ntmps13
        go_wp2_with fail
        refine hs.mono ?_
        rintro e w2 ⟨rfl, rfl⟩
        clear hs
        go_wp2_with fail
        refine hhas.mono ?_
        rintro e w3 ⟨rfl, rfl⟩
        clear hhas
        go_wp2_with fail
        refine hdl.mono ?_
        rintro e w4 ⟨rfl, ht⟩
        go_wp2
        go_ret2
        exact ⟨rfl, ht⟩
  · rw [dif_neg hin, dif_neg hin]
    rw [decide_eq_false hin] at hhas
    have HT := Lib.hid (SesTo.refl h)
    clear h hok hn hin
    go_enter Try.func13, Try.ntmps13
    go_wp2_with fail
    refine hs.mono ?_
    rintro e w2 ⟨rfl, rfl⟩
    clear hs
    go_wp2_with fail
    refine hhas.mono ?_
    rintro e w3 ⟨rfl, rfl⟩
    go_wp2
    go_ret2
    exact ⟨rfl, HT.out⟩

set_option maxRecDepth 100000 in
set_option maxHeartbeats 3200000 in
theorem ntakes_ses {w : World} (nv : Value) (a b at' : Int) (B : Nat) (s : Ses) (v : Value) (hs : Calls Try.prog 19 #[nv, .int .i64 a, .int .i64 b] w fun e w' => e = .returned (.pointer (some ⟨B, 0, none⟩)) ∧ w' = w)
    (h : SesAt w B s v) (hok : s.Ok) (hn : s.all.length ≤ 900000) :
    Calls Try.prog 17 #[nv, .int .i64 a, .int .i64 b, .int .i64 at'] w fun e w' => e = .returned (.tuple #[.string (s.takes at').1, .bool (s.takes at').2]) ∧ Below w.heap.size w w' := by
  have hhas := has_at B s v at' w h
  have hm : s.m ≤ 1000000 := by have := hok.lo; omega
  unfold Ses.takes
  by_cases hin : 0 ≤ at' ∧ at'.toNat < s.way.length
  · rw [dif_pos hin]
    rw [decide_eq_true hin] at hhas
    obtain ⟨i, rfl⟩ : ∃ i : Nat, at' = (i : Int) := ⟨at'.toNat, by omega⟩
    have hi : i < s.way.length := by have := hin.2; omega
    have e0 : (i : Int).toNat = i := by omega
    simp only [e0]
    obtain ⟨g, cap, rfl, _, _⟩ := h.row.pos (by omega)
    have hrc := h.rc
    have hba := balloc (Below.refl _ w) (.cells #[.int .i64 (s.m : Int)] 58)
    have HB := Lib.hid hba
    have hf := kc hba h.fl
    obtain ⟨p0, p1⟩ := h.row.at i hi
    have p0 := kc hba p0
    have p1 := kc hba p1
    have hii : (i : Int) < (s.way.length : Int) := by omega
    have RC := RcAt.new w 58
    have HC : Hid ((w.alloc (.cells #[.int .i64 (s.m : Int)] 58)).cell? ⟨w.heap.size, 0, none⟩ = some (.int .i64 (s.m : Int)) ∧ (w.alloc (.cells #[.int .i64 (s.m : Int)] 58)).frozen? ⟨w.heap.size, 0, none⟩ = false) := Lib.hid ⟨by simp, by simp⟩
    unfold Ses.tk
    generalize s.way[i] = pk at *
    clear h hok hn hba RC
    obtain ⟨n, d⟩ := pk
    dsimp only at p0 p1 ⊢
    go_enter Try.func17, Try.ntmps17
    go_wp2_with fail
    refine hs.mono ?_
    rintro e w2 ⟨rfl, rfl⟩
    clear hs
    go_wp2_with fail
    refine hhas.mono ?_
    rintro e w3 ⟨rfl, rfl⟩
    clear hhas
    go_wp2_with fail
    refine (takeO_at w3.heap.size 0 s.m n d _ HC.out.1 HC.out.2 hm).mono ?_
    rintro e w4 ⟨rfl, w5, hb5, hw5⟩
    have HFIN : Hid (Below w3.heap.size w3 w4) := Lib.hid (by
      have h1 := bstep HB.out hb5
      rw [hw5]
      split
      · exact h1.setCell (p := ⟨w3.heap.size, 0, none⟩) (Nat.le_refl _) _
      · exact h1)
    clear hb5 hw5
    go_wp2
    go_ret2
    exact ⟨rfl, HFIN.out⟩
  · rw [dif_neg hin]
    rw [decide_eq_false hin] at hhas
    clear h hok hn hin
    go_enter Try.func17, Try.ntmps17
    go_wp2_with fail
    refine hs.mono ?_
    rintro e w2 ⟨rfl, rfl⟩
    clear hs
    go_wp2_with fail
    refine hhas.mono ?_
    rintro e w3 ⟨rfl, rfl⟩
    go_wp2
    go_ret2
    exact ⟨rfl, Below.refl _ _⟩

theorem npick_net {w : World} {far : Nat → Prop} {n N : Nat} {st : Nat → Nat → Ses} (h : NetAt w far n N st) (a b : Nat) (ha : a < N) (hb : b < N) (hab : a ≠ b) (at' how : Int) (hn : (st a b).all.length ≤ 900000) :
    Calls Try.prog 13 #[.pointer (some ⟨n, 0, none⟩), .int .i64 (a : Int), .int .i64 (b : Int), .int .i64 at', .int .i64 how] w fun e w' => e = .returned (.tuple #[.string ((st a b).pickT at' how).1, .bool ((st a b).pickT at' how).2]) ∧ NetAt w' far n N (upd st a b ((st a b).pick at' how)) ∧ Mv (fun k => ¬ far k) w w' := by
  obtain ⟨h6, mb, cnt, blk, vs, tg, h⟩ := h
  refine (npick_ses _ _ _ at' how (blk a b) (st a b) (vs a b) (sess_ok h h6 ha hb hab) (h.se a b ha hb hab) (h.ok a b ha hb hab) hn).mono ?_
  rintro e w' ⟨rfl, ht⟩
  exact ⟨rfl, h.step h6 ha hb hab ht ((h.ok a b ha hb hab).pick at' how)⟩
theorem ntakes_net {w : World} {far : Nat → Prop} {n N : Nat} {st : Nat → Nat → Ses} (h : NetAt w far n N st) (a b : Nat) (ha : a < N) (hb : b < N) (hab : a ≠ b) (at' : Int) (hn : (st a b).all.length ≤ 900000) :
    Calls Try.prog 17 #[.pointer (some ⟨n, 0, none⟩), .int .i64 (a : Int), .int .i64 (b : Int), .int .i64 at'] w fun e w' => e = .returned (.tuple #[.string ((st a b).takes at').1, .bool ((st a b).takes at').2]) ∧ Below w.heap.size w w' := by
  obtain ⟨h6, mb, cnt, blk, vs, tg, h⟩ := h
  exact ntakes_ses _ _ _ at' (blk a b) (st a b) (vs a b) (sess_ok h h6 ha hb hab) (h.se a b ha hb hab) (h.ok a b ha hb hab) hn
end Go.Proofs.Ytgaghlofcokijaa
