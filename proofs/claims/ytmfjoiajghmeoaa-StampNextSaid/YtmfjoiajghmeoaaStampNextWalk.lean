/- The walk of the law StampNext. -/
import Derived.Test.YtmfjoiajghmeoaaStampNums
namespace Go.Proofs.Ytmfjoiajghmeoaa
open Go.RowKit Go.ChangeShapes Go.WideShapes Go.ChangeAt Go.Joins
set_option linter.unusedVariables false

/-- The lowest forty bits of an int: what is left of it by 2^40. -/
theorem low40 (x : BitVec 64) : (x &&& BitVec.ofInt 64 1099511627775).toNat = x.toNat % 1099511627776 := by
  rw [BitVec.toNat_and]
  exact Nat.and_two_pow_sub_one_eq_mod x.toNat 40
theorem i64_and40 (n : Int) : bits .and .i64 n 1099511627775 = n % 1099511627776 := by
  have e : bits .and .i64 n 1099511627775 = IntKind.i64.wrap ((BitVec.ofInt 64 n &&& BitVec.ofInt 64 1099511627775).toNat : Nat) := rfl
  have h : (BitVec.ofInt 64 n).toNat = _ := BitVec.toNat_ofInt n
  rw [e, low40, IntKind.wrap_i64]
  omega
theorem num40 (n : Int) : ∃ q : Int, wrap64 (1 + bits .and .i64 n 1099511627775) = q ∧ 1 ≤ q ∧ q ≤ 1099511627776 := by
  rw [i64_and40]
  refine ⟨_, rfl, ?_, ?_⟩ <;> unfold wrap64 <;> omega

theorem next_b (n s k : Int) (r : (Int × Int) × Int) (w : World) (hn : -9223372036854775808 ≤ n) (h : Sm.nxt n k = r) :
    Calls Try.prog 11 #[.agg #[.int .i64 n, .int .i64 s], .int .i64 k] w fun e w' => e = .returned (nv r) ∧ Below w.heap.size w w' := by
  rw [← h]
  exact next_any n s k w hn

set_option maxRecDepth 100000 in
set_option maxHeartbeats 2000000 in
theorem walkStampNext (w : World) (n : Int) (hn : (Lit.int .i64 n).wf = true) (a : Int) (ha : (Lit.int .i64 a).wf = true) (b : Int) (hb : (Lit.int .i64 b).wf = true) :
    Calls Try.prog 6 #[.int .i64 n, .int .i64 a, .int .i64 b] w fun e w' => e = .returned (.bool true) ∧ Below w.heap.size w w' := by
  obtain ⟨n1, n2⟩ := bounds_i64 hn
  clear hn ha hb
  go_enter Try.func6, Try.ntmps6
  go_wp2_with fail
  refine (sawake_any _).mono ?_
  rintro e w1 ⟨rfl, hb1⟩
  go_wp2_with fail
  obtain ⟨q, hq, q1, q2⟩ := num40 n
  obtain ⟨x, hx, x1, x2⟩ := site6 a
  obtain ⟨y, hy, y1, y2⟩ := site6 b
  rw [hq, hx, hy]
  have Q1 := Lib.hid q1
  have Q2 := Lib.hid q2
  have X1 := Lib.hid x1
  have X2 := Lib.hid x2
  have Y1 := Lib.hid y1
  have Y2 := Lib.hid y2
  have hsite : Sm.isSite y = true := by simp only [Sm.isSite, decide_eq_true_eq]; omega
  have HSI := Lib.hid hsite
  clear hq hx hy n1 n2 q1 q2 x1 x2 y1 y2 hsite
  by_cases hmax : q = 1099511627776
  · have HM := Lib.hid hmax
    have heq : (q == 1099511627776) = true := by simpa using hmax
    clear hmax
    refine (next_b q x y ((0, 0), 18) _ (by have := Q1.out; omega) (by rw [Sm.nxt, if_neg (by rw [HSI.out]; simp), if_pos (by have := HM.out; omega)])).mono ?_
    rintro e w2 ⟨rfl, hb⟩
    have c0 : w2.cell? ⟨w1.heap.size, 0, none⟩ = some (.int .i64 q) := kc hb (by simp)
    have c1 : w2.cell? ⟨w1.heap.size, 1, none⟩ = some (.int .i64 x) := kc hb (by simp)
    have hz := lt_of_cellN c0
    have hbel := bstep (balloc hb1 _) hb
    clear hb hb1
    go_wp2
    go_ret
    exact ⟨rfl, balloc hbel _⟩
  · have HM := Lib.hid hmax
    obtain ⟨u, hu⟩ : ∃ u, u = q + 1 := ⟨_, rfl⟩
    have HU := Lib.hid hu
    have hm1 : wrap64 (u - 1) = q := by have := Q1.out; have := Q2.out; unfold wrap64; omega
    have HM1 := Lib.hid hm1
    clear hmax hu hm1
    refine (next_b q x y ((u, y), 0) _ (by have := Q1.out; omega) (by
      have := HM.out; have := Q1.out; have := Q2.out
      rw [Sm.nxt, if_neg (by rw [HSI.out]; simp), if_neg (by omega), if_neg (by omega), ← HU.out])).mono ?_
    rintro e w2 ⟨rfl, hb⟩
    have c0 : w2.cell? ⟨w1.heap.size, 0, none⟩ = some (.int .i64 q) := kc hb (by simp)
    have c1 : w2.cell? ⟨w1.heap.size, 1, none⟩ = some (.int .i64 x) := kc hb (by simp)
    have hz := lt_of_cellN c0
    have hbel := bstep (balloc hb1 _) hb
    clear hb hb1
    go_wp2_with fail
    rw [HM1.out]
    have hyy : (y == y) = true := by simp
    refine (less_b q x u y true _ (by rw [Sm.less_iff]; have := HU.out; simp; omega)).mono ?_
    rintro e w3 ⟨rfl, hb⟩
    have c2 : w3.cell? ⟨w2.heap.size, 0, none⟩ = some (.int .i64 u) := kc hb (by simp)
    have c3 : w3.cell? ⟨w2.heap.size, 1, none⟩ = some (.int .i64 y) := kc hb (by simp)
    have c4 : w3.cell? ⟨w2.heap.size + 1, 0, none⟩ = some (.int .i64 q) := kc hb (by simp)
    have c5 : w3.cell? ⟨w2.heap.size + 1, 1, none⟩ = some (.int .i64 5) := kc hb (by simp)
    have hb3 := bstep (balloc (balloc (Below.refl _ w2) _) _) hb
    replace c0 := kc hb3 c0
    replace c1 := kc hb3 c1
    replace hbel := bstep hbel hb3
    clear hb hb3 hz
    go_wp2_with fail
    refine (less_b q 6 q 5 false _ (by simp [Sm.less])).mono ?_
    rintro e w4 ⟨rfl, hb⟩
    replace c0 := kc hb c0
    replace c1 := kc hb c1
    replace c2 := kc hb c2
    replace c3 := kc hb c3
    replace c4 := kc hb c4
    replace c5 := kc hb c5
    replace hbel := bstep hbel hb
    clear hb
    go_wp2_with fail
    refine (check_b u y true _ (by simp only [Sm.ok, decide_eq_true_eq]; have := HU.out; have := Q1.out; have := Q2.out; have := HM.out; have := Y1.out; have := Y2.out; omega)).mono ?_
    rintro e w5 ⟨rfl, hb⟩
    replace hbel := bstep hbel hb
    clear hb c0 c1 c2 c3 c4 c5
    go_wp2
    go_ret
    exact ⟨rfl, hbel⟩
end Go.Proofs.Ytmfjoiajghmeoaa
