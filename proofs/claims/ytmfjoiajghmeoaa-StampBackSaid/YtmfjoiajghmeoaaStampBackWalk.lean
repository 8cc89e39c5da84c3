/- The walk of the law StampBack. -/
import Derived.Test.YtmfjoiajghmeoaaStampBackMath
import Derived.Test.YtmfjoiajghmeoaaStampNums
namespace Go.Proofs.Ytmfjoiajghmeoaa
open Go.RowKit
set_option linter.unusedVariables false

theorem bytes_b (n s : Int) (l : List UInt8) (w : World) (h : sbytes n s = l) :
    Calls Try.prog 17 #[.agg #[.int .i64 n, .int .i64 s]] w fun e w' => e = .returned (.string ⟨l.toArray⟩) ∧ Below w.heap.size w w' := by
  rw [← h]
  exact bytes_any n s w
theorem size3 (x y : ByteArray) (l : List UInt8) : (x ++ ⟨l.toArray⟩ ++ y : ByteArray).size = x.size + l.length + y.size := by
  have e : (⟨l.toArray⟩ : ByteArray).size = l.length := by show l.toArray.size = _; simp
  rw [ByteArray.size_append, ByteArray.size_append, e]
theorem sread_b (s : ByteArray) (at_ : Int) (r : Option ((Int × Int) × Nat)) (w : World) (hs : s.size ≤ 9223372036854775807) (h : Sm.rdS (rd s.data.toList) at_ = r) :
    Calls Try.prog 19 #[.string s, .int .i64 at_] w fun e w' => e = .returned (srV r) ∧ Below w.heap.size w w' := by
  rw [← h]
  exact sread_any s at_ w hs

set_option maxRecDepth 100000 in
set_option maxHeartbeats 2000000 in
theorem backBB (w : World) (n s : Int) (a b : ByteArray) (za : a.size ≤ maxLen) (zb : b.size ≤ maxLen) (ha : 5 < a.size) (hb : 5 < b.size) :
    Calls Try.prog 4 #[.agg #[.int .i64 n, .int .i64 s], .string a, .string b] w fun e w' => e = .returned (.bool true) ∧ Below w.heap.size w w' := by
  unfold maxLen at za zb
  obtain ⟨x, hx⟩ : ∃ x, x = a.extract 0 5 := ⟨_, rfl⟩
  obtain ⟨y, hy⟩ : ∃ y, y = b.extract 0 5 := ⟨_, rfl⟩
  have hxs : x.size ≤ 5 := by rw [hx]; simp; omega
  have hys : y.size ≤ 5 := by rw [hy]; simp; omega
  have qa : decide ((5 : Int) < (a.size : Int)) = true := by simp; omega
  have qa' : decide (5 < a.size) = true := by simp; omega
  have qb : decide ((5 : Int) < (b.size : Int)) = true := by simp; omega
  have qb' : decide (5 < b.size) = true := by simp; omega
  obtain ⟨l, hl⟩ : ∃ l, sbytes n s = l := ⟨_, rfl⟩
  have hll : l.length ≤ 20 := by rw [← hl]; exact sbytes_len n s
  have heq : ∀ w', (binOp .eql 25 (.agg #[.int .i64 n, .int .i64 s]) (.agg #[.int .i64 n, .int .i64 s])).run Try.prog w' = .ok (.bool true) w' := fun w' => by rw [eq_stamp]; simp
  have HL := Lib.hid hl
  have HX := Lib.hid hx
  have HY := Lib.hid hy
  clear hl hx hy
  cases hok : Sm.ok n s with
  | false =>
    have hln : l = [] := by rw [← HL.out]; simp [sbytes, hok]
    have HOK := Lib.hid hok
    clear hok
    go_enter Try.func4, Try.ntmps4
    go_wp2_with fail
    refine (sawake_any _).mono ?_
    rintro e w1 ⟨rfl, hb⟩
    have c0 : w1.cell? ⟨w.heap.size, 0, none⟩ = some (.int .i64 n) := kc hb (by simp)
    have c1 : w1.cell? ⟨w.heap.size, 1, none⟩ = some (.int .i64 s) := kc hb (by simp)
    have hbel := bstep (balloc (Below.refl _ w) _) hb
    clear hb
    go_wp2_with fail
    refine (bytes_b n s l _ HL.out).mono ?_
    rintro e w2 ⟨rfl, hb⟩
    replace c0 := kc hb c0
    replace c1 := kc hb c1
    replace hbel := bstep hbel hb
    clear hb
    go_wp2_with fail
    refine (check_b n s false _ HOK.out).mono ?_
    rintro e w3 ⟨rfl, hb⟩
    replace hbel := bstep hbel hb
    clear hb c0 c1
    subst hln
    go_wp2
    go_ret
    exact ⟨rfl, hbel⟩
  | true =>
    have HOK := Lib.hid hok
    clear hok
    have hrd := srd_bytes x y l HOK.out HL.out
    have HRD := Lib.hid hrd
    clear hrd
    have hsz : (x ++ ⟨l.toArray⟩ ++ y : ByteArray).size ≤ 9223372036854775807 := by rw [size3]; omega
    have HSZ := Lib.hid hsz
    clear hsz
    have n1 : ¬ 9223372036854775807 < x.size + l.length := by omega
    have n2 : ¬ 9223372036854775807 < x.size + l.length + y.size := by omega
    go_enter Try.func4, Try.ntmps4
    go_wp2_with fail
    refine (sawake_any _).mono ?_
    rintro e w1 ⟨rfl, hb⟩
    have c0 : w1.cell? ⟨w.heap.size, 0, none⟩ = some (.int .i64 n) := kc hb (by simp)
    have c1 : w1.cell? ⟨w.heap.size, 1, none⟩ = some (.int .i64 s) := kc hb (by simp)
    have hbel := bstep (balloc (Below.refl _ w) _) hb
    clear hb
    go_wp2_with fail
    refine (bytes_b n s l _ HL.out).mono ?_
    rintro e w2 ⟨rfl, hb⟩
    replace c0 := kc hb c0
    replace c1 := kc hb c1
    replace hbel := bstep hbel hb
    clear hb
    rw [← HX.out]
    rw [← HY.out]
    clear qa qa' qb qb'
    go_wp2_with fail
    refine (check_b n s true _ HOK.out).mono ?_
    rintro e w3 ⟨rfl, hb⟩
    replace c0 := kc hb c0
    replace c1 := kc hb c1
    replace hbel := bstep hbel hb
    clear hb
    go_wp2_with fail
    refine (sread_b _ _ (some ((n, s), x.size + l.length)) _ HSZ.out HRD.out).mono ?_
    rintro e w4 ⟨rfl, hb⟩
    replace c0 := kc hb c0
    replace c1 := kc hb c1
    have z4 := lt_of_cellN c0
    replace hbel := bstep hbel hb
    clear hb
    rw [srV]
    go_wp2
    go_ret
    exact ⟨rfl, balloc hbel _⟩

set_option maxRecDepth 100000 in
set_option maxHeartbeats 2000000 in
theorem backBS (w : World) (n s : Int) (a b : ByteArray) (za : a.size ≤ maxLen) (zb : b.size ≤ maxLen) (ha : 5 < a.size) (hb : b.size ≤ 5) :
    Calls Try.prog 4 #[.agg #[.int .i64 n, .int .i64 s], .string a, .string b] w fun e w' => e = .returned (.bool true) ∧ Below w.heap.size w w' := by
  unfold maxLen at za zb
  obtain ⟨x, hx⟩ : ∃ x, x = a.extract 0 5 := ⟨_, rfl⟩
  obtain ⟨y, hy⟩ : ∃ y, y = b := ⟨_, rfl⟩
  have hxs : x.size ≤ 5 := by rw [hx]; simp; omega
  have hys : y.size ≤ 5 := by rw [hy]; exact hb
  have qa : decide ((5 : Int) < (a.size : Int)) = true := by simp; omega
  have qa' : decide (5 < a.size) = true := by simp; omega
  have qb : decide ((5 : Int) < (b.size : Int)) = false := by simp; omega
  have qb' : decide (5 < b.size) = false := by simp; omega
  obtain ⟨l, hl⟩ : ∃ l, sbytes n s = l := ⟨_, rfl⟩
  have hll : l.length ≤ 20 := by rw [← hl]; exact sbytes_len n s
  have heq : ∀ w', (binOp .eql 25 (.agg #[.int .i64 n, .int .i64 s]) (.agg #[.int .i64 n, .int .i64 s])).run Try.prog w' = .ok (.bool true) w' := fun w' => by rw [eq_stamp]; simp
  have HL := Lib.hid hl
  have HX := Lib.hid hx
  have HY := Lib.hid hy
  clear hl hx hy
  cases hok : Sm.ok n s with
  | false =>
    have hln : l = [] := by rw [← HL.out]; simp [sbytes, hok]
    have HOK := Lib.hid hok
    clear hok
    go_enter Try.func4, Try.ntmps4
    go_wp2_with fail
    refine (sawake_any _).mono ?_
    rintro e w1 ⟨rfl, hb⟩
    have c0 : w1.cell? ⟨w.heap.size, 0, none⟩ = some (.int .i64 n) := kc hb (by simp)
    have c1 : w1.cell? ⟨w.heap.size, 1, none⟩ = some (.int .i64 s) := kc hb (by simp)
    have hbel := bstep (balloc (Below.refl _ w) _) hb
    clear hb
    go_wp2_with fail
    refine (bytes_b n s l _ HL.out).mono ?_
    rintro e w2 ⟨rfl, hb⟩
    replace c0 := kc hb c0
    replace c1 := kc hb c1
    replace hbel := bstep hbel hb
    clear hb
    go_wp2_with fail
    refine (check_b n s false _ HOK.out).mono ?_
    rintro e w3 ⟨rfl, hb⟩
    replace hbel := bstep hbel hb
    clear hb c0 c1
    subst hln
    go_wp2
    go_ret
    exact ⟨rfl, hbel⟩
  | true =>
    have HOK := Lib.hid hok
    clear hok
    have hrd := srd_bytes x y l HOK.out HL.out
    have HRD := Lib.hid hrd
    clear hrd
    have hsz : (x ++ ⟨l.toArray⟩ ++ y : ByteArray).size ≤ 9223372036854775807 := by rw [size3]; omega
    have HSZ := Lib.hid hsz
    clear hsz
    have n1 : ¬ 9223372036854775807 < x.size + l.length := by omega
    have n2 : ¬ 9223372036854775807 < x.size + l.length + y.size := by omega
    go_enter Try.func4, Try.ntmps4
    go_wp2_with fail
    refine (sawake_any _).mono ?_
    rintro e w1 ⟨rfl, hb⟩
    have c0 : w1.cell? ⟨w.heap.size, 0, none⟩ = some (.int .i64 n) := kc hb (by simp)
    have c1 : w1.cell? ⟨w.heap.size, 1, none⟩ = some (.int .i64 s) := kc hb (by simp)
    have hbel := bstep (balloc (Below.refl _ w) _) hb
    clear hb
    go_wp2_with fail
    refine (bytes_b n s l _ HL.out).mono ?_
    rintro e w2 ⟨rfl, hb⟩
    replace c0 := kc hb c0
    replace c1 := kc hb c1
    replace hbel := bstep hbel hb
    clear hb
    rw [← HX.out]
    have hyb : y = b := HY.out
    subst hyb
    clear qa qa' qb qb'
    go_wp2_with fail
    refine (check_b n s true _ HOK.out).mono ?_
    rintro e w3 ⟨rfl, hb⟩
    replace c0 := kc hb c0
    replace c1 := kc hb c1
    replace hbel := bstep hbel hb
    clear hb
    go_wp2_with fail
    refine (sread_b _ _ (some ((n, s), x.size + l.length)) _ HSZ.out HRD.out).mono ?_
    rintro e w4 ⟨rfl, hb⟩
    replace c0 := kc hb c0
    replace c1 := kc hb c1
    have z4 := lt_of_cellN c0
    replace hbel := bstep hbel hb
    clear hb
    rw [srV]
    go_wp2
    go_ret
    exact ⟨rfl, balloc hbel _⟩

set_option maxRecDepth 100000 in
set_option maxHeartbeats 2000000 in
theorem backSB (w : World) (n s : Int) (a b : ByteArray) (za : a.size ≤ maxLen) (zb : b.size ≤ maxLen) (ha : a.size ≤ 5) (hb : 5 < b.size) :
    Calls Try.prog 4 #[.agg #[.int .i64 n, .int .i64 s], .string a, .string b] w fun e w' => e = .returned (.bool true) ∧ Below w.heap.size w w' := by
  unfold maxLen at za zb
  obtain ⟨x, hx⟩ : ∃ x, x = a := ⟨_, rfl⟩
  obtain ⟨y, hy⟩ : ∃ y, y = b.extract 0 5 := ⟨_, rfl⟩
  have hxs : x.size ≤ 5 := by rw [hx]; exact ha
  have hys : y.size ≤ 5 := by rw [hy]; simp; omega
  have qa : decide ((5 : Int) < (a.size : Int)) = false := by simp; omega
  have qa' : decide (5 < a.size) = false := by simp; omega
  have qb : decide ((5 : Int) < (b.size : Int)) = true := by simp; omega
  have qb' : decide (5 < b.size) = true := by simp; omega
  obtain ⟨l, hl⟩ : ∃ l, sbytes n s = l := ⟨_, rfl⟩
  have hll : l.length ≤ 20 := by rw [← hl]; exact sbytes_len n s
  have heq : ∀ w', (binOp .eql 25 (.agg #[.int .i64 n, .int .i64 s]) (.agg #[.int .i64 n, .int .i64 s])).run Try.prog w' = .ok (.bool true) w' := fun w' => by rw [eq_stamp]; simp
  have HL := Lib.hid hl
  have HX := Lib.hid hx
  have HY := Lib.hid hy
  clear hl hx hy
  cases hok : Sm.ok n s with
  | false =>
    have hln : l = [] := by rw [← HL.out]; simp [sbytes, hok]
    have HOK := Lib.hid hok
    clear hok
    go_enter Try.func4, Try.ntmps4
    go_wp2_with fail
    refine (sawake_any _).mono ?_
    rintro e w1 ⟨rfl, hb⟩
    have c0 : w1.cell? ⟨w.heap.size, 0, none⟩ = some (.int .i64 n) := kc hb (by simp)
    have c1 : w1.cell? ⟨w.heap.size, 1, none⟩ = some (.int .i64 s) := kc hb (by simp)
    have hbel := bstep (balloc (Below.refl _ w) _) hb
    clear hb
    go_wp2_with fail
    refine (bytes_b n s l _ HL.out).mono ?_
    rintro e w2 ⟨rfl, hb⟩
    replace c0 := kc hb c0
    replace c1 := kc hb c1
    replace hbel := bstep hbel hb
    clear hb
    go_wp2_with fail
    refine (check_b n s false _ HOK.out).mono ?_
    rintro e w3 ⟨rfl, hb⟩
    replace hbel := bstep hbel hb
    clear hb c0 c1
    subst hln
    go_wp2
    go_ret
    exact ⟨rfl, hbel⟩
  | true =>
    have HOK := Lib.hid hok
    clear hok
    have hrd := srd_bytes x y l HOK.out HL.out
    have HRD := Lib.hid hrd
    clear hrd
    have hsz : (x ++ ⟨l.toArray⟩ ++ y : ByteArray).size ≤ 9223372036854775807 := by rw [size3]; omega
    have HSZ := Lib.hid hsz
    clear hsz
    have n1 : ¬ 9223372036854775807 < x.size + l.length := by omega
    have n2 : ¬ 9223372036854775807 < x.size + l.length + y.size := by omega
    go_enter Try.func4, Try.ntmps4
    go_wp2_with fail
    refine (sawake_any _).mono ?_
    rintro e w1 ⟨rfl, hb⟩
    have c0 : w1.cell? ⟨w.heap.size, 0, none⟩ = some (.int .i64 n) := kc hb (by simp)
    have c1 : w1.cell? ⟨w.heap.size, 1, none⟩ = some (.int .i64 s) := kc hb (by simp)
    have hbel := bstep (balloc (Below.refl _ w) _) hb
    clear hb
    go_wp2_with fail
    refine (bytes_b n s l _ HL.out).mono ?_
    rintro e w2 ⟨rfl, hb⟩
    replace c0 := kc hb c0
    replace c1 := kc hb c1
    replace hbel := bstep hbel hb
    clear hb
    rw [← HY.out]
    have hxa : x = a := HX.out
    subst hxa
    clear qa qa' qb qb'
    go_wp2_with fail
    refine (check_b n s true _ HOK.out).mono ?_
    rintro e w3 ⟨rfl, hb⟩
    replace c0 := kc hb c0
    replace c1 := kc hb c1
    replace hbel := bstep hbel hb
    clear hb
    go_wp2_with fail
    refine (sread_b _ _ (some ((n, s), x.size + l.length)) _ HSZ.out HRD.out).mono ?_
    rintro e w4 ⟨rfl, hb⟩
    replace c0 := kc hb c0
    replace c1 := kc hb c1
    have z4 := lt_of_cellN c0
    replace hbel := bstep hbel hb
    clear hb
    rw [srV]
    go_wp2
    go_ret
    exact ⟨rfl, balloc hbel _⟩

set_option maxRecDepth 100000 in
set_option maxHeartbeats 2000000 in
theorem backSS (w : World) (n s : Int) (a b : ByteArray) (za : a.size ≤ maxLen) (zb : b.size ≤ maxLen) (ha : a.size ≤ 5) (hb : b.size ≤ 5) :
    Calls Try.prog 4 #[.agg #[.int .i64 n, .int .i64 s], .string a, .string b] w fun e w' => e = .returned (.bool true) ∧ Below w.heap.size w w' := by
  unfold maxLen at za zb
  obtain ⟨x, hx⟩ : ∃ x, x = a := ⟨_, rfl⟩
  obtain ⟨y, hy⟩ : ∃ y, y = b := ⟨_, rfl⟩
  have hxs : x.size ≤ 5 := by rw [hx]; exact ha
  have hys : y.size ≤ 5 := by rw [hy]; exact hb
  have qa : decide ((5 : Int) < (a.size : Int)) = false := by simp; omega
  have qa' : decide (5 < a.size) = false := by simp; omega
  have qb : decide ((5 : Int) < (b.size : Int)) = false := by simp; omega
  have qb' : decide (5 < b.size) = false := by simp; omega
  obtain ⟨l, hl⟩ : ∃ l, sbytes n s = l := ⟨_, rfl⟩
  have hll : l.length ≤ 20 := by rw [← hl]; exact sbytes_len n s
  have heq : ∀ w', (binOp .eql 25 (.agg #[.int .i64 n, .int .i64 s]) (.agg #[.int .i64 n, .int .i64 s])).run Try.prog w' = .ok (.bool true) w' := fun w' => by rw [eq_stamp]; simp
  have HL := Lib.hid hl
  have HX := Lib.hid hx
  have HY := Lib.hid hy
  clear hl hx hy
  cases hok : Sm.ok n s with
  | false =>
    have hln : l = [] := by rw [← HL.out]; simp [sbytes, hok]
    have HOK := Lib.hid hok
    clear hok
    go_enter Try.func4, Try.ntmps4
    go_wp2_with fail
    refine (sawake_any _).mono ?_
    rintro e w1 ⟨rfl, hb⟩
    have c0 : w1.cell? ⟨w.heap.size, 0, none⟩ = some (.int .i64 n) := kc hb (by simp)
    have c1 : w1.cell? ⟨w.heap.size, 1, none⟩ = some (.int .i64 s) := kc hb (by simp)
    have hbel := bstep (balloc (Below.refl _ w) _) hb
    clear hb
    go_wp2_with fail
    refine (bytes_b n s l _ HL.out).mono ?_
    rintro e w2 ⟨rfl, hb⟩
    replace c0 := kc hb c0
    replace c1 := kc hb c1
    replace hbel := bstep hbel hb
    clear hb
    go_wp2_with fail
    refine (check_b n s false _ HOK.out).mono ?_
    rintro e w3 ⟨rfl, hb⟩
    replace hbel := bstep hbel hb
    clear hb c0 c1
    subst hln
    go_wp2
    go_ret
    exact ⟨rfl, hbel⟩
  | true =>
    have HOK := Lib.hid hok
    clear hok
    have hrd := srd_bytes x y l HOK.out HL.out
    have HRD := Lib.hid hrd
    clear hrd
    have hsz : (x ++ ⟨l.toArray⟩ ++ y : ByteArray).size ≤ 9223372036854775807 := by rw [size3]; omega
    have HSZ := Lib.hid hsz
    clear hsz
    have n1 : ¬ 9223372036854775807 < x.size + l.length := by omega
    have n2 : ¬ 9223372036854775807 < x.size + l.length + y.size := by omega
    go_enter Try.func4, Try.ntmps4
    go_wp2_with fail
    refine (sawake_any _).mono ?_
    rintro e w1 ⟨rfl, hb⟩
    have c0 : w1.cell? ⟨w.heap.size, 0, none⟩ = some (.int .i64 n) := kc hb (by simp)
    have c1 : w1.cell? ⟨w.heap.size, 1, none⟩ = some (.int .i64 s) := kc hb (by simp)
    have hbel := bstep (balloc (Below.refl _ w) _) hb
    clear hb
    go_wp2_with fail
    refine (bytes_b n s l _ HL.out).mono ?_
    rintro e w2 ⟨rfl, hb⟩
    replace c0 := kc hb c0
    replace c1 := kc hb c1
    replace hbel := bstep hbel hb
    clear hb
    have hxa : x = a := HX.out
    subst hxa
    have hyb : y = b := HY.out
    subst hyb
    clear qa qa' qb qb'
    go_wp2_with fail
    refine (check_b n s true _ HOK.out).mono ?_
    rintro e w3 ⟨rfl, hb⟩
    replace c0 := kc hb c0
    replace c1 := kc hb c1
    replace hbel := bstep hbel hb
    clear hb
    go_wp2_with fail
    refine (sread_b _ _ (some ((n, s), x.size + l.length)) _ HSZ.out HRD.out).mono ?_
    rintro e w4 ⟨rfl, hb⟩
    replace c0 := kc hb c0
    replace c1 := kc hb c1
    have z4 := lt_of_cellN c0
    replace hbel := bstep hbel hb
    clear hb
    rw [srV]
    go_wp2
    go_ret
    exact ⟨rfl, balloc hbel _⟩

theorem walkStampBack (w : World) (n s : Int) (h : In64 (n, s)) (a : ByteArray) (za : a.size ≤ maxLen) (b : ByteArray) (zb : b.size ≤ maxLen) :
    Calls Try.prog 4 #[.agg #[.int .i64 n, .int .i64 s], .string a, .string b] w fun e w' => e = .returned (.bool true) ∧ Below w.heap.size w w' := by
  by_cases ha : a.size ≤ 5 <;> by_cases hb : b.size ≤ 5
  · exact backSS w n s a b za zb ha hb
  · exact backSB w n s a b za zb ha (by omega)
  · exact backBS w n s a b za zb (by omega) hb
  · exact backBB w n s a b za zb (by omega) (by omega)
end Go.Proofs.Ytmfjoiajghmeoaa
