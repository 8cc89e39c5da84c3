/- Texts of this proof, one behind the other: VaryMath, StampMath, StampLess, StampMax. -/
import Derived.WalkKit
import Derived.Test.YtfmedinhlmiaeaaProg
import Derived.WalkLawsBesides
import Derived.Lib.Hide
import Derived.BigQuiet
import Derived.Laws.StructEq
import Derived.Deep.RegionHeld3
/- The bytes of a number, as plain mathematics: no Go in sight. -/
namespace Go.Proofs.Ytfmedinhlmiaeaa

theorem ret_int {k : IntKind} {a b : Int} (h : a = b) : Ending.returned (.int k a) = .returned (.int k b) := by rw [h]
theorem ret_str {a b : ByteArray} (h : a = b) : Ending.returned (.string a) = .returned (.string b) := by rw [h]
theorem ret_bool {a b : Bool} (h : a = b) : Ending.returned (.bool a) = .returned (.bool b) := by rw [h]

theorem str_take (l : List UInt8) (k : Nat) : ((⟨l.toArray⟩ : ByteArray).extract 0 k).toList = l.take k := by
  rw [ByteArray.toList_eq, ByteArray.data_extract]
  simp
theorem str_add (l : List UInt8) (s : ByteArray) : (⟨l.toArray⟩ ++ s : ByteArray) = ⟨(l ++ s.data.toList).toArray⟩ := by
  apply ByteArray.ext
  simp

open Go.RowKit in
/-- Two calls, one behind the other, that only make memory. -/
theorem bstep {w a b : World} (h : Below w.heap.size w a) (k : Below a.heap.size a b) : Below w.heap.size w b := h.trans (k.mono h.size)

open Go.RowKit in
theorem balloc {w a : World} (h : Below w.heap.size w a) (o : Obj) : Below w.heap.size w (a.alloc o) := h.alloc h.size o

namespace Vm

/-- The bytes of a number: seven bits each, the lowest first; all but the last have the greatest bit. -/
def enc (n : Nat) : List UInt8 := if n < 128 then [UInt8.ofNat n] else UInt8.ofNat (n % 128 + 128) :: enc (n / 128)
termination_by n
decreasing_by omega

theorem enc_lt {n : Nat} (h : n < 128) : enc n = [UInt8.ofNat n] := by rw [enc, if_pos h]
theorem enc_ge {n : Nat} (h : 128 ≤ n) : enc n = UInt8.ofNat (n % 128 + 128) :: enc (n / 128) := by rw [enc, if_neg (by omega)]

theorem enc_pos (n : Nat) : 1 ≤ (enc n).length := by
  rw [enc]; split <;> simp

/-- Each seven bits more take a byte more. -/
theorem enc_len : ∀ (k n : Nat), n < 128 ^ (k + 1) → (enc n).length ≤ k + 1
  | 0, n, h => by rw [enc_lt (by simpa using h)]; simp
  | k + 1, n, h => by
    by_cases c : n < 128
    · rw [enc_lt c]; simp
    · rw [enc_ge (by omega)]
      have := enc_len k (n / 128) (by rw [Nat.pow_succ] at h; exact Nat.div_lt_of_lt_mul (by rw [Nat.mul_comm]; exact h))
      simp; omega
theorem enc_len_ge : ∀ (k n : Nat), 128 ^ k ≤ n → k + 1 ≤ (enc n).length
  | 0, n, _ => by have := enc_pos n; omega
  | k + 1, n, h => by
    have hn : 128 ≤ n := by
      have : 128 ^ 1 ≤ 128 ^ (k + 1) := Nat.pow_le_pow_right (by omega) (by omega)
      omega
    rw [enc_ge hn]
    have := enc_len_ge k (n / 128) (by rw [Nat.pow_succ] at h; exact (Nat.le_div_iff_mul_le (by omega)).2 h)
    simp; omega
theorem enc_len10 {n : Nat} (h : n < 18446744073709551616) : (enc n).length ≤ 10 :=
  enc_len 9 n (by have : (18446744073709551616 : Nat) ≤ 128 ^ 10 := by decide
                  omega)

theorem or128 (m : Nat) : bits .or .u8 ((m : Int) % 256) 128 = (((UInt8.ofNat (m % 128 + 128)).toNat : Nat) : Int) := by
  have h : ∀ k : Nat, k < 256 → bits .or .u8 (k : Int) 128 = ((k % 128 + 128 : Nat) : Int) := by decide +kernel
  have e : ((m : Int) % 256) = ((m % 256 : Nat) : Int) := by omega
  rw [e, h _ (by omega)]
  simp [UInt8.toNat_ofNat]
  omega
theorem low128 {m : Nat} (h : m < 128) : (m : Int) = (((UInt8.ofNat m).toNat : Nat) : Int) := by
  simp
  omega

/-- The number at whose i-th group a row of bytes begins, and how many bytes it takes. -/
def dec : Nat → List UInt8 → Option (Nat × Nat)
  | _, [] => none
  | i, b :: r =>
    if i = 9 ∧ 1 < b.toNat then none
    else if 128 ≤ b.toNat then (dec (i + 1) r).map fun x => (b.toNat - 128 + 128 * x.1, x.2 + 1)
    else if b.toNat = 0 ∧ 0 < i then none
    else some (b.toNat, 1)

theorem dec_enc : ∀ (j n : Nat) (r : List UInt8), j ≤ 9 → n < 2 ^ (7 * j + 1) → (j = 9 ∨ 0 < n) → dec (9 - j) (enc n ++ r) = some (n, (enc n).length)
  | 0, n, r, _, h, hn => by
    have h2 : n = 1 := by simp at h; omega
    subst h2
    rw [enc_lt (by omega)]
    simp [dec]
  | j + 1, n, r, hj, h, hn => by
    by_cases c : n < 128
    · rw [enc_lt c]
      have e : (UInt8.ofNat n).toNat = n := by simp; omega
      simp only [List.cons_append, List.nil_append, dec, e]
      rw [if_neg (by omega), if_neg (by omega), if_neg (by omega)]
      rfl
    · rw [enc_ge (by omega)]
      have e : (UInt8.ofNat (n % 128 + 128)).toNat = n % 128 + 128 := by simp; omega
      have e9 : 9 - (j + 1) + 1 = 9 - j := by omega
      have hp : (2 : Nat) ^ (7 * (j + 1) + 1) = 2 ^ (7 * j + 1) * 128 := by rw [show 7 * (j + 1) + 1 = (7 * j + 1) + 7 from by omega, Nat.pow_add]
      have ih := dec_enc j (n / 128) r (by omega) (by rw [hp] at h; exact Nat.div_lt_of_lt_mul (by rw [Nat.mul_comm]; exact h)) (by omega)
      simp only [List.cons_append, dec, e, e9, ih]
      rw [if_neg (by omega), if_pos (by omega)]
      simp
      omega

theorem dec_inv : ∀ (l : List UInt8) (j n k : Nat), j ≤ 9 → dec (9 - j) l = some (n, k) → n < 2 ^ (7 * j + 1) ∧ (j = 9 ∨ 0 < n) ∧ k ≤ l.length ∧ l.take k = enc n
  | [], j, n, k, _, h => by simp [dec] at h
  | b :: r, j, n, k, hj, h => by
    simp only [dec] at h
    by_cases c1 : 9 - j = 9 ∧ 1 < b.toNat
    · rw [if_pos c1] at h; cases h
    · rw [if_neg c1] at h
      have hb : b.toNat < 256 := b.toNat_lt
      by_cases c2 : 128 ≤ b.toNat
      · rw [if_pos c2] at h
        cases j with
        | zero => omega
        | succ j =>
          rw [show 9 - (j + 1) + 1 = 9 - j from by omega] at h
          cases hd : dec (9 - j) r with
          | none => rw [hd] at h; cases h
          | some x =>
            obtain ⟨m, q⟩ := x
            rw [hd] at h
            simp at h
            obtain ⟨rfl, rfl⟩ := h
            obtain ⟨i1, i2, i3, i4⟩ := dec_inv r j m q (by omega) hd
            have hp : (2 : Nat) ^ (7 * (j + 1) + 1) = 2 ^ (7 * j + 1) * 128 := by rw [show 7 * (j + 1) + 1 = (7 * j + 1) + 7 from by omega, Nat.pow_add]
            have hmp : 0 < m := by
              rcases i2 with i2 | i2
              · omega
              · exact i2
            refine ⟨by rw [hp]; omega, Or.inr (by omega), by simp; omega, ?_⟩
            rw [enc_ge (by omega), List.take_succ_cons, i4, show (b.toNat - 128 + 128 * m) / 128 = m from by omega]
            congr 1
            apply UInt8.toNat_inj.1
            simp
            omega
      · rw [if_neg c2] at h
        by_cases c3 : b.toNat = 0 ∧ 0 < 9 - j
        · rw [if_pos c3] at h; cases h
        · rw [if_neg c3] at h
          simp at h
          obtain ⟨rfl, rfl⟩ := h
          have hp : (2 : Nat) ^ 1 ≤ 2 ^ (7 * j + 1) := Nat.pow_le_pow_right (by omega) (by omega)
          refine ⟨?_, by omega, by simp, ?_⟩
          · by_cases c4 : j = 0
            · subst c4; simp; omega
            · have : (2 : Nat) ^ 8 ≤ 2 ^ (7 * j + 1) := Nat.pow_le_pow_right (by omega) (by omega)
              omega
          · rw [enc_lt (by omega)]
            simp

/-- The answer behind the first groups: they hold acc. -/
def more (k acc : Nat) (x : Option (Nat × Nat)) : Option (Nat × Nat) := x.map fun y => (acc + y.1 * 2 ^ (7 * k), k + y.2)

theorem dec0_enc (n : Nat) (r : List UInt8) (h : n < 18446744073709551616) : dec 0 (enc n ++ r) = some (n, (enc n).length) :=
  dec_enc 9 n r (Nat.le_refl _) (by simpa using h) (Or.inl rfl)
theorem dec0_inv (l : List UInt8) (n k : Nat) (h : dec 0 l = some (n, k)) : n < 18446744073709551616 ∧ k ≤ l.length ∧ l.take k = enc n := by
  have := dec_inv l 9 n k (Nat.le_refl _) h
  exact ⟨by simpa using this.1, this.2.2⟩

end Vm
end Go.Proofs.Ytfmedinhlmiaeaa
/- Stamps, their order, the greatest and the next one, as plain mathematics: no Go in sight. -/
namespace Go.Proofs.Ytfmedinhlmiaeaa
namespace Sm

/-- May the stamp be? -/
def ok (n s : Int) : Bool := decide (1 ≤ n ∧ n ≤ 1099511627776 ∧ 0 ≤ s ∧ s < 6)
def isSite (s : Int) : Bool := decide (0 ≤ s ∧ s < 6)
/-- Is the first one ahead of the second one? -/
def less (a b : Int × Int) : Bool := decide (a.1 < b.1 ∨ (a.1 = b.1 ∧ a.2 < b.2))
/-- The greater one. -/
def later (a b : Int × Int) : Int × Int := if less b a then a else b
/-- The greatest one of a row, and of the one that was there. -/
def mx (m : Int × Int) (l : List (Int × Int)) : Int × Int := l.foldl later m

theorem less_iff (a b : Int × Int) : less a b = true ↔ (a.1 < b.1 ∨ (a.1 = b.1 ∧ a.2 < b.2)) := by simp [less]
theorem less_false (a b : Int × Int) : less a b = false ↔ (b.1 < a.1 ∨ (a.1 = b.1 ∧ b.2 ≤ a.2)) := by simp [less]; omega
theorem less_self (a : Int × Int) : less a a = false := by simp [less]
theorem pair_ext {a b : Int × Int} (h : a.1 = b.1) (k : a.2 = b.2) : a = b := Prod.ext h k
theorem less_trans {a b c : Int × Int} (h : less a b = true) (k : less b c = true) : less a c = true := by
  rw [less_iff] at *; omega
theorem le_trans {a b c : Int × Int} (h : less b a = false) (k : less c b = false) : less c a = false := by
  rw [less_false] at *; omega
theorem le_antisymm {a b : Int × Int} (h : less b a = false) (k : less a b = false) : a = b := by
  rw [less_false] at *; exact pair_ext (by omega) (by omega)
/-- Less is what stamp.Less says: the later of the two is not the first one. -/
theorem later_ne (a b : Int × Int) : (later a b = a) ↔ less a b = false := by
  unfold later
  by_cases h : less b a = true
  · rw [if_pos h]
    have : less a b = false := by rw [less_iff] at h; rw [less_false]; omega
    simp [this]
  · rw [if_neg h]
    have h' : less b a = false := by simpa using h
    constructor
    · intro e; rw [e]; exact less_self a
    · intro k; exact le_antisymm k h'
theorem later_left (a b : Int × Int) : less (later a b) a = false := by
  unfold later
  by_cases h : less b a = true
  · rw [if_pos h]; exact less_self a
  · rw [if_neg h]; simpa using h
theorem later_right (a b : Int × Int) : less (later a b) b = false := by
  unfold later
  by_cases h : less b a = true
  · rw [if_pos h]; rw [less_iff] at h; rw [less_false]; omega
  · rw [if_neg h]; exact less_self b
theorem later_or (a b : Int × Int) : later a b = a ∨ later a b = b := by
  unfold later; split <;> simp

theorem mx_nil (m : Int × Int) : mx m [] = m := rfl
theorem mx_snoc (m : Int × Int) (l : List (Int × Int)) (x : Int × Int) : mx m (l ++ [x]) = later (mx m l) x := by simp [mx, List.foldl_append]
theorem mx_take (m : Int × Int) (l : List (Int × Int)) (k : Nat) (h : k < l.length) : mx m (l.take (k + 1)) = later (mx m (l.take k)) l[k] := by
  rw [List.take_succ_eq_append_getElem h, mx_snoc]
theorem mx_start : ∀ (l : List (Int × Int)) (m : Int × Int), less (mx m l) m = false
  | [], m => less_self m
  | x :: r, m => le_trans (later_left m x) (mx_start r (later m x))
theorem mx_each : ∀ (l : List (Int × Int)) (m x : Int × Int), x ∈ l → less (mx m l) x = false
  | y :: r, m, x, h => by
    rcases List.mem_cons.1 h with rfl | h
    · exact le_trans (later_right m x) (mx_start r (later m x))
    · exact mx_each r (later m y) x h
theorem mx_in : ∀ (l : List (Int × Int)) (m : Int × Int), mx m l = m ∨ mx m l ∈ l
  | [], m => .inl rfl
  | x :: r, m => by
    rcases mx_in r (later m x) with h | h
    · have e : mx m (x :: r) = later m x := h
      rw [e]
      rcases later_or m x with k | k
      · exact .inl k
      · rw [k]; exact .inr (by simp)
    · exact .inr (List.mem_cons_of_mem _ h)
/-- The greatest one, told by what it is. -/
theorem mx_uniq {l : List (Int × Int)} {m g : Int × Int} (h0 : less g m = false) (h1 : ∀ x ∈ l, less g x = false) (h2 : g = m ∨ g ∈ l) : mx m l = g := by
  apply le_antisymm
  · rcases mx_in l m with h | h
    · rw [h]; exact h0
    · exact h1 _ h
  · rcases h2 with rfl | h
    · exact mx_start l g
    · exact mx_each l m g h
theorem mx_again (l : List (Int × Int)) (m : Int × Int) : mx m (mx m l :: l) = mx m l := by
  refine mx_uniq (mx_start l m) ?_ (.inr (by simp))
  intro x hx
  rcases List.mem_cons.1 hx with rfl | h
  · exact less_self _
  · exact mx_each l m x h
theorem mx_turn (m a b c : Int × Int) : mx m [a, b, c] = mx m [c, a, b] := by
  refine mx_uniq (mx_start _ m) ?_ ?_
  · intro x hx
    refine mx_each _ m x ?_
    simp at hx ⊢
    rcases hx with h | h | h <;> simp [h]
  · rcases mx_in [c, a, b] m with h | h
    · exact .inl h
    · refine .inr ?_
      generalize mx m [c, a, b] = z at h
      simp at h ⊢
      rcases h with h | h | h <;> simp [h]

/-- The next one: its number, and the error's. -/
def nxt (n s : Int) : (Int × Int) × Int :=
  if isSite s = false then ((0, 0), 1) else if 1099511627776 ≤ n then ((0, 0), 18) else ((if n + 1 < 1 then 1 else n + 1, s), 0)

/-- The stamp that is read at a place: two numbers, one behind the other, that make one that may be. -/
def rdS (rd : Int → Option (Nat × Nat)) (a : Int) : Option ((Int × Int) × Nat) :=
  match rd a with
  | none => none
  | some (n, m) =>
    match rd m with
    | none => none
    | some (k, e) => if ok n k = true then some ((n, k), e) else none
end Sm
end Go.Proofs.Ytfmedinhlmiaeaa
/- What stamp.isSite, stamp.Check, stamp.later and stamp.Less answer. -/
namespace Go.Proofs.Ytfmedinhlmiaeaa
open Go.RowKit
set_option linter.unusedVariables false

theorem kcellS {W w1 : World} {b o : Nat} {v : Value} (hb : Below W.heap.size W w1) (hlt : b < W.heap.size) (h : W.cell? ⟨b, o, none⟩ = some v) : w1.cell? ⟨b, o, none⟩ = some v := (hb.cell (p := ⟨b, o, none⟩) hlt).trans h

theorem lt_of_cellN {w : World} {b o : Nat} {v : Value} (h : w.cell? ⟨b, o, none⟩ = some v) : b < w.heap.size := by
  unfold World.cell? at h
  split at h
  · rename_i hb
    exact (Array.getElem?_eq_some_iff.1 hb).1
  · cases h
/-- A cell behind a call that only makes memory. -/
theorem kc {W w1 : World} {b o : Nat} {v : Value} (hb : Below W.heap.size W w1) (h : W.cell? ⟨b, o, none⟩ = some v) : w1.cell? ⟨b, o, none⟩ = some v := kcellS hb (lt_of_cellN h) h
/-- A stamp that lies at a place in memory. -/
abbrev At2 (w : World) (b o : Nat) (p : Int × Int) : Prop := w.cell? ⟨b, o, none⟩ = some (.int .i64 p.1) ∧ w.cell? ⟨b, o + 1, none⟩ = some (.int .i64 p.2)
theorem At2.keep {W w1 : World} {b o : Nat} {p : Int × Int} (hb : Below W.heap.size W w1) (h : At2 W b o p) : At2 w1 b o p := ⟨kc hb h.1, kc hb h.2⟩
theorem keep22 {W w1 : World} {b o b2 o2 b3 o3 b4 o4 : Nat} {x y z u : Value} (hb : Below W.heap.size W w1) (h : W.cell? ⟨b, o, none⟩ = some x ∧ W.cell? ⟨b2, o2, none⟩ = some y ∧ W.cell? ⟨b3, o3, none⟩ = some z ∧ W.cell? ⟨b4, o4, none⟩ = some u) :
    w1.cell? ⟨b, o, none⟩ = some x ∧ w1.cell? ⟨b2, o2, none⟩ = some y ∧ w1.cell? ⟨b3, o3, none⟩ = some z ∧ w1.cell? ⟨b4, o4, none⟩ = some u := ⟨kc hb h.1, kc hb h.2.1, kc hb h.2.2.1, kc hb h.2.2.2⟩

/-- A stamp as a value. -/
abbrev sv (p : Int × Int) : Value := .agg #[.int .i64 p.1, .int .i64 p.2]

/-- Two stamps compared as structs. -/
theorem eq_stamp (w : World) (n s m t : Int) : (binOp .eql 25 (.agg #[.int .i64 n, .int .i64 s]) (.agg #[.int .i64 m, .int .i64 t])).run Try.prog w = .ok (.bool (decide ((n, s) = (m, t)))) w := by
  rw [run_eql_struct, run_equalIn_agg w 9999 25 _ _ (by kernel_rfl) (by kernel_rfl)]
  unfold Program.fieldsOf
  rw [Try.underlying25]
  simp [go_sem, Try.underlying3]
  by_cases h1 : n = m <;> by_cases h2 : s = t <;> simp [h1, h2]
theorem ne_stamp (w : World) (n s m t : Int) : (binOp .neq 25 (.agg #[.int .i64 n, .int .i64 s]) (.agg #[.int .i64 m, .int .i64 t])).run Try.prog w = .ok (.bool (!decide ((n, s) = (m, t)))) w := by
  have h := eq_stamp w n s m t
  rw [run_eql_struct] at h
  rw [run_neq_struct]
  generalize (Op.equalIn 10000 _ _ _).run _ _ = r at h
  cases r with
  | ok b w1 => simp at h ⊢; simp [h]
  | halt x w1 => simp at h

set_option maxRecDepth 100000 in
theorem isSite_any (n : Int) (w : World) :
    Calls Try.prog 67 #[.int .i64 n] w fun e w' => e = .returned (.bool (Sm.isSite n)) ∧ w = w' := by
  go_enter Try.func67, Try.ntmps67
  go_wp2
  all_goals
    go_ret
    refine ⟨ret_bool ?_, rfl⟩
    simp_all [Sm.isSite] <;> omega

set_option maxRecDepth 100000 in
set_option maxHeartbeats 400000 in
theorem scheck_any (n s : Int) (w : World) :
    Calls Try.prog 55 #[.agg #[.int .i64 n, .int .i64 s]] w fun e w' => e = .returned (.bool (Sm.ok n s)) ∧ Below w.heap.size w w' := by
  go_enter Try.func55, Try.ntmps55
  go_wp2_with (go_at_call 67; refine (isSite_any s _).mono ?_; rintro e w2 ⟨rfl, rfl⟩)
  all_goals
    go_ret
    refine ⟨ret_bool ?_, (Below.refl _ _).alloc (Nat.le_refl _) _⟩
    simp_all [Sm.ok, Sm.isSite] <;> omega

set_option maxRecDepth 100000 in
set_option maxHeartbeats 400000 in
theorem later_any (n s m t : Int) (w : World) :
    Calls Try.prog 65 #[.agg #[.int .i64 n, .int .i64 s], .agg #[.int .i64 m, .int .i64 t]] w fun e w' => e = .returned (sv (Sm.later (n, s) (m, t))) ∧ Below w.heap.size w w' := by
  go_enter Try.func65, Try.ntmps65
  go_wp2
  all_goals
    first
      | (have e : Sm.later (n, s) (m, t) = (n, s) := by (unfold Sm.later; rw [if_pos (by rw [Sm.less_iff]; simp; omega)]))
      | (have e : Sm.later (n, s) (m, t) = (m, t) := by (unfold Sm.later; rw [if_neg (by rw [Sm.less_iff]; simp; omega)]))
    rw [e]
    refine bodyPost_ret (v := _) (by simp [results, Try.results65, go_sem]; rfl) rfl ⟨?_, ?_⟩
    · simp [sv]
      try omega
    · exact ((((Below.refl _ w).alloc (Nat.le_refl _) _).alloc (by simp) _).alloc (by simp; omega) _)

set_option maxRecDepth 100000 in
set_option maxHeartbeats 1000000 in
theorem less_any (n s m t : Int) (w : World) :
    Calls Try.prog 52 #[.agg #[.int .i64 n, .int .i64 s], .agg #[.int .i64 m, .int .i64 t]] w fun e w' => e = .returned (.bool (Sm.less (n, s) (m, t))) ∧ Below w.heap.size w w' := by
  go_enter Try.func52, Try.ntmps52
  go_wp2_with fail
  have hne : ∀ w', (binOp .neq 25 (sv (Sm.later (n, s) (m, t))) (.agg #[.int .i64 n, .int .i64 s])).run Try.prog w' = .ok (.bool (Sm.less (n, s) (m, t))) w' := by
    intro w'
    rw [ne_stamp]
    congr 2
    have := Sm.later_ne (n, s) (m, t)
    cases h : Sm.less (n, s) (m, t) <;> simp_all
  have g0 : (((w.alloc (.cells #[.int .i64 n, .int .i64 s] 25)).alloc (.cells #[.int .i64 m, .int .i64 t] 25)).cell? ⟨w.heap.size, 0, none⟩ = some (.int .i64 n) ∧ ((w.alloc (.cells #[.int .i64 n, .int .i64 s] 25)).alloc (.cells #[.int .i64 m, .int .i64 t] 25)).cell? ⟨w.heap.size, 1, none⟩ = some (.int .i64 s) ∧ ((w.alloc (.cells #[.int .i64 n, .int .i64 s] 25)).alloc (.cells #[.int .i64 m, .int .i64 t] 25)).cell? ⟨w.heap.size + 1, 0, none⟩ = some (.int .i64 m) ∧ ((w.alloc (.cells #[.int .i64 n, .int .i64 s] 25)).alloc (.cells #[.int .i64 m, .int .i64 t] 25)).cell? ⟨w.heap.size + 1, 1, none⟩ = some (.int .i64 t)) := by
    refine ⟨?_, ?_, ?_, ?_⟩ <;> simp
  go_region_held3 (fun w' => w'.cell? ⟨w.heap.size, 0, none⟩ = some (.int .i64 n) ∧ w'.cell? ⟨w.heap.size, 1, none⟩ = some (.int .i64 s) ∧ w'.cell? ⟨w.heap.size + 1, 0, none⟩ = some (.int .i64 m) ∧ w'.cell? ⟨w.heap.size + 1, 1, none⟩ = some (.int .i64 t))
    (first | exact g0 | exact g1)
    (first
      | (go_at_call 65; ((with_reducible refine (later_any n s m t _).mono ?_); rintro e wa ⟨rfl, ha⟩; have g1 := keep22 ha g0)))
  go_wp2
  go_ret
  exact ⟨rfl, bstep (balloc (balloc (Below.refl _ w) _) _).drew ha⟩
end Go.Proofs.Ytfmedinhlmiaeaa
/- Rows of stamps in memory; what stamp.Max answers. -/
namespace Go.Proofs.Ytfmedinhlmiaeaa
open Go.RowKit
set_option linter.unusedVariables false

/-- A row of stamps, in memory. -/
def StIn (w : World) (a : Option Addr) (l : List (Int × Int)) : Prop :=
  ∀ i (h : i < l.length), ∃ b off, a = some ⟨b, off, none⟩ ∧ w.cell? ⟨b, off + i * 2, none⟩ = some (.int .i64 l[i].1) ∧ w.cell? ⟨b, off + i * 2 + 1, none⟩ = some (.int .i64 l[i].2)
theorem StIn.below {w w' : World} {a : Option Addr} {l : List (Int × Int)} (h : StIn w a l) (hb : Below w.heap.size w w') : StIn w' a l := by
  intro i hi
  obtain ⟨b, off, rfl, h0, h1⟩ := h i hi
  exact ⟨b, off, rfl, kc hb h0, kc hb h1⟩

/-- A variable of a stamp's type: block b holds it, and may be written. -/
structure Var2 (w : World) (b : Nat) (p : Int × Int) : Prop where
  c0 : w.cell? ⟨b, 0, none⟩ = some (.int .i64 p.1)
  c1 : w.cell? ⟨b, 1, none⟩ = some (.int .i64 p.2)
  f0 : w.frozen? ⟨b, 0, none⟩ = false
  f1 : w.frozen? ⟨b, 1, none⟩ = false
theorem Var2.keep {w w' : World} {b : Nat} {p : Int × Int} (hb : Below w.heap.size w w') (h : Var2 w b p) : Var2 w' b p :=
  ⟨kc hb h.c0, kc hb h.c1, (hb.frozen (p := ⟨b, 0, none⟩) (lt_of_cellN h.c0)).trans h.f0, (hb.frozen (p := ⟨b, 1, none⟩) (lt_of_cellN h.c0)).trans h.f1⟩

theorem Var2.put {w : World} {b : Nat} {p : Int × Int} (h : Var2 w b p) (x y : Int) : Var2 ((w.setCell ⟨b, 0, none⟩ (.int .i64 x)).setCell ⟨b, 1, none⟩ (.int .i64 y)) b (x, y) := by
  have c1 : (w.setCell ⟨b, 0, none⟩ (.int .i64 x)).cell? ⟨b, 1, none⟩ = some (.int .i64 p.2) := by
    rw [World.cell?_setCell_other _ _ _ _ (by simp)]; exact h.c1
  refine ⟨?_, World.cell?_setCell_same _ _ _ c1, by simpa using h.f0, by simpa using h.f1⟩
  rw [World.cell?_setCell_other _ _ _ _ (by simp)]
  exact World.cell?_setCell_same _ _ _ h.c0
theorem Var2.other {w : World} {b : Nat} {p : Int × Int} (h : Var2 w b p) (b' : Nat) (hne : b' ≠ b) (x y : Value) : Var2 ((w.setCell ⟨b', 0, none⟩ x).setCell ⟨b', 1, none⟩ y) b p := by
  refine ⟨?_, ?_, by simpa using h.f0, by simpa using h.f1⟩
  · rw [World.cell?_setCell_other _ _ _ _ (fun e => hne (congrArg Addr.block e)), World.cell?_setCell_other _ _ _ _ (fun e => hne (congrArg Addr.block e))]; exact h.c0
  · rw [World.cell?_setCell_other _ _ _ _ (fun e => hne (congrArg Addr.block e)), World.cell?_setCell_other _ _ _ _ (fun e => hne (congrArg Addr.block e))]; exact h.c1
theorem below_put {w w' : World} {n b : Nat} (hb : Below n w w') (h : n ≤ b) (x y : Value) : Below n w ((w'.setCell ⟨b, 0, none⟩ x).setCell ⟨b, 1, none⟩ y) := (hb.setCell h _).setCell h _

end Go.Proofs.Ytfmedinhlmiaeaa
