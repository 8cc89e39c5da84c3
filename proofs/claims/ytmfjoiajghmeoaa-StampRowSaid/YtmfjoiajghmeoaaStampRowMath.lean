/- Stamps that may be, out of a row; their bytes, one behind the other. -/
import Derived.Test.YtmfjoiajghmeoaaStampBackMath
import Derived.Test.YtmfjoiajghmeoaaStampRows
namespace Go.Proofs.Ytmfjoiajghmeoaa
open Go.RowKit
set_option linter.unusedVariables false

/-- Those of the first k that may be. -/
def filt (l : List (Int × Int)) (k : Nat) : List (Int × Int) := (l.take k).filter fun p => Sm.ok p.1 p.2
theorem filt_yes (l : List (Int × Int)) (k : Nat) (h : k < l.length) (ho : Sm.ok l[k].1 l[k].2 = true) : filt l (k + 1) = filt l k ++ [l[k]] := by
  unfold filt
  rw [List.take_succ_eq_append_getElem h, List.filter_append]
  simp [ho]
theorem filt_no (l : List (Int × Int)) (k : Nat) (h : k < l.length) (ho : Sm.ok l[k].1 l[k].2 = false) : filt l (k + 1) = filt l k := by
  unfold filt
  rw [List.take_succ_eq_append_getElem h, List.filter_append]
  simp [ho]
theorem filt_len (l : List (Int × Int)) (k : Nat) : (filt l k).length ≤ k := by
  unfold filt
  have h1 := List.length_filter_le (fun p : Int × Int => Sm.ok p.1 p.2) (l.take k)
  have h2 := List.length_take_le k l
  omega
theorem filt_ok (l : List (Int × Int)) (k : Nat) : ∀ p ∈ filt l k, Sm.ok p.1 p.2 = true := by
  intro p hp
  unfold filt at hp
  simpa using (List.mem_filter.1 hp).2

/-- The bytes of all. -/
def bsl (l : List (Int × Int)) : List UInt8 := l.flatMap fun p => sbytes p.1 p.2
theorem bsl_snoc (l : List (Int × Int)) (p : Int × Int) : bsl (l ++ [p]) = bsl l ++ sbytes p.1 p.2 := by simp [bsl]
theorem bsl_len (l : List (Int × Int)) : (bsl l).length ≤ 20 * l.length := by
  induction l with
  | nil => simp [bsl]
  | cons p r ih =>
    have := sbytes_len p.1 p.2
    simp [bsl] at ih ⊢
    omega
theorem bsl_parts (l : List (Int × Int)) (k : Nat) (h : k < l.length) : bsl l = bsl (l.take k) ++ (sbytes l[k].1 l[k].2 ++ bsl (l.drop (k + 1))) := by
  have e : l = l.take k ++ (l[k] :: l.drop (k + 1)) := by
    rw [← List.drop_eq_getElem_cons h, List.take_append_drop]
  have e2 : bsl l = bsl (l.take k ++ (l[k] :: l.drop (k + 1))) := congrArg bsl e
  rw [e2]
  unfold bsl
  rw [List.flatMap_append, List.flatMap_cons]
theorem bsl_take (l : List (Int × Int)) (k : Nat) (h : k < l.length) : (bsl (l.take (k + 1))).length = (bsl (l.take k)).length + (sbytes l[k].1 l[k].2).length := by
  rw [List.take_succ_eq_append_getElem h, bsl_snoc, List.length_append]
/-- They are read one by one. -/
theorem row_read (l : List (Int × Int)) (k : Nat) (h : k < l.length) (ho : Sm.ok l[k].1 l[k].2 = true) : Sm.rdS (rd (bsl l)) ((bsl (l.take k)).length : Int) = some (l[k], (bsl (l.take (k + 1))).length) := by
  rw [bsl_parts l k h, srd_at _ _ ho, bsl_take l k h]
/-- With the last byte gone the last one is none. -/
theorem row_cut (l : List (Int × Int)) (k : Nat) (h : k + 1 = l.length) (ho : Sm.ok (l[k]'(by omega)).1 (l[k]'(by omega)).2 = true) : Sm.rdS (rd ((bsl l).take ((bsl l).length - 1))) ((bsl (l.take k)).length : Int) = none := by
  have hk : k < l.length := by omega
  have hp := ho
  simp only [Sm.ok, decide_eq_true_eq] at hp
  have e : bsl l = bsl (l.take k) ++ Vm.enc l[k].1.toNat ++ [UInt8.ofNat l[k].2.toNat] := by
    rw [bsl_parts l k hk, List.drop_eq_nil_of_le (by omega), sbytes_ok ho, Vm.enc_lt (n := l[k].2.toNat) (by omega)]
    simp [bsl]
  rw [e, List.length_append, List.length_singleton, Nat.add_sub_cancel, List.take_left' rfl]
  have e1 := rd_at (bsl (l.take k)) [] l[k].1.toNat (by omega)
  rw [List.append_nil] at e1
  unfold Sm.rdS
  rw [e1]
  simp only
  have e2 : rd (bsl (l.take k) ++ Vm.enc l[k].1.toNat) (((bsl (l.take k)).length + (Vm.enc l[k].1.toNat).length : Nat) : Int) = none := by
    unfold rd
    rw [if_neg (by simp; omega), Int.toNat_natCast, List.drop_eq_nil_of_le (by simp)]
    rfl
  rw [e2]

theorem own_below {w w' : World} {base e size n : Nat} {v : Value} {xs : List Value} (h : w.ownsRow base e size v n xs) (hb : Below w.heap.size w w') : w'.ownsRow base e size v n xs := by
  refine ⟨h.1, ?_⟩
  rcases h.2 with h0 | ⟨g, cap, cur, rfl, hbg, hg, r⟩
  · exact .inl h0
  · exact .inr ⟨g, cap, cur, rfl, hbg, (hb.5 g (Array.getElem?_eq_some_iff.1 hg).1).trans hg, r⟩
/-- One stamp appended to a row of the call's own. -/
theorem ownT_push {base : Nat} {l : List (Int × Int)} {x y : Int} {wr w1 : World} {v v' : Value} {T : TypeId} {X : Array Value} (hbs : base ≤ wr.heap.size)
    (ho : wr.ownsRow base 25 2 v l.length (stV l)) (ho' : w1.ownsRow base 25 2 v' (l.length + 1) (stV l ++ [.int .i64 x, .int .i64 y])) (hg : (wr.alloc (.cells X T)).grownBy w1 v.ownBlock) :
    w1.ownsRow base 25 2 v' (l ++ [(x, y)]).length (stV (l ++ [(x, y)])) ∧ Below base wr w1 := by
  refine ⟨by rw [stV_snoc]; simpa using ho', ((Below.refl base wr).alloc hbs _).grown hg (by simp; omega) ?_⟩
  intro k hk
  exact (ho.lt k hk).1
end Go.Proofs.Ytmfjoiajghmeoaa
