/- Texts of this proof, one behind the other: KeysOrd, KeysHas, PastRows. -/
import Derived.Test.YtfmedinhlmiaeaaGQ3
import Derived.Lib.Strings
import Derived.ChangeAlike
import Derived.Deep.AppendLies
/- The order of texts, byte by byte. Plain lemmas: they speak of no one program. -/
namespace Go.Proofs.Ytfmedinhlmiaeaa.Km

theorem bl_eq (x : List UInt8) : ∀ y, Op.bytesLess x y = decide (x < y) := by
  induction x with
  | nil => intro y; cases y <;> simp [Op.bytesLess]
  | cons a x ih =>
    intro y
    cases y with
    | nil => simp [Op.bytesLess]
    | cons b y =>
      simp only [Op.bytesLess, ih, List.cons_lt_cons_iff]
      rw [Bool.eq_iff_iff]
      simp
theorem bl_irrefl (a : List UInt8) : Op.bytesLess a a = false := by rw [bl_eq]; simp
theorem bl_trans {a b c : List UInt8} (h : Op.bytesLess a b = true) (k : Op.bytesLess b c = true) : Op.bytesLess a c = true := by
  rw [bl_eq, decide_eq_true_iff] at *
  exact List.lt_trans h k
theorem bl_asymm {a b : List UInt8} (h : Op.bytesLess a b = true) : Op.bytesLess b a = false := by
  cases hc : Op.bytesLess b a with
  | false => rfl
  | true =>
    have := bl_trans h hc
    rw [bl_irrefl] at this
    cases this
theorem bl_tri : ∀ {a b : List UInt8}, Op.bytesLess a b = false → Op.bytesLess b a = false → a = b
  | [], [], _, _ => rfl
  | _ :: _, [], _, k => by simp [Op.bytesLess] at k
  | [], _ :: _, h, _ => by simp [Op.bytesLess] at h
  | a :: x, b :: y, h, k => by
    simp [Op.bytesLess] at h k
    have e : a = b := by
      rw [← UInt8.toNat_inj]
      have h1 := h.1
      have k1 := k.1
      rw [UInt8.le_iff_toNat_le] at h1 k1
      omega
    subst e
    rw [bl_tri (h.2 rfl) (k.2 rfl)]
theorem bl_gtr (a b : List UInt8) : (!Op.bytesLess b a && !(b == a)) = Op.bytesLess a b := by
  cases h : Op.bytesLess b a with
  | true => simp [bl_asymm h]
  | false =>
    cases k : Op.bytesLess a b with
    | true =>
      have hne : b ≠ a := by
        rintro rfl
        rw [h] at k
        cases k
      simpa using hne
    | false => simp [bl_tri h k]
theorem bl_nil (a : List UInt8) : Op.bytesLess a [] = false := by cases a <;> simp [Op.bytesLess]
theorem bl_nil_left {a : List UInt8} (h : a ≠ []) : Op.bytesLess [] a = true := by cases a <;> simp_all [Op.bytesLess]
/-- a is not above b, b is not above c. -/
theorem bl_le_trans {a b c : List UInt8} (h : Op.bytesLess b a = false) (k : Op.bytesLess c b = false) : Op.bytesLess c a = false := by
  cases hc : Op.bytesLess c a with
  | false => rfl
  | true =>
    cases hb : Op.bytesLess a b with
    | true =>
      rw [bl_trans hc hb] at k
      cases k
    | false =>
      have e := bl_tri hb h
      subst e
      rw [hc] at k
      cases k
theorem bl_lt_le {a b c : List UInt8} (h : Op.bytesLess a b = true) (k : Op.bytesLess c b = false) : Op.bytesLess a c = true := by
  cases hc : Op.bytesLess a c with
  | true => rfl
  | false =>
    have := bl_le_trans k hc
    rw [h] at this
    cases this
theorem bl_le_lt {a b c : List UInt8} (h : Op.bytesLess b a = false) (k : Op.bytesLess b c = true) : Op.bytesLess a c = true := by
  cases hc : Op.bytesLess a c with
  | true => rfl
  | false =>
    have := bl_le_trans hc h
    rw [k] at this
    cases this
end Go.Proofs.Ytfmedinhlmiaeaa.Km
/- What keys.Has answers, and the document's Has. -/
namespace Go.Proofs.Ytfmedinhlmiaeaa
open Go.RowKit
set_option linter.unusedVariables false

namespace Km
/-- Is k in the range from f to t? -/
def has (f t k : List UInt8) : Bool := !Op.bytesLess k f && (t.isEmpty || Op.bytesLess k t)
def bound (l : List UInt8) : Bool := l.isEmpty || chk l
def good (f t : List UInt8) : Bool := bound f && bound t && (t.isEmpty || Op.bytesLess f t)
def meet (f t f2 t2 : List UInt8) : Bool := good f t && good f2 t2 && (has f t f2 || has f2 t2 f)
end Km

set_option maxRecDepth 100000 in
set_option maxHeartbeats 400000 in
theorem has_any (f t k : ByteArray) (w : World) :
    Calls Try.prog 63 #[.agg #[.string f, .string t], .string k] w fun e w' => e = .returned (.bool (Km.has f.data.toList t.data.toList k.data.toList)) ∧ Below w.heap.size w w' := by
  go_enter Try.func63, Try.ntmps63
  go_wp2
  all_goals
    go_ret
    refine ⟨ret_bool ?_, (Below.refl _ _).alloc (Nat.le_refl _) _⟩
    simp_all [Km.has, Lib.toList_data]

set_option maxRecDepth 100000 in
set_option maxHeartbeats 400000 in
theorem refHas_any (f t k : ByteArray) (w : World) :
    Calls Try.prog 59 #[.agg #[.string f, .string t], .string k] w fun e w' => e = .returned (.bool (Km.has f.data.toList t.data.toList k.data.toList)) ∧ Below w.heap.size w w' := by
  go_enter Try.func59, Try.ntmps59
  go_wp2
  all_goals
    go_ret
    refine ⟨ret_bool ?_, (Below.refl _ _).alloc (Nat.le_refl _) _⟩
    simp_all [Km.has, Lib.toList_data]

/-- A boxed pair behind a call that only makes memory. -/
theorem box2 {w w1 : World} {x y : Value} {T : TypeId} (hb : Below (w.alloc (.cells #[x, y] T)).heap.size (w.alloc (.cells #[x, y] T)) w1) :
    w1.cell? ⟨w.heap.size, 0, none⟩ = some x ∧ w1.cell? ⟨w.heap.size, 1, none⟩ = some y ∧ w.heap.size < w1.heap.size ∧ Below w.heap.size w w1 := by
  have hs := hb.size
  simp at hs
  refine ⟨?_, ?_, by omega, balloc (Below.refl _ _) _ |>.trans (hb.mono (by simp))⟩
  · rw [hb.cell (p := ⟨w.heap.size, 0, none⟩) (by simp)]; simp
  · rw [hb.cell (p := ⟨w.heap.size, 1, none⟩) (by simp)]; simp

theorem kcell {W w1 : World} {b o : Nat} {v : Value} (hb : Below W.heap.size W w1) (hlt : b < W.heap.size) (h : W.cell? ⟨b, o, none⟩ = some v) : w1.cell? ⟨b, o, none⟩ = some v := (hb.cell (p := ⟨b, o, none⟩) hlt).trans h

/-- Two boxed pairs behind a call that only makes memory. -/
theorem box22 {w w1 : World} {x y x2 y2 : Value} {T : TypeId} (hb : Below ((w.alloc (.cells #[x, y] T)).alloc (.cells #[x2, y2] T)).heap.size ((w.alloc (.cells #[x, y] T)).alloc (.cells #[x2, y2] T)) w1) :
    (w1.cell? ⟨w.heap.size, 0, none⟩ = some x ∧ w1.cell? ⟨w.heap.size, 1, none⟩ = some y) ∧ (w1.cell? ⟨w.heap.size + 1, 0, none⟩ = some x2 ∧ w1.cell? ⟨w.heap.size + 1, 1, none⟩ = some y2) ∧ w.heap.size + 1 < w1.heap.size ∧ Below w.heap.size w w1 := by
  have hs := hb.size
  simp at hs
  refine ⟨⟨?_, ?_⟩, ⟨?_, ?_⟩, by omega, (balloc (balloc (Below.refl _ _) _) _).trans (hb.mono (by simp; omega))⟩
  · rw [hb.cell (p := ⟨w.heap.size, 0, none⟩) (by simp; omega)]; simp
  · rw [hb.cell (p := ⟨w.heap.size, 1, none⟩) (by simp; omega)]; simp
  · rw [hb.cell (p := ⟨w.heap.size + 1, 0, none⟩) (by simp)]; simp
  · rw [hb.cell (p := ⟨w.heap.size + 1, 1, none⟩) (by simp)]; simp

end Go.Proofs.Ytfmedinhlmiaeaa
/- Dependencies in memory: rows that are read, and rows that a call makes. -/
namespace Go.Proofs.Ytfmedinhlmiaeaa
open Go.RowKit
set_option linter.unusedVariables false

/-- A dependency: its key, its stamp's number, its stamp's site. -/
abbrev De := ByteArray × Int × Int
abbrev dv (d : De) : Value := .agg #[.string d.1, .int .i64 d.2.1, .int .i64 d.2.2]
def dV (l : List De) : List Value := l.flatMap fun d => [.string d.1, .int .i64 d.2.1, .int .i64 d.2.2]
theorem dV_nil : dV [] = [] := rfl
theorem dV_cons (d : De) (l : List De) : dV (d :: l) = .string d.1 :: .int .i64 d.2.1 :: .int .i64 d.2.2 :: dV l := by simp [dV]
theorem dV_len (l : List De) : (dV l).length = l.length * 3 := by
  induction l with
  | nil => rfl
  | cons r t ih => rw [dV_cons]; simp [ih]; omega
theorem dV_get (l : List De) (i : Nat) (h : i < l.length) : (dV l)[i * 3]? = some (.string l[i].1) ∧ (dV l)[i * 3 + 1]? = some (.int .i64 l[i].2.1) ∧ (dV l)[i * 3 + 2]? = some (.int .i64 l[i].2.2) := by
  induction l generalizing i with
  | nil => simp at h
  | cons r t ih =>
    rw [dV_cons]
    cases i with
    | zero => simp
    | succ i =>
      have := ih i (by simpa using h)
      rw [show (i + 1) * 3 = i * 3 + 1 + 1 + 1 by omega]
      simpa using this
theorem dV_append (l m : List De) : dV (l ++ m) = dV l ++ dV m := by simp [dV]
theorem dV_snoc (l : List De) (d : De) : dV (l ++ [d]) = dV l ++ [.string d.1, .int .i64 d.2.1, .int .i64 d.2.2] := by simp [dV]
theorem dV_one (l : List De) : ∀ u ∈ dV l, u.oneCell' = true := by
  intro u hu
  simp only [dV, List.mem_flatMap] at hu
  obtain ⟨p, _, hp⟩ := hu
  simp at hp
  rcases hp with rfl | rfl | rfl <;> rfl
theorem dV_take (l : List De) (k : Nat) : dV (l.take k) = (dV l).take (k * 3) := by
  induction l generalizing k with
  | nil => simp [dV]
  | cons r t ih =>
    cases k with
    | zero => simp [dV]
    | succ k =>
      rw [List.take_succ_cons, dV_cons, dV_cons, ih, show (k + 1) * 3 = k * 3 + 1 + 1 + 1 by omega]
      simp
theorem dV_set (l : List De) (i : Nat) (d : De) (h : i < l.length) : (((dV l).set (i * 3) (.string d.1)).set (i * 3 + 1) (.int .i64 d.2.1)).set (i * 3 + 2) (.int .i64 d.2.2) = dV (l.set i d) := by
  induction l generalizing i with
  | nil => simp at h
  | cons r t ih =>
    cases i with
    | zero => simp [dV_cons]
    | succ i =>
      have := ih i (by simpa using h)
      rw [List.set_cons_succ, dV_cons, dV_cons, ← this, show (i + 1) * 3 = i * 3 + 1 + 1 + 1 by omega]
      simp

theorem info_de : (Try.prog.info? 34).map (fun i => (i.zero, i.size, i.bytes)) = some (some (.agg #[.string ⟨#[]⟩, .int .i64 0, .int .i64 0]), 3, 32) := by kernel_rfl

/-- A row of dependencies in memory. -/
def DepIn (w : World) (a : Option Addr) (l : List De) : Prop :=
  ∀ i (h : i < l.length), ∃ b off, a = some ⟨b, off, none⟩ ∧ b < w.heap.size ∧ w.cell? ⟨b, off + i * 3, none⟩ = some (.string l[i].1) ∧ w.cell? ⟨b, off + i * 3 + 1, none⟩ = some (.int .i64 l[i].2.1) ∧ w.cell? ⟨b, off + i * 3 + 2, none⟩ = some (.int .i64 l[i].2.2)
theorem DepIn.nil (w : World) (a : Option Addr) : DepIn w a [] := fun i h => absurd h (by simp)
theorem DepIn.below {w w' : World} {a : Option Addr} {l : List De} (h : DepIn w a l) (hb : Below w.heap.size w w') : DepIn w' a l := by
  intro i hi
  obtain ⟨b, off, rfl, hlt, h0, h1, h2⟩ := h i hi
  exact ⟨b, off, rfl, by have := hb.size; omega, kcell hb hlt h0, kcell hb hlt h1, kcell hb hlt h2⟩
theorem DepIn.drew {w : World} {a : Option Addr} {l : List De} (h : DepIn w a l) : DepIn w.drew a l := h
theorem DepIn.alloc {w : World} {a : Option Addr} {l : List De} (h : DepIn w a l) (o : Obj) : DepIn (w.alloc o) a l := h.below (balloc (Below.refl _ _) _)
theorem DepIn.take {w : World} {a : Option Addr} {l : List De} (h : DepIn w a l) (k : Nat) : DepIn w a (l.take k) := by
  intro i hi
  have hi' : i < l.length := by simp at hi; omega
  obtain ⟨b, off, e, hlt, h0, h1, h2⟩ := h i hi'
  exact ⟨b, off, e, hlt, by simpa using h0, by simpa using h1, by simpa using h2⟩
theorem DepIn.drop {w : World} {b off : Nat} {l : List De} (h : DepIn w (some ⟨b, off, none⟩) l) (k : Nat) : DepIn w (some ⟨b, off + k * 3, none⟩) (l.drop k) := by
  intro i hi
  have hi' : k + i < l.length := by simp at hi; omega
  obtain ⟨b', off', e, hlt, h0, h1, h2⟩ := h (k + i) hi'
  cases e
  rw [show off + (k + i) * 3 = off + k * 3 + i * 3 by omega] at h0 h1 h2
  exact ⟨b, off + k * 3, rfl, hlt, by simpa using h0, by simpa using h1, by simpa using h2⟩
theorem DepIn.news {w : World} {x : Addr} {l : List De} (h : DepIn w (some x) l) : ∀ j u, (dV l)[j]? = some u → w.cell? (x.add j) = some u := by
  intro j u hj
  have hlt : j < (dV l).length := (List.getElem?_eq_some_iff.1 hj).1
  rw [dV_len] at hlt
  obtain ⟨b', off', e, _, h0, h1, h2⟩ := h (j / 3) (by omega)
  cases e
  obtain ⟨k0, k1, k2⟩ := dV_get l (j / 3) (by omega)
  rw [Addr.add_lit]
  rcases (show j = j / 3 * 3 ∨ j = j / 3 * 3 + 1 ∨ j = j / 3 * 3 + 2 by omega) with ej | ej | ej
  · rw [ej] at hj ⊢
    rw [k0] at hj
    cases hj
    exact h0
  · rw [ej] at hj ⊢
    rw [k1] at hj
    cases hj
    rw [← Nat.add_assoc]
    exact h1
  · rw [ej] at hj ⊢
    rw [k2] at hj
    cases hj
    rw [← Nat.add_assoc]
    exact h2

/-- A slice that reads as these dependencies. -/
def DepAt (w : World) (v : Value) (l : List De) : Prop := ∃ a cap, v = .slice a l.length cap ∧ l.length ≤ cap ∧ cap ≤ maxLen ∧ (a = none → cap = 0) ∧ DepIn w a l
theorem DepAt.nil (w : World) : DepAt w (.slice none 0 0) [] := ⟨none, 0, rfl, by simp, by simp, by simp, DepIn.nil _ _⟩
theorem DepAt.below {w w' : World} {v : Value} {l : List De} (h : DepAt w v l) (hb : Below w.heap.size w w') : DepAt w' v l := by
  obtain ⟨a, cap, rfl, h1, h2, h3, hr⟩ := h
  exact ⟨a, cap, rfl, h1, h2, h3, hr.below hb⟩
theorem DepAt.drew {w : World} {v : Value} {l : List De} (h : DepAt w v l) : DepAt w.drew v l := h
theorem DepAt.alloc {w : World} {v : Value} {l : List De} (h : DepAt w v l) (o : Obj) : DepAt (w.alloc o) v l := h.below (balloc (Below.refl _ _) _)
/-- A row of the call's own. -/
abbrev OwnD (w : World) (base : Nat) (v : Value) (l : List De) : Prop := w.ownsRow base 34 3 v l.length (dV l)
theorem DepAt.of_own {w : World} {base : Nat} {v : Value} {l : List De} (h : OwnD w base v l) : DepAt w v l := by
  rcases h.2 with ⟨rfl, h0⟩ | ⟨g, cap, cur, rfl, hb, hg, hn, hm, hs, ht⟩
  · obtain rfl : l = [] := List.length_eq_zero_iff.1 h0
    exact DepAt.nil w
  · have hlt : g < w.heap.size := (Array.getElem?_eq_some_iff.1 hg).1
    have key : ∀ j u, (dV l)[j]? = some u → w.cell? ⟨g, j, none⟩ = some u := by
      intro j u hj
      have hl : j < (dV l).length := (List.getElem?_eq_some_iff.1 hj).1
      rw [dV_len] at hl
      rw [← ht, List.getElem?_take, if_pos (by omega), Array.getElem?_toList] at hj
      simp [World.cell?, hg, hj]
    refine ⟨some ⟨g, 0, none⟩, cap, rfl, hn, hm, by simp, fun i hi => ?_⟩
    obtain ⟨k0, k1, k2⟩ := dV_get l i hi
    exact ⟨g, 0, rfl, hlt, by rw [Nat.zero_add]; exact key _ _ k0, by rw [Nat.zero_add]; exact key _ _ k1, by rw [Nat.zero_add]; exact key _ _ k2⟩
theorem OwnD.nil (w : World) (base : Nat) : OwnD w base (.slice none 0 0) [] := ⟨rfl, .inl ⟨rfl, rfl⟩⟩
theorem OwnD.below {w w' : World} {base : Nat} {v : Value} {l : List De} (h : OwnD w base v l) (hb : Below w.heap.size w w') : OwnD w' base v l := by
  refine ⟨h.1, ?_⟩
  rcases h.2 with h0 | ⟨g, cap, cur, rfl, hbg, hg, r⟩
  · exact .inl h0
  · exact .inr ⟨g, cap, cur, rfl, hbg, (hb.5 g (Array.getElem?_eq_some_iff.1 hg).1).trans hg, r⟩
theorem OwnD.mono {w : World} {base base' : Nat} {v : Value} {l : List De} (h : OwnD w base v l) (hb : base' ≤ base) : OwnD w base' v l := by
  refine ⟨h.1, ?_⟩
  rcases h.2 with h0 | ⟨g, cap, cur, rfl, hbg, r⟩
  · exact .inl h0
  · exact .inr ⟨g, cap, cur, rfl, by omega, r⟩
theorem OwnD.shape {w1 : World} {base : Nat} {v' : Value} {l : List De} (h : OwnD w1 base v' l) : ∃ a c, v' = .slice a l.length c := by
  rcases h.2 with ⟨rfl, h0⟩ | ⟨g, cap, cur, rfl, _⟩
  · exact ⟨none, 0, by rw [h0]⟩
  · exact ⟨_, _, rfl⟩
/-- One dependency appended to a row of the call's own. -/
theorem OwnD.push {base : Nat} {l : List De} {x : ByteArray} {y z : Int} {wr w1 : World} {v v' : Value} {T : TypeId} {X : Array Value} (hbs : base ≤ wr.heap.size)
    (ho : OwnD wr base v l) (ho' : w1.ownsRow base 34 3 v' (l.length + 1) (dV l ++ [.string x, .int .i64 y, .int .i64 z])) (hg : (wr.alloc (.cells X T)).grownBy w1 v.ownBlock) :
    OwnD w1 base v' (l ++ [(x, y, z)]) ∧ Below base wr w1 := by
  refine ⟨by unfold OwnD; rw [dV_snoc]; simpa using ho', ((Below.refl base wr).alloc hbs _).grown hg (by simp; omega) ?_⟩
  intro k hk
  exact (ho.lt k hk).1
end Go.Proofs.Ytfmedinhlmiaeaa
