/- Texts of this proof, one behind the other: KeysHas, PastRows, PastPush, PastDep. -/
import Derived.Test.YtplpeokmhomojaaGPastBack3
import Derived.ChangeAlike
import Derived.Deep.AppendLies
import Derived.OwnWalk
import Derived.Laws.AppendOwnNone
/- What keys.Has answers, and the document's Has. -/
namespace Go.Proofs.Ytplpeokmhomojaa
open Go.RowKit
set_option linter.unusedVariables false

namespace Km
/-- Is k in the range from f to t? -/
def has (f t k : List UInt8) : Bool := !Op.bytesLess k f && (t.isEmpty || Op.bytesLess k t)
def bound (l : List UInt8) : Bool := l.isEmpty || chk l
def good (f t : List UInt8) : Bool := bound f && bound t && (t.isEmpty || Op.bytesLess f t)
def meet (f t f2 t2 : List UInt8) : Bool := good f t && good f2 t2 && (has f t f2 || has f2 t2 f)
end Km

set_option maxRecDepth 100000 in
set_option maxHeartbeats 400000 in
theorem has_any (f t k : ByteArray) (w : World) :
    Calls Try.prog 79 #[.agg #[.string f, .string t], .string k] w fun e w' => e = .returned (.bool (Km.has f.data.toList t.data.toList k.data.toList)) ∧ Below w.heap.size w w' := by
  go_enter Try.func79, Try.ntmps79
  go_wp2
  all_goals
    go_ret
    refine ⟨ret_bool ?_, (Below.refl _ _).alloc (Nat.le_refl _) _⟩
    simp_all [Km.has, Lib.toList_data]

set_option maxRecDepth 100000 in
set_option maxHeartbeats 400000 in
theorem refHas_any (f t k : ByteArray) (w : World) :
    Calls Try.prog 80 #[.agg #[.string f, .string t], .string k] w fun e w' => e = .returned (.bool (Km.has f.data.toList t.data.toList k.data.toList)) ∧ Below w.heap.size w w' := by
  go_enter Try.func80, Try.ntmps80
  go_wp2
  all_goals
    go_ret
    refine ⟨ret_bool ?_, (Below.refl _ _).alloc (Nat.le_refl _) _⟩
    simp_all [Km.has, Lib.toList_data]

/-- A boxed pair behind a call that only makes memory. -/
theorem box2 {w w1 : World} {x y : Value} {T : TypeId} (hb : Below (w.alloc (.cells #[x, y] T)).heap.size (w.alloc (.cells #[x, y] T)) w1) :
    w1.cell? ⟨w.heap.size, 0, none⟩ = some x ∧ w1.cell? ⟨w.heap.size, 1, none⟩ = some y ∧ w.heap.size < w1.heap.size ∧ Below w.heap.size w w1 := by
  have hs := hb.size
  simp at hs
  refine ⟨?_, ?_, by omega, balloc (Below.refl _ _) _ |>.trans (hb.mono (by simp))⟩
  · rw [hb.cell (p := ⟨w.heap.size, 0, none⟩) (by simp)]; simp
  · rw [hb.cell (p := ⟨w.heap.size, 1, none⟩) (by simp)]; simp

theorem kcell {W w1 : World} {b o : Nat} {v : Value} (hb : Below W.heap.size W w1) (hlt : b < W.heap.size) (h : W.cell? ⟨b, o, none⟩ = some v) : w1.cell? ⟨b, o, none⟩ = some v := (hb.cell (p := ⟨b, o, none⟩) hlt).trans h

/-- Two boxed pairs behind a call that only makes memory. -/
theorem box22 {w w1 : World} {x y x2 y2 : Value} {T : TypeId} (hb : Below ((w.alloc (.cells #[x, y] T)).alloc (.cells #[x2, y2] T)).heap.size ((w.alloc (.cells #[x, y] T)).alloc (.cells #[x2, y2] T)) w1) :
    (w1.cell? ⟨w.heap.size, 0, none⟩ = some x ∧ w1.cell? ⟨w.heap.size, 1, none⟩ = some y) ∧ (w1.cell? ⟨w.heap.size + 1, 0, none⟩ = some x2 ∧ w1.cell? ⟨w.heap.size + 1, 1, none⟩ = some y2) ∧ w.heap.size + 1 < w1.heap.size ∧ Below w.heap.size w w1 := by
  have hs := hb.size
  simp at hs
  refine ⟨⟨?_, ?_⟩, ⟨?_, ?_⟩, by omega, (balloc (balloc (Below.refl _ _) _) _).trans (hb.mono (by simp; omega))⟩
  · rw [hb.cell (p := ⟨w.heap.size, 0, none⟩) (by simp; omega)]; simp
  · rw [hb.cell (p := ⟨w.heap.size, 1, none⟩) (by simp; omega)]; simp
  · rw [hb.cell (p := ⟨w.heap.size + 1, 0, none⟩) (by simp)]; simp
  · rw [hb.cell (p := ⟨w.heap.size + 1, 1, none⟩) (by simp)]; simp

end Go.Proofs.Ytplpeokmhomojaa
/- Dependencies in memory: rows that are read, and rows that a call makes. -/
namespace Go.Proofs.Ytplpeokmhomojaa
open Go.RowKit
set_option linter.unusedVariables false

/-- A dependency: its key, its stamp's number, its stamp's site. -/
abbrev De := ByteArray × Int × Int
abbrev dv (d : De) : Value := .agg #[.string d.1, .int .i64 d.2.1, .int .i64 d.2.2]
def dV (l : List De) : List Value := l.flatMap fun d => [.string d.1, .int .i64 d.2.1, .int .i64 d.2.2]
theorem dV_nil : dV [] = [] := rfl
theorem dV_cons (d : De) (l : List De) : dV (d :: l) = .string d.1 :: .int .i64 d.2.1 :: .int .i64 d.2.2 :: dV l := by simp [dV]
theorem dV_len (l : List De) : (dV l).length = l.length * 3 := by
  induction l with
  | nil => rfl
  | cons r t ih => rw [dV_cons]; simp [ih]; omega
theorem dV_get (l : List De) (i : Nat) (h : i < l.length) : (dV l)[i * 3]? = some (.string l[i].1) ∧ (dV l)[i * 3 + 1]? = some (.int .i64 l[i].2.1) ∧ (dV l)[i * 3 + 2]? = some (.int .i64 l[i].2.2) := by
  induction l generalizing i with
  | nil => simp at h
  | cons r t ih =>
    rw [dV_cons]
    cases i with
    | zero => simp
    | succ i =>
      have := ih i (by simpa using h)
      rw [show (i + 1) * 3 = i * 3 + 1 + 1 + 1 by omega]
      simpa using this
theorem dV_append (l m : List De) : dV (l ++ m) = dV l ++ dV m := by simp [dV]
theorem dV_snoc (l : List De) (d : De) : dV (l ++ [d]) = dV l ++ [.string d.1, .int .i64 d.2.1, .int .i64 d.2.2] := by simp [dV]
theorem dV_one (l : List De) : ∀ u ∈ dV l, u.oneCell' = true := by
  intro u hu
  simp only [dV, List.mem_flatMap] at hu
  obtain ⟨p, _, hp⟩ := hu
  simp at hp
  rcases hp with rfl | rfl | rfl <;> rfl
theorem dV_take (l : List De) (k : Nat) : dV (l.take k) = (dV l).take (k * 3) := by
  induction l generalizing k with
  | nil => simp [dV]
  | cons r t ih =>
    cases k with
    | zero => simp [dV]
    | succ k =>
      rw [List.take_succ_cons, dV_cons, dV_cons, ih, show (k + 1) * 3 = k * 3 + 1 + 1 + 1 by omega]
      simp
theorem dV_set (l : List De) (i : Nat) (d : De) (h : i < l.length) : (((dV l).set (i * 3) (.string d.1)).set (i * 3 + 1) (.int .i64 d.2.1)).set (i * 3 + 2) (.int .i64 d.2.2) = dV (l.set i d) := by
  induction l generalizing i with
  | nil => simp at h
  | cons r t ih =>
    cases i with
    | zero => simp [dV_cons]
    | succ i =>
      have := ih i (by simpa using h)
      rw [List.set_cons_succ, dV_cons, dV_cons, ← this, show (i + 1) * 3 = i * 3 + 1 + 1 + 1 by omega]
      simp

theorem info_de : (Try.prog.info? 26).map (fun i => (i.zero, i.size, i.bytes)) = some (some (.agg #[.string ⟨#[]⟩, .int .i64 0, .int .i64 0]), 3, 32) := by kernel_rfl

/-- A row of dependencies in memory. -/
def DepIn (w : World) (a : Option Addr) (l : List De) : Prop :=
  ∀ i (h : i < l.length), ∃ b off, a = some ⟨b, off, none⟩ ∧ b < w.heap.size ∧ w.cell? ⟨b, off + i * 3, none⟩ = some (.string l[i].1) ∧ w.cell? ⟨b, off + i * 3 + 1, none⟩ = some (.int .i64 l[i].2.1) ∧ w.cell? ⟨b, off + i * 3 + 2, none⟩ = some (.int .i64 l[i].2.2)
theorem DepIn.nil (w : World) (a : Option Addr) : DepIn w a [] := fun i h => absurd h (by simp)
theorem DepIn.below {w w' : World} {a : Option Addr} {l : List De} (h : DepIn w a l) (hb : Below w.heap.size w w') : DepIn w' a l := by
  intro i hi
  obtain ⟨b, off, rfl, hlt, h0, h1, h2⟩ := h i hi
  exact ⟨b, off, rfl, by have := hb.size; omega, kcell hb hlt h0, kcell hb hlt h1, kcell hb hlt h2⟩
theorem DepIn.drew {w : World} {a : Option Addr} {l : List De} (h : DepIn w a l) : DepIn w.drew a l := h
theorem DepIn.alloc {w : World} {a : Option Addr} {l : List De} (h : DepIn w a l) (o : Obj) : DepIn (w.alloc o) a l := h.below (balloc (Below.refl _ _) _)
theorem DepIn.take {w : World} {a : Option Addr} {l : List De} (h : DepIn w a l) (k : Nat) : DepIn w a (l.take k) := by
  intro i hi
  have hi' : i < l.length := by simp at hi; omega
  obtain ⟨b, off, e, hlt, h0, h1, h2⟩ := h i hi'
  exact ⟨b, off, e, hlt, by simpa using h0, by simpa using h1, by simpa using h2⟩
theorem DepIn.drop {w : World} {b off : Nat} {l : List De} (h : DepIn w (some ⟨b, off, none⟩) l) (k : Nat) : DepIn w (some ⟨b, off + k * 3, none⟩) (l.drop k) := by
  intro i hi
  have hi' : k + i < l.length := by simp at hi; omega
  obtain ⟨b', off', e, hlt, h0, h1, h2⟩ := h (k + i) hi'
  cases e
  rw [show off + (k + i) * 3 = off + k * 3 + i * 3 by omega] at h0 h1 h2
  exact ⟨b, off + k * 3, rfl, hlt, by simpa using h0, by simpa using h1, by simpa using h2⟩
theorem DepIn.news {w : World} {x : Addr} {l : List De} (h : DepIn w (some x) l) : ∀ j u, (dV l)[j]? = some u → w.cell? (x.add j) = some u := by
  intro j u hj
  have hlt : j < (dV l).length := (List.getElem?_eq_some_iff.1 hj).1
  rw [dV_len] at hlt
  obtain ⟨b', off', e, _, h0, h1, h2⟩ := h (j / 3) (by omega)
  cases e
  obtain ⟨k0, k1, k2⟩ := dV_get l (j / 3) (by omega)
  rw [Addr.add_lit]
  rcases (show j = j / 3 * 3 ∨ j = j / 3 * 3 + 1 ∨ j = j / 3 * 3 + 2 by omega) with ej | ej | ej
  · rw [ej] at hj ⊢
    rw [k0] at hj
    cases hj
    exact h0
  · rw [ej] at hj ⊢
    rw [k1] at hj
    cases hj
    rw [← Nat.add_assoc]
    exact h1
  · rw [ej] at hj ⊢
    rw [k2] at hj
    cases hj
    rw [← Nat.add_assoc]
    exact h2

/-- A slice that reads as these dependencies. -/
def DepAt (w : World) (v : Value) (l : List De) : Prop := ∃ a cap, v = .slice a l.length cap ∧ l.length ≤ cap ∧ cap ≤ maxLen ∧ (a = none → cap = 0) ∧ DepIn w a l
theorem DepAt.nil (w : World) : DepAt w (.slice none 0 0) [] := ⟨none, 0, rfl, by simp, by simp, by simp, DepIn.nil _ _⟩
theorem DepAt.below {w w' : World} {v : Value} {l : List De} (h : DepAt w v l) (hb : Below w.heap.size w w') : DepAt w' v l := by
  obtain ⟨a, cap, rfl, h1, h2, h3, hr⟩ := h
  exact ⟨a, cap, rfl, h1, h2, h3, hr.below hb⟩
theorem DepAt.drew {w : World} {v : Value} {l : List De} (h : DepAt w v l) : DepAt w.drew v l := h
theorem DepAt.alloc {w : World} {v : Value} {l : List De} (h : DepAt w v l) (o : Obj) : DepAt (w.alloc o) v l := h.below (balloc (Below.refl _ _) _)
/-- A row of the call's own. -/
abbrev OwnD (w : World) (base : Nat) (v : Value) (l : List De) : Prop := w.ownsRow base 26 3 v l.length (dV l)
theorem DepAt.of_own {w : World} {base : Nat} {v : Value} {l : List De} (h : OwnD w base v l) : DepAt w v l := by
  rcases h.2 with ⟨rfl, h0⟩ | ⟨g, cap, cur, rfl, hb, hg, hn, hm, hs, ht⟩
  · obtain rfl : l = [] := List.length_eq_zero_iff.1 h0
    exact DepAt.nil w
  · have hlt : g < w.heap.size := (Array.getElem?_eq_some_iff.1 hg).1
    have key : ∀ j u, (dV l)[j]? = some u → w.cell? ⟨g, j, none⟩ = some u := by
      intro j u hj
      have hl : j < (dV l).length := (List.getElem?_eq_some_iff.1 hj).1
      rw [dV_len] at hl
      rw [← ht, List.getElem?_take, if_pos (by omega), Array.getElem?_toList] at hj
      simp [World.cell?, hg, hj]
    refine ⟨some ⟨g, 0, none⟩, cap, rfl, hn, hm, by simp, fun i hi => ?_⟩
    obtain ⟨k0, k1, k2⟩ := dV_get l i hi
    exact ⟨g, 0, rfl, hlt, by rw [Nat.zero_add]; exact key _ _ k0, by rw [Nat.zero_add]; exact key _ _ k1, by rw [Nat.zero_add]; exact key _ _ k2⟩
theorem OwnD.nil (w : World) (base : Nat) : OwnD w base (.slice none 0 0) [] := ⟨rfl, .inl ⟨rfl, rfl⟩⟩
theorem OwnD.below {w w' : World} {base : Nat} {v : Value} {l : List De} (h : OwnD w base v l) (hb : Below w.heap.size w w') : OwnD w' base v l := by
  refine ⟨h.1, ?_⟩
  rcases h.2 with h0 | ⟨g, cap, cur, rfl, hbg, hg, r⟩
  · exact .inl h0
  · exact .inr ⟨g, cap, cur, rfl, hbg, (hb.5 g (Array.getElem?_eq_some_iff.1 hg).1).trans hg, r⟩
theorem OwnD.mono {w : World} {base base' : Nat} {v : Value} {l : List De} (h : OwnD w base v l) (hb : base' ≤ base) : OwnD w base' v l := by
  refine ⟨h.1, ?_⟩
  rcases h.2 with h0 | ⟨g, cap, cur, rfl, hbg, r⟩
  · exact .inl h0
  · exact .inr ⟨g, cap, cur, rfl, by omega, r⟩
theorem OwnD.shape {w1 : World} {base : Nat} {v' : Value} {l : List De} (h : OwnD w1 base v' l) : ∃ a c, v' = .slice a l.length c := by
  rcases h.2 with ⟨rfl, h0⟩ | ⟨g, cap, cur, rfl, _⟩
  · exact ⟨none, 0, by rw [h0]⟩
  · exact ⟨_, _, rfl⟩
/-- One dependency appended to a row of the call's own. -/
theorem OwnD.push {base : Nat} {l : List De} {x : ByteArray} {y z : Int} {wr w1 : World} {v v' : Value} {T : TypeId} {X : Array Value} (hbs : base ≤ wr.heap.size)
    (ho : OwnD wr base v l) (ho' : w1.ownsRow base 26 3 v' (l.length + 1) (dV l ++ [.string x, .int .i64 y, .int .i64 z])) (hg : (wr.alloc (.cells X T)).grownBy w1 v.ownBlock) :
    OwnD w1 base v' (l ++ [(x, y, z)]) ∧ Below base wr w1 := by
  refine ⟨by unfold OwnD; rw [dV_snoc]; simpa using ho', ((Below.refl base wr).alloc hbs _).grown hg (by simp; omega) ?_⟩
  intro k hk
  exact (ho.lt k hk).1
end Go.Proofs.Ytplpeokmhomojaa
/- Appending to a row of the call's own: one dependency; a row of them. -/
namespace Go.Proofs.Ytplpeokmhomojaa
open Go.RowKit
set_option linter.unusedVariables false

/-- What lies outside the row lies as it lay. -/
abbrev KeptD (v : Value) (w w' : World) : Prop := ∀ k, k < w.heap.size → v.ownBlock ≠ some k → w'.heap[k]? = w.heap[k]?
theorem KeptD.cell {v : Value} {w w' : World} (h : KeptD v w w') {b o : Nat} {u : Value} (hlt : b < w.heap.size) (hne : v.ownBlock ≠ some b) (hc : w.cell? ⟨b, o, none⟩ = some u) : w'.cell? ⟨b, o, none⟩ = some u := by
  rw [World.cell?_of_block (h b hlt hne)]; exact hc
theorem OwnD.lt' {w : World} {base : Nat} {v : Value} {l : List De} (h : OwnD w base v l) {k : Nat} (hk : w.heap.size ≤ k) : v.ownBlock ≠ some k := fun e => by have := (h.lt k e).2; omega
theorem OwnD.lo {w : World} {base : Nat} {v : Value} {l : List De} (h : OwnD w base v l) {k : Nat} (hk : k < base) : v.ownBlock ≠ some k := fun e => by have := (h.lt k e).1; omega

theorem wp_pushD {ops : Array Oper} {rest : List Oper} {o : Oper} {a : Act} {Q : Exit → Act → World → Prop} {wr : World} (hgd : o.guard = none) (s x : Operand)
    (hop : o.op = .call { callee := .builtin .append, args := #[s, x], argTypes := #[22, 22] })
    (base : Nat) (v : Value) (l : List De) (k : ByteArray) (n t : Int) (hs : a.eval s = v) (hown : OwnD wr base v l) (hx : a.eval x = .slice (some ⟨wr.heap.size, 0, none⟩) 1 1) (hl : l.length ≤ 1000000) (hbs : base ≤ wr.heap.size)
    (h : ∀ g cap w', OwnD w' base (.slice (some ⟨g, 0, none⟩) (l.length + 1) cap) (l ++ [(k, n, t)]) → Below base wr w' → KeptD v wr w' → g < w'.heap.size → wpList Try.prog ops Q rest (a.put o.dst (.slice (some ⟨g, 0, none⟩) (l.length + 1) cap)) w') :
    wpList Try.prog ops Q (o :: rest) a (wr.alloc (.cells #[.string k, .int .i64 n, .int .i64 t] 26)) := by
  obtain ⟨i0, hi, hz0, hz1, hz2⟩ := info_parts info_de
  refine wpList_append_lies _ hgd s x 22 hop base 26 i0 _ 3 32 Try.underlying22 hi hz0 hz1 hz2 rfl (by decide) v l.length (dV l) hs (hown.alloc _) ⟨wr.heap.size, 0, none⟩ 1 1 [.string k, .int .i64 n, .int .i64 t] hx rfl
    (World.news_of_block (cs := #[.string k, .int .i64 n, .int .i64 t]) (t := 26) (fr := (0, 0)) (heap_alloc_new wr _)) (by simp [Value.oneCell']) (by omega) (by unfold maxLen; omega) (by omega) (by simp; omega) (wr.heap.size + 1) (by simp) ?_
  intro g cap w' ho hg _ hlt
  obtain ⟨p1, p2⟩ := OwnD.push hbs hown ho hg
  refine h g cap w' p1 p2 (fun j hj hne => ?_) hlt
  rw [hg.block j (by simp; omega) (fun e => hne e.symm)]
  exact Below.heap_alloc _ _ _ hj

theorem wp_appD {ops : Array Oper} {rest : List Oper} {o : Oper} {a : Act} {Q : Exit → Act → World → Prop} {w : World} (hgd : o.guard = none) (s x : Operand)
    (hop : o.op = .call { callee := .builtin .append, args := #[s, x], argTypes := #[22, 22] })
    (base : Nat) (v u : Value) (l m : List De) (hs : a.eval s = v) (hown : OwnD w base v l) (hx : a.eval x = u) (hu : DepAt w u m) (hl : l.length + m.length ≤ 1000000) (hbs : base ≤ w.heap.size)
    (h : ∀ v' w', OwnD w' base v' (l ++ m) → Below base w w' → KeptD v w w' → (v' = .slice none 0 0 ↔ v = .slice none 0 0 ∧ m = []) → wpList Try.prog ops Q rest (a.put o.dst v') w') :
    wpList Try.prog ops Q (o :: rest) a w := by
  obtain ⟨i0, hi, hz0, hz1, hz2⟩ := info_parts info_de
  obtain ⟨b, cap, rfl, hcap, hmx, hnil, hr⟩ := hu
  cases b with
  | some b =>
    refine wpList_append_own _ hgd s x 22 hop base 26 i0 _ 3 32 Try.underlying22 hi hz0 hz1 hz2 rfl (by decide) v l.length (dV l) hs hown b m.length cap (dV m) hx (dV_len m) hr.news (dV_one m) (by unfold maxLen; omega) (by omega) hbs ?_
    intro v' w' ho hg hn
    refine h v' w' (by unfold OwnD; rw [dV_append, List.length_append]; exact ho) ((Below.refl base w).grown hg hbs (fun k hk => (hown.lt k hk).1)) (fun j hj hne => hg.block j hj (fun e => hne e.symm)) ?_
    rw [hn, List.length_eq_zero_iff]
  | none =>
    have hc0 := hnil rfl
    obtain rfl : m = [] := List.length_eq_zero_iff.1 (by omega)
    subst hc0
    refine wpList_append_own_none hgd s x 22 hop base 26 i0 3 Try.underlying22 hi v l.length (dV l) hs hown hx ?_
    exact h v w (by rw [List.append_nil]; exact hown) (Below.refl _ _) (fun _ _ _ => rfl) (by simp)

/-- A variable of a dependency's type: block b holds it, and may be written. -/
structure VarD (w : World) (b : Nat) (x : ByteArray) (y z : Int) : Prop where
  c0 : w.cell? ⟨b, 0, none⟩ = some (.string x)
  c1 : w.cell? ⟨b, 1, none⟩ = some (.int .i64 y)
  c2 : w.cell? ⟨b, 2, none⟩ = some (.int .i64 z)
  f0 : w.frozen? ⟨b, 0, none⟩ = false
  f1 : w.frozen? ⟨b, 1, none⟩ = false
  f2 : w.frozen? ⟨b, 2, none⟩ = false
theorem VarD.new (w : World) (x : ByteArray) (y z : Int) (T : TypeId) : VarD (w.alloc (.cells #[.string x, .int .i64 y, .int .i64 z] T)) w.heap.size x y z := ⟨by simp, by simp, by simp, by simp, by simp, by simp⟩
theorem VarD.lt {w : World} {b : Nat} {x : ByteArray} {y z : Int} (h : VarD w b x y z) : b < w.heap.size := lt_of_cellN h.c0
theorem VarD.keep {w w' : World} {b : Nat} {x : ByteArray} {y z : Int} (h : VarD w b x y z) (hb : Below w.heap.size w w') : VarD w' b x y z :=
  ⟨kc hb h.c0, kc hb h.c1, kc hb h.c2, (hb.frozen (p := ⟨b, 0, none⟩) h.lt).trans h.f0, (hb.frozen (p := ⟨b, 1, none⟩) h.lt).trans h.f1, (hb.frozen (p := ⟨b, 2, none⟩) h.lt).trans h.f2⟩
theorem VarD.block {w w' : World} {b : Nat} {x : ByteArray} {y z : Int} (h : VarD w b x y z) (hb : w'.heap[b]? = w.heap[b]?) : VarD w' b x y z := by
  refine ⟨?_, ?_, ?_, ?_, ?_, ?_⟩
  · rw [World.cell?_of_block hb]; exact h.c0
  · rw [World.cell?_of_block hb]; exact h.c1
  · rw [World.cell?_of_block hb]; exact h.c2
  · rw [World.frozen?_of_block hb]; exact h.f0
  · rw [World.frozen?_of_block hb]; exact h.f1
  · rw [World.frozen?_of_block hb]; exact h.f2
abbrev World.put3 (w : World) (b : Nat) (x y z : Value) : World := ((w.setCell ⟨b, 0, none⟩ x).setCell ⟨b, 1, none⟩ y).setCell ⟨b, 2, none⟩ z
theorem VarD.put {w : World} {b : Nat} {x : ByteArray} {y z : Int} (h : VarD w b x y z) (x' : ByteArray) (y' z' : Int) : VarD (World.put3 w b (.string x') (.int .i64 y') (.int .i64 z')) b x' y' z' := by
  have c1 : (w.setCell ⟨b, 0, none⟩ (.string x')).cell? ⟨b, 1, none⟩ = some (.int .i64 y) := by rw [World.cell?_setCell_other _ _ _ _ (by simp)]; exact h.c1
  have c2 : ((w.setCell ⟨b, 0, none⟩ (.string x')).setCell ⟨b, 1, none⟩ (.int .i64 y')).cell? ⟨b, 2, none⟩ = some (.int .i64 z) := by
    rw [World.cell?_setCell_other _ _ _ _ (by simp), World.cell?_setCell_other _ _ _ _ (by simp)]; exact h.c2
  refine ⟨?_, ?_, World.cell?_setCell_same _ _ _ c2, by simpa [World.put3] using h.f0, by simpa [World.put3] using h.f1, by simpa [World.put3] using h.f2⟩
  · rw [World.put3, World.cell?_setCell_other _ _ _ _ (by simp), World.cell?_setCell_other _ _ _ _ (by simp)]; exact World.cell?_setCell_same _ _ _ h.c0
  · rw [World.put3, World.cell?_setCell_other _ _ _ _ (by simp)]; exact World.cell?_setCell_same _ _ _ c1
theorem put3_size (w : World) (b : Nat) (x y z : Value) : (World.put3 w b x y z).heap.size = w.heap.size := by simp [World.put3, World.setCell]
theorem put3_block (w : World) (b : Nat) (x y z : Value) (k : Nat) (h : k ≠ b) : (World.put3 w b x y z).heap[k]? = w.heap[k]? := by
  rw [World.put3, Below.heap_setCell _ _ _ _ h, Below.heap_setCell _ _ _ _ h, Below.heap_setCell _ _ _ _ h]
theorem below_put3 {n b : Nat} {w w' : World} (hb : Below n w w') (h : n ≤ b) (x y z : Value) : Below n w (World.put3 w' b x y z) := ((hb.setCell h _).setCell h _).setCell h _
theorem OwnD.put3 {w : World} {base b : Nat} {v : Value} {l : List De} (h : OwnD w base v l) (hne : v.ownBlock ≠ some b) (x y z : Value) : OwnD (World.put3 w b x y z) base v l := by
  refine ⟨h.1, ?_⟩
  rcases h.2 with h0 | ⟨g, cap, cur, rfl, hbg, hg, r⟩
  · exact .inl h0
  · exact .inr ⟨g, cap, cur, rfl, hbg, (put3_block w b x y z g (fun e => hne (by simp [Value.ownBlock, e]))).trans hg, r⟩
end Go.Proofs.Ytplpeokmhomojaa
/- What the laws' own 'dep' answers. -/
namespace Go.Proofs.Ytplpeokmhomojaa
open Go.RowKit
set_option linter.unusedVariables false
set_option linter.unusedSimpArgs false

set_option maxRecDepth 100000 in
set_option maxHeartbeats 800000 in
theorem dep_any (k : ByteArray) (n : Int) (w : World) :
    Calls Try.prog 29 #[.string k, .int .i64 n] w fun e w' => e = .returned (.agg #[.string k, .int .i64 n, .int .i64 0]) ∧ Below w.heap.size w w' := by
  go_enter Try.func29, Try.ntmps29
  go_wp2
  refine bodyPost_ret (v := .agg #[.string k, .int .i64 n, .int .i64 0]) (by simp [results, Try.results29, go_sem]) rfl ⟨rfl, ?_⟩
  exact balloc (Below.refl _ w) _
end Go.Proofs.Ytplpeokmhomojaa
