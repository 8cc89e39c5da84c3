/- Texts of this proof, one behind the other: Open3, StampNums, StampRows, KeysMath. -/
import Derived.Test.YthjjidfoclcghaaGR1
import Derived.OwnWalk
import Derived.Laws.AppendOwnNone
import Derived.Laws.RangeAny
import Derived.Lib.Strings
/- Structs of two ints, and rows of such structs, among the arguments, opened. -/
namespace Go.Proofs.Ythjjidfoclcghaa
open Go.ChangeShapes Go.WideShapes Go.ChangeAt Go.RowKit Go.Joins Go.Deep
set_option linter.unusedVariables false

/-- The two numbers fit into an int each. -/
abbrev In64 (p : Int × Int) : Prop := (-9223372036854775808 ≤ p.1 ∧ p.1 ≤ 9223372036854775807) ∧ (-9223372036854775808 ≤ p.2 ∧ p.2 ≤ 9223372036854775807)

section
variable {H : Type} {enc : TypeId × Value → H} {P : Program} {w : World} {base : Nat} {spare : Nat → Bool} {held : Bool}

/-- A struct of two ints, by value. -/
theorem open_pair {r : Reach} {b0 : Nat} {t : TypeId} {f0 f1 : Field} {v : Value} {d : DataW H} {p : List MemPlace} (hs : P.underlying t = some (.struct #[f0, f1])) (hone : oneCellFields P #[f0, f1] = true) (hC : P.cellsOf t = 2)
    (h0 : P.underlying f0.type = some (.int .i64)) (h1 : P.underlying f1.type = some (.int .i64)) (hv : Value.okWide P w r b0 t v) (h : DataW.Trod enc P w base spare held t v d p) :
    ∃ x y : Int, v = .agg #[.int .i64 x, .int .i64 y] ∧ In64 (x, y) := by
  obtain ⟨v0, v1, y0, y1, n, rfl, _, _, k0, k1⟩ := open_agg2 hs hone hC hv h
  obtain ⟨x, hs1, _, hs2⟩ := DataW.trod_int h0 k0
  obtain ⟨y, hs1', _, hs2'⟩ := DataW.trod_int h1 k1
  cases hs1
  cases hs1'
  exact ⟨x, y, rfl, bounds_i64 hs2, bounds_i64 hs2'⟩

/-- A row of structs of two ints. -/
theorem open_pairs {t e : TypeId} {f0 f1 : Field} {fuel : Nat} {v : Value} {x : DataW H × List MemPlace} (ht : P.underlying t = some (.slice e)) (he : P.underlying e = some (.struct #[f0, f1]))
    (hone : oneCellFields P #[f0, f1] = true) (hC : P.cellsOf e = 2) (h0 : P.underlying f0.type = some (.int .i64)) (h1 : P.underlying f1.type = some (.int .i64))
    (h : DataW.trod enc P w base spare held fuel t v.cells.toList = some x) (hv : ∃ a n c, v = .slice a n c) :
    ∃ (a : Option Addr) (l : List (Int × Int)) (cap : Nat), v = .slice a l.length cap ∧ l.length ≤ cap ∧ cap ≤ maxLen ∧ (a = none → cap = 0) ∧ (∀ r ∈ l, In64 r) ∧ StIn w a l := by
  obtain ⟨a, len, cap, rfl⟩ := hv
  rcases open_slice ht h with ⟨hcs, _⟩ | ⟨x, l, c, m, n, D, Pl, hcs, _, hl, hm, hmm, _, hi⟩
  · simp [Value.cells] at hcs
    obtain ⟨rfl, rfl, rfl⟩ := hcs
    exact ⟨none, [], 0, rfl, by simp, by simp, by simp, by simp, fun i h => absurd h (by simp)⟩
  · simp [Value.cells] at hcs
    obtain ⟨rfl, rfl, rfl⟩ := hcs
    have hlm : len ≤ m := by rw [hmm]; split <;> omega
    have all : ∀ i, ∃ p : Int × Int, i < len → In64 p ∧ w.cell? (x.add (i * 2)) = some (.int .i64 p.1) ∧ w.cell? (x.add (i * 2 + 1)) = some (.int .i64 p.2) := by
      intro i
      by_cases hil : i < len
      · obtain ⟨cs', hc, ht'⟩ := hi i (by omega)
        rw [hC] at hc
        obtain ⟨y0, y1, n', hx, hcl, k0, k1⟩ := trod_struct2 he ht'
        obtain ⟨o0, j0⟩ := hone_of hone 0 f0 rfl
        obtain ⟨o1, j1⟩ := hone_of hone 1 f1 rfl
        obtain ⟨_, hcl', hat⟩ := World.cells?_some hc
        match cs', hcl' with
        | [c0, c1], _ =>
          rw [o0, j0] at k0
          rw [o1, j1] at k1
          obtain ⟨s, e1, _, z1⟩ := DataW.trod_int h0 k0
          obtain ⟨s', e2, _, z2⟩ := DataW.trod_int h1 k1
          simp at e1 e2
          subst e1 e2
          refine ⟨(s, s'), fun _ => ⟨⟨bounds_i64 z1, bounds_i64 z2⟩, ?_, ?_⟩⟩
          · have := hat 0 (by omega)
            simpa [Go.Deep.add_add] using this
          · have := hat 1 (by omega)
            simpa [Go.Deep.add_add] using this
      · exact ⟨(0, 0), fun hh => absurd hh hil⟩
    obtain ⟨F, hF⟩ : ∃ F : Nat → Int × Int, ∀ i, i < len → In64 (F i) ∧ w.cell? (x.add (i * 2)) = some (.int .i64 (F i).1) ∧ w.cell? (x.add (i * 2 + 1)) = some (.int .i64 (F i).2) :=
      ⟨fun i => (all i).choose, fun i => (all i).choose_spec⟩
    obtain ⟨b, off, spot⟩ := x
    refine ⟨some ⟨b, off, spot⟩, (List.range len).map F, cap, by simp, by simpa using hl, hm, by simp, ?_, ?_⟩
    · intro r hr
      simp at hr
      obtain ⟨i, hi, rfl⟩ := hr
      exact (hF i hi).1
    · intro i hi
      have hi' : i < len := by simpa using hi
      have hspot : spot = none := by
        have := (hF 0 (by omega)).2.1
        simpa [Addr.add] using World.cell?_spot this
      subst hspot
      have g0 := (hF i hi').2.1
      have g1 := (hF i hi').2.2
      rw [Addr.add_lit] at g0 g1
      refine ⟨b, off, rfl, ?_, ?_⟩
      · simp only [List.getElem_map, List.getElem_range]
        exact g0
      · simp only [List.getElem_map, List.getElem_range]
        rw [Nat.add_assoc]
        exact g1
end

theorem StIn.take {w : World} {a : Option Addr} {l : List (Int × Int)} (h : StIn w a l) (k : Nat) : StIn w a (l.take k) := by
  intro i hi
  have hi' : i < l.length := by simp at hi; omega
  obtain ⟨b, off, e, h0, h1⟩ := h i hi'
  exact ⟨b, off, e, by simpa using h0, by simpa using h1⟩
end Go.Proofs.Ythjjidfoclcghaa
/- Small numbers that the laws of stamps make of any: sites, and numbers from 1 to 1000; cells that are kept. -/
namespace Go.Proofs.Ythjjidfoclcghaa
open Go.RowKit
set_option linter.unusedVariables false

theorem tmod_lt (x k : Int) (hk : 0 < k) : -k < x.tmod k ∧ x.tmod k < k := ⟨Int.lt_tmod_of_pos x hk, Int.tmod_lt_of_pos x hk⟩
theorem site6 (a : Int) : ∃ x : Int, (wrap64 (a.tmod 6 + 6)).tmod 6 = x ∧ 0 ≤ x ∧ x < 6 := by
  obtain ⟨h1, h2⟩ := tmod_lt a 6 (by omega)
  have e : wrap64 (a.tmod 6 + 6) = a.tmod 6 + 6 := by unfold wrap64; omega
  rw [e, Int.tmod_eq_emod_of_nonneg (by omega)]
  exact ⟨_, rfl, by omega, by omega⟩
theorem num1000 (n : Int) : ∃ x : Int, wrap64 (1 + (wrap64 (n.tmod 1000 + 1000)).tmod 1000) = x ∧ 1 ≤ x ∧ x ≤ 1000 := by
  obtain ⟨h1, h2⟩ := tmod_lt n 1000 (by omega)
  have e : wrap64 (n.tmod 1000 + 1000) = n.tmod 1000 + 1000 := by unfold wrap64; omega
  rw [e, Int.tmod_eq_emod_of_nonneg (by omega)]
  refine ⟨_, rfl, ?_, ?_⟩ <;> unfold wrap64 <;> omega

/-- Three boxed pairs behind a call that only makes memory. -/
theorem boxes3 {w w' : World} {x0 x1 y0 y1 z0 z1 : Value} {T : TypeId}
    (hb : Below (((w.alloc (.cells #[x0, x1] T)).alloc (.cells #[y0, y1] T)).alloc (.cells #[z0, z1] T)).heap.size (((w.alloc (.cells #[x0, x1] T)).alloc (.cells #[y0, y1] T)).alloc (.cells #[z0, z1] T)) w') :
    (w'.cell? ⟨w.heap.size, 0, none⟩ = some x0 ∧ w'.cell? ⟨w.heap.size, 1, none⟩ = some x1) ∧ (w'.cell? ⟨w.heap.size + 1, 0, none⟩ = some y0 ∧ w'.cell? ⟨w.heap.size + 1, 1, none⟩ = some y1) ∧
      (w'.cell? ⟨w.heap.size + 1 + 1, 0, none⟩ = some z0 ∧ w'.cell? ⟨w.heap.size + 1 + 1, 1, none⟩ = some z1) ∧ Below w.heap.size w w' := by
  have s : ((w.alloc (.cells #[x0, x1] T)).alloc (.cells #[y0, y1] T)).heap.size = w.heap.size + 1 + 1 := by simp
  refine ⟨⟨kc hb ?_, kc hb ?_⟩, ⟨kc hb ?_, kc hb ?_⟩, ⟨kc hb ?_, kc hb ?_⟩, (balloc (balloc (balloc (Below.refl _ w) _) _) _).trans (hb.mono (by simp; omega))⟩
  · rw [World.cell?_alloc_past _ _ _ (by rw [s]; omega)]; simp
  · rw [World.cell?_alloc_past _ _ _ (by rw [s]; omega)]; simp
  · rw [World.cell?_alloc_past _ _ _ (by rw [s]; omega)]; simp
  · rw [World.cell?_alloc_past _ _ _ (by rw [s]; omega)]; simp
  · rw [World.cell?_alloc_at _ _ _ _ s.symm]; rfl
  · rw [World.cell?_alloc_at _ _ _ _ s.symm]; rfl
end Go.Proofs.Ythjjidfoclcghaa
/- Rows of stamps that a call makes. -/
namespace Go.Proofs.Ythjjidfoclcghaa
open Go.RowKit
set_option linter.unusedVariables false

def stV (l : List (Int × Int)) : List Value := l.flatMap fun p => [.int .i64 p.1, .int .i64 p.2]
theorem stV_len (l : List (Int × Int)) : (stV l).length = l.length * 2 := by
  induction l with
  | nil => rfl
  | cons r t ih => simp [stV] at ih ⊢; omega
theorem stV_get (l : List (Int × Int)) (i : Nat) (h : i < l.length) : (stV l)[i * 2]? = some (.int .i64 l[i].1) ∧ (stV l)[i * 2 + 1]? = some (.int .i64 l[i].2) := by
  induction l generalizing i with
  | nil => simp at h
  | cons r t ih =>
    have e : stV (r :: t) = .int .i64 r.1 :: .int .i64 r.2 :: stV t := by simp [stV]
    rw [e]
    cases i with
    | zero => simp
    | succ i =>
      have := ih i (by simpa using h)
      rw [show (i + 1) * 2 = i * 2 + 1 + 1 by omega]
      simpa using this
theorem stV_snoc (l : List (Int × Int)) (p : Int × Int) : stV (l ++ [p]) = stV l ++ [.int .i64 p.1, .int .i64 p.2] := by simp [stV]
theorem stV_append (l m : List (Int × Int)) : stV (l ++ m) = stV l ++ stV m := by simp [stV]
theorem stV_one (l : List (Int × Int)) : ∀ u ∈ stV l, u.oneCell' = true := by
  intro u hu
  simp only [stV, List.mem_flatMap] at hu
  obtain ⟨p, _, hp⟩ := hu
  simp at hp
  rcases hp with rfl | rfl <;> rfl

/-- A row of the call's own reads as these stamps. -/
theorem st_of_own {w : World} {base : Nat} {e : TypeId} {v : Value} {l : List (Int × Int)} (h : w.ownsRow base e 2 v l.length (stV l)) : ∃ a cap, v = .slice a l.length cap ∧ StIn w a l := by
  rcases h.2 with ⟨rfl, h0⟩ | ⟨g, cap, cur, rfl, hb, hg, hn, hm, hs, ht⟩
  · obtain rfl : l = [] := List.length_eq_zero_iff.1 h0
    exact ⟨none, 0, rfl, fun i h => absurd h (by simp)⟩
  · refine ⟨some ⟨g, 0, none⟩, cap, rfl, fun i hi => ⟨g, 0, rfl, ?_, ?_⟩⟩
    · have h1 := (stV_get l i hi).1
      rw [← ht, List.getElem?_take, if_pos (by omega), Array.getElem?_toList] at h1
      simp [World.cell?, hg, h1]
    · have h1 := (stV_get l i hi).2
      rw [← ht, List.getElem?_take, if_pos (by omega), Array.getElem?_toList] at h1
      simp [World.cell?, hg, h1]
theorem ownT_shape {w1 : World} {base e n : Nat} {v' : Value} {xs : List Value} (h : w1.ownsRow base e 2 v' n xs) : ∃ a k c, v' = .slice a k c := by
  rcases h.2 with ⟨rfl, _⟩ | ⟨g, cap, cur, rfl, _⟩
  · exact ⟨_, _, _, rfl⟩
  · exact ⟨_, _, _, rfl⟩

/-- The cells of a row, one by one. -/
theorem StIn.news {w : World} {x : Addr} {l : List (Int × Int)} (h : StIn w (some x) l) : ∀ j u, (stV l)[j]? = some u → w.cell? (x.add j) = some u := by
  intro j u hj
  have hlt : j < (stV l).length := (List.getElem?_eq_some_iff.1 hj).1
  rw [stV_len] at hlt
  obtain ⟨b', off', e, h0, h1⟩ := h (j / 2) (by omega)
  cases e
  obtain ⟨k0, k1⟩ := stV_get l (j / 2) (by omega)
  rw [Addr.add_lit]
  rcases Nat.mod_two_eq_zero_or_one j with hm | hm
  · have ej : j = j / 2 * 2 := by omega
    rw [ej] at hj ⊢
    rw [k0] at hj
    cases hj
    exact h0
  · have ej : j = j / 2 * 2 + 1 := by omega
    rw [ej] at hj ⊢
    rw [k1] at hj
    cases hj
    rw [← Nat.add_assoc]
    exact h1

end Go.Proofs.Ythjjidfoclcghaa
/- Mathematics of keys: the runes of a row of bytes. Plain lemmas: they speak of no one program. -/
namespace Go.Proofs.Ythjjidfoclcghaa.Km

def okc (b : Nat) : Prop := 128 ≤ b ∧ b ≤ 191
instance (b : Nat) : Decidable (okc b) := by unfold okc; exact inferInstance

/-- How many bytes a rune's first byte tells of; 0: it begins none. -/
def lead (b : Nat) : Nat :=
  if b < 128 then 1 else if 194 ≤ b ∧ b ≤ 223 then 2 else if 224 ≤ b ∧ b ≤ 239 then 3 else if 240 ≤ b ∧ b ≤ 244 then 4 else 0

/-- How many bytes the rune has that n bytes b0, b1 .. begin with; 0: they begin with none. -/
def widN (n b0 b1 b2 b3 : Nat) : Nat :=
  if b0 < 128 then 1
  else if 194 ≤ b0 ∧ b0 ≤ 223 then (if 1 < n ∧ okc b1 then 2 else 0)
  else if 224 ≤ b0 ∧ b0 ≤ 239 then (if 2 < n ∧ okc b1 ∧ okc b2 ∧ ¬ (b0 = 224 ∧ b1 < 160) ∧ ¬ (b0 = 237 ∧ 159 < b1) then 3 else 0)
  else if 240 ≤ b0 ∧ b0 ≤ 244 then (if 3 < n ∧ okc b1 ∧ okc b2 ∧ okc b3 ∧ ¬ (b0 = 240 ∧ b1 < 144) ∧ ¬ (b0 = 244 ∧ 143 < b1) then 4 else 0)
  else 0

/-- The model's decoding, over numbers. -/
def vld (c : Nat) : Prop := c < 55296 ∨ (57344 ≤ c ∧ c ≤ 1114111)
instance (c : Nat) : Decidable (vld c) := by unfold vld; exact inferInstance
theorem valid_vld (c : Nat) : Utf8.valid (c : Int) = true ↔ vld c := by
  unfold Utf8.valid vld
  rw [Bool.or_eq_true, Bool.and_eq_true, Bool.and_eq_true, decide_eq_true_iff, decide_eq_true_iff, decide_eq_true_iff, decide_eq_true_iff]
  omega
def decN (n b0 b1 b2 b3 : Nat) : Nat × Nat :=
  if b0 < 128 then (b0, 1)
  else if b0 / 32 = 6 ∧ 1 < n ∧ b1 / 64 = 2 then
    if (b0 % 32) * 64 + b1 % 64 ≥ 128 then ((b0 % 32) * 64 + b1 % 64, 2) else (65533, 1)
  else if b0 / 16 = 14 ∧ (1 < n ∧ b1 / 64 = 2) ∧ 2 < n ∧ b2 / 64 = 2 then
    if (b0 % 16) * 4096 + (b1 % 64) * 64 + b2 % 64 ≥ 2048 ∧ vld ((b0 % 16) * 4096 + (b1 % 64) * 64 + b2 % 64) then ((b0 % 16) * 4096 + (b1 % 64) * 64 + b2 % 64, 3) else (65533, 1)
  else if b0 / 8 = 30 ∧ (1 < n ∧ b1 / 64 = 2) ∧ (2 < n ∧ b2 / 64 = 2) ∧ 3 < n ∧ b3 / 64 = 2 then
    if (b0 % 8) * 262144 + (b1 % 64) * 4096 + (b2 % 64) * 64 + b3 % 64 ≥ 65536 ∧ vld ((b0 % 8) * 262144 + (b1 % 64) * 4096 + (b2 % 64) * 64 + b3 % 64) then ((b0 % 8) * 262144 + (b1 % 64) * 4096 + (b2 % 64) * 64 + b3 % 64, 4) else (65533, 1)
  else (65533, 1)

theorem decN_0 {n b0 b1 b2 b3 : Nat} (h0 : b0 < 256) (h1 : b1 < 256) (h2 : b2 < 256) (h3 : b3 < 256) (hw : widN n b0 b1 b2 b3 = 0) :
    decN n b0 b1 b2 b3 = (65533, 1) ∧ ¬ (2 < n ∧ b0 = 239 ∧ b1 = 191 ∧ b2 = 189) := by
  unfold widN at hw
  unfold decN vld
  unfold okc at hw
  repeat' split at hw
  all_goals try (exact absurd hw (by omega))
  all_goals
    refine ⟨?_, by omega⟩
    repeat' split
    all_goals first | rfl | (exfalso; omega)

theorem decN_pos {n b0 b1 b2 b3 : Nat} (h0 : b0 < 256) (h1 : b1 < 256) (h2 : b2 < 256) (h3 : b3 < 256) (hw : 0 < widN n b0 b1 b2 b3) :
    (decN n b0 b1 b2 b3).2 = widN n b0 b1 b2 b3 ∧ ((decN n b0 b1 b2 b3).1 = 65533 → 2 < n ∧ b0 = 239 ∧ b1 = 191 ∧ b2 = 189) ∧ ((decN n b0 b1 b2 b3).1 < 128 → (decN n b0 b1 b2 b3).1 = b0) ∧ (b0 < 128 → (decN n b0 b1 b2 b3).1 = b0) := by
  revert hw
  unfold widN decN okc vld
  repeat' split
  all_goals intro hw
  all_goals first | (exfalso; omega) | (refine ⟨?_, fun h => ?_, fun h => ?_, fun h => ?_⟩ <;> first | rfl | omega | (simp only [] at h; omega))

theorem widN_lead {n b0 b1 b2 b3 : Nat} (hn : 0 < n) : widN n b0 b1 b2 b3 =
    if lead b0 = 0 ∨ n < lead b0 then 0
    else if (1 < lead b0 ∧ ¬ okc b1) ∨ (2 < lead b0 ∧ ¬ okc b2) ∨ (3 < lead b0 ∧ ¬ okc b3) then 0
    else if (b0 = 224 ∧ b1 < 160) ∨ (b0 = 237 ∧ 159 < b1) ∨ (b0 = 240 ∧ b1 < 144) ∨ (b0 = 244 ∧ 143 < b1) then 0
    else lead b0 := by
  unfold widN
  by_cases h1 : b0 < 128
  · have e : lead b0 = 1 := by unfold lead; rw [if_pos h1]
    rw [e, if_pos h1, if_neg (by omega), if_neg (by omega), if_neg (by omega)]
  by_cases h2 : 194 ≤ b0 ∧ b0 ≤ 223
  · have e : lead b0 = 2 := by unfold lead; rw [if_neg h1, if_pos h2]
    rw [e, if_neg h1, if_pos h2]
    by_cases hl : n < 2
    · rw [if_neg (by omega), if_pos (by omega)]
    rw [if_neg (show ¬ (2 = 0 ∨ n < 2) by omega)]
    by_cases ha : okc b1
    · rw [if_pos ⟨by omega, ha⟩, if_neg (by simp [ha]), if_neg (by omega)]
    · rw [if_neg (by simp [ha]), if_pos (by simp [ha])]
  by_cases h3 : 224 ≤ b0 ∧ b0 ≤ 239
  · have e : lead b0 = 3 := by unfold lead; rw [if_neg h1, if_neg h2, if_pos h3]
    rw [e, if_neg h1, if_neg h2, if_pos h3]
    by_cases hl : n < 3
    · rw [if_neg (by omega), if_pos (by omega)]
    rw [if_neg (show ¬ (3 = 0 ∨ n < 3) by omega)]
    by_cases ha : okc b1 ∧ okc b2
    · rw [if_neg (show ¬ ((1 < 3 ∧ ¬ okc b1) ∨ (2 < 3 ∧ ¬ okc b2) ∨ (3 < 3 ∧ ¬ okc b3)) by simp [ha])]
      by_cases hs : (b0 = 224 ∧ b1 < 160) ∨ (b0 = 237 ∧ 159 < b1) ∨ (b0 = 240 ∧ b1 < 144) ∨ (b0 = 244 ∧ 143 < b1)
      · rw [if_pos hs, if_neg (by omega)]
      · rw [if_neg hs, if_pos ⟨by omega, ha.1, ha.2, by omega, by omega⟩]
    · rw [if_neg (fun h => ha ⟨h.2.1, h.2.2.1⟩), if_pos (by by_cases h : okc b1 <;> simp_all)]
  by_cases h4 : 240 ≤ b0 ∧ b0 ≤ 244
  · have e : lead b0 = 4 := by unfold lead; rw [if_neg h1, if_neg h2, if_neg h3, if_pos h4]
    rw [e, if_neg h1, if_neg h2, if_neg h3, if_pos h4]
    by_cases hl : n < 4
    · rw [if_neg (by omega), if_pos (by omega)]
    rw [if_neg (show ¬ (4 = 0 ∨ n < 4) by omega)]
    by_cases ha : okc b1 ∧ okc b2 ∧ okc b3
    · rw [if_neg (show ¬ ((1 < 4 ∧ ¬ okc b1) ∨ (2 < 4 ∧ ¬ okc b2) ∨ (3 < 4 ∧ ¬ okc b3)) by simp [ha])]
      by_cases hs : (b0 = 224 ∧ b1 < 160) ∨ (b0 = 237 ∧ 159 < b1) ∨ (b0 = 240 ∧ b1 < 144) ∨ (b0 = 244 ∧ 143 < b1)
      · rw [if_pos hs, if_neg (by omega)]
      · rw [if_neg hs, if_pos ⟨by omega, ha.1, ha.2.1, ha.2.2, by omega, by omega⟩]
    · rw [if_neg (fun h => ha ⟨h.2.1, h.2.2.1, h.2.2.2.1⟩), if_pos (by by_cases h : okc b1 <;> by_cases k : okc b2 <;> simp_all)]
  have e : lead b0 = 0 := by unfold lead; rw [if_neg h1, if_neg h2, if_neg h3, if_neg h4]
  rw [e, if_neg h1, if_neg h2, if_neg h3, if_neg h4, if_pos (.inl rfl)]

theorem widN_le {n b0 b1 b2 b3 : Nat} (hn : 0 < n) : widN n b0 b1 b2 b3 ≤ n ∧ widN n b0 b1 b2 b3 ≤ 4 := by
  unfold widN
  repeat' split
  all_goals omega

def nth (l : List UInt8) (i : Nat) : Nat := (l.getD i 0).toNat
theorem nth_lt (l : List UInt8) (i : Nat) : nth l i < 256 := UInt8.toNat_lt _
def wid (l : List UInt8) : Nat := if l = [] then 0 else widN l.length (nth l 0) (nth l 1) (nth l 2) (nth l 3)
theorem wid_le (l : List UInt8) : wid l ≤ l.length := by
  unfold wid
  split
  · omega
  · rename_i h
    exact (widN_le (List.length_pos_iff.2 h)).1

/-- How many runes there are; none: they are not UTF-8, or one is less than low. -/
def cnt (low : Nat) (l : List UInt8) : Option Nat :=
  if l = [] then some 0
  else if wid l = 0 ∨ nth l 0 < low then none
  else (cnt low (l.drop (wid l))).map (· + 1)
termination_by l.length
decreasing_by
  rename_i h h2
  have : 0 < l.length := List.length_pos_iff.2 h
  simp
  omega

theorem cnt_nil (low : Nat) : cnt low [] = some 0 := by rw [cnt]; simp
theorem cnt_bad {low : Nat} {l : List UInt8} (h : l ≠ []) (hw : wid l = 0 ∨ nth l 0 < low) : cnt low l = none := by rw [cnt, if_neg h, if_pos hw]
theorem cnt_go {low : Nat} {l : List UInt8} (h : l ≠ []) (hw : 0 < wid l) (hl : low ≤ nth l 0) : cnt low l = (cnt low (l.drop (wid l))).map (· + 1) := by
  rw [cnt, if_neg h, if_neg (by omega)]

theorem cnt_le (low : Nat) (l : List UInt8) (n : Nat) (h : cnt low l = some n) : n ≤ l.length := by
  induction hk : l.length using Nat.strongRecOn generalizing l n with
  | ind k ih =>
    by_cases h0 : l = []
    · subst h0
      rw [cnt_nil] at h
      cases h
      omega
    · by_cases hb : wid l = 0 ∨ nth l 0 < low
      · rw [cnt_bad h0 hb] at h
        cases h
      · rw [cnt_go h0 (by omega) (by omega)] at h
        have hp := List.length_pos_iff.2 h0
        cases hc : cnt low (l.drop (wid l)) with
        | none => rw [hc] at h; cases h
        | some m =>
          rw [hc] at h
          simp only [Option.map_some, Option.some.injEq] at h
          have := ih (l.drop (wid l)).length (by simp; omega) (l.drop (wid l)) m hc rfl
          simp at this
          omega

theorem nth_drop (l : List UInt8) (a i : Nat) : nth (l.drop a) i = nth l (a + i) := by
  simp [nth]

theorem get_nth (s : ByteArray) (i : Nat) : (s.get! i).toNat = nth s.data.toList i := by
  unfold nth
  rw [show s.get! i = s.data[i]! from rfl, List.getD_eq_getElem?_getD, Array.getElem?_toList, getElem!_def]
  cases s.data[i]? <;> rfl

theorem nth_get (s : ByteArray) (i : Nat) (h : i < s.size) : (s[i]'h).toNat = nth s.data.toList i := by
  unfold nth
  have h' : i < s.data.toList.length := by simpa using h
  rw [List.getD_eq_getElem?_getD, List.getElem?_eq_getElem h']
  rfl

theorem ifc {α : Type} {b c : Prop} [Decidable b] [Decidable c] {x y u v : α} (h : b ↔ c) (hx : x = u) (hy : y = v) : (if b then x else y) = if c then u else v := by
  by_cases k : c
  · rw [if_pos k, if_pos (h.2 k), hx]
  · rw [if_neg k, if_neg (fun e => k (h.1 e)), hy]

theorem decode_decN (s : ByteArray) (pos : Nat) : Utf8.decode s pos = decN (s.data.toList.drop pos).length (nth (s.data.toList.drop pos) 0) (nth (s.data.toList.drop pos) 1) (nth (s.data.toList.drop pos) 2) (nth (s.data.toList.drop pos) 3) := by
  have hl : ∀ k, decide (pos + k < s.size) = decide (k < (s.data.toList.drop pos).length) := by
    intro k
    congr 1
    simp
    have : s.data.size = s.size := rfl
    omega
  unfold Utf8.decode decN
  simp only [nth_drop, get_nth, hl, Utf8.runeError]
  generalize (s.data.toList.drop pos).length = n
  generalize nth s.data.toList (pos + 0) = b0
  generalize nth s.data.toList (pos + 1) = b1
  generalize nth s.data.toList (pos + 2) = b2
  generalize nth s.data.toList (pos + 3) = b3
  refine ifc Iff.rfl rfl (ifc ?_ rfl (ifc ?_ (ifc ?_ rfl rfl) (ifc ?_ (ifc ?_ rfl rfl) rfl)))
  · rw [Bool.and_eq_true, Bool.and_eq_true, beq_iff_eq, beq_iff_eq, decide_eq_true_iff]
  · rw [Bool.and_eq_true, Bool.and_eq_true, Bool.and_eq_true, Bool.and_eq_true, beq_iff_eq, beq_iff_eq, beq_iff_eq, decide_eq_true_iff, decide_eq_true_iff, and_assoc]
  · rw [Bool.and_eq_true, decide_eq_true_iff, valid_vld]
  · rw [Bool.and_eq_true, Bool.and_eq_true, Bool.and_eq_true, Bool.and_eq_true, Bool.and_eq_true, Bool.and_eq_true, beq_iff_eq, beq_iff_eq, beq_iff_eq, beq_iff_eq, decide_eq_true_iff, decide_eq_true_iff, decide_eq_true_iff, and_assoc, and_assoc]
  · rw [Bool.and_eq_true, decide_eq_true_iff, valid_vld]

theorem pre_iff (l : List UInt8) : Lib.hasPrefix l [239, 191, 189] = true ↔ (2 < l.length ∧ nth l 0 = 239 ∧ nth l 1 = 191 ∧ nth l 2 = 189) := by
  unfold Lib.hasPrefix nth
  match l with
  | [] => simp
  | [a] => simp
  | [a, b] => simp
  | a :: b :: c :: r =>
    simp [List.isPrefixOf]
    simp only [← UInt8.toNat_inj]
    constructor
    · rintro ⟨h1, h2, h3⟩
      exact ⟨h1.symm, h2.symm, h3.symm⟩
    · rintro ⟨h1, h2, h3⟩
      exact ⟨h1.symm, h2.symm, h3.symm⟩

theorem dec_bad (s : ByteArray) (pos : Nat) (h : pos < s.size) (hw : wid (s.data.toList.drop pos) = 0) :
    Utf8.decode s pos = (65533, 1) ∧ Lib.hasPrefix (s.data.toList.drop pos) [239, 191, 189] = false := by
  have hne : s.data.toList.drop pos ≠ [] := by
    intro e
    have e := congrArg List.length e
    simp at e
    have : s.data.size = s.size := rfl
    omega
  unfold wid at hw
  rw [if_neg hne] at hw
  have h1 := decN_0 (nth_lt _ _) (nth_lt _ _) (nth_lt _ _) (nth_lt _ _) hw
  refine ⟨by rw [decode_decN]; exact h1.1, ?_⟩
  rw [Bool.eq_false_iff]
  intro e
  exact h1.2 ((pre_iff _).1 e)

theorem dec_good (s : ByteArray) (pos : Nat) (h : pos < s.size) (hw : 0 < wid (s.data.toList.drop pos)) :
    (Utf8.decode s pos).2 = wid (s.data.toList.drop pos) ∧ ((Utf8.decode s pos).1 = 65533 → Lib.hasPrefix (s.data.toList.drop pos) [239, 191, 189] = true) ∧
      ((Utf8.decode s pos).1 < 128 → (Utf8.decode s pos).1 = nth (s.data.toList.drop pos) 0) ∧ (nth (s.data.toList.drop pos) 0 < 128 → (Utf8.decode s pos).1 = nth (s.data.toList.drop pos) 0) := by
  have hne : s.data.toList.drop pos ≠ [] := by
    intro e
    have e := congrArg List.length e
    simp at e
    have : s.data.size = s.size := rfl
    omega
  have hw' := hw
  unfold wid at hw' ⊢
  rw [if_neg hne] at hw' ⊢
  have h1 := decN_pos (nth_lt _ _) (nth_lt _ _) (nth_lt _ _) (nth_lt _ _) hw'
  rw [decode_decN]
  exact ⟨h1.1, fun e => (pre_iff _).2 (h1.2.1 e), h1.2.2.1, h1.2.2.2⟩

theorem lead_le (b : Nat) : lead b ≤ 4 := by
  unfold lead
  repeat' split
  all_goals omega
theorem lead_1 {b : Nat} (h : lead b = 1) : b < 128 := by
  unfold lead at h
  repeat' split at h
  all_goals omega
def spec (b0 b1 : Nat) : Prop := (b0 = 224 ∧ b1 < 160) ∨ (b0 = 237 ∧ 159 < b1) ∨ (b0 = 240 ∧ b1 < 144) ∨ (b0 = 244 ∧ 143 < b1)
theorem wid_eq {d : List UInt8} (h : d ≠ []) : wid d = widN d.length (nth d 0) (nth d 1) (nth d 2) (nth d 3) := by unfold wid; rw [if_neg h]
theorem wid_bad_lead {d : List UInt8} (h : d ≠ []) (hb : lead (nth d 0) = 0 ∨ d.length < lead (nth d 0)) : wid d = 0 := by
  rw [wid_eq h, widN_lead (List.length_pos_iff.2 h), if_pos hb]
theorem wid_bad_cont {d : List UInt8} {i : Nat} (h : d ≠ []) (h1 : 1 ≤ i) (h2 : i < lead (nth d 0)) (hb : ¬ okc (nth d i)) : wid d = 0 := by
  have h4 := lead_le (nth d 0)
  rw [wid_eq h, widN_lead (List.length_pos_iff.2 h)]
  split
  · rfl
  · rw [if_pos]
    rcases (show i = 1 ∨ i = 2 ∨ i = 3 by omega) with rfl | rfl | rfl
    · exact .inl ⟨by omega, hb⟩
    · exact .inr (.inl ⟨by omega, hb⟩)
    · exact .inr (.inr ⟨by omega, hb⟩)
theorem wid_bad_spec {d : List UInt8} (h : d ≠ []) (hb : spec (nth d 0) (nth d 1)) : wid d = 0 := by
  rw [wid_eq h, widN_lead (List.length_pos_iff.2 h)]
  split
  · rfl
  · split
    · rfl
    · rw [if_pos (by unfold spec at hb; exact hb)]
theorem wid_ok {d : List UInt8} (h : d ≠ []) (h1 : ¬ (lead (nth d 0) = 0 ∨ d.length < lead (nth d 0))) (h2 : ∀ i, 1 ≤ i → i < lead (nth d 0) → okc (nth d i)) (h3 : ¬ spec (nth d 0) (nth d 1)) : wid d = lead (nth d 0) := by
  rw [wid_eq h, widN_lead (List.length_pos_iff.2 h), if_neg h1, if_neg, if_neg]
  · exact h3
  · rintro (⟨a, b⟩ | ⟨a, b⟩ | ⟨a, b⟩)
    · exact b (h2 1 (by omega) a)
    · exact b (h2 2 (by omega) a)
    · exact b (h2 3 (by omega) a)

/-- The answer of a count that stops above 'most'. -/
def capV (most : Nat) (o : Option Nat) : Int := match o with | none => -1 | some n => if n ≤ most then n else -1
def runesV (l : List UInt8) : Int := capV l.length (cnt 0 l)
def chk (l : List UInt8) : Bool := decide (0 < capV 8 (cnt 33 l))

end Go.Proofs.Ythjjidfoclcghaa.Km
