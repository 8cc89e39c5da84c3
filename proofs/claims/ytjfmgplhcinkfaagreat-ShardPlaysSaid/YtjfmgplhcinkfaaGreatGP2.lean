/- Texts of this proof, one behind the other: StampNums, StampRows, KeysMath, KeysCount, KeysOrd, KeysHas. -/
import Derived.Test.YtjfmgplhcinkfaaGreatGP1
import Derived.OwnWalk
import Derived.Laws.AppendOwnNone
import Derived.Laws.RangeAny
import Derived.Lib.Strings
import Derived.Test.YtjfmgplhcinkfaaGreatProg
import Derived.WalkKit
import Derived.WalkLawsBesides
import Derived.Lib.Hide
import Derived.Laws.RangeString
import Derived.Below
import Derived.ChangeAlike
/- Small numbers that the laws of stamps make of any: sites, and numbers from 1 to 1000; cells that are kept. -/
namespace Go.Proofs.YtjfmgplhcinkfaaGreat
open Go.RowKit
set_option linter.unusedVariables false

theorem tmod_lt (x k : Int) (hk : 0 < k) : -k < x.tmod k ∧ x.tmod k < k := ⟨Int.lt_tmod_of_pos x hk, Int.tmod_lt_of_pos x hk⟩
theorem site6 (a : Int) : ∃ x : Int, (wrap64 (a.tmod 6 + 6)).tmod 6 = x ∧ 0 ≤ x ∧ x < 6 := by
  obtain ⟨h1, h2⟩ := tmod_lt a 6 (by omega)
  have e : wrap64 (a.tmod 6 + 6) = a.tmod 6 + 6 := by unfold wrap64; omega
  rw [e, Int.tmod_eq_emod_of_nonneg (by omega)]
  exact ⟨_, rfl, by omega, by omega⟩
theorem num1000 (n : Int) : ∃ x : Int, wrap64 (1 + (wrap64 (n.tmod 1000 + 1000)).tmod 1000) = x ∧ 1 ≤ x ∧ x ≤ 1000 := by
  obtain ⟨h1, h2⟩ := tmod_lt n 1000 (by omega)
  have e : wrap64 (n.tmod 1000 + 1000) = n.tmod 1000 + 1000 := by unfold wrap64; omega
  rw [e, Int.tmod_eq_emod_of_nonneg (by omega)]
  refine ⟨_, rfl, ?_, ?_⟩ <;> unfold wrap64 <;> omega

theorem less_b (n s m t : Int) (b : Bool) (w : World) (hb : Sm.less (n, s) (m, t) = b) :
    Calls Tryz.prog 67 #[.agg #[.int .i64 n, .int .i64 s], .agg #[.int .i64 m, .int .i64 t]] w fun e w' => e = .returned (.bool b) ∧ Below w.heap.size w w' := by
  rw [← hb]
  exact less_any n s m t w
theorem check_b (n s : Int) (b : Bool) (w : World) (hb : Sm.ok n s = b) :
    Calls Tryz.prog 75 #[.agg #[.int .i64 n, .int .i64 s]] w fun e w' => e = .returned (.bool b) ∧ Below w.heap.size w w' := by
  rw [← hb]
  exact scheck_any n s w

/-- Three boxed pairs behind a call that only makes memory. -/
theorem boxes3 {w w' : World} {x0 x1 y0 y1 z0 z1 : Value} {T : TypeId}
    (hb : Below (((w.alloc (.cells #[x0, x1] T)).alloc (.cells #[y0, y1] T)).alloc (.cells #[z0, z1] T)).heap.size (((w.alloc (.cells #[x0, x1] T)).alloc (.cells #[y0, y1] T)).alloc (.cells #[z0, z1] T)) w') :
    (w'.cell? ⟨w.heap.size, 0, none⟩ = some x0 ∧ w'.cell? ⟨w.heap.size, 1, none⟩ = some x1) ∧ (w'.cell? ⟨w.heap.size + 1, 0, none⟩ = some y0 ∧ w'.cell? ⟨w.heap.size + 1, 1, none⟩ = some y1) ∧
      (w'.cell? ⟨w.heap.size + 1 + 1, 0, none⟩ = some z0 ∧ w'.cell? ⟨w.heap.size + 1 + 1, 1, none⟩ = some z1) ∧ Below w.heap.size w w' := by
  have s : ((w.alloc (.cells #[x0, x1] T)).alloc (.cells #[y0, y1] T)).heap.size = w.heap.size + 1 + 1 := by simp
  refine ⟨⟨kc hb ?_, kc hb ?_⟩, ⟨kc hb ?_, kc hb ?_⟩, ⟨kc hb ?_, kc hb ?_⟩, (balloc (balloc (balloc (Below.refl _ w) _) _) _).trans (hb.mono (by simp; omega))⟩
  · rw [World.cell?_alloc_past _ _ _ (by rw [s]; omega)]; simp
  · rw [World.cell?_alloc_past _ _ _ (by rw [s]; omega)]; simp
  · rw [World.cell?_alloc_past _ _ _ (by rw [s]; omega)]; simp
  · rw [World.cell?_alloc_past _ _ _ (by rw [s]; omega)]; simp
  · rw [World.cell?_alloc_at _ _ _ _ s.symm]; rfl
  · rw [World.cell?_alloc_at _ _ _ _ s.symm]; rfl
end Go.Proofs.YtjfmgplhcinkfaaGreat
/- Rows of stamps that a call makes. -/
namespace Go.Proofs.YtjfmgplhcinkfaaGreat
open Go.RowKit
set_option linter.unusedVariables false

def stV (l : List (Int × Int)) : List Value := l.flatMap fun p => [.int .i64 p.1, .int .i64 p.2]
theorem stV_len (l : List (Int × Int)) : (stV l).length = l.length * 2 := by
  induction l with
  | nil => rfl
  | cons r t ih => simp [stV] at ih ⊢; omega
theorem stV_get (l : List (Int × Int)) (i : Nat) (h : i < l.length) : (stV l)[i * 2]? = some (.int .i64 l[i].1) ∧ (stV l)[i * 2 + 1]? = some (.int .i64 l[i].2) := by
  induction l generalizing i with
  | nil => simp at h
  | cons r t ih =>
    have e : stV (r :: t) = .int .i64 r.1 :: .int .i64 r.2 :: stV t := by simp [stV]
    rw [e]
    cases i with
    | zero => simp
    | succ i =>
      have := ih i (by simpa using h)
      rw [show (i + 1) * 2 = i * 2 + 1 + 1 by omega]
      simpa using this
theorem stV_snoc (l : List (Int × Int)) (p : Int × Int) : stV (l ++ [p]) = stV l ++ [.int .i64 p.1, .int .i64 p.2] := by simp [stV]
theorem stV_append (l m : List (Int × Int)) : stV (l ++ m) = stV l ++ stV m := by simp [stV]
theorem stV_one (l : List (Int × Int)) : ∀ u ∈ stV l, u.oneCell' = true := by
  intro u hu
  simp only [stV, List.mem_flatMap] at hu
  obtain ⟨p, _, hp⟩ := hu
  simp at hp
  rcases hp with rfl | rfl <;> rfl

theorem info_st : (Tryz.prog.info? 33).map (fun i => (i.zero, i.size, i.bytes)) = some (some (.agg #[.int .i64 0, .int .i64 0]), 2, 16) := by kernel_rfl

/-- A row of the call's own reads as these stamps. -/
theorem st_of_own {w : World} {base : Nat} {e : TypeId} {v : Value} {l : List (Int × Int)} (h : w.ownsRow base e 2 v l.length (stV l)) : ∃ a cap, v = .slice a l.length cap ∧ StIn w a l := by
  rcases h.2 with ⟨rfl, h0⟩ | ⟨g, cap, cur, rfl, hb, hg, hn, hm, hs, ht⟩
  · obtain rfl : l = [] := List.length_eq_zero_iff.1 h0
    exact ⟨none, 0, rfl, fun i h => absurd h (by simp)⟩
  · refine ⟨some ⟨g, 0, none⟩, cap, rfl, fun i hi => ⟨g, 0, rfl, ?_, ?_⟩⟩
    · have h1 := (stV_get l i hi).1
      rw [← ht, List.getElem?_take, if_pos (by omega), Array.getElem?_toList] at h1
      simp [World.cell?, hg, h1]
    · have h1 := (stV_get l i hi).2
      rw [← ht, List.getElem?_take, if_pos (by omega), Array.getElem?_toList] at h1
      simp [World.cell?, hg, h1]
theorem ownT_shape {w1 : World} {base e n : Nat} {v' : Value} {xs : List Value} (h : w1.ownsRow base e 2 v' n xs) : ∃ a k c, v' = .slice a k c := by
  rcases h.2 with ⟨rfl, _⟩ | ⟨g, cap, cur, rfl, _⟩
  · exact ⟨_, _, _, rfl⟩
  · exact ⟨_, _, _, rfl⟩

/-- The cells of a row, one by one. -/
theorem StIn.news {w : World} {x : Addr} {l : List (Int × Int)} (h : StIn w (some x) l) : ∀ j u, (stV l)[j]? = some u → w.cell? (x.add j) = some u := by
  intro j u hj
  have hlt : j < (stV l).length := (List.getElem?_eq_some_iff.1 hj).1
  rw [stV_len] at hlt
  obtain ⟨b', off', e, h0, h1⟩ := h (j / 2) (by omega)
  cases e
  obtain ⟨k0, k1⟩ := stV_get l (j / 2) (by omega)
  rw [Addr.add_lit]
  rcases Nat.mod_two_eq_zero_or_one j with hm | hm
  · have ej : j = j / 2 * 2 := by omega
    rw [ej] at hj ⊢
    rw [k0] at hj
    cases hj
    exact h0
  · have ej : j = j / 2 * 2 + 1 := by omega
    rw [ej] at hj ⊢
    rw [k1] at hj
    cases hj
    rw [← Nat.add_assoc]
    exact h1

end Go.Proofs.YtjfmgplhcinkfaaGreat
/- Mathematics of keys: the runes of a row of bytes. Plain lemmas: they speak of no one program. -/
namespace Go.Proofs.YtjfmgplhcinkfaaGreat.Km

def okc (b : Nat) : Prop := 128 ≤ b ∧ b ≤ 191
instance (b : Nat) : Decidable (okc b) := by unfold okc; exact inferInstance

/-- How many bytes a rune's first byte tells of; 0: it begins none. -/
def lead (b : Nat) : Nat :=
  if b < 128 then 1 else if 194 ≤ b ∧ b ≤ 223 then 2 else if 224 ≤ b ∧ b ≤ 239 then 3 else if 240 ≤ b ∧ b ≤ 244 then 4 else 0

/-- How many bytes the rune has that n bytes b0, b1 .. begin with; 0: they begin with none. -/
def widN (n b0 b1 b2 b3 : Nat) : Nat :=
  if b0 < 128 then 1
  else if 194 ≤ b0 ∧ b0 ≤ 223 then (if 1 < n ∧ okc b1 then 2 else 0)
  else if 224 ≤ b0 ∧ b0 ≤ 239 then (if 2 < n ∧ okc b1 ∧ okc b2 ∧ ¬ (b0 = 224 ∧ b1 < 160) ∧ ¬ (b0 = 237 ∧ 159 < b1) then 3 else 0)
  else if 240 ≤ b0 ∧ b0 ≤ 244 then (if 3 < n ∧ okc b1 ∧ okc b2 ∧ okc b3 ∧ ¬ (b0 = 240 ∧ b1 < 144) ∧ ¬ (b0 = 244 ∧ 143 < b1) then 4 else 0)
  else 0

/-- The model's decoding, over numbers. -/
def vld (c : Nat) : Prop := c < 55296 ∨ (57344 ≤ c ∧ c ≤ 1114111)
instance (c : Nat) : Decidable (vld c) := by unfold vld; exact inferInstance
theorem valid_vld (c : Nat) : Utf8.valid (c : Int) = true ↔ vld c := by
  unfold Utf8.valid vld
  rw [Bool.or_eq_true, Bool.and_eq_true, Bool.and_eq_true, decide_eq_true_iff, decide_eq_true_iff, decide_eq_true_iff, decide_eq_true_iff]
  omega
def decN (n b0 b1 b2 b3 : Nat) : Nat × Nat :=
  if b0 < 128 then (b0, 1)
  else if b0 / 32 = 6 ∧ 1 < n ∧ b1 / 64 = 2 then
    if (b0 % 32) * 64 + b1 % 64 ≥ 128 then ((b0 % 32) * 64 + b1 % 64, 2) else (65533, 1)
  else if b0 / 16 = 14 ∧ (1 < n ∧ b1 / 64 = 2) ∧ 2 < n ∧ b2 / 64 = 2 then
    if (b0 % 16) * 4096 + (b1 % 64) * 64 + b2 % 64 ≥ 2048 ∧ vld ((b0 % 16) * 4096 + (b1 % 64) * 64 + b2 % 64) then ((b0 % 16) * 4096 + (b1 % 64) * 64 + b2 % 64, 3) else (65533, 1)
  else if b0 / 8 = 30 ∧ (1 < n ∧ b1 / 64 = 2) ∧ (2 < n ∧ b2 / 64 = 2) ∧ 3 < n ∧ b3 / 64 = 2 then
    if (b0 % 8) * 262144 + (b1 % 64) * 4096 + (b2 % 64) * 64 + b3 % 64 ≥ 65536 ∧ vld ((b0 % 8) * 262144 + (b1 % 64) * 4096 + (b2 % 64) * 64 + b3 % 64) then ((b0 % 8) * 262144 + (b1 % 64) * 4096 + (b2 % 64) * 64 + b3 % 64, 4) else (65533, 1)
  else (65533, 1)

theorem decN_0 {n b0 b1 b2 b3 : Nat} (h0 : b0 < 256) (h1 : b1 < 256) (h2 : b2 < 256) (h3 : b3 < 256) (hw : widN n b0 b1 b2 b3 = 0) :
    decN n b0 b1 b2 b3 = (65533, 1) ∧ ¬ (2 < n ∧ b0 = 239 ∧ b1 = 191 ∧ b2 = 189) := by
  unfold widN at hw
  unfold decN vld
  unfold okc at hw
  repeat' split at hw
  all_goals try (exact absurd hw (by omega))
  all_goals
    refine ⟨?_, by omega⟩
    repeat' split
    all_goals first | rfl | (exfalso; omega)

theorem decN_pos {n b0 b1 b2 b3 : Nat} (h0 : b0 < 256) (h1 : b1 < 256) (h2 : b2 < 256) (h3 : b3 < 256) (hw : 0 < widN n b0 b1 b2 b3) :
    (decN n b0 b1 b2 b3).2 = widN n b0 b1 b2 b3 ∧ ((decN n b0 b1 b2 b3).1 = 65533 → 2 < n ∧ b0 = 239 ∧ b1 = 191 ∧ b2 = 189) ∧ ((decN n b0 b1 b2 b3).1 < 128 → (decN n b0 b1 b2 b3).1 = b0) ∧ (b0 < 128 → (decN n b0 b1 b2 b3).1 = b0) := by
  revert hw
  unfold widN decN okc vld
  repeat' split
  all_goals intro hw
  all_goals first | (exfalso; omega) | (refine ⟨?_, fun h => ?_, fun h => ?_, fun h => ?_⟩ <;> first | rfl | omega | (simp only [] at h; omega))

theorem widN_lead {n b0 b1 b2 b3 : Nat} (hn : 0 < n) : widN n b0 b1 b2 b3 =
    if lead b0 = 0 ∨ n < lead b0 then 0
    else if (1 < lead b0 ∧ ¬ okc b1) ∨ (2 < lead b0 ∧ ¬ okc b2) ∨ (3 < lead b0 ∧ ¬ okc b3) then 0
    else if (b0 = 224 ∧ b1 < 160) ∨ (b0 = 237 ∧ 159 < b1) ∨ (b0 = 240 ∧ b1 < 144) ∨ (b0 = 244 ∧ 143 < b1) then 0
    else lead b0 := by
  unfold widN
  by_cases h1 : b0 < 128
  · have e : lead b0 = 1 := by unfold lead; rw [if_pos h1]
    rw [e, if_pos h1, if_neg (by omega), if_neg (by omega), if_neg (by omega)]
  by_cases h2 : 194 ≤ b0 ∧ b0 ≤ 223
  · have e : lead b0 = 2 := by unfold lead; rw [if_neg h1, if_pos h2]
    rw [e, if_neg h1, if_pos h2]
    by_cases hl : n < 2
    · rw [if_neg (by omega), if_pos (by omega)]
    rw [if_neg (show ¬ (2 = 0 ∨ n < 2) by omega)]
    by_cases ha : okc b1
    · rw [if_pos ⟨by omega, ha⟩, if_neg (by simp [ha]), if_neg (by omega)]
    · rw [if_neg (by simp [ha]), if_pos (by simp [ha])]
  by_cases h3 : 224 ≤ b0 ∧ b0 ≤ 239
  · have e : lead b0 = 3 := by unfold lead; rw [if_neg h1, if_neg h2, if_pos h3]
    rw [e, if_neg h1, if_neg h2, if_pos h3]
    by_cases hl : n < 3
    · rw [if_neg (by omega), if_pos (by omega)]
    rw [if_neg (show ¬ (3 = 0 ∨ n < 3) by omega)]
    by_cases ha : okc b1 ∧ okc b2
    · rw [if_neg (show ¬ ((1 < 3 ∧ ¬ okc b1) ∨ (2 < 3 ∧ ¬ okc b2) ∨ (3 < 3 ∧ ¬ okc b3)) by simp [ha])]
      by_cases hs : (b0 = 224 ∧ b1 < 160) ∨ (b0 = 237 ∧ 159 < b1) ∨ (b0 = 240 ∧ b1 < 144) ∨ (b0 = 244 ∧ 143 < b1)
      · rw [if_pos hs, if_neg (by omega)]
      · rw [if_neg hs, if_pos ⟨by omega, ha.1, ha.2, by omega, by omega⟩]
    · rw [if_neg (fun h => ha ⟨h.2.1, h.2.2.1⟩), if_pos (by by_cases h : okc b1 <;> simp_all)]
  by_cases h4 : 240 ≤ b0 ∧ b0 ≤ 244
  · have e : lead b0 = 4 := by unfold lead; rw [if_neg h1, if_neg h2, if_neg h3, if_pos h4]
    rw [e, if_neg h1, if_neg h2, if_neg h3, if_pos h4]
    by_cases hl : n < 4
    · rw [if_neg (by omega), if_pos (by omega)]
    rw [if_neg (show ¬ (4 = 0 ∨ n < 4) by omega)]
    by_cases ha : okc b1 ∧ okc b2 ∧ okc b3
    · rw [if_neg (show ¬ ((1 < 4 ∧ ¬ okc b1) ∨ (2 < 4 ∧ ¬ okc b2) ∨ (3 < 4 ∧ ¬ okc b3)) by simp [ha])]
      by_cases hs : (b0 = 224 ∧ b1 < 160) ∨ (b0 = 237 ∧ 159 < b1) ∨ (b0 = 240 ∧ b1 < 144) ∨ (b0 = 244 ∧ 143 < b1)
      · rw [if_pos hs, if_neg (by omega)]
      · rw [if_neg hs, if_pos ⟨by omega, ha.1, ha.2.1, ha.2.2, by omega, by omega⟩]
    · rw [if_neg (fun h => ha ⟨h.2.1, h.2.2.1, h.2.2.2.1⟩), if_pos (by by_cases h : okc b1 <;> by_cases k : okc b2 <;> simp_all)]
  have e : lead b0 = 0 := by unfold lead; rw [if_neg h1, if_neg h2, if_neg h3, if_neg h4]
  rw [e, if_neg h1, if_neg h2, if_neg h3, if_neg h4, if_pos (.inl rfl)]

theorem widN_le {n b0 b1 b2 b3 : Nat} (hn : 0 < n) : widN n b0 b1 b2 b3 ≤ n ∧ widN n b0 b1 b2 b3 ≤ 4 := by
  unfold widN
  repeat' split
  all_goals omega

def nth (l : List UInt8) (i : Nat) : Nat := (l.getD i 0).toNat
theorem nth_lt (l : List UInt8) (i : Nat) : nth l i < 256 := UInt8.toNat_lt _
def wid (l : List UInt8) : Nat := if l = [] then 0 else widN l.length (nth l 0) (nth l 1) (nth l 2) (nth l 3)
theorem wid_le (l : List UInt8) : wid l ≤ l.length := by
  unfold wid
  split
  · omega
  · rename_i h
    exact (widN_le (List.length_pos_iff.2 h)).1

/-- How many runes there are; none: they are not UTF-8, or one is less than low. -/
def cnt (low : Nat) (l : List UInt8) : Option Nat :=
  if l = [] then some 0
  else if wid l = 0 ∨ nth l 0 < low then none
  else (cnt low (l.drop (wid l))).map (· + 1)
termination_by l.length
decreasing_by
  rename_i h h2
  have : 0 < l.length := List.length_pos_iff.2 h
  simp
  omega

theorem cnt_nil (low : Nat) : cnt low [] = some 0 := by rw [cnt]; simp
theorem cnt_bad {low : Nat} {l : List UInt8} (h : l ≠ []) (hw : wid l = 0 ∨ nth l 0 < low) : cnt low l = none := by rw [cnt, if_neg h, if_pos hw]
theorem cnt_go {low : Nat} {l : List UInt8} (h : l ≠ []) (hw : 0 < wid l) (hl : low ≤ nth l 0) : cnt low l = (cnt low (l.drop (wid l))).map (· + 1) := by
  rw [cnt, if_neg h, if_neg (by omega)]

theorem cnt_le (low : Nat) (l : List UInt8) (n : Nat) (h : cnt low l = some n) : n ≤ l.length := by
  induction hk : l.length using Nat.strongRecOn generalizing l n with
  | ind k ih =>
    by_cases h0 : l = []
    · subst h0
      rw [cnt_nil] at h
      cases h
      omega
    · by_cases hb : wid l = 0 ∨ nth l 0 < low
      · rw [cnt_bad h0 hb] at h
        cases h
      · rw [cnt_go h0 (by omega) (by omega)] at h
        have hp := List.length_pos_iff.2 h0
        cases hc : cnt low (l.drop (wid l)) with
        | none => rw [hc] at h; cases h
        | some m =>
          rw [hc] at h
          simp only [Option.map_some, Option.some.injEq] at h
          have := ih (l.drop (wid l)).length (by simp; omega) (l.drop (wid l)) m hc rfl
          simp at this
          omega

theorem nth_drop (l : List UInt8) (a i : Nat) : nth (l.drop a) i = nth l (a + i) := by
  simp [nth]

theorem get_nth (s : ByteArray) (i : Nat) : (s.get! i).toNat = nth s.data.toList i := by
  unfold nth
  rw [show s.get! i = s.data[i]! from rfl, List.getD_eq_getElem?_getD, Array.getElem?_toList, getElem!_def]
  cases s.data[i]? <;> rfl

theorem nth_get (s : ByteArray) (i : Nat) (h : i < s.size) : (s[i]'h).toNat = nth s.data.toList i := by
  unfold nth
  have h' : i < s.data.toList.length := by simpa using h
  rw [List.getD_eq_getElem?_getD, List.getElem?_eq_getElem h']
  rfl

theorem ifc {α : Type} {b c : Prop} [Decidable b] [Decidable c] {x y u v : α} (h : b ↔ c) (hx : x = u) (hy : y = v) : (if b then x else y) = if c then u else v := by
  by_cases k : c
  · rw [if_pos k, if_pos (h.2 k), hx]
  · rw [if_neg k, if_neg (fun e => k (h.1 e)), hy]

theorem decode_decN (s : ByteArray) (pos : Nat) : Utf8.decode s pos = decN (s.data.toList.drop pos).length (nth (s.data.toList.drop pos) 0) (nth (s.data.toList.drop pos) 1) (nth (s.data.toList.drop pos) 2) (nth (s.data.toList.drop pos) 3) := by
  have hl : ∀ k, decide (pos + k < s.size) = decide (k < (s.data.toList.drop pos).length) := by
    intro k
    congr 1
    simp
    have : s.data.size = s.size := rfl
    omega
  unfold Utf8.decode decN
  simp only [nth_drop, get_nth, hl, Utf8.runeError]
  generalize (s.data.toList.drop pos).length = n
  generalize nth s.data.toList (pos + 0) = b0
  generalize nth s.data.toList (pos + 1) = b1
  generalize nth s.data.toList (pos + 2) = b2
  generalize nth s.data.toList (pos + 3) = b3
  refine ifc Iff.rfl rfl (ifc ?_ rfl (ifc ?_ (ifc ?_ rfl rfl) (ifc ?_ (ifc ?_ rfl rfl) rfl)))
  · rw [Bool.and_eq_true, Bool.and_eq_true, beq_iff_eq, beq_iff_eq, decide_eq_true_iff]
  · rw [Bool.and_eq_true, Bool.and_eq_true, Bool.and_eq_true, Bool.and_eq_true, beq_iff_eq, beq_iff_eq, beq_iff_eq, decide_eq_true_iff, decide_eq_true_iff, and_assoc]
  · rw [Bool.and_eq_true, decide_eq_true_iff, valid_vld]
  · rw [Bool.and_eq_true, Bool.and_eq_true, Bool.and_eq_true, Bool.and_eq_true, Bool.and_eq_true, Bool.and_eq_true, beq_iff_eq, beq_iff_eq, beq_iff_eq, beq_iff_eq, decide_eq_true_iff, decide_eq_true_iff, decide_eq_true_iff, and_assoc, and_assoc]
  · rw [Bool.and_eq_true, decide_eq_true_iff, valid_vld]

theorem pre_iff (l : List UInt8) : Lib.hasPrefix l [239, 191, 189] = true ↔ (2 < l.length ∧ nth l 0 = 239 ∧ nth l 1 = 191 ∧ nth l 2 = 189) := by
  unfold Lib.hasPrefix nth
  match l with
  | [] => simp
  | [a] => simp
  | [a, b] => simp
  | a :: b :: c :: r =>
    simp [List.isPrefixOf]
    simp only [← UInt8.toNat_inj]
    constructor
    · rintro ⟨h1, h2, h3⟩
      exact ⟨h1.symm, h2.symm, h3.symm⟩
    · rintro ⟨h1, h2, h3⟩
      exact ⟨h1.symm, h2.symm, h3.symm⟩

theorem dec_bad (s : ByteArray) (pos : Nat) (h : pos < s.size) (hw : wid (s.data.toList.drop pos) = 0) :
    Utf8.decode s pos = (65533, 1) ∧ Lib.hasPrefix (s.data.toList.drop pos) [239, 191, 189] = false := by
  have hne : s.data.toList.drop pos ≠ [] := by
    intro e
    have e := congrArg List.length e
    simp at e
    have : s.data.size = s.size := rfl
    omega
  unfold wid at hw
  rw [if_neg hne] at hw
  have h1 := decN_0 (nth_lt _ _) (nth_lt _ _) (nth_lt _ _) (nth_lt _ _) hw
  refine ⟨by rw [decode_decN]; exact h1.1, ?_⟩
  rw [Bool.eq_false_iff]
  intro e
  exact h1.2 ((pre_iff _).1 e)

theorem dec_good (s : ByteArray) (pos : Nat) (h : pos < s.size) (hw : 0 < wid (s.data.toList.drop pos)) :
    (Utf8.decode s pos).2 = wid (s.data.toList.drop pos) ∧ ((Utf8.decode s pos).1 = 65533 → Lib.hasPrefix (s.data.toList.drop pos) [239, 191, 189] = true) ∧
      ((Utf8.decode s pos).1 < 128 → (Utf8.decode s pos).1 = nth (s.data.toList.drop pos) 0) ∧ (nth (s.data.toList.drop pos) 0 < 128 → (Utf8.decode s pos).1 = nth (s.data.toList.drop pos) 0) := by
  have hne : s.data.toList.drop pos ≠ [] := by
    intro e
    have e := congrArg List.length e
    simp at e
    have : s.data.size = s.size := rfl
    omega
  have hw' := hw
  unfold wid at hw' ⊢
  rw [if_neg hne] at hw' ⊢
  have h1 := decN_pos (nth_lt _ _) (nth_lt _ _) (nth_lt _ _) (nth_lt _ _) hw'
  rw [decode_decN]
  exact ⟨h1.1, fun e => (pre_iff _).2 (h1.2.1 e), h1.2.2.1, h1.2.2.2⟩

theorem lead_le (b : Nat) : lead b ≤ 4 := by
  unfold lead
  repeat' split
  all_goals omega
theorem lead_1 {b : Nat} (h : lead b = 1) : b < 128 := by
  unfold lead at h
  repeat' split at h
  all_goals omega
def spec (b0 b1 : Nat) : Prop := (b0 = 224 ∧ b1 < 160) ∨ (b0 = 237 ∧ 159 < b1) ∨ (b0 = 240 ∧ b1 < 144) ∨ (b0 = 244 ∧ 143 < b1)
theorem wid_eq {d : List UInt8} (h : d ≠ []) : wid d = widN d.length (nth d 0) (nth d 1) (nth d 2) (nth d 3) := by unfold wid; rw [if_neg h]
theorem wid_bad_lead {d : List UInt8} (h : d ≠ []) (hb : lead (nth d 0) = 0 ∨ d.length < lead (nth d 0)) : wid d = 0 := by
  rw [wid_eq h, widN_lead (List.length_pos_iff.2 h), if_pos hb]
theorem wid_bad_cont {d : List UInt8} {i : Nat} (h : d ≠ []) (h1 : 1 ≤ i) (h2 : i < lead (nth d 0)) (hb : ¬ okc (nth d i)) : wid d = 0 := by
  have h4 := lead_le (nth d 0)
  rw [wid_eq h, widN_lead (List.length_pos_iff.2 h)]
  split
  · rfl
  · rw [if_pos]
    rcases (show i = 1 ∨ i = 2 ∨ i = 3 by omega) with rfl | rfl | rfl
    · exact .inl ⟨by omega, hb⟩
    · exact .inr (.inl ⟨by omega, hb⟩)
    · exact .inr (.inr ⟨by omega, hb⟩)
theorem wid_bad_spec {d : List UInt8} (h : d ≠ []) (hb : spec (nth d 0) (nth d 1)) : wid d = 0 := by
  rw [wid_eq h, widN_lead (List.length_pos_iff.2 h)]
  split
  · rfl
  · split
    · rfl
    · rw [if_pos (by unfold spec at hb; exact hb)]
theorem wid_ok {d : List UInt8} (h : d ≠ []) (h1 : ¬ (lead (nth d 0) = 0 ∨ d.length < lead (nth d 0))) (h2 : ∀ i, 1 ≤ i → i < lead (nth d 0) → okc (nth d i)) (h3 : ¬ spec (nth d 0) (nth d 1)) : wid d = lead (nth d 0) := by
  rw [wid_eq h, widN_lead (List.length_pos_iff.2 h), if_neg h1, if_neg, if_neg]
  · exact h3
  · rintro (⟨a, b⟩ | ⟨a, b⟩ | ⟨a, b⟩)
    · exact b (h2 1 (by omega) a)
    · exact b (h2 2 (by omega) a)
    · exact b (h2 3 (by omega) a)

/-- The answer of a count that stops above 'most'. -/
def capV (most : Nat) (o : Option Nat) : Int := match o with | none => -1 | some n => if n ≤ most then n else -1
def runesV (l : List UInt8) : Int := capV l.length (cnt 0 l)
def chk (l : List UInt8) : Bool := decide (0 < capV 8 (cnt 33 l))

end Go.Proofs.YtjfmgplhcinkfaaGreat.Km
/- What keys.count and keys.Check answer. -/
namespace Go.Proofs.YtjfmgplhcinkfaaGreat
open Go.RowKit
set_option linter.unusedVariables false

/-- A text that is cut to another one's length is that one just if it begins with it. -/
theorem cut_is (s p : ByteArray) (h : p.size ≤ s.size) : ((s.extract 0 p.size).toList == p.toList) = Lib.hasPrefix s.data.toList p.data.toList := by
  unfold Lib.hasPrefix
  rw [Bool.eq_iff_iff, beq_iff_eq, List.isPrefixOf_iff_prefix, ByteArray.toList_eq, ByteArray.toList_eq, Lib.extract_data, List.drop_zero, Nat.sub_zero, List.prefix_iff_eq_take]
  constructor
  · intro e
    rw [← e]
    simp
  · intro e
    rw [e]
    simp
theorem long_none (s p : ByteArray) (h : s.size < p.size) : Lib.hasPrefix s.data.toList p.data.toList = false := by
  rw [Bool.eq_false_iff]
  intro e
  unfold Lib.hasPrefix at e
  have := (List.isPrefixOf_iff_prefix.1 e).length_le
  simp at this
  have h1 : s.data.size = s.size := rfl
  have h2 : p.data.size = p.size := rfl
  omega

set_option maxRecDepth 100000 in
theorem stringslite_HasPrefix_any (s p : ByteArray) (w : World) :
    Calls Tryz.prog 113 #[.string s, .string p] w fun e w' => e = .returned (.bool (Lib.hasPrefix s.data.toList p.data.toList)) ∧ w = w' := by
  by_cases h : p.size ≤ s.size
  · have HC := Lib.hid (cut_is s p h)
    have hd : decide (p.size ≤ s.size) = true := decide_eq_true h
    go_enter Tryz.func113, Tryz.ntmps113
    go_wp2
    go_ret
    exact ⟨ret_bool HC.out, rfl⟩
  · have HC := Lib.hid (long_none s p (by omega))
    have hd : decide (p.size ≤ s.size) = false := decide_eq_false h
    go_enter Tryz.func113, Tryz.ntmps113
    go_wp2
    go_ret
    exact ⟨ret_bool HC.out.symm, rfl⟩

set_option maxRecDepth 100000 in
theorem hasPrefix_any (s p : ByteArray) (w : World) :
    Calls Tryz.prog 104 #[.string s, .string p] w fun e w' => e = .returned (.bool (Lib.hasPrefix s.data.toList p.data.toList)) ∧ w = w' := by
  go_enter Tryz.func104, Tryz.ntmps104
  go_wp2_with (go_at_call 113; refine (stringslite_HasPrefix_any _ _ _).mono ?_; rintro e w' ⟨rfl, rfl⟩)
  go_ret
  exact ⟨rfl, rfl⟩

theorem cnt_full {low most acc : Nat} {l d : List UInt8} (he : Km.cnt low l = (Km.cnt low d).map (· + acc)) (hd : d ≠ []) (hm : acc = most) : Km.capV most (Km.cnt low l) = -1 := by
  rw [he]
  by_cases hb : Km.wid d = 0 ∨ Km.nth d 0 < low
  · rw [Km.cnt_bad hd hb]; rfl
  · rw [Km.cnt_go hd (by omega) (by omega)]
    cases Km.cnt low (d.drop (Km.wid d)) with
    | none => rfl
    | some m =>
      simp only [Option.map_some, Km.capV]
      rw [if_neg (by omega)]
theorem cnt_none {low most acc : Nat} {l d : List UInt8} (he : Km.cnt low l = (Km.cnt low d).map (· + acc)) (hd : d ≠ []) (hb : Km.wid d = 0 ∨ Km.nth d 0 < low) : Km.capV most (Km.cnt low l) = -1 := by
  rw [he, Km.cnt_bad hd hb]; rfl
theorem cnt_done {low most acc : Nat} {l d : List UInt8} (he : Km.cnt low l = (Km.cnt low d).map (· + acc)) (hd : d = []) (hm : acc ≤ most) : Km.capV most (Km.cnt low l) = acc := by
  rw [he, hd, Km.cnt_nil]
  simp only [Option.map_some, Km.capV]
  rw [if_pos (by omega)]
  omega
theorem cnt_next {low acc pos wd : Nat} {l : List UInt8} (he : Km.cnt low l = (Km.cnt low (l.drop pos)).map (· + acc)) (hd : l.drop pos ≠ []) (hw : 0 < Km.wid (l.drop pos)) (hl : low ≤ Km.nth (l.drop pos) 0) (hwd : wd = Km.wid (l.drop pos)) :
    Km.cnt low l = (Km.cnt low (l.drop (pos + wd))).map (· + (acc + 1)) := by
  subst hwd
  rw [he, Km.cnt_go hd hw hl, List.drop_drop]
  cases Km.cnt low (l.drop (pos + Km.wid (l.drop pos))) with
  | none => rfl
  | some m =>
    simp only [Option.map_some, Option.some.injEq]
    omega
theorem drop_ne (s : ByteArray) (pos : Nat) (h : pos < s.size) : s.data.toList.drop pos ≠ [] := by
  intro e
  have e := congrArg List.length e
  simp at e
  have : s.data.size = s.size := rfl
  omega
theorem drop_len (s : ByteArray) (pos : Nat) (h : pos ≤ s.size) : (s.data.toList.drop pos).length = s.size - pos := by
  simp
theorem drop_none (s : ByteArray) (pos : Nat) (h : ¬ pos < s.size) : s.data.toList.drop pos = [] := by
  apply List.drop_eq_nil_of_le
  simp
  have : s.data.size = s.size := rfl
  omega
theorem take_all (s : ByteArray) (pos : Nat) : List.take (s.size - pos) (List.drop pos s.data.toList) = List.drop pos s.data.toList := by
  apply List.take_of_length_le
  simp
theorem ext_list (s : ByteArray) (pos : Nat) : (s.extract pos s.size).data.toList = s.data.toList.drop pos := by
  rw [Lib.extract_data, List.take_of_length_le (by simp)]
theorem below_iter (w : World) (s : ByteArray) (pos : Nat) : Below w.heap.size w (w.iter s pos) := (Below.refl _ _).alloc (Nat.le_refl _) _

set_option maxRecDepth 100000 in
set_option maxHeartbeats 1600000 in
theorem count_any (s : ByteArray) (most low : Nat) (w : World) (hs : s.size ≤ 9223372036854775807) (hm : most ≤ 140737488355328) (hlow : low ≤ 100) :
    Calls Tryz.prog 88 #[.string s, .int .i64 most, .int .i32 low] w fun e w' => e = .returned (.int .i64 (Km.capV most (Km.cnt low s.data.toList))) ∧ Below w.heap.size w w' := by
  go_enter Tryz.func88, Tryz.ntmps88
  go_wp2
  go_step3
  go_wp2
  go_step3
  go_wp2
  go_loopw [7] (fun n wr => ∃ pos acc : Nat, wr = w.iter s pos ∧ pos ≤ s.size ∧ n = .int .i64 acc ∧ acc ≤ most ∧ acc ≤ pos ∧ Km.cnt low s.data.toList = (Km.cnt low (s.data.toList.drop pos)).map (· + acc)) (fun _ wr => s.size - wr.iterPos w.heap.size)
  case atStart => exact ⟨0, 0, rfl, by omega, rfl, by omega, by omega, by simp⟩
  case round =>
    obtain ⟨pos, acc, rfl, hp, rfl, ham, hap, he⟩ := hrel
    have He := Lib.hid he
    clear he
    by_cases hlt : pos < s.size
    · have hne := drop_ne s pos hlt
      have hnx : ∀ ty, (Instr.next (.pointer (some ⟨w.heap.size, 0, none⟩)) true ty).run Tryz.prog (w.iter s pos) = _ := fun ty => run_next_any w s pos ty hlt
      have hrle := decode_le s pos
      have Hne := Lib.hid hne
      clear hne
      by_cases hmost : acc = most
      · have HM := Lib.hid hmost
        have hb1 : (acc == most) = true := by simpa using hmost
        have hb2 : ((acc : Int) == (most : Int)) = true := by simp [hmost]
        clear hmost
        generalize (Utf8.decode s pos).1 = r at hnx hrle
        generalize (Utf8.decode s pos).2 = wd at hnx
        go_wp2
        rw [Exit.noGoto_ret]
        go_ret
        exact ⟨ret_int (cnt_full He.out Hne.out HM.out).symm, below_iter _ _ _⟩
      · have hb1 : (acc == most) = false := by simpa using hmost
        have hb2 : ((acc : Int) == (most : Int)) = false := by simpa using (show ¬ (acc : Int) = most by omega)
        have hlt2 : acc < most := by omega
        clear hmost
        by_cases hw : Km.wid (s.data.toList.drop pos) = 0
        · obtain ⟨hd, hpre⟩ := Km.dec_bad s pos hlt hw
          rw [hd] at hnx
          rw [← take_all s pos] at hpre
          have Hw := Lib.hid hw
          clear hw hd hrle
          have hl : decide ((65533 : Int) < (low : Int)) = false := by simp; omega
          go_wp2_with (go_at_call 104; refine (hasPrefix_any _ _ _).mono ?_; rintro e w' ⟨rfl, rfl⟩)
          rw [Exit.noGoto_ret]
          go_ret
          exact ⟨ret_int (cnt_none He.out Hne.out (.inl Hw.out)).symm, below_iter _ _ _⟩
        · obtain ⟨hd2, hpre, hr1, hr2⟩ := Km.dec_good s pos hlt (by omega)
          have hwl := Km.wid_le (s.data.toList.drop pos)
          rw [drop_len s pos hp] at hwl
          rw [← take_all s pos] at hpre
          generalize (Utf8.decode s pos).1 = r at *
          generalize (Utf8.decode s pos).2 = wd at *
          have hwp : 0 < wd := by omega
          have hwe : pos + wd ≤ s.size := by omega
          have Hd := Lib.hid hd2
          have Hw := Lib.hid hw
          clear hd2 hw hwl
          by_cases hrl : r < low
          · have hn0 : Km.nth (s.data.toList.drop pos) 0 < low := by rw [← hr1 (by omega)]; exact hrl
            have Hn := Lib.hid hn0
            have hl : decide ((r : Int) < (low : Int)) = true := by simpa using hrl
            have hl2 : decide (r < low) = true := by simpa using hrl
            clear hr1 hr2 hpre hn0 hrl
            go_wp2
            rw [Exit.noGoto_ret]
            go_ret
            exact ⟨ret_int (cnt_none He.out Hne.out (.inr Hn.out)).symm, below_iter _ _ _⟩
          · have hn0 : low ≤ Km.nth (s.data.toList.drop pos) 0 := by
              by_cases h128 : Km.nth (s.data.toList.drop pos) 0 < 128
              · rw [← hr2 h128]; omega
              · omega
            have HN := Lib.hid (cnt_next (wd := wd) He.out Hne.out (by have := Hw.out; omega) hn0 Hd.out)
            have hl : decide ((r : Int) < (low : Int)) = false := by simpa using hrl
            have hl2 : decide (r < low) = false := by simpa using hrl
            clear hr1 hr2 hn0 hrl
            by_cases hr : r = 65533
            · have hpre := hpre hr
              subst hr
              clear hrle
              have h65 : (((65533 : Nat) : Int) == 65533) = true := by decide
              have h66 : ((65533 : Nat) == 65533) = true := by decide
              have hl3 : decide ((65533 : Int) < (low : Int)) = false := by simp; omega
              clear hl hl2
              go_wp2_with (go_at_call 104; refine (hasPrefix_any _ _ _).mono ?_; rintro e w' ⟨rfl, rfl⟩)
              go_roundw
              case rel => exact ⟨pos + wd, acc + 1, rfl, hwe, by go_num, by omega, by omega, HN.out⟩
              case measure => simp; omega
            · have hr1 : ((r : Int) == 65533) = false := by simpa using (show ¬ (r : Int) = 65533 by omega)
              have hr2 : (r == 65533) = false := by simpa using hr
              clear hpre hr
              go_wp2
              go_roundw
              case rel => exact ⟨pos + wd, acc + 1, rfl, hwe, by go_num, by omega, by omega, HN.out⟩
              case measure => simp; omega
    · have hnx : ∀ ty, (Instr.next (.pointer (some ⟨w.heap.size, 0, none⟩)) true ty).run Tryz.prog (w.iter s pos) = _ := fun ty => run_next_end w s pos ty hlt
      go_wp2
      rw [Exit.noGoto_ret]
      go_ret
      exact ⟨ret_int (cnt_done He.out (drop_none s pos hlt) ham).symm, below_iter _ _ _⟩

set_option maxRecDepth 100000 in
theorem check_any (s : ByteArray) (w : World) (hs : s.size ≤ 9223372036854775807) :
    Calls Tryz.prog 74 #[.string s] w fun e w' => e = .returned (.bool (Km.chk s.data.toList)) ∧ Below w.heap.size w w' := by
  go_enter Tryz.func74, Tryz.ntmps74
  go_wp2_with fail
  refine (count_any s 8 33 _ hs (by omega) (by omega)).mono ?_
  rintro e w1 ⟨rfl, hb⟩
  generalize hn : Km.capV 8 (Km.cnt 33 s.data.toList) = n
  have HN := Lib.hid hn
  clear hn
  go_wp2
  go_ret
  exact ⟨ret_bool (by rw [Km.chk, HN.out]), hb⟩

end Go.Proofs.YtjfmgplhcinkfaaGreat
/- The order of texts, byte by byte. Plain lemmas: they speak of no one program. -/
namespace Go.Proofs.YtjfmgplhcinkfaaGreat.Km

theorem bl_eq (x : List UInt8) : ∀ y, Op.bytesLess x y = decide (x < y) := by
  induction x with
  | nil => intro y; cases y <;> simp [Op.bytesLess]
  | cons a x ih =>
    intro y
    cases y with
    | nil => simp [Op.bytesLess]
    | cons b y =>
      simp only [Op.bytesLess, ih, List.cons_lt_cons_iff]
      rw [Bool.eq_iff_iff]
      simp
theorem bl_irrefl (a : List UInt8) : Op.bytesLess a a = false := by rw [bl_eq]; simp
theorem bl_trans {a b c : List UInt8} (h : Op.bytesLess a b = true) (k : Op.bytesLess b c = true) : Op.bytesLess a c = true := by
  rw [bl_eq, decide_eq_true_iff] at *
  exact List.lt_trans h k
theorem bl_asymm {a b : List UInt8} (h : Op.bytesLess a b = true) : Op.bytesLess b a = false := by
  cases hc : Op.bytesLess b a with
  | false => rfl
  | true =>
    have := bl_trans h hc
    rw [bl_irrefl] at this
    cases this
theorem bl_tri : ∀ {a b : List UInt8}, Op.bytesLess a b = false → Op.bytesLess b a = false → a = b
  | [], [], _, _ => rfl
  | _ :: _, [], _, k => by simp [Op.bytesLess] at k
  | [], _ :: _, h, _ => by simp [Op.bytesLess] at h
  | a :: x, b :: y, h, k => by
    simp [Op.bytesLess] at h k
    have e : a = b := by
      rw [← UInt8.toNat_inj]
      have h1 := h.1
      have k1 := k.1
      rw [UInt8.le_iff_toNat_le] at h1 k1
      omega
    subst e
    rw [bl_tri (h.2 rfl) (k.2 rfl)]
theorem bl_gtr (a b : List UInt8) : (!Op.bytesLess b a && !(b == a)) = Op.bytesLess a b := by
  cases h : Op.bytesLess b a with
  | true => simp [bl_asymm h]
  | false =>
    cases k : Op.bytesLess a b with
    | true =>
      have hne : b ≠ a := by
        rintro rfl
        rw [h] at k
        cases k
      simpa using hne
    | false => simp [bl_tri h k]
theorem bl_nil (a : List UInt8) : Op.bytesLess a [] = false := by cases a <;> simp [Op.bytesLess]
theorem bl_nil_left {a : List UInt8} (h : a ≠ []) : Op.bytesLess [] a = true := by cases a <;> simp_all [Op.bytesLess]
/-- a is not above b, b is not above c. -/
theorem bl_le_trans {a b c : List UInt8} (h : Op.bytesLess b a = false) (k : Op.bytesLess c b = false) : Op.bytesLess c a = false := by
  cases hc : Op.bytesLess c a with
  | false => rfl
  | true =>
    cases hb : Op.bytesLess a b with
    | true =>
      rw [bl_trans hc hb] at k
      cases k
    | false =>
      have e := bl_tri hb h
      subst e
      rw [hc] at k
      cases k
theorem bl_lt_le {a b c : List UInt8} (h : Op.bytesLess a b = true) (k : Op.bytesLess c b = false) : Op.bytesLess a c = true := by
  cases hc : Op.bytesLess a c with
  | true => rfl
  | false =>
    have := bl_le_trans k hc
    rw [h] at this
    cases this
theorem bl_le_lt {a b c : List UInt8} (h : Op.bytesLess b a = false) (k : Op.bytesLess b c = true) : Op.bytesLess a c = true := by
  cases hc : Op.bytesLess a c with
  | true => rfl
  | false =>
    have := bl_le_trans hc h
    rw [k] at this
    cases this
end Go.Proofs.YtjfmgplhcinkfaaGreat.Km
/- What keys.Has answers, and the document's Has. -/
namespace Go.Proofs.YtjfmgplhcinkfaaGreat
open Go.RowKit
set_option linter.unusedVariables false

namespace Km
/-- Is k in the range from f to t? -/
def has (f t k : List UInt8) : Bool := !Op.bytesLess k f && (t.isEmpty || Op.bytesLess k t)
def bound (l : List UInt8) : Bool := l.isEmpty || chk l
def good (f t : List UInt8) : Bool := bound f && bound t && (t.isEmpty || Op.bytesLess f t)
def meet (f t f2 t2 : List UInt8) : Bool := good f t && good f2 t2 && (has f t f2 || has f2 t2 f)
end Km

set_option maxRecDepth 100000 in
set_option maxHeartbeats 400000 in
theorem has_any (f t k : ByteArray) (w : World) :
    Calls Tryz.prog 72 #[.agg #[.string f, .string t], .string k] w fun e w' => e = .returned (.bool (Km.has f.data.toList t.data.toList k.data.toList)) ∧ Below w.heap.size w w' := by
  go_enter Tryz.func72, Tryz.ntmps72
  go_wp2
  all_goals
    go_ret
    refine ⟨ret_bool ?_, (Below.refl _ _).alloc (Nat.le_refl _) _⟩
    simp_all [Km.has, Lib.toList_data]

set_option maxRecDepth 100000 in
set_option maxHeartbeats 400000 in
theorem refHas_any (f t k : ByteArray) (w : World) :
    Calls Tryz.prog 53 #[.agg #[.string f, .string t], .string k] w fun e w' => e = .returned (.bool (Km.has f.data.toList t.data.toList k.data.toList)) ∧ Below w.heap.size w w' := by
  go_enter Tryz.func53, Tryz.ntmps53
  go_wp2
  all_goals
    go_ret
    refine ⟨ret_bool ?_, (Below.refl _ _).alloc (Nat.le_refl _) _⟩
    simp_all [Km.has, Lib.toList_data]

/-- A boxed pair behind a call that only makes memory. -/
theorem box2 {w w1 : World} {x y : Value} {T : TypeId} (hb : Below (w.alloc (.cells #[x, y] T)).heap.size (w.alloc (.cells #[x, y] T)) w1) :
    w1.cell? ⟨w.heap.size, 0, none⟩ = some x ∧ w1.cell? ⟨w.heap.size, 1, none⟩ = some y ∧ w.heap.size < w1.heap.size ∧ Below w.heap.size w w1 := by
  have hs := hb.size
  simp at hs
  refine ⟨?_, ?_, by omega, balloc (Below.refl _ _) _ |>.trans (hb.mono (by simp))⟩
  · rw [hb.cell (p := ⟨w.heap.size, 0, none⟩) (by simp)]; simp
  · rw [hb.cell (p := ⟨w.heap.size, 1, none⟩) (by simp)]; simp

theorem kcell {W w1 : World} {b o : Nat} {v : Value} (hb : Below W.heap.size W w1) (hlt : b < W.heap.size) (h : W.cell? ⟨b, o, none⟩ = some v) : w1.cell? ⟨b, o, none⟩ = some v := (hb.cell (p := ⟨b, o, none⟩) hlt).trans h

/-- Two boxed pairs behind a call that only makes memory. -/
theorem box22 {w w1 : World} {x y x2 y2 : Value} {T : TypeId} (hb : Below ((w.alloc (.cells #[x, y] T)).alloc (.cells #[x2, y2] T)).heap.size ((w.alloc (.cells #[x, y] T)).alloc (.cells #[x2, y2] T)) w1) :
    (w1.cell? ⟨w.heap.size, 0, none⟩ = some x ∧ w1.cell? ⟨w.heap.size, 1, none⟩ = some y) ∧ (w1.cell? ⟨w.heap.size + 1, 0, none⟩ = some x2 ∧ w1.cell? ⟨w.heap.size + 1, 1, none⟩ = some y2) ∧ w.heap.size + 1 < w1.heap.size ∧ Below w.heap.size w w1 := by
  have hs := hb.size
  simp at hs
  refine ⟨⟨?_, ?_⟩, ⟨?_, ?_⟩, by omega, (balloc (balloc (Below.refl _ _) _) _).trans (hb.mono (by simp; omega))⟩
  · rw [hb.cell (p := ⟨w.heap.size, 0, none⟩) (by simp; omega)]; simp
  · rw [hb.cell (p := ⟨w.heap.size, 1, none⟩) (by simp; omega)]; simp
  · rw [hb.cell (p := ⟨w.heap.size + 1, 0, none⟩) (by simp)]; simp
  · rw [hb.cell (p := ⟨w.heap.size + 1, 1, none⟩) (by simp)]; simp

end Go.Proofs.YtjfmgplhcinkfaaGreat
