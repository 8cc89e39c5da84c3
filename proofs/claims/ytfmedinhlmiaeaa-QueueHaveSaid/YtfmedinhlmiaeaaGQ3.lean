/- Texts of this proof, one behind the other: KeysMath, KeysCount. -/
import Derived.Test.YtfmedinhlmiaeaaGQ2
import Derived.Laws.RangeAny
import Derived.Lib.Strings
import Derived.Test.YtfmedinhlmiaeaaProg
import Derived.WalkKit
import Derived.WalkLawsBesides
import Derived.Lib.Hide
import Derived.Laws.RangeString
import Derived.Below
/- Mathematics of keys: the runes of a row of bytes. Plain lemmas: they speak of no one program. -/
namespace Go.Proofs.Ytfmedinhlmiaeaa.Km

def okc (b : Nat) : Prop := 128 ≤ b ∧ b ≤ 191
instance (b : Nat) : Decidable (okc b) := by unfold okc; exact inferInstance

/-- How many bytes a rune's first byte tells of; 0: it begins none. -/
def lead (b : Nat) : Nat :=
  if b < 128 then 1 else if 194 ≤ b ∧ b ≤ 223 then 2 else if 224 ≤ b ∧ b ≤ 239 then 3 else if 240 ≤ b ∧ b ≤ 244 then 4 else 0

/-- How many bytes the rune has that n bytes b0, b1 .. begin with; 0: they begin with none. -/
def widN (n b0 b1 b2 b3 : Nat) : Nat :=
  if b0 < 128 then 1
  else if 194 ≤ b0 ∧ b0 ≤ 223 then (if 1 < n ∧ okc b1 then 2 else 0)
  else if 224 ≤ b0 ∧ b0 ≤ 239 then (if 2 < n ∧ okc b1 ∧ okc b2 ∧ ¬ (b0 = 224 ∧ b1 < 160) ∧ ¬ (b0 = 237 ∧ 159 < b1) then 3 else 0)
  else if 240 ≤ b0 ∧ b0 ≤ 244 then (if 3 < n ∧ okc b1 ∧ okc b2 ∧ okc b3 ∧ ¬ (b0 = 240 ∧ b1 < 144) ∧ ¬ (b0 = 244 ∧ 143 < b1) then 4 else 0)
  else 0

/-- The model's decoding, over numbers. -/
def vld (c : Nat) : Prop := c < 55296 ∨ (57344 ≤ c ∧ c ≤ 1114111)
instance (c : Nat) : Decidable (vld c) := by unfold vld; exact inferInstance
theorem valid_vld (c : Nat) : Utf8.valid (c : Int) = true ↔ vld c := by
  unfold Utf8.valid vld
  rw [Bool.or_eq_true, Bool.and_eq_true, Bool.and_eq_true, decide_eq_true_iff, decide_eq_true_iff, decide_eq_true_iff, decide_eq_true_iff]
  omega
def decN (n b0 b1 b2 b3 : Nat) : Nat × Nat :=
  if b0 < 128 then (b0, 1)
  else if b0 / 32 = 6 ∧ 1 < n ∧ b1 / 64 = 2 then
    if (b0 % 32) * 64 + b1 % 64 ≥ 128 then ((b0 % 32) * 64 + b1 % 64, 2) else (65533, 1)
  else if b0 / 16 = 14 ∧ (1 < n ∧ b1 / 64 = 2) ∧ 2 < n ∧ b2 / 64 = 2 then
    if (b0 % 16) * 4096 + (b1 % 64) * 64 + b2 % 64 ≥ 2048 ∧ vld ((b0 % 16) * 4096 + (b1 % 64) * 64 + b2 % 64) then ((b0 % 16) * 4096 + (b1 % 64) * 64 + b2 % 64, 3) else (65533, 1)
  else if b0 / 8 = 30 ∧ (1 < n ∧ b1 / 64 = 2) ∧ (2 < n ∧ b2 / 64 = 2) ∧ 3 < n ∧ b3 / 64 = 2 then
    if (b0 % 8) * 262144 + (b1 % 64) * 4096 + (b2 % 64) * 64 + b3 % 64 ≥ 65536 ∧ vld ((b0 % 8) * 262144 + (b1 % 64) * 4096 + (b2 % 64) * 64 + b3 % 64) then ((b0 % 8) * 262144 + (b1 % 64) * 4096 + (b2 % 64) * 64 + b3 % 64, 4) else (65533, 1)
  else (65533, 1)

theorem decN_0 {n b0 b1 b2 b3 : Nat} (h0 : b0 < 256) (h1 : b1 < 256) (h2 : b2 < 256) (h3 : b3 < 256) (hw : widN n b0 b1 b2 b3 = 0) :
    decN n b0 b1 b2 b3 = (65533, 1) ∧ ¬ (2 < n ∧ b0 = 239 ∧ b1 = 191 ∧ b2 = 189) := by
  unfold widN at hw
  unfold decN vld
  unfold okc at hw
  repeat' split at hw
  all_goals try (exact absurd hw (by omega))
  all_goals
    refine ⟨?_, by omega⟩
    repeat' split
    all_goals first | rfl | (exfalso; omega)

theorem decN_pos {n b0 b1 b2 b3 : Nat} (h0 : b0 < 256) (h1 : b1 < 256) (h2 : b2 < 256) (h3 : b3 < 256) (hw : 0 < widN n b0 b1 b2 b3) :
    (decN n b0 b1 b2 b3).2 = widN n b0 b1 b2 b3 ∧ ((decN n b0 b1 b2 b3).1 = 65533 → 2 < n ∧ b0 = 239 ∧ b1 = 191 ∧ b2 = 189) ∧ ((decN n b0 b1 b2 b3).1 < 128 → (decN n b0 b1 b2 b3).1 = b0) ∧ (b0 < 128 → (decN n b0 b1 b2 b3).1 = b0) := by
  revert hw
  unfold widN decN okc vld
  repeat' split
  all_goals intro hw
  all_goals first | (exfalso; omega) | (refine ⟨?_, fun h => ?_, fun h => ?_, fun h => ?_⟩ <;> first | rfl | omega | (simp only [] at h; omega))

theorem widN_lead {n b0 b1 b2 b3 : Nat} (hn : 0 < n) : widN n b0 b1 b2 b3 =
    if lead b0 = 0 ∨ n < lead b0 then 0
    else if (1 < lead b0 ∧ ¬ okc b1) ∨ (2 < lead b0 ∧ ¬ okc b2) ∨ (3 < lead b0 ∧ ¬ okc b3) then 0
    else if (b0 = 224 ∧ b1 < 160) ∨ (b0 = 237 ∧ 159 < b1) ∨ (b0 = 240 ∧ b1 < 144) ∨ (b0 = 244 ∧ 143 < b1) then 0
    else lead b0 := by
  unfold widN
  by_cases h1 : b0 < 128
  · have e : lead b0 = 1 := by unfold lead; rw [if_pos h1]
    rw [e, if_pos h1, if_neg (by omega), if_neg (by omega), if_neg (by omega)]
  by_cases h2 : 194 ≤ b0 ∧ b0 ≤ 223
  · have e : lead b0 = 2 := by unfold lead; rw [if_neg h1, if_pos h2]
    rw [e, if_neg h1, if_pos h2]
    by_cases hl : n < 2
    · rw [if_neg (by omega), if_pos (by omega)]
    rw [if_neg (show ¬ (2 = 0 ∨ n < 2) by omega)]
    by_cases ha : okc b1
    · rw [if_pos ⟨by omega, ha⟩, if_neg (by simp [ha]), if_neg (by omega)]
    · rw [if_neg (by simp [ha]), if_pos (by simp [ha])]
  by_cases h3 : 224 ≤ b0 ∧ b0 ≤ 239
  · have e : lead b0 = 3 := by unfold lead; rw [if_neg h1, if_neg h2, if_pos h3]
    rw [e, if_neg h1, if_neg h2, if_pos h3]
    by_cases hl : n < 3
    · rw [if_neg (by omega), if_pos (by omega)]
    rw [if_neg (show ¬ (3 = 0 ∨ n < 3) by omega)]
    by_cases ha : okc b1 ∧ okc b2
    · rw [if_neg (show ¬ ((1 < 3 ∧ ¬ okc b1) ∨ (2 < 3 ∧ ¬ okc b2) ∨ (3 < 3 ∧ ¬ okc b3)) by simp [ha])]
      by_cases hs : (b0 = 224 ∧ b1 < 160) ∨ (b0 = 237 ∧ 159 < b1) ∨ (b0 = 240 ∧ b1 < 144) ∨ (b0 = 244 ∧ 143 < b1)
      · rw [if_pos hs, if_neg (by omega)]
      · rw [if_neg hs, if_pos ⟨by omega, ha.1, ha.2, by omega, by omega⟩]
    · rw [if_neg (fun h => ha ⟨h.2.1, h.2.2.1⟩), if_pos (by by_cases h : okc b1 <;> simp_all)]
  by_cases h4 : 240 ≤ b0 ∧ b0 ≤ 244
  · have e : lead b0 = 4 := by unfold lead; rw [if_neg h1, if_neg h2, if_neg h3, if_pos h4]
    rw [e, if_neg h1, if_neg h2, if_neg h3, if_pos h4]
    by_cases hl : n < 4
    · rw [if_neg (by omega), if_pos (by omega)]
    rw [if_neg (show ¬ (4 = 0 ∨ n < 4) by omega)]
    by_cases ha : okc b1 ∧ okc b2 ∧ okc b3
    · rw [if_neg (show ¬ ((1 < 4 ∧ ¬ okc b1) ∨ (2 < 4 ∧ ¬ okc b2) ∨ (3 < 4 ∧ ¬ okc b3)) by simp [ha])]
      by_cases hs : (b0 = 224 ∧ b1 < 160) ∨ (b0 = 237 ∧ 159 < b1) ∨ (b0 = 240 ∧ b1 < 144) ∨ (b0 = 244 ∧ 143 < b1)
      · rw [if_pos hs, if_neg (by omega)]
      · rw [if_neg hs, if_pos ⟨by omega, ha.1, ha.2.1, ha.2.2, by omega, by omega⟩]
    · rw [if_neg (fun h => ha ⟨h.2.1, h.2.2.1, h.2.2.2.1⟩), if_pos (by by_cases h : okc b1 <;> by_cases k : okc b2 <;> simp_all)]
  have e : lead b0 = 0 := by unfold lead; rw [if_neg h1, if_neg h2, if_neg h3, if_neg h4]
  rw [e, if_neg h1, if_neg h2, if_neg h3, if_neg h4, if_pos (.inl rfl)]

theorem widN_le {n b0 b1 b2 b3 : Nat} (hn : 0 < n) : widN n b0 b1 b2 b3 ≤ n ∧ widN n b0 b1 b2 b3 ≤ 4 := by
  unfold widN
  repeat' split
  all_goals omega

def nth (l : List UInt8) (i : Nat) : Nat := (l.getD i 0).toNat
theorem nth_lt (l : List UInt8) (i : Nat) : nth l i < 256 := UInt8.toNat_lt _
def wid (l : List UInt8) : Nat := if l = [] then 0 else widN l.length (nth l 0) (nth l 1) (nth l 2) (nth l 3)
theorem wid_le (l : List UInt8) : wid l ≤ l.length := by
  unfold wid
  split
  · omega
  · rename_i h
    exact (widN_le (List.length_pos_iff.2 h)).1

/-- How many runes there are; none: they are not UTF-8, or one is less than low. -/
def cnt (low : Nat) (l : List UInt8) : Option Nat :=
  if l = [] then some 0
  else if wid l = 0 ∨ nth l 0 < low then none
  else (cnt low (l.drop (wid l))).map (· + 1)
termination_by l.length
decreasing_by
  rename_i h h2
  have : 0 < l.length := List.length_pos_iff.2 h
  simp
  omega

theorem cnt_nil (low : Nat) : cnt low [] = some 0 := by rw [cnt]; simp
theorem cnt_bad {low : Nat} {l : List UInt8} (h : l ≠ []) (hw : wid l = 0 ∨ nth l 0 < low) : cnt low l = none := by rw [cnt, if_neg h, if_pos hw]
theorem cnt_go {low : Nat} {l : List UInt8} (h : l ≠ []) (hw : 0 < wid l) (hl : low ≤ nth l 0) : cnt low l = (cnt low (l.drop (wid l))).map (· + 1) := by
  rw [cnt, if_neg h, if_neg (by omega)]

theorem cnt_le (low : Nat) (l : List UInt8) (n : Nat) (h : cnt low l = some n) : n ≤ l.length := by
  induction hk : l.length using Nat.strongRecOn generalizing l n with
  | ind k ih =>
    by_cases h0 : l = []
    · subst h0
      rw [cnt_nil] at h
      cases h
      omega
    · by_cases hb : wid l = 0 ∨ nth l 0 < low
      · rw [cnt_bad h0 hb] at h
        cases h
      · rw [cnt_go h0 (by omega) (by omega)] at h
        have hp := List.length_pos_iff.2 h0
        cases hc : cnt low (l.drop (wid l)) with
        | none => rw [hc] at h; cases h
        | some m =>
          rw [hc] at h
          simp only [Option.map_some, Option.some.injEq] at h
          have := ih (l.drop (wid l)).length (by simp; omega) (l.drop (wid l)) m hc rfl
          simp at this
          omega

theorem nth_drop (l : List UInt8) (a i : Nat) : nth (l.drop a) i = nth l (a + i) := by
  simp [nth]

theorem get_nth (s : ByteArray) (i : Nat) : (s.get! i).toNat = nth s.data.toList i := by
  unfold nth
  rw [show s.get! i = s.data[i]! from rfl, List.getD_eq_getElem?_getD, Array.getElem?_toList, getElem!_def]
  cases s.data[i]? <;> rfl

theorem nth_get (s : ByteArray) (i : Nat) (h : i < s.size) : (s[i]'h).toNat = nth s.data.toList i := by
  unfold nth
  have h' : i < s.data.toList.length := by simpa using h
  rw [List.getD_eq_getElem?_getD, List.getElem?_eq_getElem h']
  rfl

theorem ifc {α : Type} {b c : Prop} [Decidable b] [Decidable c] {x y u v : α} (h : b ↔ c) (hx : x = u) (hy : y = v) : (if b then x else y) = if c then u else v := by
  by_cases k : c
  · rw [if_pos k, if_pos (h.2 k), hx]
  · rw [if_neg k, if_neg (fun e => k (h.1 e)), hy]

theorem decode_decN (s : ByteArray) (pos : Nat) : Utf8.decode s pos = decN (s.data.toList.drop pos).length (nth (s.data.toList.drop pos) 0) (nth (s.data.toList.drop pos) 1) (nth (s.data.toList.drop pos) 2) (nth (s.data.toList.drop pos) 3) := by
  have hl : ∀ k, decide (pos + k < s.size) = decide (k < (s.data.toList.drop pos).length) := by
    intro k
    congr 1
    simp
    have : s.data.size = s.size := rfl
    omega
  unfold Utf8.decode decN
  simp only [nth_drop, get_nth, hl, Utf8.runeError]
  generalize (s.data.toList.drop pos).length = n
  generalize nth s.data.toList (pos + 0) = b0
  generalize nth s.data.toList (pos + 1) = b1
  generalize nth s.data.toList (pos + 2) = b2
  generalize nth s.data.toList (pos + 3) = b3
  refine ifc Iff.rfl rfl (ifc ?_ rfl (ifc ?_ (ifc ?_ rfl rfl) (ifc ?_ (ifc ?_ rfl rfl) rfl)))
  · rw [Bool.and_eq_true, Bool.and_eq_true, beq_iff_eq, beq_iff_eq, decide_eq_true_iff]
  · rw [Bool.and_eq_true, Bool.and_eq_true, Bool.and_eq_true, Bool.and_eq_true, beq_iff_eq, beq_iff_eq, beq_iff_eq, decide_eq_true_iff, decide_eq_true_iff, and_assoc]
  · rw [Bool.and_eq_true, decide_eq_true_iff, valid_vld]
  · rw [Bool.and_eq_true, Bool.and_eq_true, Bool.and_eq_true, Bool.and_eq_true, Bool.and_eq_true, Bool.and_eq_true, beq_iff_eq, beq_iff_eq, beq_iff_eq, beq_iff_eq, decide_eq_true_iff, decide_eq_true_iff, decide_eq_true_iff, and_assoc, and_assoc]
  · rw [Bool.and_eq_true, decide_eq_true_iff, valid_vld]

theorem pre_iff (l : List UInt8) : Lib.hasPrefix l [239, 191, 189] = true ↔ (2 < l.length ∧ nth l 0 = 239 ∧ nth l 1 = 191 ∧ nth l 2 = 189) := by
  unfold Lib.hasPrefix nth
  match l with
  | [] => simp
  | [a] => simp
  | [a, b] => simp
  | a :: b :: c :: r =>
    simp [List.isPrefixOf]
    simp only [← UInt8.toNat_inj]
    constructor
    · rintro ⟨h1, h2, h3⟩
      exact ⟨h1.symm, h2.symm, h3.symm⟩
    · rintro ⟨h1, h2, h3⟩
      exact ⟨h1.symm, h2.symm, h3.symm⟩

theorem dec_bad (s : ByteArray) (pos : Nat) (h : pos < s.size) (hw : wid (s.data.toList.drop pos) = 0) :
    Utf8.decode s pos = (65533, 1) ∧ Lib.hasPrefix (s.data.toList.drop pos) [239, 191, 189] = false := by
  have hne : s.data.toList.drop pos ≠ [] := by
    intro e
    have e := congrArg List.length e
    simp at e
    have : s.data.size = s.size := rfl
    omega
  unfold wid at hw
  rw [if_neg hne] at hw
  have h1 := decN_0 (nth_lt _ _) (nth_lt _ _) (nth_lt _ _) (nth_lt _ _) hw
  refine ⟨by rw [decode_decN]; exact h1.1, ?_⟩
  rw [Bool.eq_false_iff]
  intro e
  exact h1.2 ((pre_iff _).1 e)

theorem dec_good (s : ByteArray) (pos : Nat) (h : pos < s.size) (hw : 0 < wid (s.data.toList.drop pos)) :
    (Utf8.decode s pos).2 = wid (s.data.toList.drop pos) ∧ ((Utf8.decode s pos).1 = 65533 → Lib.hasPrefix (s.data.toList.drop pos) [239, 191, 189] = true) ∧
      ((Utf8.decode s pos).1 < 128 → (Utf8.decode s pos).1 = nth (s.data.toList.drop pos) 0) ∧ (nth (s.data.toList.drop pos) 0 < 128 → (Utf8.decode s pos).1 = nth (s.data.toList.drop pos) 0) := by
  have hne : s.data.toList.drop pos ≠ [] := by
    intro e
    have e := congrArg List.length e
    simp at e
    have : s.data.size = s.size := rfl
    omega
  have hw' := hw
  unfold wid at hw' ⊢
  rw [if_neg hne] at hw' ⊢
  have h1 := decN_pos (nth_lt _ _) (nth_lt _ _) (nth_lt _ _) (nth_lt _ _) hw'
  rw [decode_decN]
  exact ⟨h1.1, fun e => (pre_iff _).2 (h1.2.1 e), h1.2.2.1, h1.2.2.2⟩

theorem lead_le (b : Nat) : lead b ≤ 4 := by
  unfold lead
  repeat' split
  all_goals omega
theorem lead_1 {b : Nat} (h : lead b = 1) : b < 128 := by
  unfold lead at h
  repeat' split at h
  all_goals omega
def spec (b0 b1 : Nat) : Prop := (b0 = 224 ∧ b1 < 160) ∨ (b0 = 237 ∧ 159 < b1) ∨ (b0 = 240 ∧ b1 < 144) ∨ (b0 = 244 ∧ 143 < b1)
theorem wid_eq {d : List UInt8} (h : d ≠ []) : wid d = widN d.length (nth d 0) (nth d 1) (nth d 2) (nth d 3) := by unfold wid; rw [if_neg h]
theorem wid_bad_lead {d : List UInt8} (h : d ≠ []) (hb : lead (nth d 0) = 0 ∨ d.length < lead (nth d 0)) : wid d = 0 := by
  rw [wid_eq h, widN_lead (List.length_pos_iff.2 h), if_pos hb]
theorem wid_bad_cont {d : List UInt8} {i : Nat} (h : d ≠ []) (h1 : 1 ≤ i) (h2 : i < lead (nth d 0)) (hb : ¬ okc (nth d i)) : wid d = 0 := by
  have h4 := lead_le (nth d 0)
  rw [wid_eq h, widN_lead (List.length_pos_iff.2 h)]
  split
  · rfl
  · rw [if_pos]
    rcases (show i = 1 ∨ i = 2 ∨ i = 3 by omega) with rfl | rfl | rfl
    · exact .inl ⟨by omega, hb⟩
    · exact .inr (.inl ⟨by omega, hb⟩)
    · exact .inr (.inr ⟨by omega, hb⟩)
theorem wid_bad_spec {d : List UInt8} (h : d ≠ []) (hb : spec (nth d 0) (nth d 1)) : wid d = 0 := by
  rw [wid_eq h, widN_lead (List.length_pos_iff.2 h)]
  split
  · rfl
  · split
    · rfl
    · rw [if_pos (by unfold spec at hb; exact hb)]
theorem wid_ok {d : List UInt8} (h : d ≠ []) (h1 : ¬ (lead (nth d 0) = 0 ∨ d.length < lead (nth d 0))) (h2 : ∀ i, 1 ≤ i → i < lead (nth d 0) → okc (nth d i)) (h3 : ¬ spec (nth d 0) (nth d 1)) : wid d = lead (nth d 0) := by
  rw [wid_eq h, widN_lead (List.length_pos_iff.2 h), if_neg h1, if_neg, if_neg]
  · exact h3
  · rintro (⟨a, b⟩ | ⟨a, b⟩ | ⟨a, b⟩)
    · exact b (h2 1 (by omega) a)
    · exact b (h2 2 (by omega) a)
    · exact b (h2 3 (by omega) a)

/-- The answer of a count that stops above 'most'. -/
def capV (most : Nat) (o : Option Nat) : Int := match o with | none => -1 | some n => if n ≤ most then n else -1
def runesV (l : List UInt8) : Int := capV l.length (cnt 0 l)
def chk (l : List UInt8) : Bool := decide (0 < capV 8 (cnt 33 l))

end Go.Proofs.Ytfmedinhlmiaeaa.Km
/- What keys.count and keys.Check answer. -/
namespace Go.Proofs.Ytfmedinhlmiaeaa
open Go.RowKit
set_option linter.unusedVariables false

/-- A text that is cut to another one's length is that one just if it begins with it. -/
theorem cut_is (s p : ByteArray) (h : p.size ≤ s.size) : ((s.extract 0 p.size).toList == p.toList) = Lib.hasPrefix s.data.toList p.data.toList := by
  unfold Lib.hasPrefix
  rw [Bool.eq_iff_iff, beq_iff_eq, List.isPrefixOf_iff_prefix, ByteArray.toList_eq, ByteArray.toList_eq, Lib.extract_data, List.drop_zero, Nat.sub_zero, List.prefix_iff_eq_take]
  constructor
  · intro e
    rw [← e]
    simp
  · intro e
    rw [e]
    simp
theorem long_none (s p : ByteArray) (h : s.size < p.size) : Lib.hasPrefix s.data.toList p.data.toList = false := by
  rw [Bool.eq_false_iff]
  intro e
  unfold Lib.hasPrefix at e
  have := (List.isPrefixOf_iff_prefix.1 e).length_le
  simp at this
  have h1 : s.data.size = s.size := rfl
  have h2 : p.data.size = p.size := rfl
  omega

set_option maxRecDepth 100000 in
theorem stringslite_HasPrefix_any (s p : ByteArray) (w : World) :
    Calls Try.prog 71 #[.string s, .string p] w fun e w' => e = .returned (.bool (Lib.hasPrefix s.data.toList p.data.toList)) ∧ w = w' := by
  by_cases h : p.size ≤ s.size
  · have HC := Lib.hid (cut_is s p h)
    have hd : decide (p.size ≤ s.size) = true := decide_eq_true h
    go_enter Try.func71, Try.ntmps71
    go_wp2
    go_ret
    exact ⟨ret_bool HC.out, rfl⟩
  · have HC := Lib.hid (long_none s p (by omega))
    have hd : decide (p.size ≤ s.size) = false := decide_eq_false h
    go_enter Try.func71, Try.ntmps71
    go_wp2
    go_ret
    exact ⟨ret_bool HC.out.symm, rfl⟩

set_option maxRecDepth 100000 in
theorem hasPrefix_any (s p : ByteArray) (w : World) :
    Calls Try.prog 69 #[.string s, .string p] w fun e w' => e = .returned (.bool (Lib.hasPrefix s.data.toList p.data.toList)) ∧ w = w' := by
  go_enter Try.func69, Try.ntmps69
  go_wp2_with (go_at_call 71; refine (stringslite_HasPrefix_any _ _ _).mono ?_; rintro e w' ⟨rfl, rfl⟩)
  go_ret
  exact ⟨rfl, rfl⟩

theorem cnt_full {low most acc : Nat} {l d : List UInt8} (he : Km.cnt low l = (Km.cnt low d).map (· + acc)) (hd : d ≠ []) (hm : acc = most) : Km.capV most (Km.cnt low l) = -1 := by
  rw [he]
  by_cases hb : Km.wid d = 0 ∨ Km.nth d 0 < low
  · rw [Km.cnt_bad hd hb]; rfl
  · rw [Km.cnt_go hd (by omega) (by omega)]
    cases Km.cnt low (d.drop (Km.wid d)) with
    | none => rfl
    | some m =>
      simp only [Option.map_some, Km.capV]
      rw [if_neg (by omega)]
theorem cnt_none {low most acc : Nat} {l d : List UInt8} (he : Km.cnt low l = (Km.cnt low d).map (· + acc)) (hd : d ≠ []) (hb : Km.wid d = 0 ∨ Km.nth d 0 < low) : Km.capV most (Km.cnt low l) = -1 := by
  rw [he, Km.cnt_bad hd hb]; rfl
theorem cnt_done {low most acc : Nat} {l d : List UInt8} (he : Km.cnt low l = (Km.cnt low d).map (· + acc)) (hd : d = []) (hm : acc ≤ most) : Km.capV most (Km.cnt low l) = acc := by
  rw [he, hd, Km.cnt_nil]
  simp only [Option.map_some, Km.capV]
  rw [if_pos (by omega)]
  omega
theorem cnt_next {low acc pos wd : Nat} {l : List UInt8} (he : Km.cnt low l = (Km.cnt low (l.drop pos)).map (· + acc)) (hd : l.drop pos ≠ []) (hw : 0 < Km.wid (l.drop pos)) (hl : low ≤ Km.nth (l.drop pos) 0) (hwd : wd = Km.wid (l.drop pos)) :
    Km.cnt low l = (Km.cnt low (l.drop (pos + wd))).map (· + (acc + 1)) := by
  subst hwd
  rw [he, Km.cnt_go hd hw hl, List.drop_drop]
  cases Km.cnt low (l.drop (pos + Km.wid (l.drop pos))) with
  | none => rfl
  | some m =>
    simp only [Option.map_some, Option.some.injEq]
    omega
theorem drop_ne (s : ByteArray) (pos : Nat) (h : pos < s.size) : s.data.toList.drop pos ≠ [] := by
  intro e
  have e := congrArg List.length e
  simp at e
  have : s.data.size = s.size := rfl
  omega
theorem drop_len (s : ByteArray) (pos : Nat) (h : pos ≤ s.size) : (s.data.toList.drop pos).length = s.size - pos := by
  simp
theorem drop_none (s : ByteArray) (pos : Nat) (h : ¬ pos < s.size) : s.data.toList.drop pos = [] := by
  apply List.drop_eq_nil_of_le
  simp
  have : s.data.size = s.size := rfl
  omega
theorem take_all (s : ByteArray) (pos : Nat) : List.take (s.size - pos) (List.drop pos s.data.toList) = List.drop pos s.data.toList := by
  apply List.take_of_length_le
  simp
theorem ext_list (s : ByteArray) (pos : Nat) : (s.extract pos s.size).data.toList = s.data.toList.drop pos := by
  rw [Lib.extract_data, List.take_of_length_le (by simp)]
theorem below_iter (w : World) (s : ByteArray) (pos : Nat) : Below w.heap.size w (w.iter s pos) := (Below.refl _ _).alloc (Nat.le_refl _) _

set_option maxRecDepth 100000 in
set_option maxHeartbeats 1600000 in
theorem count_any (s : ByteArray) (most low : Nat) (w : World) (hs : s.size ≤ 9223372036854775807) (hm : most ≤ 140737488355328) (hlow : low ≤ 100) :
    Calls Try.prog 66 #[.string s, .int .i64 most, .int .i32 low] w fun e w' => e = .returned (.int .i64 (Km.capV most (Km.cnt low s.data.toList))) ∧ Below w.heap.size w w' := by
  go_enter Try.func66, Try.ntmps66
  go_wp2
  go_step3
  go_wp2
  go_step3
  go_wp2
  go_loopw [7] (fun n wr => ∃ pos acc : Nat, wr = w.iter s pos ∧ pos ≤ s.size ∧ n = .int .i64 acc ∧ acc ≤ most ∧ acc ≤ pos ∧ Km.cnt low s.data.toList = (Km.cnt low (s.data.toList.drop pos)).map (· + acc)) (fun _ wr => s.size - wr.iterPos w.heap.size)
  case atStart => exact ⟨0, 0, rfl, by omega, rfl, by omega, by omega, by simp⟩
  case round =>
    obtain ⟨pos, acc, rfl, hp, rfl, ham, hap, he⟩ := hrel
    have He := Lib.hid he
    clear he
    by_cases hlt : pos < s.size
    · have hne := drop_ne s pos hlt
      have hnx : ∀ ty, (Instr.next (.pointer (some ⟨w.heap.size, 0, none⟩)) true ty).run Try.prog (w.iter s pos) = _ := fun ty => run_next_any w s pos ty hlt
      have hrle := decode_le s pos
      have Hne := Lib.hid hne
      clear hne
      by_cases hmost : acc = most
      · have HM := Lib.hid hmost
        have hb1 : (acc == most) = true := by simpa using hmost
        have hb2 : ((acc : Int) == (most : Int)) = true := by simp [hmost]
        clear hmost
        generalize (Utf8.decode s pos).1 = r at hnx hrle
        generalize (Utf8.decode s pos).2 = wd at hnx
        go_wp2
        rw [Exit.noGoto_ret]
        go_ret
        exact ⟨ret_int (cnt_full He.out Hne.out HM.out).symm, below_iter _ _ _⟩
      · have hb1 : (acc == most) = false := by simpa using hmost
        have hb2 : ((acc : Int) == (most : Int)) = false := by simpa using (show ¬ (acc : Int) = most by omega)
        have hlt2 : acc < most := by omega
        clear hmost
        by_cases hw : Km.wid (s.data.toList.drop pos) = 0
        · obtain ⟨hd, hpre⟩ := Km.dec_bad s pos hlt hw
          rw [hd] at hnx
          rw [← take_all s pos] at hpre
          have Hw := Lib.hid hw
          clear hw hd hrle
          have hl : decide ((65533 : Int) < (low : Int)) = false := by simp; omega
          go_wp2_with (go_at_call 69; refine (hasPrefix_any _ _ _).mono ?_; rintro e w' ⟨rfl, rfl⟩)
          rw [Exit.noGoto_ret]
          go_ret
          exact ⟨ret_int (cnt_none He.out Hne.out (.inl Hw.out)).symm, below_iter _ _ _⟩
        · obtain ⟨hd2, hpre, hr1, hr2⟩ := Km.dec_good s pos hlt (by omega)
          have hwl := Km.wid_le (s.data.toList.drop pos)
          rw [drop_len s pos hp] at hwl
          rw [← take_all s pos] at hpre
          generalize (Utf8.decode s pos).1 = r at *
          generalize (Utf8.decode s pos).2 = wd at *
          have hwp : 0 < wd := by omega
          have hwe : pos + wd ≤ s.size := by omega
          have Hd := Lib.hid hd2
          have Hw := Lib.hid hw
          clear hd2 hw hwl
          by_cases hrl : r < low
          · have hn0 : Km.nth (s.data.toList.drop pos) 0 < low := by rw [← hr1 (by omega)]; exact hrl
            have Hn := Lib.hid hn0
            have hl : decide ((r : Int) < (low : Int)) = true := by simpa using hrl
            have hl2 : decide (r < low) = true := by simpa using hrl
            clear hr1 hr2 hpre hn0 hrl
            go_wp2
            rw [Exit.noGoto_ret]
            go_ret
            exact ⟨ret_int (cnt_none He.out Hne.out (.inr Hn.out)).symm, below_iter _ _ _⟩
          · have hn0 : low ≤ Km.nth (s.data.toList.drop pos) 0 := by
              by_cases h128 : Km.nth (s.data.toList.drop pos) 0 < 128
              · rw [← hr2 h128]; omega
              · omega
            have HN := Lib.hid (cnt_next (wd := wd) He.out Hne.out (by have := Hw.out; omega) hn0 Hd.out)
            have hl : decide ((r : Int) < (low : Int)) = false := by simpa using hrl
            have hl2 : decide (r < low) = false := by simpa using hrl
            clear hr1 hr2 hn0 hrl
            by_cases hr : r = 65533
            · have hpre := hpre hr
              subst hr
              clear hrle
              have h65 : (((65533 : Nat) : Int) == 65533) = true := by decide
              have h66 : ((65533 : Nat) == 65533) = true := by decide
              have hl3 : decide ((65533 : Int) < (low : Int)) = false := by simp; omega
              clear hl hl2
              go_wp2_with (go_at_call 69; refine (hasPrefix_any _ _ _).mono ?_; rintro e w' ⟨rfl, rfl⟩)
              go_roundw
              case rel => exact ⟨pos + wd, acc + 1, rfl, hwe, by go_num, by omega, by omega, HN.out⟩
              case measure => simp; omega
            · have hr1 : ((r : Int) == 65533) = false := by simpa using (show ¬ (r : Int) = 65533 by omega)
              have hr2 : (r == 65533) = false := by simpa using hr
              clear hpre hr
              go_wp2
              go_roundw
              case rel => exact ⟨pos + wd, acc + 1, rfl, hwe, by go_num, by omega, by omega, HN.out⟩
              case measure => simp; omega
    · have hnx : ∀ ty, (Instr.next (.pointer (some ⟨w.heap.size, 0, none⟩)) true ty).run Try.prog (w.iter s pos) = _ := fun ty => run_next_end w s pos ty hlt
      go_wp2
      rw [Exit.noGoto_ret]
      go_ret
      exact ⟨ret_int (cnt_done He.out (drop_none s pos hlt) ham).symm, below_iter _ _ _⟩

set_option maxRecDepth 100000 in
theorem check_any (s : ByteArray) (w : World) (hs : s.size ≤ 9223372036854775807) :
    Calls Try.prog 54 #[.string s] w fun e w' => e = .returned (.bool (Km.chk s.data.toList)) ∧ Below w.heap.size w w' := by
  go_enter Try.func54, Try.ntmps54
  go_wp2_with fail
  refine (count_any s 8 33 _ hs (by omega) (by omega)).mono ?_
  rintro e w1 ⟨rfl, hb⟩
  generalize hn : Km.capV 8 (Km.cnt 33 s.data.toList) = n
  have HN := Lib.hid hn
  clear hn
  go_wp2
  go_ret
  exact ⟨ret_bool (by rw [Km.chk, HN.out]), hb⟩

end Go.Proofs.Ytfmedinhlmiaeaa
