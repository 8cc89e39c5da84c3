/- Mathematics of keys: the runes of a row of bytes. Plain lemmas: they speak of no one program. -/
import Derived.Laws.RangeAny
import Derived.Lib.Strings
namespace Go.Proofs.Ytgaghlofcokijaa.Km

def okc (b : Nat) : Prop := 128 ≤ b ∧ b ≤ 191
instance (b : Nat) : Decidable (okc b) := by unfold okc; exact inferInstance

/-- How many bytes a rune's first byte tells of; 0: it begins none. -/
def lead (b : Nat) : Nat :=
  if b < 128 then 1 else if 194 ≤ b ∧ b ≤ 223 then 2 else if 224 ≤ b ∧ b ≤ 239 then 3 else if 240 ≤ b ∧ b ≤ 244 then 4 else 0

/-- How many bytes the rune has that n bytes b0, b1 .. begin with; 0: they begin with none. -/
def widN (n b0 b1 b2 b3 : Nat) : Nat :=
  if b0 < 128 then 1
  else if 194 ≤ b0 ∧ b0 ≤ 223 then (if 1 < n ∧ okc b1 then 2 else 0)
  else if 224 ≤ b0 ∧ b0 ≤ 239 then (if 2 < n ∧ okc b1 ∧ okc b2 ∧ ¬ (b0 = 224 ∧ b1 < 160) ∧ ¬ (b0 = 237 ∧ 159 < b1) then 3 else 0)
  else if 240 ≤ b0 ∧ b0 ≤ 244 then (if 3 < n ∧ okc b1 ∧ okc b2 ∧ okc b3 ∧ ¬ (b0 = 240 ∧ b1 < 144) ∧ ¬ (b0 = 244 ∧ 143 < b1) then 4 else 0)
  else 0

/-- The model's decoding, over numbers. -/
def vld (c : Nat) : Prop := c < 55296 ∨ (57344 ≤ c ∧ c ≤ 1114111)
instance (c : Nat) : Decidable (vld c) := by unfold vld; exact inferInstance
theorem valid_vld (c : Nat) : Utf8.valid (c : Int) = true ↔ vld c := by
  unfold Utf8.valid vld
  rw [Bool.or_eq_true, Bool.and_eq_true, Bool.and_eq_true, decide_eq_true_iff, decide_eq_true_iff, decide_eq_true_iff, decide_eq_true_iff]
  omega
def decN (n b0 b1 b2 b3 : Nat) : Nat × Nat :=
  if b0 < 128 then (b0, 1)
  else if b0 / 32 = 6 ∧ 1 < n ∧ b1 / 64 = 2 then
    if (b0 % 32) * 64 + b1 % 64 ≥ 128 then ((b0 % 32) * 64 + b1 % 64, 2) else (65533, 1)
  else if b0 / 16 = 14 ∧ (1 < n ∧ b1 / 64 = 2) ∧ 2 < n ∧ b2 / 64 = 2 then
    if (b0 % 16) * 4096 + (b1 % 64) * 64 + b2 % 64 ≥ 2048 ∧ vld ((b0 % 16) * 4096 + (b1 % 64) * 64 + b2 % 64) then ((b0 % 16) * 4096 + (b1 % 64) * 64 + b2 % 64, 3) else (65533, 1)
  else if b0 / 8 = 30 ∧ (1 < n ∧ b1 / 64 = 2) ∧ (2 < n ∧ b2 / 64 = 2) ∧ 3 < n ∧ b3 / 64 = 2 then
    if (b0 % 8) * 262144 + (b1 % 64) * 4096 + (b2 % 64) * 64 + b3 % 64 ≥ 65536 ∧ vld ((b0 % 8) * 262144 + (b1 % 64) * 4096 + (b2 % 64) * 64 + b3 % 64) then ((b0 % 8) * 262144 + (b1 % 64) * 4096 + (b2 % 64) * 64 + b3 % 64, 4) else (65533, 1)
  else (65533, 1)

theorem decN_0 {n b0 b1 b2 b3 : Nat} (h0 : b0 < 256) (h1 : b1 < 256) (h2 : b2 < 256) (h3 : b3 < 256) (hw : widN n b0 b1 b2 b3 = 0) :
    decN n b0 b1 b2 b3 = (65533, 1) ∧ ¬ (2 < n ∧ b0 = 239 ∧ b1 = 191 ∧ b2 = 189) := by
  unfold widN at hw
  unfold decN vld
  unfold okc at hw
  repeat' split at hw
  all_goals try (exact absurd hw (by omega))
  all_goals
    refine ⟨?_, by omega⟩
    repeat' split
    all_goals first | rfl | (exfalso; omega)

theorem decN_pos {n b0 b1 b2 b3 : Nat} (h0 : b0 < 256) (h1 : b1 < 256) (h2 : b2 < 256) (h3 : b3 < 256) (hw : 0 < widN n b0 b1 b2 b3) :
    (decN n b0 b1 b2 b3).2 = widN n b0 b1 b2 b3 ∧ ((decN n b0 b1 b2 b3).1 = 65533 → 2 < n ∧ b0 = 239 ∧ b1 = 191 ∧ b2 = 189) ∧ ((decN n b0 b1 b2 b3).1 < 128 → (decN n b0 b1 b2 b3).1 = b0) ∧ (b0 < 128 → (decN n b0 b1 b2 b3).1 = b0) := by
  revert hw
  unfold widN decN okc vld
  repeat' split
  all_goals intro hw
  all_goals first | (exfalso; omega) | (refine ⟨?_, fun h => ?_, fun h => ?_, fun h => ?_⟩ <;> first | rfl | omega | (simp only [] at h; omega))

theorem widN_lead {n b0 b1 b2 b3 : Nat} (hn : 0 < n) : widN n b0 b1 b2 b3 =
    if lead b0 = 0 ∨ n < lead b0 then 0
    else if (1 < lead b0 ∧ ¬ okc b1) ∨ (2 < lead b0 ∧ ¬ okc b2) ∨ (3 < lead b0 ∧ ¬ okc b3) then 0
    else if (b0 = 224 ∧ b1 < 160) ∨ (b0 = 237 ∧ 159 < b1) ∨ (b0 = 240 ∧ b1 < 144) ∨ (b0 = 244 ∧ 143 < b1) then 0
    else lead b0 := by
  unfold widN
  by_cases h1 : b0 < 128
  · have e : lead b0 = 1 := by unfold lead; rw [if_pos h1]
    rw [e, if_pos h1, if_neg (by omega), if_neg (by omega), if_neg (by omega)]
  by_cases h2 : 194 ≤ b0 ∧ b0 ≤ 223
  · have e : lead b0 = 2 := by unfold lead; rw [if_neg h1, if_pos h2]
    rw [e, if_neg h1, if_pos h2]
    by_cases hl : n < 2
    · rw [if_neg (by omega), if_pos (by omega)]
    rw [if_neg (show ¬ (2 = 0 ∨ n < 2) by omega)]
    by_cases ha : okc b1
    · rw [if_pos ⟨by omega, ha⟩, if_neg (by simp [ha]), if_neg (by omega)]
    · rw [if_neg (by simp [ha]), if_pos (by simp [ha])]
  by_cases h3 : 224 ≤ b0 ∧ b0 ≤ 239
  · have e : lead b0 = 3 := by unfold lead; rw [if_neg h1, if_neg h2, if_pos h3]
    rw [e, if_neg h1, if_neg h2, if_pos h3]
    by_cases hl : n < 3
    · rw [if_neg (by omega), if_pos (by omega)]
    rw [if_neg (show ¬ (3 = 0 ∨ n < 3) by omega)]
    by_cases ha : okc b1 ∧ okc b2
    · rw [if_neg (show ¬ ((1 < 3 ∧ ¬ okc b1) ∨ (2 < 3 ∧ ¬ okc b2) ∨ (3 < 3 ∧ ¬ okc b3)) by simp [ha])]
      by_cases hs : (b0 = 224 ∧ b1 < 160) ∨ (b0 = 237 ∧ 159 < b1) ∨ (b0 = 240 ∧ b1 < 144) ∨ (b0 = 244 ∧ 143 < b1)
      · rw [if_pos hs, if_neg (by omega)]
      · rw [if_neg hs, if_pos ⟨by omega, ha.1, ha.2, by omega, by omega⟩]
    · rw [if_neg (fun h => ha ⟨h.2.1, h.2.2.1⟩), if_pos (by by_cases h : okc b1 <;> simp_all)]
  by_cases h4 : 240 ≤ b0 ∧ b0 ≤ 244
  · have e : lead b0 = 4 := by unfold lead; rw [if_neg h1, if_neg h2, if_neg h3, if_pos h4]
    rw [e, if_neg h1, if_neg h2, if_neg h3, if_pos h4]
    by_cases hl : n < 4
    · rw [if_neg (by omega), if_pos (by omega)]
    rw [if_neg (show ¬ (4 = 0 ∨ n < 4) by omega)]
    by_cases ha : okc b1 ∧ okc b2 ∧ okc b3
    · rw [if_neg (show ¬ ((1 < 4 ∧ ¬ okc b1) ∨ (2 < 4 ∧ ¬ okc b2) ∨ (3 < 4 ∧ ¬ okc b3)) by simp [ha])]
      by_cases hs : (b0 = 224 ∧ b1 < 160) ∨ (b0 = 237 ∧ 159 < b1) ∨ (b0 = 240 ∧ b1 < 144) ∨ (b0 = 244 ∧ 143 < b1)
      · rw [if_pos hs, if_neg (by omega)]
      · rw [if_neg hs, if_pos ⟨by omega, ha.1, ha.2.1, ha.2.2, by omega, by omega⟩]
    · rw [if_neg (fun h => ha ⟨h.2.1, h.2.2.1, h.2.2.2.1⟩), if_pos (by by_cases h : okc b1 <;> by_cases k : okc b2 <;> simp_all)]
  have e : lead b0 = 0 := by unfold lead; rw [if_neg h1, if_neg h2, if_neg h3, if_neg h4]
  rw [e, if_neg h1, if_neg h2, if_neg h3, if_neg h4, if_pos (.inl rfl)]

theorem widN_le {n b0 b1 b2 b3 : Nat} (hn : 0 < n) : widN n b0 b1 b2 b3 ≤ n ∧ widN n b0 b1 b2 b3 ≤ 4 := by
  unfold widN
  repeat' split
  all_goals omega

def nth (l : List UInt8) (i : Nat) : Nat := (l.getD i 0).toNat
theorem nth_lt (l : List UInt8) (i : Nat) : nth l i < 256 := UInt8.toNat_lt _
def wid (l : List UInt8) : Nat := if l = [] then 0 else widN l.length (nth l 0) (nth l 1) (nth l 2) (nth l 3)
theorem wid_le (l : List UInt8) : wid l ≤ l.length := by
  unfold wid
  split
  · omega
  · rename_i h
    exact (widN_le (List.length_pos_iff.2 h)).1

/-- How many runes there are; none: they are not UTF-8, or one is less than low. -/
def cnt (low : Nat) (l : List UInt8) : Option Nat :=
  if l = [] then some 0
  else if wid l = 0 ∨ nth l 0 < low then none
  else (cnt low (l.drop (wid l))).map (· + 1)
termination_by l.length
decreasing_by
  rename_i h h2
  have : 0 < l.length := List.length_pos_iff.2 h
  simp
  omega

theorem cnt_nil (low : Nat) : cnt low [] = some 0 := by rw [cnt]; simp
theorem cnt_bad {low : Nat} {l : List UInt8} (h : l ≠ []) (hw : wid l = 0 ∨ nth l 0 < low) : cnt low l = none := by rw [cnt, if_neg h, if_pos hw]
theorem cnt_go {low : Nat} {l : List UInt8} (h : l ≠ []) (hw : 0 < wid l) (hl : low ≤ nth l 0) : cnt low l = (cnt low (l.drop (wid l))).map (· + 1) := by
  rw [cnt, if_neg h, if_neg (by omega)]

theorem cnt_le (low : Nat) (l : List UInt8) (n : Nat) (h : cnt low l = some n) : n ≤ l.length := by
  induction hk : l.length using Nat.strongRecOn generalizing l n with
  | ind k ih =>
    by_cases h0 : l = []
    · subst h0
      rw [cnt_nil] at h
      cases h
      omega
    · by_cases hb : wid l = 0 ∨ nth l 0 < low
      · rw [cnt_bad h0 hb] at h
        cases h
      · rw [cnt_go h0 (by omega) (by omega)] at h
        have hp := List.length_pos_iff.2 h0
        cases hc : cnt low (l.drop (wid l)) with
        | none => rw [hc] at h; cases h
        | some m =>
          rw [hc] at h
          simp only [Option.map_some, Option.some.injEq] at h
          have := ih (l.drop (wid l)).length (by simp; omega) (l.drop (wid l)) m hc rfl
          simp at this
          omega

theorem nth_drop (l : List UInt8) (a i : Nat) : nth (l.drop a) i = nth l (a + i) := by
  simp [nth]

theorem get_nth (s : ByteArray) (i : Nat) : (s.get! i).toNat = nth s.data.toList i := by
  unfold nth
  rw [show s.get! i = s.data[i]! from rfl, List.getD_eq_getElem?_getD, Array.getElem?_toList, getElem!_def]
  cases s.data[i]? <;> rfl

theorem nth_get (s : ByteArray) (i : Nat) (h : i < s.size) : (s[i]'h).toNat = nth s.data.toList i := by
  unfold nth
  have h' : i < s.data.toList.length := by simpa using h
  rw [List.getD_eq_getElem?_getD, List.getElem?_eq_getElem h']
  rfl

theorem ifc {α : Type} {b c : Prop} [Decidable b] [Decidable c] {x y u v : α} (h : b ↔ c) (hx : x = u) (hy : y = v) : (if b then x else y) = if c then u else v := by
  by_cases k : c
  · rw [if_pos k, if_pos (h.2 k), hx]
  · rw [if_neg k, if_neg (fun e => k (h.1 e)), hy]

theorem decode_decN (s : ByteArray) (pos : Nat) : Utf8.decode s pos = decN (s.data.toList.drop pos).length (nth (s.data.toList.drop pos) 0) (nth (s.data.toList.drop pos) 1) (nth (s.data.toList.drop pos) 2) (nth (s.data.toList.drop pos) 3) := by
  have hl : ∀ k, decide (pos + k < s.size) = decide (k < (s.data.toList.drop pos).length) := by
    intro k
    congr 1
    simp
    have : s.data.size = s.size := rfl
    omega
  unfold Utf8.decode decN
  simp only [nth_drop, get_nth, hl, Utf8.runeError]
  generalize (s.data.toList.drop pos).length = n
  generalize nth s.data.toList (pos + 0) = b0
  generalize nth s.data.toList (pos + 1) = b1
  generalize nth s.data.toList (pos + 2) = b2
  generalize nth s.data.toList (pos + 3) = b3
  refine ifc Iff.rfl rfl (ifc ?_ rfl (ifc ?_ (ifc ?_ rfl rfl) (ifc ?_ (ifc ?_ rfl rfl) rfl)))
  · rw [Bool.and_eq_true, Bool.and_eq_true, beq_iff_eq, beq_iff_eq, decide_eq_true_iff]
  · rw [Bool.and_eq_true, Bool.and_eq_true, Bool.and_eq_true, Bool.and_eq_true, beq_iff_eq, beq_iff_eq, beq_iff_eq, decide_eq_true_iff, decide_eq_true_iff, and_assoc]
  · rw [Bool.and_eq_true, decide_eq_true_iff, valid_vld]
  · rw [Bool.and_eq_true, Bool.and_eq_true, Bool.and_eq_true, Bool.and_eq_true, Bool.and_eq_true, Bool.and_eq_true, beq_iff_eq, beq_iff_eq, beq_iff_eq, beq_iff_eq, decide_eq_true_iff, decide_eq_true_iff, decide_eq_true_iff, and_assoc, and_assoc]
  · rw [Bool.and_eq_true, decide_eq_true_iff, valid_vld]

theorem pre_iff (l : List UInt8) : Lib.hasPrefix l [239, 191, 189] = true ↔ (2 < l.length ∧ nth l 0 = 239 ∧ nth l 1 = 191 ∧ nth l 2 = 189) := by
  unfold Lib.hasPrefix nth
  match l with
  | [] => simp
  | [a] => simp
  | [a, b] => simp
  | a :: b :: c :: r =>
    simp [List.isPrefixOf]
    simp only [← UInt8.toNat_inj]
    constructor
    · rintro ⟨h1, h2, h3⟩
      exact ⟨h1.symm, h2.symm, h3.symm⟩
    · rintro ⟨h1, h2, h3⟩
      exact ⟨h1.symm, h2.symm, h3.symm⟩

theorem dec_bad (s : ByteArray) (pos : Nat) (h : pos < s.size) (hw : wid (s.data.toList.drop pos) = 0) :
    Utf8.decode s pos = (65533, 1) ∧ Lib.hasPrefix (s.data.toList.drop pos) [239, 191, 189] = false := by
  have hne : s.data.toList.drop pos ≠ [] := by
    intro e
    have e := congrArg List.length e
    simp at e
    have : s.data.size = s.size := rfl
    omega
  unfold wid at hw
  rw [if_neg hne] at hw
  have h1 := decN_0 (nth_lt _ _) (nth_lt _ _) (nth_lt _ _) (nth_lt _ _) hw
  refine ⟨by rw [decode_decN]; exact h1.1, ?_⟩
  rw [Bool.eq_false_iff]
  intro e
  exact h1.2 ((pre_iff _).1 e)

theorem dec_good (s : ByteArray) (pos : Nat) (h : pos < s.size) (hw : 0 < wid (s.data.toList.drop pos)) :
    (Utf8.decode s pos).2 = wid (s.data.toList.drop pos) ∧ ((Utf8.decode s pos).1 = 65533 → Lib.hasPrefix (s.data.toList.drop pos) [239, 191, 189] = true) ∧
      ((Utf8.decode s pos).1 < 128 → (Utf8.decode s pos).1 = nth (s.data.toList.drop pos) 0) ∧ (nth (s.data.toList.drop pos) 0 < 128 → (Utf8.decode s pos).1 = nth (s.data.toList.drop pos) 0) := by
  have hne : s.data.toList.drop pos ≠ [] := by
    intro e
    have e := congrArg List.length e
    simp at e
    have : s.data.size = s.size := rfl
    omega
  have hw' := hw
  unfold wid at hw' ⊢
  rw [if_neg hne] at hw' ⊢
  have h1 := decN_pos (nth_lt _ _) (nth_lt _ _) (nth_lt _ _) (nth_lt _ _) hw'
  rw [decode_decN]
  exact ⟨h1.1, fun e => (pre_iff _).2 (h1.2.1 e), h1.2.2.1, h1.2.2.2⟩

theorem lead_le (b : Nat) : lead b ≤ 4 := by
  unfold lead
  repeat' split
  all_goals omega
theorem lead_1 {b : Nat} (h : lead b = 1) : b < 128 := by
  unfold lead at h
  repeat' split at h
  all_goals omega
def spec (b0 b1 : Nat) : Prop := (b0 = 224 ∧ b1 < 160) ∨ (b0 = 237 ∧ 159 < b1) ∨ (b0 = 240 ∧ b1 < 144) ∨ (b0 = 244 ∧ 143 < b1)
theorem wid_eq {d : List UInt8} (h : d ≠ []) : wid d = widN d.length (nth d 0) (nth d 1) (nth d 2) (nth d 3) := by unfold wid; rw [if_neg h]
theorem wid_bad_lead {d : List UInt8} (h : d ≠ []) (hb : lead (nth d 0) = 0 ∨ d.length < lead (nth d 0)) : wid d = 0 := by
  rw [wid_eq h, widN_lead (List.length_pos_iff.2 h), if_pos hb]
theorem wid_bad_cont {d : List UInt8} {i : Nat} (h : d ≠ []) (h1 : 1 ≤ i) (h2 : i < lead (nth d 0)) (hb : ¬ okc (nth d i)) : wid d = 0 := by
  have h4 := lead_le (nth d 0)
  rw [wid_eq h, widN_lead (List.length_pos_iff.2 h)]
  split
  · rfl
  · rw [if_pos]
    rcases (show i = 1 ∨ i = 2 ∨ i = 3 by omega) with rfl | rfl | rfl
    · exact .inl ⟨by omega, hb⟩
    · exact .inr (.inl ⟨by omega, hb⟩)
    · exact .inr (.inr ⟨by omega, hb⟩)
theorem wid_bad_spec {d : List UInt8} (h : d ≠ []) (hb : spec (nth d 0) (nth d 1)) : wid d = 0 := by
  rw [wid_eq h, widN_lead (List.length_pos_iff.2 h)]
  split
  · rfl
  · split
    · rfl
    · rw [if_pos (by unfold spec at hb; exact hb)]
theorem wid_ok {d : List UInt8} (h : d ≠ []) (h1 : ¬ (lead (nth d 0) = 0 ∨ d.length < lead (nth d 0))) (h2 : ∀ i, 1 ≤ i → i < lead (nth d 0) → okc (nth d i)) (h3 : ¬ spec (nth d 0) (nth d 1)) : wid d = lead (nth d 0) := by
  rw [wid_eq h, widN_lead (List.length_pos_iff.2 h), if_neg h1, if_neg, if_neg]
  · exact h3
  · rintro (⟨a, b⟩ | ⟨a, b⟩ | ⟨a, b⟩)
    · exact b (h2 1 (by omega) a)
    · exact b (h2 2 (by omega) a)
    · exact b (h2 3 (by omega) a)

/-- The answer of a count that stops above 'most'. -/
def capV (most : Nat) (o : Option Nat) : Int := match o with | none => -1 | some n => if n ≤ most then n else -1
def runesV (l : List UInt8) : Int := capV l.length (cnt 0 l)
def chk (l : List UInt8) : Bool := decide (0 < capV 8 (cnt 33 l))

end Go.Proofs.Ytgaghlofcokijaa.Km
