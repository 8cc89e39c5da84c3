/- Texts of this proof, one behind the other: TabMath, KeysWord. -/
import Derived.Test.YtllagelopdedfaaGW21
import Derived.Laws.BitsLemmas
/- Rows of the partition table: who owns what. Plain mathematics. -/
namespace Go.Proofs.Ytllagelopdedfaa
open Go.RowKit
set_option linter.unusedVariables false
set_option linter.unusedSimpArgs false

/-- Is a site in a set? -/
def bitN (m : Nat) (s : Int) : Bool := decide (0 ≤ s) && m.testBit s.toNat
theorem bitN_neg {m : Nat} {s : Int} (h : s < 0) : bitN m s = false := by unfold bitN; rw [decide_eq_false (by omega)]; rfl
theorem bitN_nat (m k : Nat) : bitN m (k : Int) = decide (m / 2 ^ k % 2 = 1) := by
  unfold bitN
  rw [decide_eq_true (by omega), Bool.true_and, Int.toNat_natCast, Nat.testBit_eq_decide_div_mod_eq]
theorem bitN_far {m : Nat} {s : Int} (hm : m < 64) (h : 6 ≤ s) : bitN m s = false := by
  unfold bitN
  rw [Nat.testBit_lt_two_pow (Nat.lt_of_lt_of_le hm (show 2 ^ 6 ≤ 2 ^ s.toNat from Nat.pow_le_pow_right (by omega) (by omega)))]
  simp

/-- How many of the lowest bits are set. -/
def cntB (m : Nat) : Nat → Nat
  | 0 => 0
  | k + 1 => cntB m k + m / 2 ^ k % 2
theorem cntB_le (m k : Nat) : cntB m k ≤ k := by
  induction k with
  | zero => simp [cntB]
  | succ k ih => rw [cntB]; omega
theorem cntB_stop {m k : Nat} (h : m / 2 ^ k = 0) : ∀ j, k ≤ j → cntB m j = cntB m k := by
  intro j hj
  induction j with
  | zero => obtain rfl : k = 0 := by omega
            rfl
  | succ j ih =>
    by_cases e : k = j + 1
    · rw [e]
    · rw [cntB, ih (by omega)]
      have : m / 2 ^ j = 0 := by
        rw [Nat.div_eq_zero_iff] at h ⊢
        right
        rcases h with h | h
        · exact absurd h (by have := Nat.two_pow_pos k; omega)
        · exact Nat.lt_of_lt_of_le h (Nat.pow_le_pow_right (by omega) (by omega))
      rw [this]
      rfl
/-- The number of bits. -/
def manyN (m : Nat) : Nat := cntB m 63
def manyI (x : Int) : Nat := if x < 0 then 0 else manyN x.toNat
theorem manyN_le (m : Nat) : manyN m ≤ 63 := cntB_le m 63
theorem manyI_le (x : Int) : manyI x ≤ 63 := by unfold manyI; split; omega; exact manyN_le _
theorem many_law : ∀ m, m < 64 → manyN m + manyN (63 - m) = 6 ∧ manyN (2 * m) = manyN m ∧ manyN (2 * m + 1) = manyN m + 1 := by decide +kernel

/-- Is a row as it must be, as far as owners are concerned? -/
def tOk (c : Rw) : Bool := decide (1 ≤ c.pa.length ∧ c.pa.length ≤ 6 ∧ c.rs.length ≤ 8 ∧ c.ow.length = c.rs.length) && Km.whole (tls c.rs) && !(c.ow.any (noO c.pa.length))
/-- Who owns a key. -/
def ownN (c : Rw) (key : List UInt8) : Nat := if tOk c then ((c.ow[(Km.fidx (tls c.rs) key).toNat]?).getD 0).toNat else 0
def firstN (m : Nat) : Int := match (List.range 6).find? (fun s => m.testBit s) with | none => -1 | some s => s
/-- The ranges that a site owns. -/
def rngsN (c : Rw) (s : Int) : List (ByteArray × ByteArray) := if tOk c then ((c.rs.zip c.ow).filter fun x => bitN x.2.toNat s).map (·.1) else []

namespace Km
theorem whGo_has (b : Bool) (e key : List UInt8) (rs : List (List UInt8 × List UInt8)) (h : whGo b e rs = true) (hne : rs ≠ [] ∨ e ≠ []) (hk : Op.bytesLess key e = false) : ∃ r ∈ rs, has r.1 r.2 key = true := by
  induction rs generalizing b e with
  | nil =>
    rcases hne with h1 | h1
    · exact absurd rfl h1
    · rw [whGo] at h
      simp at h
      exact absurd h h1
  | cons r t ih =>
    rw [whGo] at h
    simp only [Bool.and_eq_true] at h
    obtain ⟨⟨⟨h1, h2⟩, h3⟩, h4⟩ := h
    have e1 : r.1 = e := by simpa using h2
    by_cases hh : r.2 = [] ∨ Op.bytesLess key r.2 = true
    · refine ⟨r, by simp, ?_⟩
      unfold has
      rw [e1, hk]
      rcases hh with h5 | h5
      · rw [h5]; rfl
      · rw [h5]; simp
    · have h5 : r.2 ≠ [] := fun x => hh (.inl x)
      have h6 : Op.bytesLess key r.2 = false := by
        cases hq : Op.bytesLess key r.2
        · rfl
        · exact absurd (.inr hq) hh
      obtain ⟨x, hx, hy⟩ := ih false r.2 h4 (.inr h5) h6
      exact ⟨x, by simp [hx], hy⟩
theorem whole_has {rs : List (List UInt8 × List UInt8)} (h : whole rs = true) (key : List UInt8) : ∃ r ∈ rs, has r.1 r.2 key = true := by
  unfold whole at h
  simp only [Bool.and_eq_true] at h
  refine whGo_has true [] key rs h.2 (.inl ?_) ?_
  · intro e
    rw [e] at h
    simp at h
  · exact bl_nil key
theorem fidx_some {rs : List (List UInt8 × List UInt8)} {key : List UInt8} (h : ∃ r ∈ rs, has r.1 r.2 key = true) : ∃ k : Nat, k < rs.length ∧ fidx rs key = (k : Int) := by
  unfold fidx
  cases hq : rs.findIdx? (fun r => has r.1 r.2 key) with
  | none =>
    rw [List.findIdx?_eq_none_iff] at hq
    obtain ⟨r, hr, hx⟩ := h
    have := hq r hr
    rw [hx] at this
    cases this
  | some k =>
    rw [List.findIdx?_eq_some_iff_getElem] at hq
    exact ⟨k, hq.1, rfl⟩
end Km

structure TOk (c : Rw) : Prop where
  n1 : 1 ≤ c.pa.length
  n6 : c.pa.length ≤ 6
  r8 : c.rs.length ≤ 8
  ol : c.ow.length = c.rs.length
  wh : Km.whole (tls c.rs) = true
  ob : ∀ o ∈ c.ow, 1 ≤ o ∧ o < ((2 ^ c.pa.length : Nat) : Int)
theorem tOk_iff (c : Rw) : tOk c = true ↔ TOk c := by
  unfold tOk
  simp only [Bool.and_eq_true, decide_eq_true_eq, Bool.not_eq_true', List.any_eq_false, noO, Bool.or_eq_true, not_or]
  constructor
  · rintro ⟨⟨⟨a, b, d, e⟩, f⟩, g⟩
    exact ⟨a, b, d, e, f, fun o ho => by have := g o ho; omega⟩
  · intro h
    exact ⟨⟨⟨h.n1, h.n6, h.r8, h.ol⟩, h.wh⟩, fun o ho => by have := h.ob o ho; omega⟩
theorem TOk.find {c : Rw} (h : TOk c) (key : List UInt8) : ∃ k : Nat, k < c.rs.length ∧ Km.fidx (tls c.rs) key = (k : Int) := by
  obtain ⟨k, hk, e⟩ := Km.fidx_some (Km.whole_has h.wh key)
  exact ⟨k, by rwa [tls_len] at hk, e⟩
theorem TOk.pow {c : Rw} (h : TOk c) : 2 ^ c.pa.length ≤ 64 := Nat.pow_le_pow_right (by omega) h.n6 (n := 2)
theorem ownN_at {c : Rw} (h : TOk c) {key : List UInt8} {k : Nat} (hk : k < c.rs.length) (e : Km.fidx (tls c.rs) key = (k : Int)) : (ownN c key : Int) = c.ow[k]'(by rw [h.ol]; exact hk) ∧ ownN c key < 64 ∧ 1 ≤ ownN c key := by
  have hk' : k < c.ow.length := by rw [h.ol]; exact hk
  have h1 := h.ob c.ow[k] (List.getElem_mem hk')
  have h2 := h.pow
  unfold ownN
  rw [if_pos ((tOk_iff c).2 h), e, Int.toNat_natCast, List.getElem?_eq_getElem hk', Option.getD_some]
  omega
theorem ownN_lt (c : Rw) (key : List UInt8) : ownN c key < 64 := by
  by_cases h : tOk c = true
  · have h' := (tOk_iff c).1 h
    obtain ⟨k, hk, e⟩ := h'.find key
    exact (ownN_at h' hk e).2.1
  · unfold ownN
    rw [if_neg h]
    omega
theorem ownN_no {c : Rw} (h : tOk c = false) (key : List UInt8) : ownN c key = 0 := by
  unfold ownN
  rw [if_neg (by simp [h])]
theorem firstN_lt (m : Nat) : -1 ≤ firstN m ∧ firstN m < 6 := by
  unfold firstN
  cases h : (List.range 6).find? (fun s => m.testBit s) with
  | none => simp
  | some s =>
    have := List.mem_of_find?_eq_some h
    simp at this
    simp
    omega
theorem firstN_hit {m k : Nat} (hk : k < 6) (h : ∀ j, j < k → m.testBit j = false) (hh : m.testBit k = true) : firstN m = (k : Int) := by
  unfold firstN
  have : (List.range 6).find? (fun s => m.testBit s) = some k := by
    rw [List.find?_eq_some_iff_getElem]
    refine ⟨hh, k, by simpa using hk, by simp, fun j hj => ?_⟩
    rw [List.getElem_range, h j hj]
    rfl
  rw [this]
theorem firstN_none {m : Nat} (h : ∀ j, j < 6 → m.testBit j = false) : firstN m = -1 := by
  unfold firstN
  have : (List.range 6).find? (fun s => m.testBit s) = none := by
    rw [List.find?_eq_none]
    intro x hx
    rw [h x (by simpa using hx)]
    simp
  rw [this]
end Go.Proofs.Ytllagelopdedfaa
/- What the laws' own helper 'word' answers: some key of one to five runes. -/
namespace Go.Proofs.Ytllagelopdedfaa
open Go.RowKit
set_option linter.unusedVariables false

/-- What is left of a number behind '& 4095'. -/
theorem and_small (n : Int) : ∃ m : Nat, bits .and .i64 n 4095 = (m : Int) ∧ m < 4096 := by
  have hb : (BitVec.ofInt 64 n &&& BitVec.ofInt 64 4095).toNat < 4096 := by
    rw [BitVec.toNat_and]
    have h1 : (BitVec.ofInt 64 4095).toNat = 4095 := by decide
    have h2 := Nat.and_le_right (n := (BitVec.ofInt 64 n).toNat) (m := (BitVec.ofInt 64 4095).toNat)
    omega
  refine ⟨_, ?_, hb⟩
  show IntKind.i64.wrap ((BitVec.ofInt 64 n &&& BitVec.ofInt 64 4095).toNat : Nat) = _
  rw [IntKind.wrap_i64]
  omega

theorem kconv_one (w : World) (b off : Nat) (c : UInt8) (x : Int) (hx : x = (c.toNat : Int)) (h : w.cell? ⟨b, off, none⟩ = some (.int .u8 x)) :
    (convert 56 9 (.slice (some ⟨b, off, none⟩) 1 1)).run Try.prog w = .ok (.string ⟨#[c]⟩) w := by
  subst hx
  exact run_convert_bytes_back (P := Try.prog) w 56 9 5 ⟨b, off, none⟩ 1 [c] Try.underlying56 Try.underlying5 Try.underlying9 (by
    intro j hj
    obtain rfl : j = 0 := by simpa using hj
    rw [Addr.add_lit]
    simp [h])

theorem word_step {j m : Nat} (h : m < 8 ^ (4 - j)) (h0 : 0 < m) (hj : j ≤ 4) : j < 4 ∧ m / 8 < 8 ^ (4 - (j + 1)) := by
  rcases (show j = 0 ∨ j = 1 ∨ j = 2 ∨ j = 3 ∨ j = 4 by omega) with rfl | rfl | rfl | rfl | rfl <;> simp at h ⊢ <;> omega

namespace Km
theorem rune_letter (c : UInt8) (h1 : 97 ≤ c.toNat) (h2 : c.toNat ≤ 122) : isRune [c] := by
  refine ⟨by simp, ?_, fun v => ?_⟩
  · show 33 ≤ c.toNat
    omega
  · rw [wid_eq (by simp)]
    have e : nth ([c] ++ v) 0 = c.toNat := rfl
    rw [e]
    unfold widN
    rw [if_pos (by omega)]
    rfl
end Km

/-- Some word: a key. -/
def WordPost (w : World) (e : Ending) (w' : World) : Prop := ∃ (u : List UInt8) (m : Nat), e = .returned (.string ⟨u.toArray⟩) ∧ Km.run m u ∧ 1 ≤ m ∧ m ≤ 5 ∧ Below w.heap.size w w'

end Go.Proofs.Ytllagelopdedfaa
