/- Texts of this proof, one behind the other: TabMath, KeysWord, TabMade, AppI, IntRow. -/
import Derived.Test.YthjjidfoclcghaaGR6
import Derived.Laws.BitsLemmas
import Derived.Deep.DeepCutAuto
/- Rows of the partition table: who owns what. Plain mathematics. -/
namespace Go.Proofs.Ythjjidfoclcghaa
open Go.RowKit
set_option linter.unusedVariables false
set_option linter.unusedSimpArgs false

/-- Is a site in a set? -/
def bitN (m : Nat) (s : Int) : Bool := decide (0 ≤ s) && m.testBit s.toNat
theorem bitN_neg {m : Nat} {s : Int} (h : s < 0) : bitN m s = false := by unfold bitN; rw [decide_eq_false (by omega)]; rfl
theorem bitN_nat (m k : Nat) : bitN m (k : Int) = decide (m / 2 ^ k % 2 = 1) := by
  unfold bitN
  rw [decide_eq_true (by omega), Bool.true_and, Int.toNat_natCast, Nat.testBit_eq_decide_div_mod_eq]
theorem bitN_far {m : Nat} {s : Int} (hm : m < 64) (h : 6 ≤ s) : bitN m s = false := by
  unfold bitN
  rw [Nat.testBit_lt_two_pow (Nat.lt_of_lt_of_le hm (show 2 ^ 6 ≤ 2 ^ s.toNat from Nat.pow_le_pow_right (by omega) (by omega)))]
  simp

/-- How many of the lowest bits are set. -/
def cntB (m : Nat) : Nat → Nat
  | 0 => 0
  | k + 1 => cntB m k + m / 2 ^ k % 2
theorem cntB_le (m k : Nat) : cntB m k ≤ k := by
  induction k with
  | zero => simp [cntB]
  | succ k ih => rw [cntB]; omega
theorem cntB_stop {m k : Nat} (h : m / 2 ^ k = 0) : ∀ j, k ≤ j → cntB m j = cntB m k := by
  intro j hj
  induction j with
  | zero => obtain rfl : k = 0 := by omega
            rfl
  | succ j ih =>
    by_cases e : k = j + 1
    · rw [e]
    · rw [cntB, ih (by omega)]
      have : m / 2 ^ j = 0 := by
        rw [Nat.div_eq_zero_iff] at h ⊢
        right
        rcases h with h | h
        · exact absurd h (by have := Nat.two_pow_pos k; omega)
        · exact Nat.lt_of_lt_of_le h (Nat.pow_le_pow_right (by omega) (by omega))
      rw [this]
      rfl
/-- The number of bits. -/
def manyN (m : Nat) : Nat := cntB m 63
def manyI (x : Int) : Nat := if x < 0 then 0 else manyN x.toNat
theorem manyN_le (m : Nat) : manyN m ≤ 63 := cntB_le m 63
theorem manyI_le (x : Int) : manyI x ≤ 63 := by unfold manyI; split; omega; exact manyN_le _
theorem many_law : ∀ m, m < 64 → manyN m + manyN (63 - m) = 6 ∧ manyN (2 * m) = manyN m ∧ manyN (2 * m + 1) = manyN m + 1 := by decide +kernel

/-- Is a row as it must be, as far as owners are concerned? -/
def tOk (c : Rw) : Bool := decide (1 ≤ c.pa.length ∧ c.pa.length ≤ 6 ∧ c.rs.length ≤ 8 ∧ c.ow.length = c.rs.length) && Km.whole (tls c.rs) && !(c.ow.any (noO c.pa.length))
/-- Who owns a key. -/
def ownN (c : Rw) (key : List UInt8) : Nat := if tOk c then ((c.ow[(Km.fidx (tls c.rs) key).toNat]?).getD 0).toNat else 0
def firstN (m : Nat) : Int := match (List.range 6).find? (fun s => m.testBit s) with | none => -1 | some s => s
/-- The ranges that a site owns. -/
def rngsN (c : Rw) (s : Int) : List (ByteArray × ByteArray) := if tOk c then ((c.rs.zip c.ow).filter fun x => bitN x.2.toNat s).map (·.1) else []

namespace Km
theorem whGo_has (b : Bool) (e key : List UInt8) (rs : List (List UInt8 × List UInt8)) (h : whGo b e rs = true) (hne : rs ≠ [] ∨ e ≠ []) (hk : Op.bytesLess key e = false) : ∃ r ∈ rs, has r.1 r.2 key = true := by
  induction rs generalizing b e with
  | nil =>
    rcases hne with h1 | h1
    · exact absurd rfl h1
    · rw [whGo] at h
      simp at h
      exact absurd h h1
  | cons r t ih =>
    rw [whGo] at h
    simp only [Bool.and_eq_true] at h
    obtain ⟨⟨⟨h1, h2⟩, h3⟩, h4⟩ := h
    have e1 : r.1 = e := by simpa using h2
    by_cases hh : r.2 = [] ∨ Op.bytesLess key r.2 = true
    · refine ⟨r, by simp, ?_⟩
      unfold has
      rw [e1, hk]
      rcases hh with h5 | h5
      · rw [h5]; rfl
      · rw [h5]; simp
    · have h5 : r.2 ≠ [] := fun x => hh (.inl x)
      have h6 : Op.bytesLess key r.2 = false := by
        cases hq : Op.bytesLess key r.2
        · rfl
        · exact absurd (.inr hq) hh
      obtain ⟨x, hx, hy⟩ := ih false r.2 h4 (.inr h5) h6
      exact ⟨x, by simp [hx], hy⟩
theorem whole_has {rs : List (List UInt8 × List UInt8)} (h : whole rs = true) (key : List UInt8) : ∃ r ∈ rs, has r.1 r.2 key = true := by
  unfold whole at h
  simp only [Bool.and_eq_true] at h
  refine whGo_has true [] key rs h.2 (.inl ?_) ?_
  · intro e
    rw [e] at h
    simp at h
  · exact bl_nil key
theorem fidx_some {rs : List (List UInt8 × List UInt8)} {key : List UInt8} (h : ∃ r ∈ rs, has r.1 r.2 key = true) : ∃ k : Nat, k < rs.length ∧ fidx rs key = (k : Int) := by
  unfold fidx
  cases hq : rs.findIdx? (fun r => has r.1 r.2 key) with
  | none =>
    rw [List.findIdx?_eq_none_iff] at hq
    obtain ⟨r, hr, hx⟩ := h
    have := hq r hr
    rw [hx] at this
    cases this
  | some k =>
    rw [List.findIdx?_eq_some_iff_getElem] at hq
    exact ⟨k, hq.1, rfl⟩
end Km

structure TOk (c : Rw) : Prop where
  n1 : 1 ≤ c.pa.length
  n6 : c.pa.length ≤ 6
  r8 : c.rs.length ≤ 8
  ol : c.ow.length = c.rs.length
  wh : Km.whole (tls c.rs) = true
  ob : ∀ o ∈ c.ow, 1 ≤ o ∧ o < ((2 ^ c.pa.length : Nat) : Int)
theorem tOk_iff (c : Rw) : tOk c = true ↔ TOk c := by
  unfold tOk
  simp only [Bool.and_eq_true, decide_eq_true_eq, Bool.not_eq_true', List.any_eq_false, noO, Bool.or_eq_true, not_or]
  constructor
  · rintro ⟨⟨⟨a, b, d, e⟩, f⟩, g⟩
    exact ⟨a, b, d, e, f, fun o ho => by have := g o ho; omega⟩
  · intro h
    exact ⟨⟨⟨h.n1, h.n6, h.r8, h.ol⟩, h.wh⟩, fun o ho => by have := h.ob o ho; omega⟩
theorem TOk.find {c : Rw} (h : TOk c) (key : List UInt8) : ∃ k : Nat, k < c.rs.length ∧ Km.fidx (tls c.rs) key = (k : Int) := by
  obtain ⟨k, hk, e⟩ := Km.fidx_some (Km.whole_has h.wh key)
  exact ⟨k, by rwa [tls_len] at hk, e⟩
theorem TOk.pow {c : Rw} (h : TOk c) : 2 ^ c.pa.length ≤ 64 := Nat.pow_le_pow_right (by omega) h.n6 (n := 2)
theorem ownN_at {c : Rw} (h : TOk c) {key : List UInt8} {k : Nat} (hk : k < c.rs.length) (e : Km.fidx (tls c.rs) key = (k : Int)) : (ownN c key : Int) = c.ow[k]'(by rw [h.ol]; exact hk) ∧ ownN c key < 64 ∧ 1 ≤ ownN c key := by
  have hk' : k < c.ow.length := by rw [h.ol]; exact hk
  have h1 := h.ob c.ow[k] (List.getElem_mem hk')
  have h2 := h.pow
  unfold ownN
  rw [if_pos ((tOk_iff c).2 h), e, Int.toNat_natCast, List.getElem?_eq_getElem hk', Option.getD_some]
  omega
theorem ownN_lt (c : Rw) (key : List UInt8) : ownN c key < 64 := by
  by_cases h : tOk c = true
  · have h' := (tOk_iff c).1 h
    obtain ⟨k, hk, e⟩ := h'.find key
    exact (ownN_at h' hk e).2.1
  · unfold ownN
    rw [if_neg h]
    omega
theorem ownN_no {c : Rw} (h : tOk c = false) (key : List UInt8) : ownN c key = 0 := by
  unfold ownN
  rw [if_neg (by simp [h])]
theorem firstN_lt (m : Nat) : -1 ≤ firstN m ∧ firstN m < 6 := by
  unfold firstN
  cases h : (List.range 6).find? (fun s => m.testBit s) with
  | none => simp
  | some s =>
    have := List.mem_of_find?_eq_some h
    simp at this
    simp
    omega
theorem firstN_hit {m k : Nat} (hk : k < 6) (h : ∀ j, j < k → m.testBit j = false) (hh : m.testBit k = true) : firstN m = (k : Int) := by
  unfold firstN
  have : (List.range 6).find? (fun s => m.testBit s) = some k := by
    rw [List.find?_eq_some_iff_getElem]
    refine ⟨hh, k, by simpa using hk, by simp, fun j hj => ?_⟩
    rw [List.getElem_range, h j hj]
    rfl
  rw [this]
theorem firstN_none {m : Nat} (h : ∀ j, j < 6 → m.testBit j = false) : firstN m = -1 := by
  unfold firstN
  have : (List.range 6).find? (fun s => m.testBit s) = none := by
    rw [List.find?_eq_none]
    intro x hx
    rw [h x (by simpa using hx)]
    simp
  rw [this]
end Go.Proofs.Ythjjidfoclcghaa
/- What the laws' own helper 'word' answers: some key of one to five runes. -/
namespace Go.Proofs.Ythjjidfoclcghaa
open Go.RowKit
set_option linter.unusedVariables false

/-- What is left of a number behind '& 4095'. -/
theorem and_small (n : Int) : ∃ m : Nat, bits .and .i64 n 4095 = (m : Int) ∧ m < 4096 := by
  have hb : (BitVec.ofInt 64 n &&& BitVec.ofInt 64 4095).toNat < 4096 := by
    rw [BitVec.toNat_and]
    have h1 : (BitVec.ofInt 64 4095).toNat = 4095 := by decide
    have h2 := Nat.and_le_right (n := (BitVec.ofInt 64 n).toNat) (m := (BitVec.ofInt 64 4095).toNat)
    omega
  refine ⟨_, ?_, hb⟩
  show IntKind.i64.wrap ((BitVec.ofInt 64 n &&& BitVec.ofInt 64 4095).toNat : Nat) = _
  rw [IntKind.wrap_i64]
  omega

theorem kconv_one (w : World) (b off : Nat) (c : UInt8) (x : Int) (hx : x = (c.toNat : Int)) (h : w.cell? ⟨b, off, none⟩ = some (.int .u8 x)) :
    (convert 53 9 (.slice (some ⟨b, off, none⟩) 1 1)).run Try.prog w = .ok (.string ⟨#[c]⟩) w := by
  subst hx
  exact run_convert_bytes_back (P := Try.prog) w 53 9 5 ⟨b, off, none⟩ 1 [c] Try.underlying53 Try.underlying5 Try.underlying9 (by
    intro j hj
    obtain rfl : j = 0 := by simpa using hj
    rw [Addr.add_lit]
    simp [h])

theorem word_step {j m : Nat} (h : m < 8 ^ (4 - j)) (h0 : 0 < m) (hj : j ≤ 4) : j < 4 ∧ m / 8 < 8 ^ (4 - (j + 1)) := by
  rcases (show j = 0 ∨ j = 1 ∨ j = 2 ∨ j = 3 ∨ j = 4 by omega) with rfl | rfl | rfl | rfl | rfl <;> simp at h ⊢ <;> omega

namespace Km
theorem rune_letter (c : UInt8) (h1 : 97 ≤ c.toNat) (h2 : c.toNat ≤ 122) : isRune [c] := by
  refine ⟨by simp, ?_, fun v => ?_⟩
  · show 33 ≤ c.toNat
    omega
  · rw [wid_eq (by simp)]
    have e : nth ([c] ++ v) 0 = c.toNat := rfl
    rw [e]
    unfold widN
    rw [if_pos (by omega)]
    rfl
end Km

/-- Some word: a key. -/
def WordPost (w : World) (e : Ending) (w' : World) : Prop := ∃ (u : List UInt8) (m : Nat), e = .returned (.string ⟨u.toArray⟩) ∧ Km.run m u ∧ 1 ≤ m ∧ m ≤ 5 ∧ Below w.heap.size w w'

end Go.Proofs.Ythjjidfoclcghaa
/- What the laws' own helpers made and row answer: some row that may be. -/
namespace Go.Proofs.Ythjjidfoclcghaa
open Go.RowKit
set_option linter.unusedVariables false
set_option linter.unusedSimpArgs false

theorem tmod_bd (x m : Int) (hm : 0 < m) : -m < x.tmod m ∧ x.tmod m < m := by
  have h1 := Int.natAbs_tmod x m
  have h2 := Nat.mod_lt x.natAbs (show 0 < m.natAbs by omega)
  omega
theorem strl7 (l : List UInt8) : (⟨l.toArray⟩ : ByteArray).toList = l := by rw [Lib.toList_data]
/-- Ends that rise, of one letter each. -/
structure Ends (us : List (List UInt8)) : Prop where
  words : ∀ u ∈ us, Km.isWord u ∧ u.length = 1
  rises : Km.rises us
theorem Ends.nil : Ends [] := ⟨by simp, List.Pairwise.nil⟩
theorem Ends.w {us : List (List UInt8)} (h : Ends us) : ∀ u ∈ us, Km.isWord u := fun u hu => (h.words u hu).1
theorem letter_word (c : UInt8) (h1 : 97 ≤ c.toNat) (h2 : c.toNat ≤ 122) : Km.isWord [c] := by
  have h : Km.run 1 ([] ++ [c]) := Km.run_snoc Km.run_nil (Km.rune_letter c h1 h2) (by simp)
  exact ⟨1, h, by omega, by omega⟩
theorem Ends.snoc {us : List (List UInt8)} (h : Ends us) (c : UInt8) (h1 : 97 ≤ c.toNat) (h2 : c.toNat ≤ 122) (hlt : Op.bytesLess (Km.lastL [] us) [c] = true) : Ends (us ++ [[c]]) := by
  refine ⟨fun u hu => ?_, Km.rises_snoc h.w h.rises hlt⟩
  rcases List.mem_append.1 hu with h3 | h3
  · exact h.words u h3
  · obtain rfl : u = [c] := by simpa using h3
    exact ⟨letter_word c h1 h2, rfl⟩
theorem wbas_szs {us : List (List UInt8)} (h : Ends us) : Szs (wbas (Km.chainL [] us)) := by
  intro r hr
  unfold wbas at hr
  obtain ⟨x, hx, rfl⟩ := List.mem_map.1 hr
  obtain ⟨i, hi, rfl⟩ := List.getElem_of_mem hx
  rw [Km.chain_get]
  have h1 : ∀ j (hj : j < ([] :: us).length), (([] :: us)[j]).length ≤ 1 := by
    intro j hj
    cases j with
    | zero => simp
    | succ j => have := (h.words (us[j]'(by simpa using hj)) (by simp)).2; simpa using Nat.le_of_eq this
  have h2 : ∀ j (hj : j < (us ++ [[]]).length), ((us ++ [[]])[j]).length ≤ 1 := by
    intro j hj
    by_cases e : j < us.length
    · rw [List.getElem_append_left e]; exact Nat.le_of_eq (h.words us[j] (by simp)).2
    · rw [List.getElem_append_right (by omega)]; simp
  rw [Km.chain_len] at hi
  have a1 := h1 i (by simpa using hi)
  have a2 := h2 i (by simpa using hi)
  refine ⟨?_, ?_⟩
  · show (([] :: us)[i]'(by simpa using hi)).toArray.size ≤ _
    rw [List.size_toArray]
    omega
  · show ((us ++ [[]])[i]'(by simpa using hi)).toArray.size ≤ _
    rw [List.size_toArray]
    omega
theorem made_ok {us : List (List UInt8)} {c : Rw} (h : Ends us) (hu : us.length ≤ 7) (hr : c.rs = wbas (Km.chainL [] us)) (hp : 1 ≤ c.pa.length ∧ c.pa.length ≤ 6) (hl : c.ow.length = c.rs.length) (ho : ∀ o ∈ c.ow, 1 ≤ o ∧ o < ((2 ^ c.pa.length : Nat) : Int)) : tOk c = true := by
  refine (tOk_iff c).2 ⟨hp.1, hp.2, ?_, hl, ?_, ho⟩
  · rw [hr, wbas_len, Km.chain_len]; omega
  · rw [hr, tls_wbas]
    exact Km.one_whole h.w h.rises
/-- What made leaves. -/
def MadePost (w : World) (e : Ending) (w' : World) : Prop := ∃ c u0 u1 u2, e = .returned (.agg #[u0, u1, u2]) ∧ RwO w.heap.size w' u0 u1 u2 c ∧ tOk c = true ∧ Below w.heap.size w w'
theorem last_len1 {us : List (List UInt8)} (h : Ends us) : (Km.lastL [] us).length ≤ 1 := by
  rcases Km.last_mem [] us with e | e
  · rw [e]; simp
  · exact Nat.le_of_eq (h.words _ e).2

/-- How the variable, and the result's, stand. -/
structure MdS (w wr : World) (u0 u1 u2 : Value) (c : Rw) : Prop where
  R : RwV (w.heap.size + 1) (w.heap.size + 1) wr u0 u1 u2 c
  V : VrP wr w.heap.size (.slice none 0 0) (.slice none 0 0) (.slice none 0 0)
  B : Below w.heap.size w wr
theorem MdS.below {w wr w' : World} {u0 u1 u2 : Value} {c : Rw} (h : MdS w wr u0 u1 u2 c) (hb : Below wr.heap.size wr w') : MdS w w' u0 u1 u2 c := ⟨h.R.below hb, h.V.keep hb, bstep h.B hb⟩
theorem MdS.put0 {w wr w2 : World} {u0 u1 u2 : Value} {c : Rw} {g n cap : Nat} {l : List (ByteArray × ByteArray)} (h : MdS w wr u0 u1 u2 c) (ho : OwnR KR w2 (w.heap.size + 1) (.slice (some ⟨g, 0, none⟩) n cap) l) (hb : Below (w.heap.size + 1) wr w2) (hk : KeptD u0 wr w2) (hat : u0.ownBlock = some g ∨ wr.heap.size ≤ g) :
    MdS w (w2.setCell ⟨w.heap.size + 1, 0, none⟩ (.slice (some ⟨g, 0, none⟩) n cap)) (.slice (some ⟨g, 0, none⟩) n cap) u1 u2 ⟨l, c.ow, c.pa⟩ :=
  ⟨h.R.put0 ho hk (fun g e => by obtain rfl := own_at7 g e; exact hat), (h.V.block (hk _ h.V.lt (h.R.r.lo (by omega)))).block (Below.heap_setCell _ _ _ _ (by simp)), (h.B.trans (hb.mono (by omega))).setCell (p := ⟨w.heap.size + 1, 0, none⟩) (by simp) _⟩
theorem MdS.put1 {w wr w2 : World} {u0 u1 u2 : Value} {c : Rw} {g n cap : Nat} {l : List Int} (h : MdS w wr u0 u1 u2 c) (ho : OwnR KI w2 (w.heap.size + 1) (.slice (some ⟨g, 0, none⟩) n cap) l) (hb : Below (w.heap.size + 1) wr w2) (hk : KeptD u1 wr w2) (hat : u1.ownBlock = some g ∨ wr.heap.size ≤ g) :
    MdS w (w2.setCell ⟨w.heap.size + 1, 1, none⟩ (.slice (some ⟨g, 0, none⟩) n cap)) u0 (.slice (some ⟨g, 0, none⟩) n cap) u2 ⟨c.rs, l, c.pa⟩ :=
  ⟨h.R.put1 ho hk (fun g e => by obtain rfl := own_at7 g e; exact hat), (h.V.block (hk _ h.V.lt (h.R.o.lo (by omega)))).block (Below.heap_setCell _ _ _ _ (by simp)), (h.B.trans (hb.mono (by omega))).setCell (p := ⟨w.heap.size + 1, 1, none⟩) (by simp) _⟩
theorem MdS.put2 {w wr w2 : World} {u0 u1 u2 : Value} {c : Rw} {g n cap : Nat} {l : List Int} (h : MdS w wr u0 u1 u2 c) (ho : OwnR KI w2 (w.heap.size + 1) (.slice (some ⟨g, 0, none⟩) n cap) l) (hb : Below (w.heap.size + 1) wr w2) (hk : KeptD u2 wr w2) (hat : u2.ownBlock = some g ∨ wr.heap.size ≤ g) :
    MdS w (w2.setCell ⟨w.heap.size + 1, 2, none⟩ (.slice (some ⟨g, 0, none⟩) n cap)) u0 u1 (.slice (some ⟨g, 0, none⟩) n cap) ⟨c.rs, c.ow, l⟩ :=
  ⟨h.R.put2 ho hk (fun g e => by obtain rfl := own_at7 g e; exact hat), (h.V.block (hk _ h.V.lt (h.R.p.lo (by omega)))).block (Below.heap_setCell _ _ _ _ (by simp)), (h.B.trans (hb.mono (by omega))).setCell (p := ⟨w.heap.size + 1, 2, none⟩) (by simp) _⟩
/-- Behind an append: the variable's cell may be written. -/
theorem MdS.cells {w wr w2 : World} {u0 u1 u2 u : Value} {c : Rw} (h : MdS w wr u0 u1 u2 c) (hk : KeptD u wr w2) (hn : u.ownBlock ≠ some (w.heap.size + 1)) : VrP w2 (w.heap.size + 1) u0 u1 u2 := h.R.v.block (hk _ h.R.v.lt hn)

/-- The variable copied to the result's. -/
theorem MdS.fin {w wr : World} {u0 u1 u2 : Value} {c : Rw} (h : MdS w wr u0 u1 u2 c) (hz : Szs c.rs) :
    RwO w.heap.size (((wr.setCell ⟨w.heap.size, 0, none⟩ u0).setCell ⟨w.heap.size, 1, none⟩ u1).setCell ⟨w.heap.size, 2, none⟩ u2) u0 u1 u2 c ∧
      VrP (((wr.setCell ⟨w.heap.size, 0, none⟩ u0).setCell ⟨w.heap.size, 1, none⟩ u1).setCell ⟨w.heap.size, 2, none⟩ u2) w.heap.size u0 u1 u2 ∧
      Below w.heap.size w (((wr.setCell ⟨w.heap.size, 0, none⟩ u0).setCell ⟨w.heap.size, 1, none⟩ u1).setCell ⟨w.heap.size, 2, none⟩ u2) := by
  have n0 := h.R.r.lo (k := w.heap.size) (by omega)
  have n1 := h.R.o.lo (k := w.heap.size) (by omega)
  have n2 := h.R.p.lo (k := w.heap.size) (by omega)
  exact ⟨⟨(((h.R.r.put7 n0).put7 n0).put7 n0).mono (by omega), (((h.R.o.put7 n1).put7 n1).put7 n1).mono (by omega), (((h.R.p.put7 n2).put7 n2).put7 n2).mono (by omega), hz⟩,
    ((h.V.put0 u0).put1 u1).put2 u2, ((h.B.setCell (p := ⟨w.heap.size, 0, none⟩) (Nat.le_refl _) u0).setCell (p := ⟨w.heap.size, 1, none⟩) (Nat.le_refl _) u1).setCell (p := ⟨w.heap.size, 2, none⟩) (Nat.le_refl _) u2⟩

/-- Behind so many parents; behind so many ends; behind so many owners. -/
def MdP (w wr : World) (k : Nat) : Prop := ∃ u2 pa, pa.length = k ∧ MdS w wr (.slice none 0 0) (.slice none 0 0) u2 ⟨[], [], pa⟩
def MdR (w wr : World) (N j : Nat) (us : List (List UInt8)) : Prop := ∃ u0 u2 pa, pa.length = N ∧ Ends us ∧ us.length ≤ j ∧ MdS w wr u0 (.slice none 0 0) u2 ⟨wbas (Km.preL [] us), [], pa⟩
def MdO (w wr : World) (N k : Nat) (us : List (List UInt8)) : Prop := ∃ u0 u1 u2 ow pa, pa.length = N ∧ ow.length = k ∧ (∀ o ∈ ow, 1 ≤ o ∧ o < ((2 ^ N : Nat) : Int)) ∧ MdS w wr u0 u1 u2 ⟨wbas (Km.chainL [] us), ow, pa⟩

end Go.Proofs.Ythjjidfoclcghaa
/- A row of ints appended to a row of one's own. -/
namespace Go.Proofs.Ythjjidfoclcghaa
open Go.RowKit
set_option linter.unusedVariables false
set_option linter.unusedSimpArgs false

theorem ki_news {w : World} {x : Addr} {l : List Int} (h : RowIn KI w (some x) l) : ∀ j u, (rV KI l)[j]? = some u → w.cell? (x.add j) = some u := by
  intro j u hj
  have hlt : j < (rV KI l).length := (List.getElem?_eq_some_iff.1 hj).1
  rw [rV_len ki_ok, show KI.sz = 1 from rfl, Nat.mul_one] at hlt
  obtain ⟨b, off, e, _, hc⟩ := h.int j hlt
  cases e
  have hg := rV_get ki_ok l j hlt 0 ki_ok.pos
  rw [show KI.sz = 1 from rfl, Nat.mul_one, Nat.add_zero, hj] at hg
  rw [Addr.add_lit, hc]
  exact hg.symm
theorem ki_one (l : List Int) : ∀ u ∈ rV KI l, u.oneCell' = true := by
  intro u hu
  simp only [rV, List.mem_flatMap] at hu
  obtain ⟨p, _, hp⟩ := hu
  exact ki_ok.one p u hp
theorem rV_app {α : Type} (K : RK α) (l m : List α) : rV K (l ++ m) = rV K l ++ rV K m := by simp [rV]
theorem wp_appI {ops : Array Oper} {rest : List Oper} {o : Oper} {a : Act} {Q : Exit → Act → World → Prop} {w : World} (hgd : o.guard = none) (s x : Operand)
    (hop : o.op = .call { callee := .builtin .append, args := #[s, x], argTypes := #[22, 22] })
    (base : Nat) (v u : Value) (l m : List Int) (hs : a.eval s = v) (hown : OwnR KI w base v l) (hx : a.eval x = u) (hu : RowAt KI w u m) (hl : l.length + m.length ≤ 1000000) (hbs : base ≤ w.heap.size)
    (h : ∀ v' w', OwnR KI w' base v' (l ++ m) → Below base w w' → KeptD v w w' → wpList Try.prog ops Q rest (a.put o.dst v') w') :
    wpList Try.prog ops Q (o :: rest) a w := by
  obtain ⟨i0, hi, hz0, hz1, hz2⟩ := info_parts ki_ok.inf
  obtain ⟨b, cap, rfl, hcap, hmx, hnil, hr⟩ := hu
  cases b with
  | some b =>
    refine wpList_append_own _ hgd s x 22 hop base 3 i0 _ 1 8 Try.underlying22 hi hz0 hz1 hz2 rfl (by decide) v l.length (rV KI l) hs hown b m.length cap (rV KI m) hx (rV_len ki_ok m) (ki_news hr) (ki_one m) (by unfold maxLen; omega) (by omega) hbs ?_
    intro v' w' ho hg hn
    exact h v' w' (by unfold OwnR; rw [rV_app, List.length_append]; exact ho) ((Below.refl base w).grown hg hbs (fun k hk => (hown.lt k hk).1)) (fun j hj hne => hg.block j hj (fun e => hne e.symm))
  | none =>
    have hc0 := hnil rfl
    obtain rfl : m = [] := List.length_eq_zero_iff.1 (by omega)
    subst hc0
    refine wpList_append_own_none hgd s x 22 hop base 3 i0 1 Try.underlying22 hi v l.length (rV KI l) hs hown hx ?_
    exact h v w (by rw [List.append_nil]; exact hown) (Below.refl _ _) (fun _ _ _ => rfl)

end Go.Proofs.Ythjjidfoclcghaa
/- Rows of ints of one's own: made, written to, read; remainders. -/
namespace Go.Proofs.Ythjjidfoclcghaa
open Go.RowKit
set_option linter.unusedVariables false
set_option linter.unusedSimpArgs false

theorem tmod_bdT (x m : Int) (hm : 0 < m) : -m < x.tmod m ∧ x.tmod m < m := by
  have h1 := Int.natAbs_tmod x m
  have h2 := Nat.mod_lt x.natAbs (show 0 < m.natAbs by omega)
  omega
theorem and7T (n : Int) : bits .and .i64 n 7 = n % 8 := by
  have e : bits .and .i64 n 7 = IntKind.i64.wrap ((BitVec.ofInt 64 n &&& BitVec.ofInt 64 7).toNat : Nat) := rfl
  have h : (BitVec.ofInt 64 n).toNat = _ := BitVec.toNat_ofInt n
  have l : (BitVec.ofInt 64 n &&& BitVec.ofInt 64 7).toNat = (BitVec.ofInt 64 n).toNat % 8 := by
    rw [BitVec.toNat_and, show (BitVec.ofInt 64 7).toNat = 2 ^ 3 - 1 by decide, Nat.and_two_pow_sub_one_eq_mod]
  rw [e, l, IntKind.wrap_i64]
  omega
/-- One int of a row of the call's own written anew. -/
theorem OwnR.setT {w : World} {base g cap n : Nat} {l : List Int} (h : OwnR KI w base (.slice (some ⟨g, 0, none⟩) n cap) l) (i : Nat) (x : Int) :
    OwnR KI (w.setCell ⟨g, i, none⟩ (.int .i64 x)) base (.slice (some ⟨g, 0, none⟩) n cap) (l.set i x) := by
  obtain rfl := h.len
  have h3 := (h.stored i (.int .i64 x)).1
  unfold OwnR
  rw [List.length_set]
  have e : rV KI (l.set i x) = (rV KI l).set i (.int .i64 x) := by
    clear h h3
    unfold rV
    induction l generalizing i with
    | nil => simp
    | cons a l ih =>
      cases i with
      | zero => simp [KI]
      | succ i => simpa [KI] using ih i
  rw [e]
  exact h3
theorem OwnR.cellT {w : World} {base g cap n : Nat} {l : List Int} (h : OwnR KI w base (.slice (some ⟨g, 0, none⟩) n cap) l) (i : Nat) (hi : i < l.length) : w.cell? ⟨g, i, none⟩ = some (.int .i64 l[i]) := by
  obtain ⟨g', cap', e, _, _, _, _, hc⟩ := h.cell ki_ok i hi
  cases e
  have := hc 0 _ rfl
  rw [show KI.sz = 1 from rfl, Nat.mul_one, Nat.add_zero, Nat.zero_add] at this
  exact this
theorem OwnR.frozenT {w : World} {base g cap n : Nat} {l : List Int} (h : OwnR KI w base (.slice (some ⟨g, 0, none⟩) n cap) l) (j : Nat) : w.frozen? ⟨g, j, none⟩ = false := by
  obtain rfl := h.len
  exact World.ownsRow.frozenAt h j
theorem OwnR.blockT {w : World} {base g cap n : Nat} {l : List Int} (h : OwnR KI w base (.slice (some ⟨g, 0, none⟩) n cap) l) : base ≤ g ∧ g < w.heap.size := by
  rcases h.2 with ⟨e, h0⟩ | ⟨g', cap', cur, e, hb, hg, _⟩
  · cases e
  · cases e
    exact ⟨hb, (Array.getElem?_eq_some_iff.1 hg).1⟩
theorem OwnR.someT {w : World} {base : Nat} {v : Value} {l : List Int} (h : OwnR KI w base v l) (hl : 0 < l.length) : ∃ g cap, v = .slice (some ⟨g, 0, none⟩) l.length cap := by
  obtain ⟨g, cap, e, _⟩ := h.cell ki_ok 0 hl
  exact ⟨g, cap, e⟩
theorem own_litT (w : World) (base n : Nat) (l : List Int) (cs : Array Value) (hcs : cs.toList = rV KI l) (hn : l.length = n) (hb : base ≤ w.heap.size) (hm : n ≤ 1000) : OwnR KI (w.alloc (.cells cs 3)) base (.slice (some ⟨w.heap.size, 0, none⟩) n n) l := by
  subst hn
  have hl := rV_len ki_ok l
  refine ⟨by rw [hl], .inr ⟨w.heap.size, l.length, cs, rfl, hb, heap_alloc_new w _, Nat.le_refl _, by unfold maxLen; omega, ?_, ?_⟩⟩
  · rw [← hl, ← hcs]; simp
  · rw [hcs, ← hl, List.take_length]
theorem make_intsT (n : Nat) (w : World) (hn : n ≤ 1000) : ∃ w1, (Instr.makeSlice 22 (.int .i64 (n : Int)) (.int .i64 (n : Int))).run Try.prog w = .ok (.slice (some ⟨w.heap.size, 0, none⟩) n n) w1 ∧ Below w.heap.size w w1 ∧ OwnR KI w1 w.heap.size (.slice (some ⟨w.heap.size, 0, none⟩) n n) (List.replicate n 0) := by
  obtain ⟨i0, hi, hz0, hz1, hz2⟩ := info_parts ki_ok.inf
  have hz1' : i0.size = 1 := hz1
  have hz2' : i0.bytes = 8 := hz2
  have h := run_make (P := Try.prog) (w := w) 22 3 i0 _ Try.underlying22 hi hz0 .i64 .i64 (n : Int) (n : Int) (by omega) (Int.le_refl _) (by rw [hz2']; omega) (by omega)
  rw [Int.toNat_natCast, hz1', Nat.mul_one] at h
  refine ⟨_, h, balloc (Below.refl _ _) _, ?_⟩
  have e : ∀ n : Nat, (madeCells KI.z.cells n).toList = rV KI (List.replicate n 0) := by
    intro n
    apply List.ext_getElem
    · rw [rV_len ki_ok]
      simp [madeCells, KI]
    · intro i h1 h2
      have h3 : i < n := by simpa [madeCells] using h1
      have h4 := rV_get ki_ok (List.replicate n (0 : Int)) i (by simpa using h3) 0 ki_ok.pos
      rw [show KI.sz = 1 from rfl, Nat.mul_one, Nat.add_zero] at h4
      have h5 : (rV KI (List.replicate n (0 : Int)))[i] = .int .i64 0 := by
        rw [List.getElem?_eq_getElem h2] at h4
        simpa [KI] using h4
      rw [h5]
      simp [madeCells, KI, Value.cells, Nat.mod_one]
  exact own_litT w w.heap.size n (List.replicate n 0) _ (e n) (by simp) (Nat.le_refl _) hn
end Go.Proofs.Ythjjidfoclcghaa
