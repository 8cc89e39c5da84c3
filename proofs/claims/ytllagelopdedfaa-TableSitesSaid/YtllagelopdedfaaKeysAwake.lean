/- What the laws' own helpers of layer 2 answer: awake, short. -/
import Derived.Test.YtllagelopdedfaaKeysGood
import Derived.Test.YtllagelopdedfaaKeysRunesAny
namespace Go.Proofs.Ytllagelopdedfaa
open Go.RowKit
set_option linter.unusedVariables false

namespace Km
/-- u is a rune, whatever stands behind it. -/
def isRune (u : List UInt8) : Prop := u ≠ [] ∧ 33 ≤ nth u 0 ∧ ∀ v, wid (u ++ v) = u.length
theorem cnt_rune {u v : List UInt8} {low : Nat} (h : isRune u) (hl : low ≤ 33) : cnt low (u ++ v) = (cnt low v).map (· + 1) := by
  obtain ⟨h1, h2, h3⟩ := h
  have hp := List.length_pos_iff.2 h1
  have hn : nth (u ++ v) 0 = nth u 0 := by
    unfold nth
    cases u with
    | nil => exact absurd rfl h1
    | cons a r => rfl
  rw [cnt_go (by simp [h1]) (by rw [h3]; exact hp) (by rw [hn]; omega), h3, List.drop_left]
theorem rune_a : isRune [97] := ⟨by simp, by decide, fun v => by simp [wid, nth, widN]⟩
theorem rune_e : isRune [195, 169] := ⟨by simp, by decide, fun v => by simp [wid, nth, widN, okc]⟩
theorem rune_b : isRune [98] := ⟨by simp, by decide, fun v => by simp [wid, nth, widN]⟩
theorem rune_d : isRune [100] := ⟨by simp, by decide, fun v => by simp [wid, nth, widN]⟩
theorem chk_one {u : List UInt8} (h : isRune u) : chk u = true := by
  have := cnt_rune (v := []) (low := 33) h (by omega)
  rw [List.append_nil, cnt_nil] at this
  unfold chk
  rw [this]
  rfl
theorem aw_good : good [98] [100] = true := by
  unfold good bound
  rw [chk_one rune_b, chk_one rune_d]
  rfl
theorem aw_chk : chk [195, 169] = true := chk_one rune_e
theorem aw_runes : runesV [195, 169, 97] = 2 := by
  have h := cnt_rune (v := [97]) (low := 0) rune_e (by omega)
  have h2 := cnt_rune (v := []) (low := 0) rune_a (by omega)
  rw [List.append_nil, cnt_nil] at h2
  rw [h2] at h
  have e : ([195, 169] ++ [97] : List UInt8) = [195, 169, 97] := rfl
  rw [e] at h
  unfold runesV
  rw [h]
  rfl
end Km

theorem aw1 (w : World) : Calls Try.prog 68 #[.agg #[.string ⟨#[98]⟩, .string ⟨#[100]⟩]] w fun e w' => e = .returned (.bool true) ∧ Below w.heap.size w w' := by
  have h := good_any ⟨#[98]⟩ ⟨#[100]⟩ w (by decide) (by decide)
  have e : Km.good (⟨#[98]⟩ : ByteArray).data.toList (⟨#[100]⟩ : ByteArray).data.toList = true := Km.aw_good
  rw [e] at h
  exact h
theorem aw2 (k : ByteArray) (b : Bool) (w : World) (hb : Km.has [98] [100] k.data.toList = b) : Calls Try.prog 73 #[.agg #[.string ⟨#[98]⟩, .string ⟨#[100]⟩], .string k] w fun e w' => e = .returned (.bool b) ∧ Below w.heap.size w w' := by
  have h := has_any ⟨#[98]⟩ ⟨#[100]⟩ k w
  have e : Km.has (⟨#[98]⟩ : ByteArray).data.toList (⟨#[100]⟩ : ByteArray).data.toList k.data.toList = b := hb
  rw [e] at h
  exact h
theorem aw3 (w : World) : Calls Try.prog 98 #[.string ⟨#[195, 169]⟩] w fun e w' => e = .returned (.bool true) ∧ Below w.heap.size w w' := by
  have h := check_any ⟨#[195, 169]⟩ w (by decide)
  have e : Km.chk (⟨#[195, 169]⟩ : ByteArray).data.toList = true := Km.aw_chk
  rw [e] at h
  exact h
theorem kshort_size (l : List UInt8) (n : Nat) : (⟨(l.take n).toArray⟩ : ByteArray).size ≤ n := by
  show (l.take n).toArray.size ≤ n
  rw [List.size_toArray]
  exact List.length_take_le _ _

/-- A text of at most so many bytes. -/
def kcut (n : Nat) (s : ByteArray) : ByteArray := ⟨(s.data.toList.take n).toArray⟩
theorem kcut_size (n : Nat) (s : ByteArray) : (kcut n s).size ≤ n := kshort_size _ _
end Go.Proofs.Ytllagelopdedfaa
