/- What past.Check and the document's Check answer. -/
import Derived.Test.YtplpeokmhomojaaPastSrt
namespace Go.Proofs.Ytplpeokmhomojaa
open Go.RowKit
set_option linter.unusedVariables false
set_option linter.unusedSimpArgs false

/-- No key is longer than a string can be. -/
def Szd (l : List De) : Prop := ∀ d ∈ l, d.1.size ≤ 9223372036854775807
theorem Srt.szd {l : List De} (h : Srt l) : Szd l := fun d hd => by have := okD_size (h.1 d hd); omega

theorem boxed3 {wr w1 : World} {x y z : Value} {T : TypeId} (hb : Below (wr.alloc (.cells #[x, y, z] T)).heap.size (wr.alloc (.cells #[x, y, z] T)) w1) : Below wr.heap.size wr w1 := (box3 hb).2.2.2.2

set_option maxRecDepth 100000 in
set_option maxHeartbeats 1600000 in
theorem pcheck_any (v : Value) (l : List De) (w : World) (hl : l.length ≤ 1000000) (hz : Szd l) (hr : DepAt w v l) :
    Calls Try.prog 23 #[v] w fun e w' => e = .returned (.bool (chkD l)) ∧ Below w.heap.size w w' := by
  obtain ⟨a, cap, rfl, hcap, hmx, _, hr⟩ := hr
  unfold maxLen at hmx
  have HR := Lib.hid hr
  have HZ := Lib.hid hz
  clear hr hz
  by_cases h24 : l.length ≤ 24
  · have hlt24 : ¬ (24 : Int) < (l.length : Int) := by omega
    have hc24 : chkD l = decide (Srt l) := by simp [chkD, h24]
    rw [hc24]
    clear hc24
    go_enter Try.func23, Try.ntmps23
    go_wp2
    go_loopw [10] (fun i wr => ∃ k : Nat, k ≤ l.length ∧ i = .int .i64 k ∧ Srt (l.take k) ∧ Below w.heap.size w wr) (fun i _ => l.length - (intOf i).toNat)
    case atStart => exact ⟨0, by omega, rfl, by simpa using Srt.nil, Below.refl _ _⟩
    case round =>
      obtain ⟨k, hk, rfl, hst, hbel⟩ := hrel
      have HS := Lib.hid hst
      clear hst
      by_cases hlt : k < l.length
      · obtain ⟨b, off, rfl, hbl, c0, c1, c2⟩ := HR.out.below hbel k hlt
        have HD := Lib.hid (HR.out.below hbel)
        have HP := Lib.hid (@srt_step l k hlt)
        have HQ := Lib.hid (@srt_stop l k hlt)
        have hs := HZ.out l[k] (List.getElem_mem hlt)
        generalize l[k] = d at c0 c1 c2 HP HQ hs
        obtain ⟨x, y, z⟩ := d
        dsimp only at c0 c1 c2 hs
        have hki : (k : Int) ≤ (cap : Int) := by omega
        have g0 : (wr.alloc (.cells #[.string x, .int .i64 y, .int .i64 z] 26)).cell? ⟨wr.heap.size, 0, none⟩ = some (.string x) ∧ (wr.alloc (.cells #[.string x, .int .i64 y, .int .i64 z] 26)).cell? ⟨wr.heap.size, 1, none⟩ = some (.int .i64 y) ∧ (wr.alloc (.cells #[.string x, .int .i64 y, .int .i64 z] 26)).cell? ⟨wr.heap.size, 2, none⟩ = some (.int .i64 z) := by
          refine ⟨?_, ?_, ?_⟩ <;> simp
        have HG := Lib.hid (HD.out.below (balloc (Below.refl _ wr) (.cells #[.string x, .int .i64 y, .int .i64 z] 26)))
        have hkl : Hid ((l.take k).length = k) := Lib.hid (by simp; omega)
        generalize hf : folD (l.take k) (x, y, z) = c at HP HQ
        have HF := Lib.hid hf
        clear hf
        go_wp2_with fail
        go_region_held3 (fun w' => w'.cell? ⟨wr.heap.size, 0, none⟩ = some (.string x) ∧ w'.cell? ⟨wr.heap.size, 1, none⟩ = some (.int .i64 y) ∧ w'.cell? ⟨wr.heap.size, 2, none⟩ = some (.int .i64 z))
          (first | exact g0 | exact g1)
          (first
            | (go_at_call 54; ((refine (follows_at _ k cap (l.take k) x y z c _ hkl.out (by have := hkl.out; omega) (HG.out.take k).drew hs HF.out).mono ?_); rintro e wa ⟨rfl, ha⟩; have g1 := keepC3 ha g0)))
        have hb2 := bstep hbel (boxed3 (bstep (Below.refl _ _).drew ha))
        cases c with
        | true =>
          go_wp2
          go_roundw
          case rel => exact ⟨k + 1, by omega, by go_num, HP.out.2 ⟨HS.out, rfl⟩, hb2⟩
          case measure => simp [intOf]; omega
        | false =>
          go_wp2
          go_ret
          exact ⟨ret_bool (decide_eq_false (HQ.out (by first | rfl | trivial))).symm, hb2⟩
      · obtain rfl : k = l.length := by omega
        have HE : Hid (Srt l) := Lib.hid (by have h := HS.out; rw [List.take_of_length_le (Nat.le_refl _)] at h; exact h)
        go_wp2
        go_ret
        exact ⟨ret_bool (decide_eq_true HE.out).symm, hbel⟩
  · have hlt24 : (24 : Int) < (l.length : Int) := by omega
    rw [show chkD l = false by simp [chkD, h24]]
    go_enter Try.func23, Try.ntmps23
    go_wp2
    go_ret
    exact ⟨rfl, Below.refl _ _⟩
end Go.Proofs.Ytplpeokmhomojaa
