/- What the document's Check of pasts answers. -/
import Derived.Test.YtplpeokmhomojaaPastCheck
import Derived.Test.YtplpeokmhomojaaPastSame
import Derived.Deep.QuietTactic
import Derived.BigQuiet
namespace Go.Proofs.Ytplpeokmhomojaa
open Go.RowKit
set_option linter.unusedVariables false
set_option linter.unusedSimpArgs false

theorem folD_false {p : List De} {d : De} (h : okD d = false) : folD p d = false := by simp [folD, h]
theorem folD_nil {d : De} (h : okD d = true) : folD [] d = true := by simp [folD, h]
theorem folD_at {l : List De} {k : Nat} {d : De} (hk : k + 1 ≤ l.length) (h : okD d = true) : folD (l.take (k + 1)) d = klt (l[k]'(by omega)).1 d.1 := by
  unfold folD
  rw [h, Bool.true_and, List.take_succ_eq_append_getElem (by omega), List.getLast?_concat]

set_option maxRecDepth 100000 in
set_option maxHeartbeats 3200000 in
theorem refPCheck_any (v : Value) (l : List De) (w : World) (hl : l.length ≤ 1000000) (hz : Szd l) (hr : DepAt w v l) :
    Calls Try.prog 24 #[v] w fun e w' => e = .returned (.bool (chkD l)) ∧ Below w.heap.size w w' := by
  obtain ⟨a, cap, rfl, hcap, hmx, _, hr⟩ := hr
  unfold maxLen at hmx
  have HR := Lib.hid hr
  have HZ := Lib.hid hz
  clear hr hz
  go_enter Try.func24, Try.ntmps24
  go_wp2
  go_loopw [3] (fun i wr => ∃ k : Nat, k ≤ l.length ∧ i = .int .i64 k ∧ Srt (l.take k) ∧ Below w.heap.size w wr) (fun i _ => l.length - (intOf i).toNat)
  case atStart => exact ⟨0, by omega, rfl, by simpa using Srt.nil, Below.refl _ _⟩
  case round =>
    obtain ⟨k, hk, rfl, hst, hbel⟩ := hrel
    have HS := Lib.hid hst
    clear hst
    by_cases hlt : k < l.length
    · obtain ⟨b, off, rfl, hbl, c0, c1, c2⟩ := HR.out.below hbel k hlt
      have HP := Lib.hid (@srt_step l k hlt)
      have HQ := Lib.hid (@srt_stop l k hlt)
      have hs := HZ.out l[k] (List.getElem_mem hlt)
      generalize l[k] = d at c0 c1 c2 HP HQ hs
      obtain ⟨x, y, z⟩ := d
      dsimp only at c0 c1 c2 hs
      go_wp2_with fail
      refine (refCheck_any x _ hs).mono ?_
      rintro e w1 ⟨rfl, rfl⟩
      generalize hkc : Km.chk x.data.toList = kc
      have HK := Lib.hid hkc
      clear hkc
      go_wp2_with fail
      refine (refSCheck_any y z _).mono ?_
      rintro e w2 ⟨rfl, hb1⟩
      have d0 := kcell hb1 hbl c0
      have HB := Lib.hid (bstep hbel hb1)
      clear c0 c1 c2 hb1 hbel
      generalize hsc : Sm.ok y z = sc
      have HC := Lib.hid hsc
      clear hsc
      have hod : okD (x, y, z) = (kc && sc) := by simp [okD, HK.out, HC.out]
      have HO := Lib.hid hod
      clear hod
      cases kc with
      | false =>
        go_wp2_with fail
        go_quiet (fail)
        go_wp2
        go_ret
        exact ⟨ret_bool (by rw [chkD, decide_eq_false (HQ.out (folD_false (by rw [HO.out]; rfl))), Bool.and_false]), bstep HB.out (bdrewN _ _)⟩
      | true =>
        cases sc with
        | false =>
          go_wp2_with fail
          go_quiet (fail)
          go_wp2
          go_ret
          exact ⟨ret_bool (by rw [chkD, decide_eq_false (HQ.out (folD_false (by rw [HO.out]; rfl))), Bool.and_false]), bstep HB.out (bdrewN _ _)⟩
        | true =>
          cases k with
          | zero =>
            go_wp2_with fail
            go_quiet (fail)
            go_wp2
            go_roundw
            case rel => exact ⟨1, by omega, by go_num, HP.out.2 ⟨HS.out, by rw [List.take_zero]; exact folD_nil HO.out⟩, bstep HB.out (bdrewN _ _)⟩
            case measure => simp [intOf]; omega
          | succ m =>
            obtain ⟨b', off', e', _, p0, _, _⟩ := HR.out.below HB.out m (by omega)
            cases e'
            have HF := Lib.hid (@folD_at l m (x, y, z) (by omega) HO.out)
            generalize (l[m]'(by omega)).1 = p at p0 HF
            have hw1 : IntKind.i64.wrap (m : Int) = (m : Int) := IntWalk.i64_in _ (by omega)
            have hw3 : (m : Int) < (l.length : Int) := by omega
            have hw4 : (m : Int) + 1 < (l.length : Int) := by omega
            have hbk : Hid (klt p x = Op.bytesLess p.toList x.toList) := Lib.hid (by rw [Lib.toList_data, Lib.toList_data]; rfl)
            cases hq : Op.bytesLess p.toList x.toList with
            | true =>
              go_wp2_with fail
              go_quiet (fail)
              go_wp2
              go_roundw
              case rel => exact ⟨m + 1 + 1, by omega, by go_num, HP.out.2 ⟨HS.out, by rw [HF.out, hbk.out]; exact hq⟩, bstep HB.out (bdrewN _ _)⟩
              case measure => simp [intOf]; omega
            | false =>
              go_wp2_with fail
              go_quiet (fail)
              go_wp2
              go_ret
              exact ⟨ret_bool (by rw [chkD, decide_eq_false (HQ.out (by rw [HF.out, hbk.out]; exact hq)), Bool.and_false]), bstep HB.out (bdrewN _ _)⟩
    · obtain rfl : k = l.length := by omega
      have HE : Hid (Srt l) := Lib.hid (by have h := HS.out; rw [List.take_of_length_le (Nat.le_refl _)] at h; exact h)
      go_wp2
      go_ret
      exact ⟨ret_bool (by rw [chkD, decide_eq_true HE.out, Bool.and_true]; simp; omega), hbel⟩
end Go.Proofs.Ytplpeokmhomojaa
