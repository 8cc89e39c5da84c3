/- What Answer does. -/
import Derived.Test.YtgaghlofcokijaaNetCopy
import Derived.StillTailTactics
import Derived.Laws.CopyOwn
import Derived.Deep.RegionLaw
import Derived.Lib.SlBuf
namespace Go.Proofs.Ytgaghlofcokijaa
open Go.RowKit
set_option linter.unusedVariables false
set_option linter.unusedSimpArgs false

theorem snp_drew {w : World} {b : Nat} {nx cn : Int} {pc : Nat → Int} {pd : Nat → ByteArray} (h : SnP w b nx cn pc pd) : SnP w.drew b nx cn pc pd := ⟨h.c0, h.cc, h.ci, h.cd, h.f⟩
/-- What an Answer leaves. -/
def AnsAt (w : World) (b ans : Nat) (op : List ByteArray) (seq : Int) (e : Ending) (w' : World) : Prop := e = .returned (.int .i64 (Lk.ak ans op.length seq : Int)) ∧ SnAt w' b (ans + Lk.ak ans op.length seq) (op.drop (Lk.ak ans op.length seq)) ∧ MvS b w w'

set_option maxRecDepth 100000 in
theorem answer_nil (seq : Int) (w : World) :
    Calls Try.prog 30 #[.pointer none, .int .i64 seq] w fun e w' => e = .returned (.int .i64 0) ∧ w' = w := by
  go_enter Try.func30, Try.ntmps30
  go_wp2
  go_ret
  exact ⟨rfl, rfl⟩

set_option maxRecDepth 100000 in
theorem answer_high (b ans : Nat) (op : List ByteArray) (seq : Int) (w : World) (h : SnAt w b ans op) (hs : ((ans + op.length : Nat) : Int) < seq) :
    Calls Try.prog 30 #[.pointer (some ⟨b, 0, none⟩), .int .i64 seq] w fun e w' => e = .returned (.int .i64 0) ∧ w' = w := by
  obtain ⟨_, _, _, h, _⟩ := h
  have hc := h.c0
  clear h
  generalize ((ans + op.length : Nat) : Int) = n at *
  have q1 : decide (n < seq) = true := by simpa using hs
  go_enter Try.func30, Try.ntmps30
  go_wp2_with fail
  refine (number_at b n w hc).mono ?_
  rintro e w2 ⟨rfl, rfl⟩
  go_wp2
  go_ret
  exact ⟨rfl, rfl⟩

set_option maxRecDepth 100000 in
set_option maxHeartbeats 3200000 in
theorem answer_low (b ans : Nat) (op : List ByteArray) (seq : Int) (w : World) (h : SnAt w b ans op) (hs : seq ≤ ((ans + op.length : Nat) : Int)) :
    Calls Try.prog 30 #[.pointer (some ⟨b, 0, none⟩), .int .i64 seq] w (AnsAt w b ans op seq) := by
  obtain ⟨h8, pc, pd, h, hh⟩ := h
  have hc := h.c0
  have hcc := h.cc
  have HP := Lib.hid h
  have HH := Lib.hid hh
  have q1 : decide (((ans + op.length : Nat) : Int) < seq) = false := by simp; omega
  have HK : Hid (∀ k : Nat, k ≤ op.length → (k = 0 ∨ ((ans + k : Nat) : Int) ≤ seq) → (k = op.length ∨ seq ≤ ((ans + k : Nat) : Int)) → k = Lk.ak ans op.length seq) := Lib.hid (fun k h1 h2 h3 => by
    unfold Lk.ak
    rw [if_pos hs]
    omega)
  unfold AnsAt
  generalize hN : ((ans + op.length : Nat) : Int) = N at hc q1
  have HNN := Lib.hid hN
  clear h hh hs hN
  go_enter Try.func30, Try.ntmps30
  go_wp2_with fail
  refine (number_at b N w hc).mono ?_
  rintro e w2 ⟨rfl, rfl⟩
  go_wp2_with fail
  go_loop [5] (fun i => ∃ k : Nat, k ≤ op.length ∧ i = .int .i64 k ∧ Hid (k = 0 ∨ ((ans + k : Nat) : Int) ≤ seq)) (fun i => op.length - (intOf i).toNat)
  case atStart => exact ⟨0, by omega, rfl, Lib.hid (.inl rfl)⟩
  case round =>
    obtain ⟨k, hk, rfl, HL⟩ := hrel
    by_cases hlt : k < op.length
    · have hki : (k : Int) < (op.length : Int) := by omega
      have hx := HP.out.ci k (by omega)
      rw [(HH.out k hlt).1] at hx
      have hk8 : (k : Int) < 8 := by omega
      obtain ⟨z, hz⟩ : ∃ z : Int, z = ((ans + k : Nat) : Int) := ⟨_, rfl⟩
      rw [← hz] at hx
      by_cases hg : z < seq
      · have HG : Hid (((ans + k : Nat) : Int) < seq) := Lib.hid (by omega)
        clear hz
        go_wp2
        go_round
        case rel => exact ⟨k + 1, by omega, by go_num, Lib.hid (.inr (by have := HG.out; omega))⟩
        case measure => simp [intOf]; omega
      · have hkk := HK.out k hk HL.out (.inr (by omega))
        have HKK := Lib.hid hkk
        have q3 : decide (z < seq) = false := by simp; omega
        have i8 : (op.length : Int) ≤ 8 := by omega
        have ik : (k : Int) ≤ (op.length : Int) := by omega
        have kl8 : k < 8 := by omega
        clear hkk hg HL HK hlt hz
        go_upto_region 6 with fail
        have hPD := snp_drew HP.out
        rw [HNN.out] at hPD
        have HPD : Hid (SnP w2.drew b N (op.length : Int) pc pd) := Lib.hid hPD
        obtain ⟨w4, hcp, ⟨pc4, pd4, hP4, hh4⟩, hm4⟩ := copy_pk HPD.out h8 HH.out hk
        have HCP := Lib.hid (fun ty sc => hcp ty ⟨b, 1 + k * 2, none⟩ sc (fun h => by first | rfl | omega))
        have HM4 := Lib.hid ((MvS.of_below (b := b) (bdrew10 w2 1)).trans hm4)
        have HP4 := Lib.hid hP4
        have HH4 := Lib.hid hh4
        have g17 := hP4.cc
        have f17 := hP4.f 17
        clear hcp hP4 hh4 hm4 hPD HPD
        go_region_law (refine step_builtin_run rfl (.tmp 39) (.tmp 48) _ _ rfl (.slice (some ⟨b, 1, none⟩) 8 8) (.slice (some ⟨b, 1 + k * 2, none⟩) (op.length - k) (8 - k)) (by simp [Act.eval, Act.put]) (by simp [Act.eval, Act.put]; try omega) (HCP.out _ _) ?_)
        have HP5 := Lib.hid (HP4.out.setC ((op.length - k : Nat) : Int))
        have HM5 := Lib.hid (HM4.out.set (o := 17) (by omega) (.int .i64 ((op.length - k : Nat) : Int)))
        clear HCP HM4 HP4 g17 f17 hcc hc
        generalize w4.setCell ⟨b, 17, none⟩ (.int .i64 ((op.length - k : Nat) : Int)) = w5 at *
        have HMM : Hid (op.length - k ≤ 8) := Lib.hid (by omega)
        have i9 : ((op.length - k : Nat) : Int) ≤ 8 := by have := HMM.out; omega
        have HML : Hid (op.length - k = (op.drop k).length) := Lib.hid (by rw [List.length_drop])
        have HIX : Hid (∀ i (h : i < op.length - k), op[k + i]'(by omega) = (op.drop k)[i]'(by rw [List.length_drop]; exact h)) := Lib.hid (fun i h => by rw [List.getElem_drop])
        have HH5 : Hid (∀ i (h : i < (op.drop k).length), pc4 i = ((ans + k + i : Nat) : Int) ∧ pd4 i = (op.drop k)[i]) := Lib.hid (fun i h => by
          have := HH4.out i (by rw [HML.out]; exact h)
          exact ⟨this.1, this.2.trans (HIX.out i (by rw [HML.out]; exact h))⟩)
        have HNE : Hid (N = ((ans + k + (op.drop k).length : Nat) : Int)) := Lib.hid (by rw [← HNN.out, List.length_drop]; omega)
        clear HH4 HIX
        have g17 := HP5.out.cc
        generalize op.length - k = m at *
        rcases (show m = 8 ∨ m < 8 by have := HMM.out; omega) with hm8 | hm8
        · have hPE := snp_drew HP5.out
          obtain ⟨w6, hcl, ⟨pc6, pd6, hP6, hh6⟩, hm6⟩ := clear_pk hPE HMM.out
          have HCL := Lib.hid (fun ty sc => hcl ty ⟨b, 1, none⟩ sc (fun h => by first | rfl | omega))
          have HM6 := Lib.hid (HM5.out.trans ((MvS.of_below (b := b) (bdrew10 w5 1)).trans hm6))
          have HP6 := Lib.hid hP6
          have HH6 : Hid (∀ i (h : i < (op.drop k).length), pc6 i = ((ans + k + i : Nat) : Int) ∧ pd6 i = (op.drop k)[i]) := Lib.hid (fun i h => by
            obtain ⟨e1, e2⟩ := hh6 i (by rw [HML.out]; exact h)
            rw [e1, e2]
            exact HH5.out i h)
          have m8i : ((m : Nat) : Int) = 8 := by omega
          clear hcl hP6 hh6 hm6 hPE HP5 HM5 HH5
          go_wp2_with fail
          go_region_law (refine step_clear_run rfl (.tmp 59) _ rfl (.slice (some ⟨b, 1, none⟩) (8 - m) (8 - m)) (by simp [Act.eval, Act.put]; try omega) (HCL.out _ _) ?_)
          go_wp2
          go_ret
          have hp6 := HP6.out
          rw [HML.out, HNE.out] at hp6
          rw [← HKK.out]
          exact ⟨rfl, ⟨by rw [← HML.out]; exact HMM.out, pc6, pd6, hp6, HH6.out⟩, HM6.out⟩
        · have hPE := snp_drew HP5.out
          obtain ⟨w6, hcl, ⟨pc6, pd6, hP6, hh6⟩, hm6⟩ := clear_pk hPE HMM.out
          have HCL := Lib.hid (fun ty sc => hcl ty ⟨b, 1 + m * 2, none⟩ sc (fun h => by first | rfl | omega))
          have HM6 := Lib.hid (HM5.out.trans ((MvS.of_below (b := b) (bdrew10 w5 1)).trans hm6))
          have HP6 := Lib.hid hP6
          have HH6 : Hid (∀ i (h : i < (op.drop k).length), pc6 i = ((ans + k + i : Nat) : Int) ∧ pd6 i = (op.drop k)[i]) := Lib.hid (fun i h => by
            obtain ⟨e1, e2⟩ := hh6 i (by rw [HML.out]; exact h)
            rw [e1, e2]
            exact HH5.out i h)
          have m8i : ((m : Nat) : Int) < 8 := by omega
          clear hcl hP6 hh6 hm6 hPE HP5 HM5 HH5
          go_wp2_with fail
          go_region_law (refine step_clear_run rfl (.tmp 59) _ rfl (.slice (some ⟨b, 1 + m * 2, none⟩) (8 - m) (8 - m)) (by simp [Act.eval, Act.put]; try omega) (HCL.out _ _) ?_)
          go_wp2
          go_ret
          have hp6 := HP6.out
          rw [HML.out, HNE.out] at hp6
          rw [← HKK.out]
          exact ⟨rfl, ⟨by rw [← HML.out]; exact HMM.out, pc6, pd6, hp6, HH6.out⟩, HM6.out⟩
    · have hkl : k = op.length := by omega
      have hkk := HK.out k hk HL.out (.inl hkl)
      have HKK := Lib.hid hkk
      have q3 : decide (k < op.length) = false := by simp; omega
      have q4 : decide ((k : Int) < (op.length : Int)) = false := by simp; omega
      have i8 : (op.length : Int) ≤ 8 := by omega
      have ik : (k : Int) ≤ (op.length : Int) := by omega
      rcases (show k = 8 ∨ k < 8 by omega) with hk8 | hk8
      · have ik8 : (8 : Int) ≤ (op.length : Int) := by omega
        have ik8n : 8 ≤ op.length := by omega
        clear hkk HL HK hlt hkl
        go_upto_region 6 with fail
        have hPD := snp_drew HP.out
        rw [HNN.out] at hPD
        have HPD : Hid (SnP w2.drew b N (op.length : Int) pc pd) := Lib.hid hPD
        obtain ⟨w4, hcp, ⟨pc4, pd4, hP4, hh4⟩, hm4⟩ := copy_pk HPD.out h8 HH.out hk
        have HCP := Lib.hid (fun ty sc => hcp ty ⟨b, 1, none⟩ sc (fun h => by first | rfl | omega))
        have HM4 := Lib.hid ((MvS.of_below (b := b) (bdrew10 w2 1)).trans hm4)
        have HP4 := Lib.hid hP4
        have HH4 := Lib.hid hh4
        have g17 := hP4.cc
        have f17 := hP4.f 17
        clear hcp hP4 hh4 hm4 hPD HPD
        go_region_law (refine step_builtin_run rfl (.tmp 39) (.tmp 48) _ _ rfl (.slice (some ⟨b, 1, none⟩) 8 8) (.slice (some ⟨b, 1, none⟩) (op.length - k) (8 - k)) (by simp [Act.eval, Act.put]) (by simp [Act.eval, Act.put]; try omega) (HCP.out _ _) ?_)
        have HP5 := Lib.hid (HP4.out.setC ((op.length - k : Nat) : Int))
        have HM5 := Lib.hid (HM4.out.set (o := 17) (by omega) (.int .i64 ((op.length - k : Nat) : Int)))
        clear HCP HM4 HP4 g17 f17 hcc hc
        have e0 : ((op.length - k : Nat) : Int) = 0 := by omega
        rw [e0] at HP5 HM5
        generalize w4.setCell ⟨b, 17, none⟩ (.int .i64 0) = w5 at *
        rw [← e0] at HP5
        clear e0
        have HMM : Hid (op.length - k ≤ 8) := Lib.hid (by omega)
        have i9 : ((op.length - k : Nat) : Int) ≤ 8 := by have := HMM.out; omega
        have HML : Hid (op.length - k = (op.drop k).length) := Lib.hid (by rw [List.length_drop])
        have HIX : Hid (∀ i (h : i < op.length - k), op[k + i]'(by omega) = (op.drop k)[i]'(by rw [List.length_drop]; exact h)) := Lib.hid (fun i h => by rw [List.getElem_drop])
        have HH5 : Hid (∀ i (h : i < (op.drop k).length), pc4 i = ((ans + k + i : Nat) : Int) ∧ pd4 i = (op.drop k)[i]) := Lib.hid (fun i h => by
          have := HH4.out i (by rw [HML.out]; exact h)
          exact ⟨this.1, this.2.trans (HIX.out i (by rw [HML.out]; exact h))⟩)
        have HNE : Hid (N = ((ans + k + (op.drop k).length : Nat) : Int)) := Lib.hid (by rw [← HNN.out, List.length_drop]; omega)
        clear HH4 HIX
        have g17 := HP5.out.cc
        generalize op.length - k = m at *
        rcases (show m = 8 ∨ m < 8 by have := HMM.out; omega) with hm8 | hm8
        · have hPE := snp_drew HP5.out
          obtain ⟨w6, hcl, ⟨pc6, pd6, hP6, hh6⟩, hm6⟩ := clear_pk hPE HMM.out
          have HCL := Lib.hid (fun ty sc => hcl ty ⟨b, 1, none⟩ sc (fun h => by first | rfl | omega))
          have HM6 := Lib.hid (HM5.out.trans ((MvS.of_below (b := b) (bdrew10 w5 1)).trans hm6))
          have HP6 := Lib.hid hP6
          have HH6 : Hid (∀ i (h : i < (op.drop k).length), pc6 i = ((ans + k + i : Nat) : Int) ∧ pd6 i = (op.drop k)[i]) := Lib.hid (fun i h => by
            obtain ⟨e1, e2⟩ := hh6 i (by rw [HML.out]; exact h)
            rw [e1, e2]
            exact HH5.out i h)
          have m8i : ((m : Nat) : Int) = 8 := by omega
          clear hcl hP6 hh6 hm6 hPE HP5 HM5 HH5
          go_wp2_with fail
          go_region_law (refine step_clear_run rfl (.tmp 59) _ rfl (.slice (some ⟨b, 1, none⟩) (8 - m) (8 - m)) (by simp [Act.eval, Act.put]; try omega) (HCL.out _ _) ?_)
          go_wp2
          go_ret
          have hp6 := HP6.out
          rw [HML.out, HNE.out] at hp6
          rw [← HKK.out]
          exact ⟨ret_int (by omega), ⟨by rw [← HML.out]; exact HMM.out, pc6, pd6, hp6, HH6.out⟩, HM6.out⟩
        · have hPE := snp_drew HP5.out
          obtain ⟨w6, hcl, ⟨pc6, pd6, hP6, hh6⟩, hm6⟩ := clear_pk hPE HMM.out
          have HCL := Lib.hid (fun ty sc => hcl ty ⟨b, 1 + m * 2, none⟩ sc (fun h => by first | rfl | omega))
          have HM6 := Lib.hid (HM5.out.trans ((MvS.of_below (b := b) (bdrew10 w5 1)).trans hm6))
          have HP6 := Lib.hid hP6
          have HH6 : Hid (∀ i (h : i < (op.drop k).length), pc6 i = ((ans + k + i : Nat) : Int) ∧ pd6 i = (op.drop k)[i]) := Lib.hid (fun i h => by
            obtain ⟨e1, e2⟩ := hh6 i (by rw [HML.out]; exact h)
            rw [e1, e2]
            exact HH5.out i h)
          have m8i : ((m : Nat) : Int) < 8 := by omega
          clear hcl hP6 hh6 hm6 hPE HP5 HM5 HH5
          go_wp2_with fail
          go_region_law (refine step_clear_run rfl (.tmp 59) _ rfl (.slice (some ⟨b, 1 + m * 2, none⟩) (8 - m) (8 - m)) (by simp [Act.eval, Act.put]; try omega) (HCL.out _ _) ?_)
          go_wp2
          go_ret
          have hp6 := HP6.out
          rw [HML.out, HNE.out] at hp6
          rw [← HKK.out]
          exact ⟨ret_int (by omega), ⟨by rw [← HML.out]; exact HMM.out, pc6, pd6, hp6, HH6.out⟩, HM6.out⟩
      · have ki8 : (k : Int) < 8 := by omega
        clear hkk HL HK hlt hkl
        go_upto_region 6 with fail
        have hPD := snp_drew HP.out
        rw [HNN.out] at hPD
        have HPD : Hid (SnP w2.drew b N (op.length : Int) pc pd) := Lib.hid hPD
        obtain ⟨w4, hcp, ⟨pc4, pd4, hP4, hh4⟩, hm4⟩ := copy_pk HPD.out h8 HH.out hk
        have HCP := Lib.hid (fun ty sc => hcp ty ⟨b, 1 + k * 2, none⟩ sc (fun h => by first | rfl | omega))
        have HM4 := Lib.hid ((MvS.of_below (b := b) (bdrew10 w2 1)).trans hm4)
        have HP4 := Lib.hid hP4
        have HH4 := Lib.hid hh4
        have g17 := hP4.cc
        have f17 := hP4.f 17
        clear hcp hP4 hh4 hm4 hPD HPD
        go_region_law (refine step_builtin_run rfl (.tmp 39) (.tmp 48) _ _ rfl (.slice (some ⟨b, 1, none⟩) 8 8) (.slice (some ⟨b, 1 + k * 2, none⟩) (op.length - k) (8 - k)) (by simp [Act.eval, Act.put]) (by simp [Act.eval, Act.put]; try omega) (HCP.out _ _) ?_)
        have HP5 := Lib.hid (HP4.out.setC ((op.length - k : Nat) : Int))
        have HM5 := Lib.hid (HM4.out.set (o := 17) (by omega) (.int .i64 ((op.length - k : Nat) : Int)))
        clear HCP HM4 HP4 g17 f17 hcc hc
        generalize w4.setCell ⟨b, 17, none⟩ (.int .i64 ((op.length - k : Nat) : Int)) = w5 at *
        have HMM : Hid (op.length - k ≤ 8) := Lib.hid (by omega)
        have i9 : ((op.length - k : Nat) : Int) ≤ 8 := by have := HMM.out; omega
        have HML : Hid (op.length - k = (op.drop k).length) := Lib.hid (by rw [List.length_drop])
        have HIX : Hid (∀ i (h : i < op.length - k), op[k + i]'(by omega) = (op.drop k)[i]'(by rw [List.length_drop]; exact h)) := Lib.hid (fun i h => by rw [List.getElem_drop])
        have HH5 : Hid (∀ i (h : i < (op.drop k).length), pc4 i = ((ans + k + i : Nat) : Int) ∧ pd4 i = (op.drop k)[i]) := Lib.hid (fun i h => by
          have := HH4.out i (by rw [HML.out]; exact h)
          exact ⟨this.1, this.2.trans (HIX.out i (by rw [HML.out]; exact h))⟩)
        have HNE : Hid (N = ((ans + k + (op.drop k).length : Nat) : Int)) := Lib.hid (by rw [← HNN.out, List.length_drop]; omega)
        clear HH4 HIX
        have g17 := HP5.out.cc
        generalize op.length - k = m at *
        rcases (show m = 8 ∨ m < 8 by have := HMM.out; omega) with hm8 | hm8
        · have hPE := snp_drew HP5.out
          obtain ⟨w6, hcl, ⟨pc6, pd6, hP6, hh6⟩, hm6⟩ := clear_pk hPE HMM.out
          have HCL := Lib.hid (fun ty sc => hcl ty ⟨b, 1, none⟩ sc (fun h => by first | rfl | omega))
          have HM6 := Lib.hid (HM5.out.trans ((MvS.of_below (b := b) (bdrew10 w5 1)).trans hm6))
          have HP6 := Lib.hid hP6
          have HH6 : Hid (∀ i (h : i < (op.drop k).length), pc6 i = ((ans + k + i : Nat) : Int) ∧ pd6 i = (op.drop k)[i]) := Lib.hid (fun i h => by
            obtain ⟨e1, e2⟩ := hh6 i (by rw [HML.out]; exact h)
            rw [e1, e2]
            exact HH5.out i h)
          have m8i : ((m : Nat) : Int) = 8 := by omega
          clear hcl hP6 hh6 hm6 hPE HP5 HM5 HH5
          go_wp2_with fail
          go_region_law (refine step_clear_run rfl (.tmp 59) _ rfl (.slice (some ⟨b, 1, none⟩) (8 - m) (8 - m)) (by simp [Act.eval, Act.put]; try omega) (HCL.out _ _) ?_)
          go_wp2
          go_ret
          have hp6 := HP6.out
          rw [HML.out, HNE.out] at hp6
          rw [← HKK.out]
          exact ⟨rfl, ⟨by rw [← HML.out]; exact HMM.out, pc6, pd6, hp6, HH6.out⟩, HM6.out⟩
        · have hPE := snp_drew HP5.out
          obtain ⟨w6, hcl, ⟨pc6, pd6, hP6, hh6⟩, hm6⟩ := clear_pk hPE HMM.out
          have HCL := Lib.hid (fun ty sc => hcl ty ⟨b, 1 + m * 2, none⟩ sc (fun h => by first | rfl | omega))
          have HM6 := Lib.hid (HM5.out.trans ((MvS.of_below (b := b) (bdrew10 w5 1)).trans hm6))
          have HP6 := Lib.hid hP6
          have HH6 : Hid (∀ i (h : i < (op.drop k).length), pc6 i = ((ans + k + i : Nat) : Int) ∧ pd6 i = (op.drop k)[i]) := Lib.hid (fun i h => by
            obtain ⟨e1, e2⟩ := hh6 i (by rw [HML.out]; exact h)
            rw [e1, e2]
            exact HH5.out i h)
          have m8i : ((m : Nat) : Int) < 8 := by omega
          clear hcl hP6 hh6 hm6 hPE HP5 HM5 HH5
          go_wp2_with fail
          go_region_law (refine step_clear_run rfl (.tmp 59) _ rfl (.slice (some ⟨b, 1 + m * 2, none⟩) (8 - m) (8 - m)) (by simp [Act.eval, Act.put]; try omega) (HCL.out _ _) ?_)
          go_wp2
          go_ret
          have hp6 := HP6.out
          rw [HML.out, HNE.out] at hp6
          rw [← HKK.out]
          exact ⟨rfl, ⟨by rw [← HML.out]; exact HMM.out, pc6, pd6, hp6, HH6.out⟩, HM6.out⟩

theorem answer_at (b ans : Nat) (op : List ByteArray) (seq : Int) (w : World) (h : SnAt w b ans op) :
    Calls Try.prog 30 #[.pointer (some ⟨b, 0, none⟩), .int .i64 seq] w (AnsAt w b ans op seq) := by
  by_cases hs : seq ≤ ((ans + op.length : Nat) : Int)
  · exact answer_low b ans op seq w h hs
  · refine (answer_high b ans op seq w h (by omega)).mono ?_
    rintro e w' ⟨rfl, rfl⟩
    unfold AnsAt
    rw [Lk.ak_no (by omega)]
    exact ⟨rfl, by simpa using h, MvS.refl _ _⟩
end Go.Proofs.Ytgaghlofcokijaa
