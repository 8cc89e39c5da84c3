/- What the document's Runes, Check, Good and Meet answer. -/
import Derived.Test.YtllagelopdedfaaKeysHas
namespace Go.Proofs.Ytllagelopdedfaa
open Go.RowKit
set_option linter.unusedVariables false

set_option maxRecDepth 100000 in
theorem refLong_any (c : Nat) (w : World) (hc : c < 256) :
    Calls Try.prog 115 #[.int .u8 c] w fun e w' => e = .returned (.int .i64 (Km.lead c)) ∧ w = w' := by
  go_enter Try.func115, Try.ntmps115
  go_wp2
  all_goals
    go_ret
    refine ⟨ret_int ?_, rfl⟩
    unfold Km.lead
    repeat' split
    all_goals omega

set_option maxRecDepth 100000 in
set_option maxHeartbeats 4000000 in
theorem refRunes_any (s : ByteArray) (w : World) (hs : s.size ≤ 9223372036854775807) :
    Calls Try.prog 110 #[.string s] w fun e w' => e = .returned (.int .i64 (Km.runesV s.data.toList)) ∧ w = w' := by
  go_enter Try.func110, Try.ntmps110
  go_wp2
  go_loop [3, 4] (fun n i => ∃ pos acc : Nat, pos ≤ s.size ∧ acc ≤ pos ∧ n = .int .i64 acc ∧ i = .int .i64 pos ∧ Km.cnt 0 s.data.toList = (Km.cnt 0 (s.data.toList.drop pos)).map (· + acc)) (fun _ i => s.size - (intOf i).toNat)
  case atStart => exact ⟨0, 0, by omega, by omega, rfl, rfl, by simp⟩
  case round =>
    obtain ⟨pos, acc, hp, hap, rfl, rfl, he⟩ := hrel
    have He := Lib.hid he
    clear he
    by_cases hlt : pos < s.size
    · have Hne := Lib.hid (drop_ne s pos hlt)
      go_wp2_with fail
      refine (refLong_any s[pos].toNat _ s[pos].toNat_lt).mono ?_
      rintro e w' ⟨rfl, rfl⟩
      have hn0 : s[pos].toNat = Km.nth (s.data.toList.drop pos) 0 := by rw [Km.nth_get s pos hlt, Km.nth_drop]; rfl
      have hdl := drop_len s pos hp
      have Hdl := Lib.hid hdl
      have Hk4 := Lib.hid (Km.lead_le s[pos].toNat)
      generalize hk : Km.lead s[pos].toNat = k at Hk4
      have hk4 : k ≤ 4 := Hk4.out
      have Hk : Hid (Km.lead (Km.nth (s.data.toList.drop pos) 0) = k) := by rw [← hn0]; exact Lib.hid hk
      have Hn0 := Lib.hid hn0
      clear hn0 hk hdl Hk4
      by_cases hk0 : k = 0
      · have h1 : ((k : Int) == 0) = true := by simpa using hk0
        have HK0 := Lib.hid hk0
        clear hk0
        go_wp2
        go_ret
        refine ⟨ret_int (cnt_none He.out Hne.out (.inl (Km.wid_bad_lead Hne.out (.inl ?_)))).symm, rfl⟩
        rw [Hk.out]; exact HK0.out
      have h1 : ((k : Int) == 0) = false := by simpa using hk0
      by_cases hk1 : s.size - pos < k
      · have h2 : decide ((s.size : Int) - (pos : Int) < (k : Int)) = true := by simp; omega
        have HK1 := Lib.hid hk1
        clear hk0 hk1
        go_wp2
        go_ret
        refine ⟨ret_int (cnt_none He.out Hne.out (.inl (Km.wid_bad_lead Hne.out (.inr ?_)))).symm, rfl⟩
        rw [Hk.out, Hdl.out]; exact HK1.out
      have h2 : decide ((s.size : Int) - (pos : Int) < (k : Int)) = false := by simp; omega
      have hk1' : pos + k ≤ s.size := by omega
      clear hk1
      go_wp2
      go_loop [6] (fun i => ∃ j : Nat, 1 ≤ j ∧ j ≤ k ∧ i = .int .i64 j ∧ ∀ m, 1 ≤ m → m < j → Km.okc (Km.nth (s.data.toList.drop pos) m)) (fun i => k - (intOf i).toNat)
      case atStart => exact ⟨1, by omega, by omega, rfl, fun m a b => by omega⟩
      case round =>
        obtain ⟨j, hj1, hjk, rfl, hall⟩ := hrel
        have HA := Lib.hid hall
        clear hall
        by_cases hj : j < k
        · have hlj : pos + j < s.size := by omega
          have hnj : s[pos + j].toNat = Km.nth (s.data.toList.drop pos) j := by rw [Km.nth_get s (pos + j) hlj, Km.nth_drop]
          have HNJ := Lib.hid hnj
          clear hnj
          by_cases ho : 128 ≤ s[pos + j].toNat ∧ s[pos + j].toNat ≤ 191
          · have HO := Lib.hid ho
            have t1 : decide ((s[pos + j].toNat : Int) < 128) = false := by simp; omega
            have t2 : decide ((191 : Int) < (s[pos + j].toNat : Int)) = false := by simp; omega
            clear ho
            go_wp2
            go_round
            case rel =>
              refine ⟨j + 1, by omega, by omega, by go_num, fun m a b => ?_⟩
              by_cases e : m = j
              · subst e; rw [← HNJ.out]; exact HO.out
              · exact HA.out m a (by omega)
            case measure => simp [intOf]; omega
          · have HO : Hid (¬ Km.okc (Km.nth (s.data.toList.drop pos) j)) := by rw [← HNJ.out]; exact Lib.hid ho
            have HW := Lib.hid (Km.wid_bad_cont Hne.out hj1 (by rw [Hk.out]; exact hj) HO.out)
            rcases (show s[pos + j].toNat < 128 ∨ (¬ s[pos + j].toNat < 128 ∧ 191 < s[pos + j].toNat) by omega) with h | ⟨h, h'⟩
            · have t1 : decide ((s[pos + j].toNat : Int) < 128) = true := by simp; omega
              clear ho h
              go_wp2
              go_ret
              exact ⟨ret_int (cnt_none He.out Hne.out (.inl HW.out)).symm, rfl⟩
            · have t1 : decide ((s[pos + j].toNat : Int) < 128) = false := by simp; omega
              have t2 : decide ((191 : Int) < (s[pos + j].toNat : Int)) = true := by simp; omega
              clear ho h h'
              go_wp2
              go_ret
              exact ⟨ret_int (cnt_none He.out Hne.out (.inl HW.out)).symm, rfl⟩
        · obtain rfl : j = k := by omega
          by_cases hsp : s[pos].toNat = 224 ∨ s[pos].toNat = 237 ∨ s[pos].toNat = 240 ∨ s[pos].toNat = 244
          · have hj2 : 2 ≤ j := by
              have e := Hk.out
              rw [← Hn0.out] at e
              rw [← e]
              rcases hsp with h | h | h | h <;> rw [h] <;> decide
            have hl1 : pos + 1 < s.size := by omega
            have hn1 : s[pos + 1].toNat = Km.nth (s.data.toList.drop pos) 1 := by rw [Km.nth_get s (pos + 1) hl1, Km.nth_drop]
            have HN1 := Lib.hid hn1
            clear hn1
            have HB : ∀ (h : Km.spec s[pos].toNat s[pos + 1].toNat), Hid (Km.wid (s.data.toList.drop pos) = 0) := fun h => by
              rw [Hn0.out, HN1.out] at h
              exact Lib.hid (Km.wid_bad_spec Hne.out h)
            have HG : ∀ (h : ¬ Km.spec s[pos].toNat s[pos + 1].toNat), Hid (Km.wid (s.data.toList.drop pos) = j) := fun h => by
              rw [Hn0.out, HN1.out] at h
              have := Km.wid_ok Hne.out (by rw [Hk.out, Hdl.out]; omega) (by rw [Hk.out]; exact HA.out) h
              rw [Hk.out] at this
              exact Lib.hid this
            have HB' := Lib.hid HB
            have HG' := Lib.hid HG
            clear HB HG
            rcases hsp with h | h | h | h
            · have q1 : ((s[pos].toNat : Int) == 224) = true := by simp; omega
              have q2 : ((s[pos].toNat : Int) == 237) = false := by simp; omega
              have q3 : ((s[pos].toNat : Int) == 240) = false := by simp; omega
              have q4 : ((s[pos].toNat : Int) == 244) = false := by simp; omega
              by_cases hx : s[pos + 1].toNat < 160
              · have HW := HB'.out (.inl ⟨h, hx⟩)
                have q5 : decide ((s[pos + 1].toNat : Int) < 160) = true := by simp; omega
                clear h hx
                go_wp2
                go_ret
                exact ⟨ret_int (cnt_none He.out Hne.out (.inl HW.out)).symm, rfl⟩
              · have HW := HG'.out (by unfold Km.spec; omega)
                have q5 : decide ((s[pos + 1].toNat : Int) < 160) = false := by simp; omega
                clear h hx
                go_wp2
                go_round
                case rel => exact ⟨pos + j, acc + 1, by omega, by omega, by go_num, by go_num, cnt_next He.out Hne.out (by rw [HW.out]; omega) (by omega) HW.out.symm⟩
                case measure => simp [intOf]; omega
            · have q1 : ((s[pos].toNat : Int) == 224) = false := by simp; omega
              have q2 : ((s[pos].toNat : Int) == 237) = true := by simp; omega
              have q3 : ((s[pos].toNat : Int) == 240) = false := by simp; omega
              have q4 : ((s[pos].toNat : Int) == 244) = false := by simp; omega
              by_cases hx : 159 < s[pos + 1].toNat
              · have HW := HB'.out (.inr (.inl ⟨h, hx⟩))
                have q5 : decide ((159 : Int) < (s[pos + 1].toNat : Int)) = true := by simp; omega
                clear h hx
                go_wp2
                go_ret
                exact ⟨ret_int (cnt_none He.out Hne.out (.inl HW.out)).symm, rfl⟩
              · have HW := HG'.out (by unfold Km.spec; omega)
                have q5 : decide ((159 : Int) < (s[pos + 1].toNat : Int)) = false := by simp; omega
                clear h hx
                go_wp2
                go_round
                case rel => exact ⟨pos + j, acc + 1, by omega, by omega, by go_num, by go_num, cnt_next He.out Hne.out (by rw [HW.out]; omega) (by omega) HW.out.symm⟩
                case measure => simp [intOf]; omega
            · have q1 : ((s[pos].toNat : Int) == 224) = false := by simp; omega
              have q2 : ((s[pos].toNat : Int) == 237) = false := by simp; omega
              have q3 : ((s[pos].toNat : Int) == 240) = true := by simp; omega
              have q4 : ((s[pos].toNat : Int) == 244) = false := by simp; omega
              by_cases hx : s[pos + 1].toNat < 144
              · have HW := HB'.out (.inr (.inr (.inl ⟨h, hx⟩)))
                have q5 : decide ((s[pos + 1].toNat : Int) < 144) = true := by simp; omega
                clear h hx
                go_wp2
                go_ret
                exact ⟨ret_int (cnt_none He.out Hne.out (.inl HW.out)).symm, rfl⟩
              · have HW := HG'.out (by unfold Km.spec; omega)
                have q5 : decide ((s[pos + 1].toNat : Int) < 144) = false := by simp; omega
                clear h hx
                go_wp2
                go_round
                case rel => exact ⟨pos + j, acc + 1, by omega, by omega, by go_num, by go_num, cnt_next He.out Hne.out (by rw [HW.out]; omega) (by omega) HW.out.symm⟩
                case measure => simp [intOf]; omega
            · have q1 : ((s[pos].toNat : Int) == 224) = false := by simp; omega
              have q2 : ((s[pos].toNat : Int) == 237) = false := by simp; omega
              have q3 : ((s[pos].toNat : Int) == 240) = false := by simp; omega
              have q4 : ((s[pos].toNat : Int) == 244) = true := by simp; omega
              by_cases hx : 143 < s[pos + 1].toNat
              · have HW := HB'.out (.inr (.inr (.inr ⟨h, hx⟩)))
                have q5 : decide ((143 : Int) < (s[pos + 1].toNat : Int)) = true := by simp; omega
                clear h hx
                go_wp2
                go_ret
                exact ⟨ret_int (cnt_none He.out Hne.out (.inl HW.out)).symm, rfl⟩
              · have HW := HG'.out (by unfold Km.spec; omega)
                have q5 : decide ((143 : Int) < (s[pos + 1].toNat : Int)) = false := by simp; omega
                clear h hx
                go_wp2
                go_round
                case rel => exact ⟨pos + j, acc + 1, by omega, by omega, by go_num, by go_num, cnt_next He.out Hne.out (by rw [HW.out]; omega) (by omega) HW.out.symm⟩
                case measure => simp [intOf]; omega
          · have q1 : ((s[pos].toNat : Int) == 224) = false := by simp; omega
            have q2 : ((s[pos].toNat : Int) == 237) = false := by simp; omega
            have q3 : ((s[pos].toNat : Int) == 240) = false := by simp; omega
            have q4 : ((s[pos].toNat : Int) == 244) = false := by simp; omega
            have HW : Hid (Km.wid (s.data.toList.drop pos) = j) := by
              have := Km.wid_ok Hne.out (by rw [Hk.out, Hdl.out]; omega) (by rw [Hk.out]; exact HA.out) (by rw [← Hn0.out]; unfold Km.spec; omega)
              rw [Hk.out] at this
              exact Lib.hid this
            clear hsp
            go_wp2
            go_round
            case rel => exact ⟨pos + j, acc + 1, by omega, by omega, by go_num, by go_num, cnt_next He.out Hne.out (by rw [HW.out]; omega) (by omega) HW.out.symm⟩
            case measure => simp [intOf]; omega
    · go_wp2
      go_ret
      refine ⟨ret_int ?_, rfl⟩
      exact (cnt_done He.out (drop_none s pos hlt) (by simpa using (show acc ≤ s.size by omega))).symm
end Go.Proofs.Ytllagelopdedfaa
