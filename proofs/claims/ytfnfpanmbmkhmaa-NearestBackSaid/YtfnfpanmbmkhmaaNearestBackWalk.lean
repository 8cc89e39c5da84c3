/- The walk of the law NearestBack. -/
import Derived.Test.YtfnfpanmbmkhmaaGN517
import Derived.Deep.DeepCutAuto
namespace Go.Proofs.Ytfnfpanmbmkhmaa
open Go.RowKit Go.Maps
set_option linter.unusedVariables false
set_option linter.unusedSimpArgs false

set_option maxRecDepth 100000 in
set_option maxHeartbeats 6400000 in
theorem walkNearestBack (w : World) (a : Option Addr) (ws : List Wr) (cap : Nat) (hl : ws.length ≤ 9223372036854775807) (hr : WrIn w a ws) :
    Calls Try.prog 4 #[.slice a ws.length cap] w fun e w' => e = .returned (.bool true) ∧ Below w.heap.size w w' := by
  have HR := Lib.hid hr
  clear hr
  go_enter Try.func4, Try.ntmps4
  go_wp2_with fail
  refine (awake5_any _).mono ?_
  rintro e w1 ⟨rfl, hb1⟩
  go_wp2_with fail
  refine (made5_any a cap ws w1 hl (HR.out.below hb1)).mono ?_
  rintro e w2 ⟨u2, xs, rfl, hmap, hvm, hb2⟩
  have HM2 : Hid (Made w2 u2 xs ws) := Lib.hid ⟨hvm.row, hmap⟩
  have hbel2 := bstep hb1 hb2
  obtain ⟨sa, sc, rfl⟩ := hvm.own.shape
  have hxl := HM2.out.len
  clear hvm hmap hb1 hb2
  have hS := sound_any _ xs w2 (by omega) HM2.out.ok HM2.out.row
  rw [snd_true HM2.out.inv] at hS
  go_wp2_with fail
  refine hS.mono ?_
  rintro e w3 ⟨rfl, hb3⟩
  have HM3 := Lib.hid (HM2.out.below hb3)
  have hbel3 := bstep hbel2 hb3
  clear hS hb3 HM2 hbel2
  go_wp2
  go_loopw [5] (fun i wr => ∃ k : Nat, k ≤ xs.length + 1 ∧ i = .int .i64 ((k : Int) - 1) ∧ Below w3.heap.size w3 wr) (fun i _ => ((xs.length : Int) - intOf i).toNat)
  case atStart => exact ⟨0, by omega, rfl, Below.refl _ _⟩
  case round =>
    obtain ⟨k, hk, rfl, hbel⟩ := hrel
    by_cases hlt : k < xs.length + 1
    · have hki : (k : Int) - 1 < (xs.length : Int) := by omega
      have HM := Lib.hid (HM3.out.below hbel)
      go_wp2_with fail
      refine (all5_any _ xs wr (by omega) HM.out.ok HM.out.row).mono ?_
      rintro e w6 ⟨u6, rfl, hd6, hb6⟩
      have HA6 := Lib.hid hd6
      have HM6 := Lib.hid (HM.out.below hb6)
      have hbel6 := bstep hbel hb6
      have hal := allV_len HM6.out.inv
      have HAS := Lib.hid (allV_srt (xs.map Prod.fst))
      have HAC := Lib.hid (allV_closed HM6.out.inv)
      generalize allV (xs.map Prod.fst) = al at HA6 hal HAS HAC hd6
      obtain ⟨aa, ac, rfl, _, _, _, _⟩ := hd6
      clear hb6 HM hbel
      go_upto_if 24 with (fail)
      go_cut [6] (fun s6 wx => ∃ p, DepAt w6 s6 p ∧ Srt p ∧ clB p (xs.map Prod.fst) = true ∧ p.length ≤ 50 ∧ wx = w6)
      case first =>
        by_cases hz : 1 ≤ k
        · obtain ⟨b, off, rfl, hbl, ⟨c0, c1, c2, c3, c4, c5⟩, hdp⟩ := HM6.out.row.at (k - 1) (by omega)
          have hm : xs[k - 1].1 ∈ xs.map Prod.fst := List.mem_map.2 ⟨_, List.getElem_mem (by omega), rfl⟩
          have hvk := HM6.out.ok _ (List.getElem_mem (by omega : k - 1 < xs.length))
          have HFACT : Hid (Srt xs[k - 1].1.past ∧ clB xs[k - 1].1.past (xs.map Prod.fst) = true ∧ xs[k - 1].1.past.length ≤ 50) := Lib.hid ⟨hvk.srt, HM6.out.inv.snd.cl _ hm, hvk.len⟩
          have HDP := Lib.hid hdp
          have q1 : (0 : Int) ≤ (k : Int) - 1 := by omega
          have q2 : k - 1 < xs.length := by omega
          have q3 : ((k : Int) - 1).toNat = k - 1 := by omega
          clear c0 c1 c2 c3 c4 hdp hvk hm
          go_wp2
          go_meet
          exact ⟨_, HDP.out, HFACT.out.1, HFACT.out.2.1, HFACT.out.2.2, rfl⟩
        · have q1 : ¬ (0 : Int) ≤ (k : Int) - 1 := by omega
          go_wp2
          go_meet
          exact ⟨al, HA6.out, HAS.out, HAC.out, by omega, rfl⟩
      case rest =>
        obtain ⟨p, hdp, hsp, hcp, hpl, rfl⟩ := hcut
        have HP := Lib.hid hdp
        have HPS := Lib.hid hsp
        have HPC := Lib.hid hcp
        have HBK := Lib.hid (exp_back HM6.out.inv.snd hsp hcp)
        have hrl := red_len p (xs.map Prod.fst)
        have HNE := Lib.hid (red_ne HM6.out.inv.snd hsp hcp)
        obtain ⟨pa, pc, rfl, _, _, _, _⟩ := hdp
        clear hsp hcp HA6 HAS HAC
        have hCl := closed5_any _ _ p xs wc (by omega) HPS.out (by omega) HM6.out.ok HP.out HM6.out.row
        rw [HPC.out] at hCl
        go_wp2_with fail
        refine hCl.mono ?_
        rintro e w7 ⟨rfl, hb7⟩
        have HM7 := Lib.hid (HM6.out.below hb7)
        have HP7 := Lib.hid (HP.out.below hb7)
        have hbel7 := bstep hbel6 hb7
        clear hCl hb7 HM6 HP hbel6
        go_wp2_with fail
        refine (reduce_any _ _ p xs w7 (by omega) HPS.out (by omega) HM7.out.ok HP7.out HM7.out.row).mono ?_
        rintro e w8 ⟨u8, rfl, ho8, hb8⟩
        have HN8 := Lib.hid (DepAt.of_own ho8)
        have HNS := Lib.hid (red_srt HPS.out (l := xs.map Prod.fst))
        obtain ⟨na, nc, rfl⟩ := ho8.shape
        have HM8 := Lib.hid (HM7.out.below hb8)
        have HP8 := Lib.hid (HP7.out.below hb8)
        have hbel8 := bstep hbel7 hb8
        clear ho8 hb8 HM7 HP7 hbel7
        generalize redL p (xs.map Prod.fst) = rd at HN8 HNS HBK hrl HNE
        go_wp2_with fail
        have hE := expand_any _ _ rd xs w8 (by omega) HNS.out (by omega) HM8.out.ok HN8.out HM8.out.row
        rw [HBK.out] at hE
        refine hE.mono ?_
        rintro e w9 ⟨u9, rfl, ho9, hb9⟩
        have HE9 := Lib.hid (DepAt.of_own ho9)
        obtain ⟨ea, ec, rfl⟩ := ho9.shape
        have HP9 := Lib.hid (HP8.out.below hb9)
        have hbel9 := bstep hbel8 hb9
        clear hE ho9 hb9 HM8 HP8 hbel8 HN8
        go_wp2_with fail
        refine (refPSame_t5 _ _ p w9 (by omega) HE9.out HP9.out).mono ?_
        rintro e w10 ⟨rfl, hb10⟩
        have hbel10 := bstep hbel9 hb10
        clear hb10 hbel9 HE9 HP9
        have q1 : ¬ (p.length : Int) < (rd.length : Int) := by omega
        by_cases hp0 : 0 < p.length
        · have hn0 := HNE.out hp0
          have q2 : (0 : Int) < (p.length : Int) := by omega
          have q3 : ¬ (rd.length : Int) = 0 := by omega
          have q4 : decide ((rd.length : Int) = 0) = false := decide_eq_false q3
          have q5 : ((rd.length : Int) == 0) = false := beq_false_of_ne q3
          have q6 : ¬ rd.length = 0 := by omega
          have q7 : ¬ rd = [] := by rintro rfl; simp at hn0
          go_wp2
          go_roundw
          case rel => exact ⟨k + 1, by omega, by go_num, hbel10⟩
          case measure => simp [intOf]; omega
        · have q2 : ¬ (0 : Int) < (p.length : Int) := by omega
          go_wp2
          go_roundw
          case rel => exact ⟨k + 1, by omega, by go_num, hbel10⟩
          case measure => simp [intOf]; omega
    · have hki : ¬ (k : Int) - 1 < (xs.length : Int) := by omega
      go_wp2
      go_ret
      exact ⟨rfl, bstep hbel3 hbel⟩
end Go.Proofs.Ytfnfpanmbmkhmaa
