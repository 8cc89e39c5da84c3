/- PastChecks, walked: which pasts may be, and their bytes. -/
import Derived.Test.YtplpeokmhomojaaPastAwake
import Derived.Test.YtplpeokmhomojaaPastMade
import Derived.Test.YtplpeokmhomojaaPastRefBytes
import Derived.Test.YtplpeokmhomojaaOpen4
namespace Go.Proofs.Ytplpeokmhomojaa
open Go.RowKit
set_option linter.unusedVariables false
set_option linter.unusedSimpArgs false

theorem cut_step (l : List De) (k : Nat) (h : k < l.length) : (l.take (k + 1)).map cutD = (l.take k).map cutD ++ [cutD l[k]] := by
  rw [List.take_succ_eq_append_getElem h, List.map_append]
  rfl
theorem cut_szd (l : List De) : Szd (l.map cutD) := by
  intro d hd
  obtain ⟨x, _, rfl⟩ := List.mem_map.1 hd
  have := k20_size x.1
  show (k20 x.1).size ≤ _
  omega

set_option maxRecDepth 100000 in
set_option maxHeartbeats 6400000 in
theorem walkPastChecks (w : World) (v : Value) (l : List De) (hr : DepAt w v l) (hz : Szd l) (hi64 : ∀ d ∈ l, In64 d.2) :
    Calls Try.prog 4 #[v] w fun e w' => e = .returned (.bool true) ∧ Below w.heap.size w w' := by
  obtain ⟨a, cap, rfl, hcap, hmx, _, hr⟩ := hr
  unfold maxLen at hmx
  have HR := Lib.hid hr
  have HZ := Lib.hid hz
  clear hr hz hi64
  go_enter Try.func4, Try.ntmps4
  go_wp2_with fail
  refine (pawake_any _).mono ?_
  rintro e w1 ⟨rfl, hb1⟩
  go_wp2
  go_loopw [4, 5] (fun o i wr => ∃ k : Nat, k ≤ l.length ∧ k ≤ 30 ∧ i = .int .i64 k ∧ OwnD wr w.heap.size o ((l.take k).map cutD) ∧ Below w.heap.size w wr) (fun _ i _ => 30 - (intOf i).toNat)
  case atStart => exact ⟨0, by omega, by omega, rfl, OwnD.nil _ _, hb1⟩
  case round =>
    obtain ⟨k, hk, hk30, rfl, ho, hbel⟩ := hrel
    have hbs := hbel.size
    have hql : ((l.take k).map cutD).length ≤ 30 := by simp; omega
    by_cases hlt : k < l.length ∧ k < 30
    · obtain ⟨h1, h2⟩ := hlt
      obtain ⟨b, off, rfl, hbl, c0, c1, c2⟩ := HR.out.below hbel k h1
      have HS := Lib.hid (cut_step l k h1)
      generalize l[k] = d at c0 c1 c2 HS
      obtain ⟨x, y, z⟩ := d
      dsimp only at c0 c1 c2
      generalize (l.take k).map cutD = q at ho hql HS
      obtain ⟨sa, sc, rfl⟩ := ho.shape
      have h1i : (k : Int) < (l.length : Int) := by omega
      have h2i : (k : Int) < 30 := by omega
      have hd1 : decide (k < l.length) = true := by simpa using h1
      by_cases h20 : 20 < x.size
      · have h20i : (20 : Int) < (x.size : Int) := by omega
        have HC : Hid (cutD (x, y, z) = (x.extract 0 20, y, z)) := Lib.hid (by simp [cutD, k20, h20])
        have hb3 : Below w.heap.size wr (wr.alloc (.cells #[.string (x.extract 0 20), .int .i64 y, .int .i64 z] 26)) := (Below.refl _ wr).alloc hbs _
        have HO := Lib.hid (ho.alloc (.cells #[.string (x.extract 0 20), .int .i64 y, .int .i64 z] 26))
        clear ho
        go_wp2_with (at_builtin; refine wp_pushD (wr := wr.alloc (.cells #[.string (x.extract 0 20), .int .i64 y, .int .i64 z] 26)) rfl _ _ rfl w.heap.size (.slice sa q.length sc) q (x.extract 0 20) y z rfl HO.out (by simp; rfl) (by omega) (by simp; omega) ?_; intro g gcap w4 ho4 hb4 hk4 hg4)
        go_roundw
        case rel => exact ⟨k + 1, by omega, by omega, by go_num, by rw [HS.out, HC.out]; exact ho4, (hbel.trans hb3).trans hb4⟩
        case measure => simp [intOf]; omega
      · have h20i : ¬ (20 : Int) < (x.size : Int) := by omega
        have HC : Hid (cutD (x, y, z) = (x, y, z)) := Lib.hid (by simp [cutD, k20, h20])
        have hb3 : Below w.heap.size wr (wr.alloc (.cells #[.string x, .int .i64 y, .int .i64 z] 26)) := (Below.refl _ wr).alloc hbs _
        have HO := Lib.hid (ho.alloc (.cells #[.string x, .int .i64 y, .int .i64 z] 26))
        clear ho
        go_wp2_with (at_builtin; refine wp_pushD (wr := wr.alloc (.cells #[.string x, .int .i64 y, .int .i64 z] 26)) rfl _ _ rfl w.heap.size (.slice sa q.length sc) q x y z rfl HO.out (by simp; rfl) (by omega) (by simp; omega) ?_; intro g gcap w4 ho4 hb4 hk4 hg4)
        go_roundw
        case rel => exact ⟨k + 1, by omega, by omega, by go_num, by rw [HS.out, HC.out]; exact ho4, (hbel.trans hb3).trans hb4⟩
        case measure => simp [intOf]; omega
    · have HSZ := Lib.hid (cut_szd (l.take k))
      generalize (l.take k).map cutD = q at ho hql HSZ
      have HP := Lib.hid (DepAt.of_own ho)
      obtain ⟨sa, sc, rfl⟩ := ho.shape
      clear ho
      obtain ⟨B, hB⟩ : ∃ B : ByteArray, B = ⟨(pbV q).toArray⟩ := ⟨_, rfl⟩
      have HB := Lib.hid hB
      clear hB
      rcases (show (decide (k < l.length) = false) ∨ (decide (k < l.length) = true ∧ decide ((k : Int) < 30) = false) by simp; omega) with hd | ⟨hd, hd2⟩
      all_goals
        go_wp2_with fail
        refine (pcheck_any _ q wr (by omega) HSZ.out HP.out).mono ?_
        rintro e w2 ⟨rfl, hb2⟩
        have HP2 := Lib.hid (HP.out.below hb2)
        have hbel2 := bstep hbel hb2
        clear HP hbel hb2
        go_wp2_with fail
        refine (refPCheck_any _ q w2 (by omega) HSZ.out HP2.out).mono ?_
        rintro e w3 ⟨rfl, hb3⟩
        have HP3 := Lib.hid (HP2.out.below hb3)
        have hbel3 := bstep hbel2 hb3
        clear HP2 hbel2 hb3
        go_wp2_with fail
        have hp3 := pbytes_any _ q w3 (by omega) HSZ.out HP3.out
        rw [← HB.out] at hp3
        refine hp3.mono ?_
        rintro e w4 ⟨rfl, hb4⟩
        have HP4 := Lib.hid (HP3.out.below hb4)
        have hbel4 := bstep hbel3 hb4
        clear HP3 hbel3 hb4
        clear hp3
        go_wp2_with fail
        have hp4 := refPBytes_any _ q w4 (by omega) HSZ.out HP4.out
        rw [← HB.out] at hp4
        refine hp4.mono ?_
        rintro e w5 ⟨rfl, hb5⟩
        have hbel5 := bstep hbel4 hb5
        clear hp4
        go_wp2
        go_ret
        exact ⟨rfl, hbel5⟩
end Go.Proofs.Ytplpeokmhomojaa
