/- What the law's own 'few' answers: it lies in new memory. -/
import Derived.Test.YtfnfpanmbmkhmaaGN517
namespace Go.Proofs.Ytfnfpanmbmkhmaa
open Go.RowKit
set_option linter.unusedVariables false
set_option linter.unusedSimpArgs false

set_option maxRecDepth 100000 in
set_option maxHeartbeats 3120000 in
theorem few_new5 (v : Value) (l : List De) (w : World) (hl : l.length ≤ 9223372036854775807) (hz : Szd l) (hr : DepAt w v l) :
    Calls Try.prog 11 #[v] w fun e w' => ∃ u, e = .returned u ∧ DepAt w' u (fewD l) ∧ (∀ b, u.ownBlock = some b → w.heap.size ≤ b) ∧ Below w.heap.size w w' := by
  obtain ⟨a, cap, rfl, _, _, _, hr⟩ := hr
  have HR := Lib.hid hr
  have HZ := Lib.hid hz
  clear hr hz
  go_enter Try.func11, Try.ntmps11
  go_wp2
  go_loopw [3, 4] (fun o i wr => ∃ k : Nat, k ≤ l.length ∧ k ≤ 6 ∧ i = .int .i64 k ∧ DepAt wr o (addAll [] ((l.take k).map cutN)) ∧ (∀ b, o.ownBlock = some b → w.heap.size ≤ b) ∧ Below w.heap.size w wr) (fun _ i _ => 6 - (intOf i).toNat)
  case atStart => exact ⟨0, by omega, by omega, rfl, DepAt.nil w, (fun b h => by simp [Value.ownBlock] at h), Below.refl _ _⟩
  case round =>
    obtain ⟨k, hk, hkh, rfl, hd, hnw, hbel⟩ := hrel
    have HNW := Lib.hid hnw
    have hbsz := hbel.size
    clear hnw
    obtain ⟨da, dc, rfl, _, _, _, _⟩ := id hd
    have HD := Lib.hid hd
    clear hd
    by_cases hlt : k < l.length ∧ k < 6
    · obtain ⟨h1, h2⟩ := hlt
      obtain ⟨b, off, rfl, hbl, c0, c1, c2⟩ := HR.out.below hbel k h1
      have HS := Lib.hid (fwK_step l k h1)
      have hsz := HZ.out l[k] (List.getElem_mem h1)
      have hal := addAll_len ((l.take k).map cutN) []
      have htl : ((l.take k).map cutN).length ≤ 6 := by simp; omega
      generalize l[k] = d at c0 c1 c2 HS hsz
      obtain ⟨x, y, z⟩ := d
      dsimp only at c0 c1 c2 hsz
      generalize hqq : addAll [] ((l.take k).map cutN) = q at HD HS hal HNW
      clear hqq
      have hql : q.length ≤ 6 := by simp at hal; omega
      have h1i : (k : Int) < (l.length : Int) := by omega
      have h2i : (k : Int) < 6 := by omega
      have hd1 : decide (k < l.length) = true := by simpa using h1
      have hb1 : Below wr.heap.size wr (wr.alloc (.cells #[.string x, .int .i64 y, .int .i64 z] 26)) := balloc (Below.refl _ _) _
      by_cases H2 : 12 < x.size
      · have H2i : (12 : Int) < (x.size : Int) := by omega
        have hkh : k12 x = x.extract 0 12 := by simp [k12, H2]
        have hks := k12_size x
        rw [hkh] at hks
        have HC : Hid (cutN (x, y, z) = (x.extract 0 12, y, z)) := Lib.hid (by simp [cutN, hkh])
        clear hkh
        have hb3 : Below wr.heap.size wr (wr.alloc (.cells #[.string (x.extract 0 12), .int .i64 y, .int .i64 z] 26)) := balloc (Below.refl _ _) _
        go_wp2_with fail
        refine (refAddP_new _ q (x.extract 0 12) y z _ (by omega) (by omega) (HD.out.below hb3)).mono ?_
        rintro e w2 ⟨v2, rfl, hd2, hn2, hb2⟩
        obtain ⟨va, vc, rfl, _, _, _, _⟩ := id hd2
        have HD2 := Lib.hid hd2
        have HN2 : Hid (∀ b, (Value.slice va (addR q (x.extract 0 12, y, z)).length vc).ownBlock = some b → w.heap.size ≤ b) := Lib.hid (fun b h => by
          rcases hn2 with e | h3
          · rw [e] at h
            exact HNW.out b h
          · have := h3 b h
            have := hb3.size
            omega)
        clear hd2 hn2
        go_wp2
        go_roundw
        case rel => exact ⟨k + 1, by omega, by omega, by go_num, by rw [HS.out, HC.out]; exact HD2.out, HN2.out, bstep hbel (bstep hb3 hb2)⟩
        case measure => simp [intOf]; omega
      · have H2i : ¬ (12 : Int) < (x.size : Int) := by omega
        have HC : Hid (cutN (x, y, z) = (x, y, z)) := Lib.hid (by simp [cutN, k12, H2])
        go_wp2_with fail
        refine (refAddP_new _ q x y z _ (by omega) hsz (HD.out.below hb1)).mono ?_
        rintro e w2 ⟨v2, rfl, hd2, hn2, hb2⟩
        obtain ⟨va, vc, rfl, _, _, _, _⟩ := id hd2
        have HD2 := Lib.hid hd2
        have HN2 : Hid (∀ b, (Value.slice va (addR q (x, y, z)).length vc).ownBlock = some b → w.heap.size ≤ b) := Lib.hid (fun b h => by
          rcases hn2 with e | h3
          · rw [e] at h
            exact HNW.out b h
          · have := h3 b h
            have := hb1.size
            omega)
        clear hd2 hn2
        go_wp2
        go_roundw
        case rel => exact ⟨k + 1, by omega, by omega, by go_num, by rw [HS.out, HC.out]; exact HD2.out, HN2.out, bstep hbel (bstep hb1 hb2)⟩
        case measure => simp [intOf]; omega
    · have HX := Lib.hid (fwK_all l k hk hkh hlt)
      rcases (show (decide (k < l.length) = false) ∨ (decide (k < l.length) = true ∧ decide ((k : Int) < 6) = false) by simp; omega) with hd | ⟨hd, hd2⟩
      all_goals
        go_wp2
        go_ret
        exact ⟨_, rfl, by rw [← HX.out]; exact HD.out, HNW.out, hbel⟩
end Go.Proofs.Ytfnfpanmbmkhmaa
