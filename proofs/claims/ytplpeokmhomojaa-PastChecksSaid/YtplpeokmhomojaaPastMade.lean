/- What the law's own 'made' answers. -/
import Derived.Test.YtplpeokmhomojaaPastRefMerge
namespace Go.Proofs.Ytplpeokmhomojaa
open Go.RowKit
set_option linter.unusedVariables false
set_option linter.unusedSimpArgs false

def k20 (k : ByteArray) : ByteArray := if 20 < k.size then k.extract 0 20 else k
theorem k20_size (k : ByteArray) : (k20 k).size ≤ 20 := by
  unfold k20
  split
  · rw [ByteArray.size_extract]; omega
  · omega
def cutD (d : De) : De := (k20 d.1, d.2)
/-- The past that 'made' makes. -/
def mdD (l : List De) : List De := addAll [] ((l.take 12).map cutD)
theorem mdD_srt (l : List De) : Srt (mdD l) := (IsMerge.nil.all ((l.take 12).map cutD)).srt
theorem mdD_len (l : List De) : (mdD l).length ≤ 12 := by
  have h1 := addAll_len ((l.take 12).map cutD) []
  rw [List.length_map, List.length_take, List.length_nil] at h1
  unfold mdD
  omega
theorem mdK_step (l : List De) (k : Nat) (h : k < l.length) : addAll [] ((l.take (k + 1)).map cutD) = addR (addAll [] ((l.take k).map cutD)) (cutD l[k]) := by
  rw [List.take_succ_eq_append_getElem h, List.map_append, List.map_singleton, addAll_snoc]
theorem mdK_all (l : List De) (k : Nat) (hk : k ≤ l.length) (h12 : k ≤ 12) (hx : ¬ (k < l.length ∧ k < 12)) : addAll [] ((l.take k).map cutD) = mdD l := by
  unfold mdD
  by_cases e : k = 12
  · rw [e]
  · rw [List.take_of_length_le (by omega), List.take_of_length_le (by omega)]

set_option maxRecDepth 100000 in
set_option maxHeartbeats 3200000 in
theorem made_any (v : Value) (l : List De) (w : World) (hl : l.length ≤ 9223372036854775807) (hz : Szd l) (hr : DepAt w v l) :
    Calls Try.prog 10 #[v] w fun e w' => ∃ u, e = .returned u ∧ DepAt w' u (mdD l) ∧ Below w.heap.size w w' := by
  obtain ⟨a, cap, rfl, _, _, _, hr⟩ := hr
  have HR := Lib.hid hr
  have HZ := Lib.hid hz
  clear hr hz
  go_enter Try.func10, Try.ntmps10
  go_wp2
  go_loopw [3, 4] (fun o i wr => ∃ k : Nat, k ≤ l.length ∧ k ≤ 12 ∧ i = .int .i64 k ∧ DepAt wr o (addAll [] ((l.take k).map cutD)) ∧ Below w.heap.size w wr) (fun _ i _ => 12 - (intOf i).toNat)
  case atStart => exact ⟨0, by omega, by omega, rfl, DepAt.nil w, Below.refl _ _⟩
  case round =>
    obtain ⟨k, hk, hk12, rfl, hd, hbel⟩ := hrel
    obtain ⟨da, dc, rfl, _, _, _, _⟩ := id hd
    have HD := Lib.hid hd
    clear hd
    by_cases hlt : k < l.length ∧ k < 12
    · obtain ⟨h1, h2⟩ := hlt
      obtain ⟨b, off, rfl, hbl, c0, c1, c2⟩ := HR.out.below hbel k h1
      have HS := Lib.hid (mdK_step l k h1)
      have hsz := HZ.out l[k] (List.getElem_mem h1)
      have hal := addAll_len ((l.take k).map cutD) []
      have htl : ((l.take k).map cutD).length ≤ 12 := by simp; omega
      generalize l[k] = d at c0 c1 c2 HS hsz
      obtain ⟨x, y, z⟩ := d
      dsimp only at c0 c1 c2 hsz
      generalize hqq : addAll [] ((l.take k).map cutD) = q at HD HS hal
      clear hqq
      have hql : q.length ≤ 12 := by simp at hal; omega
      have h1i : (k : Int) < (l.length : Int) := by omega
      have h2i : (k : Int) < 12 := by omega
      have hd1 : decide (k < l.length) = true := by simpa using h1
      have hb1 : Below wr.heap.size wr (wr.alloc (.cells #[.string x, .int .i64 y, .int .i64 z] 26)) := balloc (Below.refl _ _) _
      by_cases h20 : 20 < x.size
      · have h20i : (20 : Int) < (x.size : Int) := by omega
        have hk20 : k20 x = x.extract 0 20 := by simp [k20, h20]
        have hks := k20_size x
        rw [hk20] at hks
        have HC : Hid (cutD (x, y, z) = (x.extract 0 20, y, z)) := Lib.hid (by simp [cutD, hk20])
        clear hk20
        have hb3 : Below wr.heap.size wr (wr.alloc (.cells #[.string (x.extract 0 20), .int .i64 y, .int .i64 z] 26)) := balloc (Below.refl _ _) _
        go_wp2_with fail
        refine (refAddP_any _ q (x.extract 0 20) y z _ (by omega) (by omega) (HD.out.below hb3)).mono ?_
        rintro e w2 ⟨v2, rfl, hd2, hb2⟩
        obtain ⟨va, vc, rfl, _, _, _, _⟩ := id hd2
        have HD2 := Lib.hid hd2
        clear hd2
        go_wp2
        go_roundw
        case rel => exact ⟨k + 1, by omega, by omega, by go_num, by rw [HS.out, HC.out]; exact HD2.out, bstep hbel (bstep hb3 hb2)⟩
        case measure => simp [intOf]; omega
      · have h20i : ¬ (20 : Int) < (x.size : Int) := by omega
        have HC : Hid (cutD (x, y, z) = (x, y, z)) := Lib.hid (by simp [cutD, k20, h20])
        go_wp2_with fail
        refine (refAddP_any _ q x y z _ (by omega) hsz (HD.out.below hb1)).mono ?_
        rintro e w2 ⟨v2, rfl, hd2, hb2⟩
        obtain ⟨va, vc, rfl, _, _, _, _⟩ := id hd2
        have HD2 := Lib.hid hd2
        clear hd2
        go_wp2
        go_roundw
        case rel => exact ⟨k + 1, by omega, by omega, by go_num, by rw [HS.out, HC.out]; exact HD2.out, bstep hbel (bstep hb1 hb2)⟩
        case measure => simp [intOf]; omega
    · have HX := Lib.hid (mdK_all l k hk hk12 hlt)
      rcases (show (decide (k < l.length) = false) ∨ (decide (k < l.length) = true ∧ decide ((k : Int) < 12) = false) by simp; omega) with hd | ⟨hd, hd2⟩
      all_goals
        go_wp2
        go_ret
        exact ⟨_, rfl, by rw [← HX.out]; exact HD.out, hbel⟩
end Go.Proofs.Ytplpeokmhomojaa
