/- What the laws' own 'awake' answers. -/
import Derived.Test.YtplpeokmhomojaaPastDep
import Derived.Test.YtplpeokmhomojaaPastMerge
import Derived.Test.YtplpeokmhomojaaPastRefMerge
import Derived.Test.YtplpeokmhomojaaPastRefCov
import Derived.Test.YtplpeokmhomojaaPastCovers
import Derived.Test.YtplpeokmhomojaaPastSame
namespace Go.Proofs.Ytplpeokmhomojaa
open Go.RowKit
set_option linter.unusedVariables false
set_option linter.unusedSimpArgs false

/-- A row that was just laid. -/
theorem DepAt.new (w : World) (l : List De) (T : TypeId) (hl : l.length ≤ 1000000) : DepAt (w.alloc (.cells (dV l).toArray T)) (.slice (some ⟨w.heap.size, 0, none⟩) l.length l.length) l := by
  refine ⟨_, _, rfl, Nat.le_refl _, by unfold maxLen; omega, by simp, fun i hi => ?_⟩
  have hc : ∀ j, (w.alloc (.cells (dV l).toArray T)).cell? ⟨w.heap.size, j, none⟩ = (dV l)[j]? := by
    intro j
    rw [Lib.cell_of_heap (heap_alloc_new w _)]
    simp
  obtain ⟨k0, k1, k2⟩ := dV_get l i hi
  refine ⟨w.heap.size, 0, rfl, by simp, ?_, ?_, ?_⟩
  · rw [hc, Nat.zero_add]; exact k0
  · rw [hc, Nat.zero_add]; exact k1
  · rw [hc, Nat.zero_add]; exact k2
/-- Two slices that were just laid, as a row of pasts. -/
theorem RowsAt.two {w : World} {v1 v2 : Value} {l m : List De} (T : TypeId) (h1 : DepAt w v1 l) (h2 : DepAt w v2 m) : RowsAt (w.alloc (.cells #[v1, v2] T)) (some ⟨w.heap.size, 0, none⟩) [l, m] := by
  refine ⟨[v1, v2], rfl, fun i hi => ⟨w.heap.size, 0, rfl, by simp, ?_⟩, fun i hi hi' => ?_⟩
  · rw [Lib.cell_of_heap (heap_alloc_new w _), Nat.zero_add]
    match i, hi with
    | 0, _ => rfl
    | 1, _ => rfl
  · match i, hi' with
    | 0, _ => exact h1.alloc _
    | 1, _ => exact h2.alloc _

def awA : List De := [(⟨#[97]⟩, 3, 0), (⟨#[98]⟩, 1, 0)]
def awB : List De := [(⟨#[97]⟩, 2, 0), (⟨#[99]⟩, 4, 0)]
def awM : List De := [(⟨#[97]⟩, 3, 0), (⟨#[98]⟩, 1, 0), (⟨#[99]⟩, 4, 0)]
theorem awM_is : mergeR [awA, awB] = awM := by decide +kernel
theorem awM_1 : (!(awA.any fun d => Sm.less (gtD awM d.1) d.2)) = true := by decide +kernel
theorem awM_2 : (!(awB.any fun d => Sm.less (gtD awM d.1) d.2)) = true := by decide +kernel
theorem awM_3 : chkD awM = true := by decide +kernel
theorem aw_szd : Szd awA ∧ Szd awB ∧ Szd awM := by
  refine ⟨?_, ?_, ?_⟩ <;> (intro d hd; simp [awA, awB, awM] at hd; rcases hd with rfl | hd; · decide)
  · subst hd; decide
  · subst hd; decide
  · rcases hd with rfl | rfl <;> decide

set_option maxRecDepth 100000 in
set_option maxHeartbeats 3200000 in
theorem pawake_any (w : World) : Calls Try.prog 9 #[] w fun e w' => e = .returned (.bool true) ∧ Below w.heap.size w w' := by
  go_enter Try.func9, Try.ntmps9
  go_wp2_with fail
  refine (dep_any _ _ _).mono ?_
  rintro e w1 ⟨rfl, hb1⟩
  go_wp2_with fail
  refine (dep_any _ _ _).mono ?_
  rintro e w2 ⟨rfl, hb2⟩
  have hbA := bstep hb1 hb2
  clear hb1 hb2
  have HA0 := DepAt.new w2 awA 26 (by decide)
  have hbA2 : Below w.heap.size w (w2.alloc (.cells (dV awA).toArray 26)) := balloc hbA _
  have HA := Lib.hid HA0
  clear HA0
  go_wp2_with fail
  refine (dep_any _ _ _).mono ?_
  rintro e w3 ⟨rfl, hb3⟩
  go_wp2_with fail
  refine (dep_any _ _ _).mono ?_
  rintro e w4 ⟨rfl, hb4⟩
  have HA4 := Lib.hid ((HA.out.below hb3).below hb4)
  have hbB := bstep (bstep hbA2 hb3) hb4
  clear hb3 hb4 HA hbA hbA2
  have HB := Lib.hid (DepAt.new w4 awB 26 (by decide))
  have HA5 := Lib.hid (HA4.out.alloc (.cells (dV awB).toArray 26))
  have hbB2 : Below w.heap.size w (w4.alloc (.cells (dV awB).toArray 26)) := balloc hbB _
  have HR0 := RowsAt.two 22 HA5.out HB.out
  rw [show (w4.alloc (.cells (dV awB).toArray 26)).heap.size = w4.heap.size + 1 by simp] at HR0
  have HR := Lib.hid HR0
  clear HR0
  have HA6 := Lib.hid (HA5.out.alloc (.cells #[.slice (some ⟨w2.heap.size, 0, none⟩) 2 2, .slice (some ⟨w4.heap.size, 0, none⟩) 2 2] 22))
  have HB6 := Lib.hid (HB.out.alloc (.cells #[.slice (some ⟨w2.heap.size, 0, none⟩) 2 2, .slice (some ⟨w4.heap.size, 0, none⟩) 2 2] 22))
  have hbC : Below w.heap.size w ((w4.alloc (.cells (dV awB).toArray 26)).alloc (.cells #[.slice (some ⟨w2.heap.size, 0, none⟩) 2 2, .slice (some ⟨w4.heap.size, 0, none⟩) 2 2] 22)) := balloc hbB2 _
  clear HA4 HA5 HB hbB hbB2
  go_wp2_with fail
  refine (merge_any _ _ [awA, awB] _ (by decide) (by decide) (by intro l hl; simp at hl; rcases hl with rfl | rfl; exact aw_szd.1; exact aw_szd.2.1) HR.out).mono ?_
  rintro e w5 ⟨v5, rfl, r, hr, ho5, hb5⟩
  obtain rfl : r = awM := by
    rw [← awM_is]
    exact IsMerge.uniq hr (mergeR_spec [awA, awB]) (fun _ => Iff.rfl)
  clear hr HR
  have HA7 := Lib.hid (HA6.out.below hb5)
  have HB7 := Lib.hid (HB6.out.below hb5)
  have HM := Lib.hid (DepAt.of_own ho5)
  have hbD := bstep hbC hb5
  clear HA6 HB6 hbC hb5
  obtain ⟨ma, mc, rfl⟩ := ho5.shape
  clear ho5
  go_wp2_with fail
  refine (dep_any _ _ _).mono ?_
  rintro e w6 ⟨rfl, hb6⟩
  go_wp2_with fail
  refine (dep_any _ _ _).mono ?_
  rintro e w7 ⟨rfl, hb7⟩
  go_wp2_with fail
  refine (dep_any _ _ _).mono ?_
  rintro e w8 ⟨rfl, hb8⟩
  have hb68 := bstep (bstep hb6 hb7) hb8
  have HA8 := Lib.hid ((HA7.out.below hb68).alloc (.cells (dV awM).toArray 26))
  have HB8 := Lib.hid ((HB7.out.below hb68).alloc (.cells (dV awM).toArray 26))
  have HM8 := Lib.hid ((HM.out.below hb68).alloc (.cells (dV awM).toArray 26))
  have HN := Lib.hid (DepAt.new w8 awM 26 (by decide))
  have hbE : Below w.heap.size w (w8.alloc (.cells (dV awM).toArray 26)) := balloc (bstep hbD hb68) _
  clear hb6 hb7 hb8 hb68 HA7 HB7 HM hbD
  go_wp2_with fail
  refine (refPSame_any _ _ awM awM _ (by decide) HM8.out HN.out).mono ?_
  rintro e w9 ⟨rfl, hb9⟩
  rw [show decide (awM = awM) = true from by simp]
  have HA9 := Lib.hid (HA8.out.below hb9)
  have HB9 := Lib.hid (HB8.out.below hb9)
  have HM9 := Lib.hid (HM8.out.below hb9)
  have hbF := bstep hbE hb9
  clear hb9 HA8 HB8 HM8 HN hbE
  go_wp2_with fail
  refine (covers_any _ _ awM awA _ (by decide) (by decide) aw_szd.2.2 aw_szd.1 HM9.out HA9.out).mono ?_
  rintro e w10 ⟨rfl, hb10⟩
  rw [awM_1]
  have HB10 := Lib.hid (HB9.out.below hb10)
  have HM10 := Lib.hid (HM9.out.below hb10)
  have hbG := bstep hbF hb10
  clear hb10 HA9 HB9 HM9 hbF
  go_wp2_with fail
  refine (covers_any _ _ awM awB _ (by decide) (by decide) aw_szd.2.2 aw_szd.2.1 HM10.out HB10.out).mono ?_
  rintro e w11 ⟨rfl, hb11⟩
  rw [awM_2]
  have HM11 := Lib.hid (HM10.out.below hb11)
  have hbH := bstep hbG hb11
  clear hb11 HB10 HM10 hbG
  go_wp2_with fail
  refine (pcheck_any _ awM _ (by decide) aw_szd.2.2 HM11.out).mono ?_
  rintro e w12 ⟨rfl, hb12⟩
  rw [awM_3]
  go_wp2
  go_ret
  exact ⟨rfl, bstep hbH hb12⟩
end Go.Proofs.Ytplpeokmhomojaa
