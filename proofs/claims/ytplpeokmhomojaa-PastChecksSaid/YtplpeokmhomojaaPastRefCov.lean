/- What the document's Covers answers. -/
import Derived.Test.YtplpeokmhomojaaPastGet
import Derived.Test.YtplpeokmhomojaaPastRefAdd
import Derived.Deep.RegionHeld3
namespace Go.Proofs.Ytplpeokmhomojaa
open Go.RowKit
set_option linter.unusedVariables false
set_option linter.unusedSimpArgs false

abbrev cvD (l m : List De) : Bool := !(m.any fun d => Sm.less (gtD l d.1) d.2)
theorem cvD_hit {l m : List De} {k : Nat} (hk : k < m.length) (h : Sm.less (gtD l m[k].1) m[k].2 = true) : cvD l m = false := by
  unfold cvD
  rw [show (m.any fun d => Sm.less (gtD l d.1) d.2) = true from List.any_eq_true.2 ⟨m[k], List.getElem_mem hk, h⟩]
  rfl
theorem cvD_none {l m : List De} (h : ∀ j (hj : j < m.length), Sm.less (gtD l m[j].1) m[j].2 = false) : cvD l m = true := by
  unfold cvD
  rw [show (m.any fun d => Sm.less (gtD l d.1) d.2) = false from by
    rw [List.any_eq_false]
    intro x hx
    obtain ⟨j, hj, rfl⟩ := List.getElem_of_mem hx
    simp [h j hj]]
  rfl

set_option maxRecDepth 100000 in
set_option maxHeartbeats 1600000 in
theorem refCovers_any (v1 v2 : Value) (l m : List De) (w : World) (hl : l.length ≤ 1000000) (hm : m.length ≤ 1000000) (h1 : DepAt w v1 l) (h2 : DepAt w v2 m) :
    Calls Try.prog 21 #[v1, v2] w fun e w' => e = .returned (.bool (cvD l m)) ∧ Below w.heap.size w w' := by
  have HV1 := Lib.hid h1
  obtain ⟨a, cap, rfl, _, _, _, hr⟩ := h1
  obtain ⟨a2, cap2, rfl, _, _, _, hr2⟩ := h2
  have HR2 := Lib.hid hr2
  clear hr hr2
  go_enter Try.func21, Try.ntmps21
  go_wp2
  go_loopw [5] (fun i wr => ∃ k : Nat, k ≤ m.length ∧ i = .int .i64 k ∧ (∀ j (hj : j < m.length), j < k → Sm.less (gtD l m[j].1) m[j].2 = false) ∧ Below w.heap.size w wr) (fun i _ => m.length - (intOf i).toNat)
  case atStart => exact ⟨0, by omega, rfl, (fun j hj h => by omega), Below.refl _ _⟩
  case round =>
    obtain ⟨k, hk, rfl, hall, hbel⟩ := hrel
    have HA := Lib.hid hall
    clear hall
    by_cases hlt : k < m.length
    · obtain ⟨b, off, rfl, hbl, c0, c1, c2⟩ := HR2.out.below hbel k hlt
      have HH := Lib.hid (@cvD_hit l m k hlt)
      have HN : Hid (Sm.less (gtD l m[k].1) m[k].2 = false → ∀ j (hj : j < m.length), j < k + 1 → Sm.less (gtD l m[j].1) m[j].2 = false) := Lib.hid (fun h j hj h2 => by
        by_cases e : j = k
        · subst e; exact h
        · exact HA.out j hj (by omega))
      generalize m[k] = d at c0 c1 c2 HH HN
      obtain ⟨x, y, z⟩ := d
      dsimp only at c0 c1 c2 HH HN
      have hget := refPGet_any _ l x wr hl (HV1.out.below hbel)
      generalize gtD l x = g at hget HH HN
      obtain ⟨g0, g1⟩ := g
      go_wp2_with fail
      refine hget.mono ?_
      rintro e w1 ⟨rfl, hb1⟩
      have d0 := kcell hb1 hbl c0
      have d1 := kcell hb1 hbl c1
      have d2 := kcell hb1 hbl c2
      have hbl1 : b < w1.heap.size := by have := hb1.size; omega
      have hbel1 := bstep hbel hb1
      have e1 : (w1.alloc (.cells #[.int .i64 g0, .int .i64 g1] 24)).cell? ⟨b, off + k * 3 + 1, none⟩ = some (.int .i64 y) := kc (balloc (Below.refl _ _) _) d1
      have e2 : (w1.alloc (.cells #[.int .i64 g0, .int .i64 g1] 24)).cell? ⟨b, off + k * 3 + 2, none⟩ = some (.int .i64 z) := kc (balloc (Below.refl _ _) _) d2
      have g00 : (w1.alloc (.cells #[.int .i64 g0, .int .i64 g1] 24)).cell? ⟨w1.heap.size, 0, none⟩ = some (.int .i64 g0) := by simp
      have g01 : (w1.alloc (.cells #[.int .i64 g0, .int .i64 g1] 24)).cell? ⟨w1.heap.size, 1, none⟩ = some (.int .i64 g1) := by simp
      generalize hq : Sm.less (g0, g1) (y, z) = c at HH HN
      have HQ := Lib.hid hq
      clear hq hget c0 c1 c2 d0 d1 d2 hb1
      go_wp2_with fail
      go_region_held3 (fun w' => w'.cell? ⟨w1.heap.size, 0, none⟩ = some (.int .i64 g0) ∧ w'.cell? ⟨w1.heap.size, 1, none⟩ = some (.int .i64 g1) ∧ w'.cell? ⟨b, off + k * 3 + 1, none⟩ = some (.int .i64 y) ∧ w'.cell? ⟨b, off + k * 3 + 2, none⟩ = some (.int .i64 z))
        (first | exact ⟨g00, g01, e1, e2⟩ | exact gg1)
        (first
          | (go_at_call 39; ((refine (refLess_b g0 g1 y z c _ HQ.out).mono ?_); rintro e wa ⟨rfl, ha⟩; have gg1 := keep22 ha ⟨g00, g01, e1, e2⟩)))
      have hb2 := bstep hbel1 (bstep (balloc (Below.refl _ w1) _).drew ha)
      cases c with
      | true =>
        go_wp2
        go_ret
        exact ⟨ret_bool (HH.out (by first | rfl | trivial)).symm, hb2⟩
      | false =>
        go_wp2
        go_roundw
        case rel => exact ⟨k + 1, by omega, by go_num, HN.out (by first | rfl | trivial), hb2⟩
        case measure => simp [intOf]; omega
    · obtain rfl : k = m.length := by omega
      go_wp2
      go_ret
      exact ⟨ret_bool (cvD_none (fun j hj => HA.out j hj hj)).symm, hbel⟩
end Go.Proofs.Ytplpeokmhomojaa
