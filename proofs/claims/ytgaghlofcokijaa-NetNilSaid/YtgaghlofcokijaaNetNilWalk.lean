/- NetNil: the walk. -/
import Derived.Test.YtgaghlofcokijaaNetTw
namespace Go.Proofs.Ytgaghlofcokijaa
open Go.RowKit
set_option linter.unusedVariables false
set_option linter.unusedSimpArgs false

set_option maxRecDepth 100000 in
set_option maxHeartbeats 3200000 in
theorem walkNetNil (a : Int) (ha : (Lit.int .i64 a).wf = true) (w : World) :
    Calls Try.prog 5 #[.int .i64 a] w fun e w' => e = .returned (.bool true) ∧ Below w.heap.size w w' := by
  have k1 := fun (w : World) => npick_bad (.pointer none) 0 1 0 0 w (noSes_nil w 0 1)
  have k2 := fun (w : World) => nsend_bad (.pointer none) 0 1 ⟨#[120]⟩ w (noSes_nil w 0 1)
  have k3 := fun (w : World) => nagain_bad (.pointer none) 0 1 w (noSes_nil w 0 1)
  have k4 := fun (w : World) => nopen_bad (.pointer none) 0 1 w (noSes_nil w 0 1)
  have k5 := fun (w : World) => nflying_bad (.pointer none) 0 1 w (noSes_nil w 0 1)
  by_cases h : 1 ≤ a ∧ a ≤ 6
  · obtain ⟨N, rfl⟩ : ∃ N : Nat, a = (N : Int) := ⟨a.toNat, by omega⟩
    have hn := nnew_any N w (by omega) (by omega)
    have g1 : 1 ≤ (N : Int) := h.1
    have g2 : (N : Int) ≤ 6 := h.2
    clear h ha
    go_enter Try.func5, Try.ntmps5
    go_wp2_with fail
    refine hn.mono ?_
    rintro e w1 ⟨n, rfl, _, _, hb1⟩
    have HB1 := Lib.hid hb1
    clear hn hb1
    go_wp2_with fail
    refine (k1 _).mono ?_
    rintro e w2 ⟨rfl, rfl⟩
    go_wp2_with fail
    refine (awake11_any _).mono ?_
    rintro e w3 ⟨rfl, hb3⟩
    have HB3 := Lib.hid (HB1.out.trans (hb3.mono HB1.out.size))
    clear hb3 HB1
    go_wp2_with fail
    refine (k2 _).mono ?_
    rintro e w4 ⟨rfl, rfl⟩
    go_wp2_with fail
    refine (k3 _).mono ?_
    rintro e w5 ⟨rfl, rfl⟩
    go_wp2_with fail
    refine (k4 _).mono ?_
    rintro e w6 ⟨rfl, rfl⟩
    go_wp2_with fail
    refine (k5 _).mono ?_
    rintro e w7 ⟨rfl, rfl⟩
    go_wp2_with fail
    refine (nidle_nil _).mono ?_
    rintro e w8 ⟨rfl, rfl⟩
    go_wp2
    go_ret
    exact ⟨rfl, HB3.out⟩
  · have hh := h
    clear h
    rcases (show a < 1 ∨ 6 < a by omega) with g1 | g1
    · have g2 : ¬ 1 ≤ a := by omega
      clear ha hh
      go_enter Try.func5, Try.ntmps5
      go_wp2_with fail
      refine (nnew_bad a w (by omega)).mono ?_
      rintro e w1 ⟨rfl, rfl⟩
      have HB1 := Lib.hid (Below.refl w1.heap.size w1)
      go_wp2_with fail
      refine (k1 _).mono ?_
      rintro e w2 ⟨rfl, rfl⟩
      go_wp2_with fail
      refine (awake11_any _).mono ?_
      rintro e w3 ⟨rfl, hb3⟩
      have HB3 := Lib.hid (HB1.out.trans (hb3.mono HB1.out.size))
      clear hb3 HB1
      go_wp2_with fail
      refine (k2 _).mono ?_
      rintro e w4 ⟨rfl, rfl⟩
      go_wp2_with fail
      refine (k3 _).mono ?_
      rintro e w5 ⟨rfl, rfl⟩
      go_wp2_with fail
      refine (k4 _).mono ?_
      rintro e w6 ⟨rfl, rfl⟩
      go_wp2_with fail
      refine (k5 _).mono ?_
      rintro e w7 ⟨rfl, rfl⟩
      go_wp2_with fail
      refine (nidle_nil _).mono ?_
      rintro e w8 ⟨rfl, rfl⟩
      go_wp2
      go_ret
      exact ⟨rfl, HB3.out⟩
    · have g2 : 1 ≤ a := by omega
      have g3 : ¬ a ≤ 6 := by omega
      clear ha hh
      go_enter Try.func5, Try.ntmps5
      go_wp2_with fail
      refine (nnew_bad a w (by omega)).mono ?_
      rintro e w1 ⟨rfl, rfl⟩
      have HB1 := Lib.hid (Below.refl w1.heap.size w1)
      go_wp2_with fail
      refine (k1 _).mono ?_
      rintro e w2 ⟨rfl, rfl⟩
      go_wp2_with fail
      refine (awake11_any _).mono ?_
      rintro e w3 ⟨rfl, hb3⟩
      have HB3 := Lib.hid (HB1.out.trans (hb3.mono HB1.out.size))
      clear hb3 HB1
      go_wp2_with fail
      refine (k2 _).mono ?_
      rintro e w4 ⟨rfl, rfl⟩
      go_wp2_with fail
      refine (k3 _).mono ?_
      rintro e w5 ⟨rfl, rfl⟩
      go_wp2_with fail
      refine (k4 _).mono ?_
      rintro e w6 ⟨rfl, rfl⟩
      go_wp2_with fail
      refine (k5 _).mono ?_
      rintro e w7 ⟨rfl, rfl⟩
      go_wp2_with fail
      refine (nidle_nil _).mono ?_
      rintro e w8 ⟨rfl, rfl⟩
      go_wp2
      go_ret
      exact ⟨ret_bool (by simp; omega), HB3.out⟩
end Go.Proofs.Ytgaghlofcokijaa
