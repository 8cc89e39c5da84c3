/- What the document's Same of two rows of packets answers. -/
import Derived.Test.YtgaghlofcokijaaLinkEnds
import Derived.IntWalk
namespace Go.Proofs.Ytgaghlofcokijaa
open Go.RowKit
set_option linter.unusedVariables false
set_option linter.unusedSimpArgs false

theorem take_eq_succ {α : Type} (l m : List α) (k : Nat) (h1 : k < l.length) (h2 : k < m.length) : l.take (k + 1) = m.take (k + 1) ↔ l.take k = m.take k ∧ l[k] = m[k] := by
  rw [List.take_succ_eq_append_getElem h1, List.take_succ_eq_append_getElem h2]
  constructor
  · intro h
    have := List.append_inj' h rfl
    exact ⟨this.1, by simpa using this.2⟩
  · rintro ⟨h3, h4⟩
    rw [h3, h4]

set_option maxRecDepth 100000 in
set_option maxHeartbeats 1600000 in
theorem same10_any (a1 a2 : Option Addr) (c1 c2 : Nat) (l m : List (Int × ByteArray)) (w : World) (hl : l.length ≤ 1000000) (h1 : RowIn KPk w a1 l) (h2 : RowIn KPk w a2 m) :
    Calls Try.prog 18 #[.slice a1 l.length c1, .slice a2 m.length c2] w fun e w' => e = .returned (.bool (decide (l = m))) ∧ Below w.heap.size w w' := by
  by_cases hlen : l.length = m.length
  · have HA := Lib.hid h1
    have HB := Lib.hid h2
    have HLM := Lib.hid hlen
    rw [← hlen]
    clear h1 h2 hlen
    go_enter Try.func18, Try.ntmps18
    go_wp2
    go_loopw [5] (fun i wr => ∃ k : Nat, k ≤ l.length ∧ i = .int .i64 k ∧ Hid (l.take k = m.take k) ∧ Below w.heap.size w wr) (fun i _ => l.length - (intOf i).toNat)
    case atStart => exact ⟨0, by omega, rfl, Lib.hid rfl, Below.refl _ _⟩
    case round =>
      obtain ⟨k, hk, rfl, HT, hbel⟩ := hrel
      by_cases hlt : k < l.length
      · have hlm : k < m.length := by rw [← HLM.out]; exact hlt
        obtain ⟨b, off, rfl, hbl, x0, x1⟩ := (HA.out.below hbel).pk k hlt
        obtain ⟨b', off', rfl, hbl', y0, y1⟩ := (HB.out.below hbel).pk k hlm
        have HS := Lib.hid (take_eq_succ l m k hlt hlm)
        have HSE : Hid (l[k] ≠ m[k] → l ≠ m) := Lib.hid (fun h e => h (by subst e; rfl))
        generalize l[k] = x at x0 x1 HS HSE
        generalize m[k] = y at y0 y1 HS HSE
        obtain ⟨n1, d1⟩ := x
        obtain ⟨n2, d2⟩ := y
        simp only at x0 x1 y0 y1
        have hne := fun w' => ne_pk w' n1 n2 d1 d2
        have hki : (k : Int) < (l.length : Int) := by omega
        by_cases he : ((n1, d1) : Int × ByteArray) = (n2, d2)
        · rw [decide_eq_true he] at hne
          have HT2 := Lib.hid (HS.out.2 ⟨HT.out, he⟩)
          have HBE := Lib.hid hbel
          clear HS HSE he hbl hbl' hbel
          go_upto_region 6 with fail
          go_quiet (fail)
          have hbd := bdrew10 wr nq
          have HBF := Lib.hid (bstep HBE.out hbd)
          clear hbd
          go_wp2
          go_roundw
          case rel => exact ⟨k + 1, by omega, by go_num, HT2, HBF.out⟩
          case measure => simp [intOf]; omega
        · rw [decide_eq_false he] at hne
          have HF : Hid (l ≠ m) := Lib.hid (HSE.out he)
          have HBE := Lib.hid hbel
          clear HS HSE he hbl hbl' hbel
          go_upto_region 6 with fail
          go_quiet (fail)
          have hbd := bdrew10 wr nq
          have HBF := Lib.hid (bstep HBE.out hbd)
          clear hbd
          go_wp2
          go_ret
          exact ⟨ret_bool (by rw [decide_eq_false HF.out]), HBF.out⟩
      · obtain rfl : k = l.length := by omega
        have HE : Hid (l = m) := Lib.hid (by
          have := HT.out
          rw [List.take_length, HLM.out, List.take_length] at this
          exact this)
        have HBE := Lib.hid hbel
        clear hbel HT
        go_wp2
        go_ret
        exact ⟨ret_bool (by rw [decide_eq_true HE.out]), HBE.out⟩
  · have he : ¬ l = m := fun e => hlen (by rw [e])
    rw [decide_eq_false he]
    have q1 : decide ((l.length : Int) = (m.length : Int)) = false := by simp; omega
    have q2 : decide (l.length = m.length) = false := by simp; omega
    clear h1 h2 he
    go_enter Try.func18, Try.ntmps18
    go_wp2
    go_ret
    exact ⟨rfl, Below.refl _ _⟩
end Go.Proofs.Ytgaghlofcokijaa
