/- Texts of this proof, one behind the other: KeysGood, KeysRef3, KeysFidx, KeysWhole, Rw, RowAt, KeysRunesAny, KeysAwake, KeysRunesMath. -/
import Derived.Test.YthjjidfoclcghaaGR4
import Derived.Deep.QuietTactic
import Derived.BigQuiet
/- What keys.Good and keys.Meet answer. -/
namespace Go.Proofs.Ythjjidfoclcghaa
open Go.RowKit
set_option linter.unusedVariables false

set_option maxRecDepth 100000 in
set_option maxHeartbeats 400000 in
theorem bound_any (s : ByteArray) (w : World) (hs : s.size ≤ 9223372036854775807) :
    Calls Try.prog 62 #[.string s] w fun e w' => e = .returned (.bool (Km.bound s.data.toList)) ∧ Below w.heap.size w w' := by
  by_cases h : s.data.toList = []
  · have h1 : s.toList = [] := by rw [Lib.toList_data]; exact h
    go_enter Try.func62, Try.ntmps62
    go_wp2
    go_ret
    exact ⟨ret_bool (by simp [Km.bound, h]), Below.refl _ _⟩
  · have h1 : ¬ s.toList = [] := by rw [Lib.toList_data]; exact h
    have h2 : s.toList.isEmpty = false := by simpa using h1
    clear h
    go_enter Try.func62, Try.ntmps62
    go_wp2_with fail
    refine (check_any s _ hs).mono ?_
    rintro e w1 ⟨rfl, hb⟩
    generalize hc : Km.chk s.data.toList = c
    have HC := Lib.hid hc
    clear hc
    go_wp2
    go_ret
    rw [Lib.toList_data] at h2
    exact ⟨ret_bool (by rw [Km.bound, HC.out, h2]; simp), hb⟩

set_option maxRecDepth 100000 in
set_option maxHeartbeats 1000000 in
theorem good_any (f t : ByteArray) (w : World) (hf : f.size ≤ 9223372036854775807) (ht : t.size ≤ 9223372036854775807) :
    Calls Try.prog 57 #[.agg #[.string f, .string t]] w fun e w' => e = .returned (.bool (Km.good f.data.toList t.data.toList)) ∧ Below w.heap.size w w' := by
  go_enter Try.func57, Try.ntmps57
  go_wp2_with fail
  refine (bound_any f _ hf).mono ?_
  rintro e w1 ⟨rfl, hb⟩
  obtain ⟨c0, c1, z1, hb1⟩ := box2 hb
  clear hb
  cases hbf : Km.bound f.data.toList with
  | false =>
    have H1 := Lib.hid hbf
    clear hbf
    go_wp2
    go_ret
    exact ⟨ret_bool (by simp [Km.good, H1.out]), hb1⟩
  | true =>
    have H1 := Lib.hid hbf
    clear hbf
    go_wp2_with fail
    refine (bound_any t _ ht).mono ?_
    rintro e w2 ⟨rfl, hb⟩
    have d0 := kcell hb z1 c0
    have d1 := kcell hb z1 c1
    have hb2 := bstep hb1 hb
    clear c0 c1 hb hb1 z1
    cases hbt : Km.bound t.data.toList with
    | false =>
      have H2 := Lib.hid hbt
      clear hbt
      go_wp2
      go_ret
      exact ⟨ret_bool (by simp [Km.good, H1.out, H2.out]), hb2⟩
    | true =>
      have H2 := Lib.hid hbt
      clear hbt
      go_wp2
      all_goals
        go_ret
        refine ⟨ret_bool ?_, hb2⟩
        rw [Km.good, H1.out, H2.out, ← Km.bl_gtr f.data.toList, ← Lib.toList_data, ← Lib.toList_data]
        simp_all

end Go.Proofs.Ythjjidfoclcghaa
/- The document's Good and Meet. -/
namespace Go.Proofs.Ythjjidfoclcghaa
open Go.RowKit
set_option linter.unusedVariables false

set_option maxRecDepth 100000 in
set_option maxHeartbeats 800000 in
theorem refGood_any (f t : ByteArray) (w : World) (hf : f.size ≤ 9223372036854775807) (ht : t.size ≤ 9223372036854775807) :
    Calls Try.prog 56 #[.agg #[.string f, .string t]] w fun e w' => e = .returned (.bool (Km.good f.data.toList t.data.toList)) ∧ Below w.heap.size w w' := by
  go_enter Try.func56, Try.ntmps56
  go_wp2_with fail
  refine (refCheck_any f _ hf).mono ?_
  rintro e w1 ⟨rfl, rfl⟩
  generalize hx : Km.chk f.data.toList = x
  have HX := Lib.hid hx
  clear hx
  go_wp2_with fail
  refine (refCheck_any t _ ht).mono ?_
  rintro e w1 ⟨rfl, rfl⟩
  generalize hy : Km.chk t.data.toList = y
  have HY := Lib.hid hy
  clear hy
  cases x <;> cases y
  all_goals
    go_wp2
    all_goals
      go_ret
      refine ⟨ret_bool ?_, (Below.refl _ _).alloc (Nat.le_refl _) _⟩
      unfold Km.good Km.bound
      rw [HX.out, HY.out, ← Lib.toList_data, ← Lib.toList_data]
      simp_all

end Go.Proofs.Ythjjidfoclcghaa
/- The place of the first range that has a key. -/
namespace Go.Proofs.Ythjjidfoclcghaa
open Go.RowKit
set_option linter.unusedVariables false

namespace Km
def fidx (rs : List (List UInt8 × List UInt8)) (key : List UInt8) : Int := match rs.findIdx? (fun r => has r.1 r.2 key) with | none => -1 | some i => i
theorem fidx_hit {rs : List (List UInt8 × List UInt8)} {key : List UInt8} {k : Nat} (hk : k < rs.length) (h : ∀ j (hj : j < rs.length), j < k → has rs[j].1 rs[j].2 key = false) (hh : has rs[k].1 rs[k].2 key = true) : fidx rs key = k := by
  unfold fidx
  have : rs.findIdx? (fun r => has r.1 r.2 key) = some k := by
    rw [List.findIdx?_eq_some_iff_getElem]
    refine ⟨hk, by simpa using hh, fun j hj => ?_⟩
    rw [h j (by omega) hj]
    simp
  rw [this]
theorem fidx_none {rs : List (List UInt8 × List UInt8)} {key : List UInt8} (h : ∀ j (hj : j < rs.length), has rs[j].1 rs[j].2 key = false) : fidx rs key = -1 := by
  unfold fidx
  have : rs.findIdx? (fun r => has r.1 r.2 key) = none := by
    rw [List.findIdx?_eq_none_iff]
    intro x hx
    obtain ⟨j, hj, rfl⟩ := List.getElem_of_mem hx
    exact h j hj
  rw [this]
end Km
end Go.Proofs.Ythjjidfoclcghaa
/- What keys.Whole and keys.Find answer, and the document's. -/
namespace Go.Proofs.Ythjjidfoclcghaa
open Go.RowKit
set_option linter.unusedVariables false

namespace Km
/-- Do ranges go on from e to the end? -/
def whGo (first : Bool) (e : List UInt8) : List (List UInt8 × List UInt8) → Bool
  | [] => e.isEmpty
  | r :: t => good r.1 r.2 && r.1 == e && (first || !e.isEmpty) && whGo false r.2 t
def whole (rs : List (List UInt8 × List UInt8)) : Bool := !rs.isEmpty && whGo true [] rs
end Km

/-- A boxed range, and what it needs. -/
def Szs (rs : List (ByteArray × ByteArray)) : Prop := ∀ r ∈ rs, r.1.size ≤ 1099511627776 ∧ r.2.size ≤ 1099511627776

theorem wh_step {rs : List (ByteArray × ByteArray)} {k : Nat} (h : k < rs.length) (b : Bool) (e : List UInt8) :
    Km.whGo b e ((tls rs).drop k) = (Km.good rs[k].1.data.toList rs[k].2.data.toList && rs[k].1.data.toList == e && (b || !e.isEmpty) && Km.whGo false rs[k].2.data.toList ((tls rs).drop (k + 1))) := by
  rw [List.drop_eq_getElem_cons (by rw [tls_len]; exact h), tls_get rs k h, Km.whGo]

set_option maxRecDepth 100000 in
set_option maxHeartbeats 1600000 in
theorem whole_any (a : Option Addr) (cap : Nat) (rs : List (ByteArray × ByteArray)) (w : World) (hl : rs.length ≤ 100) (hz : Szs rs) (hr : RngIn w a rs) :
    Calls Try.prog 49 #[.slice a rs.length cap] w fun e w' => e = .returned (.bool (Km.whole (tls rs))) ∧ Below w.heap.size w w' := by
  have HR := Lib.hid hr
  have HZ := Lib.hid hz
  clear hr hz
  go_enter Try.func49, Try.ntmps49
  go_wp2
  go_loopw [3, 8] (fun s i wr => ∃ (k : Nat) (ee : ByteArray), k ≤ rs.length ∧ i = .int .i64 k ∧ s = .string ee ∧ Km.whGo true [] (tls rs) = Km.whGo (decide (k = 0)) ee.data.toList ((tls rs).drop k) ∧ (k = 0 → ee.data.toList = []) ∧ Below w.heap.size w wr) (fun _ i _ => rs.length - (intOf i).toNat)
  case atStart => exact ⟨0, ⟨#[]⟩, by omega, rfl, rfl, rfl, fun _ => rfl, Below.refl _ _⟩
  case round =>
    obtain ⟨k, ee, hk, rfl, rfl, hw, he0, hbel⟩ := hrel
    by_cases hlt : k < rs.length
    · obtain ⟨b, off, rfl, hbl, hc0, hc1⟩ := HR.out.below hbel k hlt
      obtain ⟨z1, z2⟩ := HZ.out rs[k] (List.getElem_mem hlt)
      rw [wh_step hlt] at hw
      generalize rs[k].1 = p at hc0 hw z1
      generalize rs[k].2 = q at hc1 hw z2
      have HW := Lib.hid hw
      have HE0 := Lib.hid he0
      clear hw he0
      have hfin : ∀ x, Km.whGo true [] (tls rs) = x → x = false → Km.whole (tls rs) = false := fun x h1 h2 => by unfold Km.whole; rw [h1, h2]; simp
      have HFN := Lib.hid hfin
      clear hfin
      go_wp2_with fail
      refine (good_any p q _ (by omega) (by omega)).mono ?_
      rintro e w2 ⟨rfl, hb⟩
      obtain ⟨d0, d1, z3, hb1⟩ := box2 hb
      have hb2 := bstep hbel hb1
      clear hb hb1
      generalize hg : Km.good p.data.toList q.data.toList = g
      have HG := Lib.hid hg
      clear hg
      cases g with
      | false =>
        go_wp2
        go_ret
        exact ⟨ret_bool (HFN.out _ HW.out (by rw [HG.out]; rfl)).symm, hb2⟩
      | true =>
        by_cases hpe : p.data.toList = ee.data.toList
        · have t1 : (p.toList == ee.toList) = true := by rw [Lib.toList_data, Lib.toList_data]; simpa using hpe
          have t2 : (p.toList != ee.toList) = false := by simp [bne, t1]
          have HP := Lib.hid hpe
          clear hpe
          by_cases hk0 : k = 0
          · have t3 : decide ((0 : Int) < (k : Int)) = false := by simp; omega
            have t3' : decide (0 < k) = false := by simp; omega
            have t3'' : ¬ 0 < k := by omega
            have HK := Lib.hid hk0
            clear hk0
            go_wp2
            go_roundw
            case rel =>
              refine ⟨k + 1, q, by omega, by go_num, rfl, ?_, (fun h => by omega), hb2⟩
              rw [HW.out, HG.out, HP.out, HK.out]
              simp
            case measure => simp [intOf]; omega
          · have t3 : decide ((0 : Int) < (k : Int)) = true := by simp; omega
            have t3' : decide (0 < k) = true := by simp; omega
            have t3'' : 0 < k := by omega
            by_cases hee : ee.data.toList = []
            · have t4 : ee.toList = [] := by rw [Lib.toList_data]; exact hee
              have t5 : ee.toList.isEmpty = true := by rw [t4]; rfl
              have t6 : p.toList = [] := by rw [Lib.toList_data, HP.out]; exact hee
              have t7 : p.toList.isEmpty = true := by rw [t6]; rfl
              have HEE := Lib.hid hee
              clear hee
              go_wp2
              go_ret
              refine ⟨ret_bool (HFN.out _ HW.out ?_).symm, hb2⟩
              rw [HEE.out]
              simp [hk0]
            · have t4 : ¬ ee.toList = [] := by rw [Lib.toList_data]; exact hee
              have t5 : ee.toList.isEmpty = false := by simpa using t4
              have HEE := Lib.hid hee
              clear hee
              go_wp2
              go_roundw
              case rel =>
                refine ⟨k + 1, q, by omega, by go_num, rfl, ?_, (fun h => by omega), hb2⟩
                rw [HW.out, HG.out, HP.out]
                have : ee.data.toList.isEmpty = false := by simpa using HEE.out
                rw [this]
                simp
              case measure => simp [intOf]; omega
        · have t1 : (p.toList == ee.toList) = false := by rw [Lib.toList_data, Lib.toList_data]; simpa using hpe
          have t2 : (p.toList != ee.toList) = true := by simp [bne, t1]
          have HP := Lib.hid hpe
          clear hpe
          go_wp2
          go_ret
          refine ⟨ret_bool (HFN.out _ HW.out ?_).symm, hb2⟩
          have : (p.data.toList == ee.data.toList) = false := by simpa using HP.out
          rw [this]
          simp
    · obtain rfl : k = rs.length := by omega
      rw [List.drop_eq_nil_of_le (by rw [tls_len]; omega)] at hw
      have HW := Lib.hid hw
      clear hw
      by_cases h0 : 0 < rs.length
      · have t0 : decide ((0 : Int) < (rs.length : Int)) = true := by simp; omega
        have t0' : decide (0 < rs.length) = true := by simp; omega
        have hfin : Km.whole (tls rs) = ee.toList.isEmpty := by
          unfold Km.whole
          rw [HW.out, Lib.toList_data]
          have : (tls rs).isEmpty = false := by
            rw [List.isEmpty_eq_false_iff]
            intro e
            have := congrArg List.length e
            rw [tls_len] at this
            simp at this
            rw [this] at h0
            simp at h0
          rw [this]
          rfl
        have HFN := Lib.hid hfin
        clear hfin
        go_wp2
        go_ret
        exact ⟨ret_bool HFN.out.symm, hbel⟩
      · have t0 : decide ((0 : Int) < (rs.length : Int)) = false := decide_eq_false (by omega)
        have t0' : decide (0 < rs.length) = false := decide_eq_false (by omega)
        have hfin : Km.whole (tls rs) = false := by
          have : rs = [] := List.length_eq_zero_iff.1 (by omega)
          rw [this]
          rfl
        have HFN := Lib.hid hfin
        clear hfin
        go_wp2
        go_ret
        exact ⟨ret_bool HFN.out.symm, hbel⟩

set_option maxRecDepth 100000 in
set_option maxHeartbeats 3200000 in
theorem refWhole_any (a : Option Addr) (cap : Nat) (rs : List (ByteArray × ByteArray)) (w : World) (hl : rs.length ≤ 100) (hz : Szs rs) (hr : RngIn w a rs) :
    Calls Try.prog 47 #[.slice a rs.length cap] w fun e w' => e = .returned (.bool (Km.whole (tls rs))) ∧ Below w.heap.size w w' := by
  have HR := Lib.hid hr
  have HZ := Lib.hid hz
  clear hr hz
  go_enter Try.func47, Try.ntmps47
  go_wp2
  go_loopw [3] (fun i wr => ∃ (k : Nat) (ee : ByteArray), k ≤ rs.length ∧ i = .int .i64 k ∧ Km.whGo true [] (tls rs) = Km.whGo (decide (k = 0)) ee.data.toList ((tls rs).drop k) ∧ (k = 0 → ee.data.toList = []) ∧ (∀ h : k - 1 < rs.length, 0 < k → rs[k - 1].2 = ee) ∧ Below w.heap.size w wr) (fun i _ => rs.length - (intOf i).toNat)
  case atStart => exact ⟨0, ⟨#[]⟩, by omega, rfl, rfl, (fun _ => rfl), (fun _ h => by omega), Below.refl _ _⟩
  case round =>
    obtain ⟨k, ee, hk, rfl, hw, he0, hpv, hbel⟩ := hrel
    by_cases hlt : k < rs.length
    · obtain ⟨b, off, rfl, hbl, hc0, hc1⟩ := HR.out.below hbel k hlt
      obtain ⟨z1, z2⟩ := HZ.out rs[k] (List.getElem_mem hlt)
      have HQ := Lib.hid (show rs[k].2 = rs[k].2 from rfl)
      rw [wh_step hlt] at hw
      generalize rs[k].1 = p at hc0 hw z1
      generalize hq : rs[k].2 = q at hc1 hw z2
      have HQQ := Lib.hid hq
      have HW := Lib.hid hw
      have HE0 := Lib.hid he0
      have HPV := Lib.hid hpv
      clear hw he0 hpv hq HQ
      have hfin : ∀ x, Km.whGo true [] (tls rs) = x → x = false → Km.whole (tls rs) = false := fun x h1 h2 => by unfold Km.whole; rw [h1, h2]; simp
      have HFN := Lib.hid hfin
      clear hfin
      go_wp2_with fail
      refine (refGood_any p q _ (by omega) (by omega)).mono ?_
      rintro e w2 ⟨rfl, hb⟩
      have d0 := kcell hb hbl hc0
      have d1 := kcell hb hbl hc1
      have hb2 := bstep hbel hb
      have hN : ∀ (k' : Nat), k' + 1 ≤ rs.length → Below w.heap.size w w2 := fun _ _ => hb2
      clear hN
      generalize hg : Km.good p.data.toList q.data.toList = g
      have HG := Lib.hid hg
      clear hg hc0 hc1
      have hnext : ∀ (h : k + 1 - 1 < rs.length), 0 < k + 1 → rs[k + 1 - 1].2 = q := fun h _ => by simp only [Nat.add_sub_cancel]; exact HQQ.out
      have HNX := Lib.hid hnext
      clear hnext
      cases g with
      | false =>
        clear hb
        go_wp2_with fail
        go_quiet (fail)
        go_wp2
        go_ret
        exact ⟨ret_bool (HFN.out _ HW.out (by rw [HG.out]; rfl)).symm, bstep hb2 (below_drewN (Below.refl _ _) _)⟩
      | true =>
        by_cases hk0 : k = 0
        · have t1 : ((k : Int) == 0) = true := by simp; omega
          have t1' : (k == 0) = true := by simp; omega
          have t2 : decide ((0 : Int) < (k : Int)) = false := decide_eq_false (by omega)
          have t2' : decide (0 < k) = false := decide_eq_false (by omega)
          have hee := HE0.out hk0
          by_cases hp : p.data.toList = []
          · have t3 : p.toList = [] := by rw [Lib.toList_data]; exact hp
            have t4 : p.toList.isEmpty = true := by rw [t3]; rfl
            have t5 : (!p.toList.isEmpty) = false := by rw [t4]; rfl
            have relw : Km.whGo true [] (tls rs) = Km.whGo (decide (k + 1 = 0)) q.data.toList ((tls rs).drop (k + 1)) := by
              rw [HW.out, HG.out, hp, hee, hk0]
              simp
            have RELW := Lib.hid relw
            clear relw hee hp hk0 hb
            go_wp2_with fail
            go_quiet (fail)
            go_wp2
            go_roundw
            case rel => exact ⟨k + 1, q, by omega, by go_num, RELW.out, (fun h => by omega), HNX.out, bstep hb2 (below_drewN (Below.refl _ _) _)⟩
            case measure => simp [intOf]; omega
          · have t3 : ¬ p.toList = [] := by rw [Lib.toList_data]; exact hp
            have t4 : p.toList.isEmpty = false := by simpa using t3
            have t5 : (!p.toList.isEmpty) = true := by rw [t4]; rfl
            have hno : (Km.good p.data.toList q.data.toList && p.data.toList == ee.data.toList && (decide (k = 0) || !ee.data.toList.isEmpty) && Km.whGo false q.data.toList ((tls rs).drop (k + 1))) = false := by
              have : (p.data.toList == ee.data.toList) = false := by rw [hee]; simpa using hp
              rw [this]
              simp
            have HNO := Lib.hid (HFN.out _ HW.out hno)
            clear hno hee hp hk0 hb
            go_wp2_with fail
            go_quiet (fail)
            go_wp2
            go_ret
            exact ⟨ret_bool HNO.out.symm, bstep hb2 (below_drewN (Below.refl _ _) _)⟩
        · have t1 : ((k : Int) == 0) = false := by simp; omega
          have t1' : (k == 0) = false := by simp; omega
          have t2 : decide ((0 : Int) < (k : Int)) = true := decide_eq_true (by omega)
          have t2' : decide (0 < k) = true := decide_eq_true (by omega)
          obtain ⟨b', off', e', _, _, hcp⟩ := HR.out.below hb2 (k - 1) (by omega)
          cases e'
          rw [HPV.out (by omega) (by omega)] at hcp
          have s0 : (k : Int) ≤ 100 := by omega
          have s5 : (k : Int) - 1 < (rs.length : Int) := by omega
          have s4 : (1 : Int) ≤ (k : Int) := by omega
          have s2 : (0 : Int) ≤ (k : Int) - 1 := by omega
          have s1 : IntKind.i64.wrap ((k : Int) - 1) = (k : Int) - 1 := IntWalk.i64_in _ (by omega)
          have s3 : ((k : Int) - 1).toNat = k - 1 := by omega
          by_cases hpe : p.data.toList = ee.data.toList
          · have t6 : (p.toList == ee.toList) = true := by rw [Lib.toList_data, Lib.toList_data]; simpa using hpe
            have t7 : (p.toList != ee.toList) = false := by simp [bne, t6]
            by_cases hp : p.data.toList = []
            · have t4 : p.toList.isEmpty = true := by rw [Lib.toList_data, hp]; rfl
              have t3 : p.toList = [] := by rw [Lib.toList_data]; exact hp
              have t8 : ee.toList = [] := by rw [Lib.toList_data, ← hpe]; exact hp
              have t9 : ee.toList.isEmpty = true := by rw [t8]; rfl
              have hno : (Km.good p.data.toList q.data.toList && p.data.toList == ee.data.toList && (decide (k = 0) || !ee.data.toList.isEmpty) && Km.whGo false q.data.toList ((tls rs).drop (k + 1))) = false := by
                rw [← hpe, hp]
                simp [hk0]
              have HNO := Lib.hid (HFN.out _ HW.out hno)
              clear hno hpe hp hk0 hb
              go_wp2_with fail
              go_quiet (fail)
              clear s1 s3
              go_wp2
              go_ret
              exact ⟨ret_bool HNO.out.symm, bstep hb2 (below_drewN (Below.refl _ _) _)⟩
            · have t3 : ¬ p.toList = [] := by rw [Lib.toList_data]; exact hp
              have t4 : p.toList.isEmpty = false := by simpa using t3
              have relw : Km.whGo true [] (tls rs) = Km.whGo (decide (k + 1 = 0)) q.data.toList ((tls rs).drop (k + 1)) := by
                have h1 : ee.data.toList.isEmpty = false := by rw [← hpe]; simpa using hp
                rw [HW.out, HG.out, h1, hpe]
                simp
              have RELW := Lib.hid relw
              clear relw hpe hp hk0 hb
              go_wp2_with fail
              go_quiet (fail)
              clear s1 s3
              go_wp2
              go_roundw
              case rel => exact ⟨k + 1, q, by omega, by go_num, RELW.out, (fun h => by omega), HNX.out, bstep hb2 (below_drewN (Below.refl _ _) _)⟩
              case measure => simp [intOf]; omega
          · have t6 : (p.toList == ee.toList) = false := by rw [Lib.toList_data, Lib.toList_data]; simpa using hpe
            have t7 : (p.toList != ee.toList) = true := by simp [bne, t6]
            have hno : (Km.good p.data.toList q.data.toList && p.data.toList == ee.data.toList && (decide (k = 0) || !ee.data.toList.isEmpty) && Km.whGo false q.data.toList ((tls rs).drop (k + 1))) = false := by
              have : (p.data.toList == ee.data.toList) = false := by simpa using hpe
              rw [this]
              simp
            have HNO := Lib.hid (HFN.out _ HW.out hno)
            clear hno hpe hk0 hb
            go_wp2_with fail
            go_quiet (fail)
            clear s1 s3
            go_wp2
            go_ret
            exact ⟨ret_bool HNO.out.symm, bstep hb2 (below_drewN (Below.refl _ _) _)⟩
    · obtain rfl : k = rs.length := by omega
      rw [List.drop_eq_nil_of_le (by rw [tls_len]; omega)] at hw
      by_cases h0 : 0 < rs.length
      · have t0 : decide ((0 : Int) < (rs.length : Int)) = true := decide_eq_true (by omega)
        have t0' : decide (0 < rs.length) = true := decide_eq_true (by omega)
        have hfin : Km.whole (tls rs) = ee.toList.isEmpty := by
          unfold Km.whole
          rw [hw, Lib.toList_data]
          have : (tls rs).isEmpty = false := by
            rw [List.isEmpty_eq_false_iff]
            intro e
            have := congrArg List.length e
            rw [tls_len] at this
            simp at this
            rw [this] at h0
            simp at h0
          rw [this]
          rfl
        have HFN := Lib.hid hfin
        obtain ⟨b', off', rfl, _, _, hcp⟩ := HR.out.below hbel (rs.length - 1) (by omega)
        rw [hpv (by omega) h0] at hcp
        have s5 : (rs.length : Int) - 1 < (rs.length : Int) := by omega
        have s4 : (1 : Int) ≤ (rs.length : Int) := by omega
        have s2 : (0 : Int) ≤ (rs.length : Int) - 1 := by omega
        have s3 : ((rs.length : Int) - 1).toNat = rs.length - 1 := by omega
        clear hfin hw hpv he0
        go_wp2
        go_ret
        exact ⟨ret_bool HFN.out.symm, hbel⟩
      · have t0 : decide ((0 : Int) < (rs.length : Int)) = false := decide_eq_false (by omega)
        have t0' : decide (0 < rs.length) = false := decide_eq_false (by omega)
        have hfin : Km.whole (tls rs) = false := by
          have : rs = [] := List.length_eq_zero_iff.1 (by omega)
          rw [this]
          rfl
        have HFN := Lib.hid hfin
        clear hfin hw hpv he0
        go_wp2
        go_ret
        exact ⟨ret_bool HFN.out.symm, hbel⟩
end Go.Proofs.Ythjjidfoclcghaa
/- A row of the partition table, as plain data. -/
namespace Go.Proofs.Ythjjidfoclcghaa
open Go.RowKit
set_option linter.unusedVariables false

/-- A row of the partition table. -/
structure Rw where
  rs : List (ByteArray × ByteArray)
  ow : List Int
  pa : List Int
def wbas (l : List (List UInt8 × List UInt8)) : List (ByteArray × ByteArray) := l.map fun r => (⟨r.1.toArray⟩, ⟨r.2.toArray⟩)
theorem wbas_len (l : List (List UInt8 × List UInt8)) : (wbas l).length = l.length := by simp [wbas]
theorem tls_wbas (l : List (List UInt8 × List UInt8)) : tls (wbas l) = l := by
  unfold tls wbas
  rw [List.map_map]
  conv => rhs; rw [← List.map_id l]
  rfl
theorem wbas_tls (l : List (ByteArray × ByteArray)) : wbas (tls l) = l := by
  unfold tls wbas
  rw [List.map_map]
  conv => rhs; rw [← List.map_id l]
  rfl
def noP (p : Int) : Bool := decide (p < -1) || decide (6 ≤ p)
def noO (n : Nat) (o : Int) : Bool := decide (o < 1) || decide (((2 ^ n : Nat) : Int) ≤ o)
def okRw (c : Rw) : Bool := decide (1 ≤ c.pa.length ∧ c.pa.length ≤ 6 ∧ c.rs.length ≤ 8 ∧ c.ow.length = c.rs.length) && Km.whole (tls c.rs) && !(c.pa.any noP) && !(c.ow.any (noO c.pa.length))
end Go.Proofs.Ythjjidfoclcghaa
/- A row of the partition table in memory. -/
namespace Go.Proofs.Ythjjidfoclcghaa
open Go.RowKit
set_option linter.unusedVariables false
set_option linter.unusedSimpArgs false

/-- A row's three slices in memory. -/
structure RwAt (w : World) (u0 u1 u2 : Value) (c : Rw) : Prop where
  rs : RowAt KR w u0 c.rs
  ow : RowAt KI w u1 c.ow
  pa : RowAt KI w u2 c.pa
  sz : Szs c.rs
theorem RwAt.below {w w' : World} {u0 u1 u2 : Value} {c : Rw} (h : RwAt w u0 u1 u2 c) (hb : Below w.heap.size w w') : RwAt w' u0 u1 u2 c := ⟨h.rs.below hb, h.ow.below hb, h.pa.below hb, h.sz⟩
/-- A variable of a row's type. -/
structure VrP (w : World) (b : Nat) (u0 u1 u2 : Value) : Prop where
  c0 : w.cell? ⟨b, 0, none⟩ = some u0
  c1 : w.cell? ⟨b, 1, none⟩ = some u1
  c2 : w.cell? ⟨b, 2, none⟩ = some u2
  f : ∀ j, j < 3 → w.frozen? ⟨b, j, none⟩ = false
theorem VrP.lt {w : World} {b : Nat} {u0 u1 u2 : Value} (h : VrP w b u0 u1 u2) : b < w.heap.size := lt_of_cellN h.c0
theorem VrP.block {w w' : World} {b : Nat} {u0 u1 u2 : Value} (h : VrP w b u0 u1 u2) (hb : w'.heap[b]? = w.heap[b]?) : VrP w' b u0 u1 u2 := by
  refine ⟨?_, ?_, ?_, fun j hj => by rw [World.frozen?_of_block hb]; exact h.f j hj⟩ <;> rw [World.cell?_of_block hb]
  · exact h.c0
  · exact h.c1
  · exact h.c2
theorem VrP.keep {w w' : World} {b : Nat} {u0 u1 u2 : Value} (h : VrP w b u0 u1 u2) (hb : Below w.heap.size w w') : VrP w' b u0 u1 u2 := h.block (hb.block b h.lt)
theorem VrP.new (w : World) (u0 u1 u2 : Value) (T : TypeId) : VrP (w.alloc (.cells #[u0, u1, u2] T)) w.heap.size u0 u1 u2 := ⟨by simp, by simp, by simp, fun j hj => by simp⟩

end Go.Proofs.Ythjjidfoclcghaa
/- What keys.Runes answers. -/
namespace Go.Proofs.Ythjjidfoclcghaa
open Go.RowKit
set_option linter.unusedVariables false

end Go.Proofs.Ythjjidfoclcghaa
/- What the laws' own helpers of layer 2 answer: awake, short. -/
namespace Go.Proofs.Ythjjidfoclcghaa
open Go.RowKit
set_option linter.unusedVariables false

namespace Km
/-- u is a rune, whatever stands behind it. -/
def isRune (u : List UInt8) : Prop := u ≠ [] ∧ 33 ≤ nth u 0 ∧ ∀ v, wid (u ++ v) = u.length
theorem cnt_rune {u v : List UInt8} {low : Nat} (h : isRune u) (hl : low ≤ 33) : cnt low (u ++ v) = (cnt low v).map (· + 1) := by
  obtain ⟨h1, h2, h3⟩ := h
  have hp := List.length_pos_iff.2 h1
  have hn : nth (u ++ v) 0 = nth u 0 := by
    unfold nth
    cases u with
    | nil => exact absurd rfl h1
    | cons a r => rfl
  rw [cnt_go (by simp [h1]) (by rw [h3]; exact hp) (by rw [hn]; omega), h3, List.drop_left]
theorem rune_a : isRune [97] := ⟨by simp, by decide, fun v => by simp [wid, nth, widN]⟩
theorem rune_e : isRune [195, 169] := ⟨by simp, by decide, fun v => by simp [wid, nth, widN, okc]⟩
theorem rune_b : isRune [98] := ⟨by simp, by decide, fun v => by simp [wid, nth, widN]⟩
theorem rune_d : isRune [100] := ⟨by simp, by decide, fun v => by simp [wid, nth, widN]⟩
theorem chk_one {u : List UInt8} (h : isRune u) : chk u = true := by
  have := cnt_rune (v := []) (low := 33) h (by omega)
  rw [List.append_nil, cnt_nil] at this
  unfold chk
  rw [this]
  rfl
theorem aw_good : good [98] [100] = true := by
  unfold good bound
  rw [chk_one rune_b, chk_one rune_d]
  rfl
theorem aw_chk : chk [195, 169] = true := chk_one rune_e
theorem aw_runes : runesV [195, 169, 97] = 2 := by
  have h := cnt_rune (v := [97]) (low := 0) rune_e (by omega)
  have h2 := cnt_rune (v := []) (low := 0) rune_a (by omega)
  rw [List.append_nil, cnt_nil] at h2
  rw [h2] at h
  have e : ([195, 169] ++ [97] : List UInt8) = [195, 169, 97] := rfl
  rw [e] at h
  unfold runesV
  rw [h]
  rfl
end Km

theorem aw1 (w : World) : Calls Try.prog 57 #[.agg #[.string ⟨#[98]⟩, .string ⟨#[100]⟩]] w fun e w' => e = .returned (.bool true) ∧ Below w.heap.size w w' := by
  have h := good_any ⟨#[98]⟩ ⟨#[100]⟩ w (by decide) (by decide)
  have e : Km.good (⟨#[98]⟩ : ByteArray).data.toList (⟨#[100]⟩ : ByteArray).data.toList = true := Km.aw_good
  rw [e] at h
  exact h
theorem aw2 (k : ByteArray) (b : Bool) (w : World) (hb : Km.has [98] [100] k.data.toList = b) : Calls Try.prog 54 #[.agg #[.string ⟨#[98]⟩, .string ⟨#[100]⟩], .string k] w fun e w' => e = .returned (.bool b) ∧ Below w.heap.size w w' := by
  have h := has_any ⟨#[98]⟩ ⟨#[100]⟩ k w
  have e : Km.has (⟨#[98]⟩ : ByteArray).data.toList (⟨#[100]⟩ : ByteArray).data.toList k.data.toList = b := hb
  rw [e] at h
  exact h
theorem aw3 (w : World) : Calls Try.prog 63 #[.string ⟨#[195, 169]⟩] w fun e w' => e = .returned (.bool true) ∧ Below w.heap.size w w' := by
  have h := check_any ⟨#[195, 169]⟩ w (by decide)
  have e : Km.chk (⟨#[195, 169]⟩ : ByteArray).data.toList = true := Km.aw_chk
  rw [e] at h
  exact h
theorem kshort_size (l : List UInt8) (n : Nat) : (⟨(l.take n).toArray⟩ : ByteArray).size ≤ n := by
  show (l.take n).toArray.size ≤ n
  rw [List.size_toArray]
  exact List.length_take_le _ _

/-- A text of at most so many bytes. -/
def kcut (n : Nat) (s : ByteArray) : ByteArray := ⟨(s.data.toList.take n).toArray⟩
theorem kcut_size (n : Nat) (s : ByteArray) : (kcut n s).size ≤ n := kshort_size _ _
end Go.Proofs.Ythjjidfoclcghaa
/- Texts of so many runes. Plain lemmas. -/
namespace Go.Proofs.Ythjjidfoclcghaa
set_option linter.unusedVariables false

namespace Km
/-- u is n runes, whatever stands behind it. -/
def run (n : Nat) (u : List UInt8) : Prop := u.length ≤ 4 * n ∧ ∀ v low, low ≤ 33 → cnt low (u ++ v) = (cnt low v).map (· + n)
theorem run_nil : run 0 [] := ⟨by simp, fun v low _ => by simp⟩
theorem run_snoc {n : Nat} {u r : List UInt8} (h : run n u) (hr : isRune r) (hl : r.length ≤ 4) : run (n + 1) (u ++ r) := by
  refine ⟨by have := h.1; simp; omega, fun v low hlow => ?_⟩
  rw [List.append_assoc, h.2 _ _ hlow, cnt_rune hr hlow]
  cases cnt low v with
  | none => rfl
  | some m => simp only [Option.map_some, Option.some.injEq]; omega
theorem run_cnt {n low : Nat} {u : List UInt8} (h : run n u) (hl : low ≤ 33) : cnt low u = some n := by
  have := h.2 [] low hl
  rw [List.append_nil, cnt_nil] at this
  simpa using this
theorem run_runes {n : Nat} {u : List UInt8} (h : run n u) : runesV u = n := by
  rw [runesV_eq, run_cnt h (by omega)]
theorem run_chk {n : Nat} {u : List UInt8} (h : run n u) : chk u = (decide (1 ≤ n) && decide (n ≤ 8)) := by
  unfold chk
  rw [run_cnt h (by omega)]
  have hc : capV 8 (some n) = (if n ≤ 8 then (n : Int) else -1) := rfl
  rw [Bool.eq_iff_iff, decide_eq_true_iff, Bool.and_eq_true, decide_eq_true_iff, decide_eq_true_iff, hc]
  by_cases h8 : n ≤ 8
  · rw [if_pos h8]; omega
  · rw [if_neg h8]; omega
theorem run_bad {n low : Nat} {u v : List UInt8} (h : run n u) (hl : low ≤ 33) (hv : cnt low v = none) : cnt low (u ++ v) = none := by
  rw [h.2 v low hl, hv]; rfl
theorem run_ff {n : Nat} {u : List UInt8} (h : run n u) : runesV (u ++ [255]) = -1 := by
  rw [runesV_eq, run_bad h (by omega) (cnt_bad (by simp) (.inl (by decide)))]
theorem run_sp {n : Nat} {u : List UInt8} (h : run n u) : chk (u ++ [32]) = false := by
  unfold chk
  rw [run_bad h (by omega) (cnt_bad (by simp) (.inr (by decide)))]; rfl
theorem run_c3 {n : Nat} {u : List UInt8} (h : run n u) : chk (u ++ [195]) = false := by
  unfold chk
  rw [run_bad h (by omega) (cnt_bad (by simp) (.inl (by decide)))]; rfl
theorem rune_euro : isRune [226, 130, 172] := ⟨by simp, by decide, fun v => by simp [wid, nth, widN, okc]⟩
theorem rune_grin : isRune [240, 159, 152, 128] := ⟨by simp, by decide, fun v => by simp [wid, nth, widN, okc]⟩
theorem rune_tilde : isRune [126] := ⟨by simp, by decide, fun v => by simp [wid, nth, widN]⟩
theorem rune_ffff : isRune [239, 191, 191] := ⟨by simp, by decide, fun v => by simp [wid, nth, widN, okc]⟩
end Km

end Go.Proofs.Ythjjidfoclcghaa
