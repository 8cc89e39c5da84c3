/- Texts of this proof, one behind the other: TabHas, ContI, TabCheck, KeysFind. -/
import Derived.Test.YthjjidfoclcghaaGR12
import Derived.Deep.DeepCutAuto
import Derived.Shelf.GgClosure.Gives
import Derived.Deep.QuietTactic
import Derived.BigQuiet
/- What table.has, Sites and Many answer, and the document's two, Bit and Many. -/
namespace Go.Proofs.Ythjjidfoclcghaa
open Go.RowKit
set_option linter.unusedVariables false
set_option linter.unusedSimpArgs false

theorem and1 (n : Int) : bits .and .i64 n 1 = n % 2 := by
  have e : bits .and .i64 n 1 = IntKind.i64.wrap ((BitVec.ofInt 64 n &&& BitVec.ofInt 64 1).toNat : Nat) := rfl
  have h : (BitVec.ofInt 64 n).toNat = _ := BitVec.toNat_ofInt n
  have h1 : (BitVec.ofInt 64 1).toNat = 1 := rfl
  rw [e, BitVec.toNat_and, h1, Nat.and_one_is_mod, h, IntKind.wrap_i64]
  omega
theorem and63 (n : Int) : bits .and .i64 n 63 = n % 64 := by
  have e : bits .and .i64 n 63 = IntKind.i64.wrap ((BitVec.ofInt 64 n &&& BitVec.ofInt 64 63).toNat : Nat) := rfl
  have h : (BitVec.ofInt 64 n).toNat = _ := BitVec.toNat_ofInt n
  have h1 : (BitVec.ofInt 64 63).toNat = 2 ^ 6 - 1 := rfl
  rw [e, BitVec.toNat_and, h1, Nat.and_two_pow_sub_one_eq_mod, h, IntKind.wrap_i64]
  omega

set_option maxRecDepth 100000 in
theorem sites_any (c : Rw) (u0 u1 u2 : Value) (w : World) (h : RowAt KI w u2 c.pa) :
    Calls Try.prog 38 #[.agg #[u0, u1, u2]] w fun e w' => e = .returned (.int .i64 (c.pa.length : Int)) ∧ Below w.heap.size w w' := by
  obtain ⟨a2, cp2, hu2, hq2, hm2, _⟩ := h
  subst hu2
  generalize c.pa.length = n at *
  go_enter Try.func38, Try.ntmps38
  go_wp2
  go_ret
  exact ⟨rfl, balloc (Below.refl _ _) _⟩

set_option maxRecDepth 100000 in
theorem two7_any (n : Nat) (w : World) (hn : n ≤ 60) :
    Calls Try.prog 39 #[.int .i64 (n : Int)] w fun e w' => e = .returned (.int .i64 ((2 ^ n : Nat) : Int)) ∧ w = w' := by
  go_enter Try.func39, Try.ntmps39
  go_wp2
  go_loop [3, 4] (fun p i => ∃ k q : Nat, k ≤ n ∧ i = .int .i64 k ∧ p = .int .i64 (q : Int) ∧ q = 2 ^ k) (fun _ i => n - (intOf i).toNat)
  case atStart => exact ⟨0, 1, by omega, rfl, rfl, rfl⟩
  case round =>
    obtain ⟨k, q, hk, rfl, rfl, hq⟩ := hrel
    have hq1 : q ≤ 1152921504606846976 := by
      rw [hq]
      exact Nat.pow_le_pow_right (n := 2) (by omega) (show k ≤ 60 by omega)
    have HQ := Lib.hid hq
    clear hq
    by_cases hlt : k < n
    · go_wp2
      go_round
      case rel => exact ⟨k + 1, q * 2, by omega, by go_num, by go_num, by rw [HQ.out, Nat.pow_succ]⟩
      case measure => simp [intOf]; omega
    · obtain rfl : k = n := by omega
      go_wp2
      go_ret
      exact ⟨ret_int (by rw [HQ.out]; simp), rfl⟩

set_option maxRecDepth 100000 in
theorem bit7_any (m k : Nat) (w : World) (hm : m < 64) (hk : k ≤ 60) :
    Calls Try.prog 27 #[.int .i64 (m : Int), .int .i64 (k : Int)] w fun e w' => e = .returned (.bool (bitN m k)) ∧ w = w' := by
  have hp : 1 ≤ 2 ^ k ∧ 2 ^ k ≤ 1152921504606846976 := ⟨Nat.two_pow_pos k, Nat.pow_le_pow_right (n := 2) (by omega) hk⟩
  have hB := bitN_nat m k
  have hcon := two7_any k w hk
  generalize bitN m k = b at hB ⊢
  generalize 2 ^ k = q at hp hB hcon
  obtain ⟨hp1, hp2⟩ := hp
  have HB := Lib.hid hB
  clear hB
  go_enter Try.func27, Try.ntmps27
  go_wp2_with fail
  refine hcon.mono ?_
  rintro e w1 ⟨rfl, rfl⟩
  go_wp2
  go_ret
  refine ⟨ret_bool ?_, rfl⟩
  rw [HB.out, Bool.eq_iff_iff]
  have e1 : ((m : Int) / (q : Int)) = ((m / q : Nat) : Int) := by simp
  rw [e1]
  have hz : m / q < 64 := Nat.lt_of_le_of_lt (Nat.div_le_self m q) hm
  generalize m / q = z at hz ⊢
  have e2 : wrap64 (z : Int) = (z : Int) := by unfold wrap64; omega
  rw [e2, Int.tmod_eq_emod_of_nonneg (by omega)]
  simp
  omega

end Go.Proofs.Ythjjidfoclcghaa
/- What slices.ContainsFunc answers of ints. -/
namespace Go.Proofs.Ythjjidfoclcghaa
open Go.RowKit
set_option linter.unusedVariables false
set_option linter.unusedSimpArgs false

def fidxI (p : Int → Bool) (l : List Int) : Int := match l.findIdx? p with | none => -1 | some i => i
theorem fidxI_hit {p : Int → Bool} {l : List Int} {k : Nat} (hk : k < l.length) (h : ∀ j (hj : j < l.length), j < k → p l[j] = false) (hh : p l[k] = true) : fidxI p l = k := by
  have e : l.findIdx? p = some k := by
    rw [List.findIdx?_eq_some_iff_getElem]
    exact ⟨hk, hh, fun j hj => by simpa using h j (by omega) hj⟩
  simp [fidxI, e]
theorem fidxI_none {p : Int → Bool} {l : List Int} (h : ∀ j (hj : j < l.length), p l[j] = false) : fidxI p l = -1 := by
  have e : l.findIdx? p = none := by
    rw [List.findIdx?_eq_none_iff]
    intro x hx
    obtain ⟨j, hj, rfl⟩ := List.getElem_of_mem hx
    simpa using h j hj
  simp [fidxI, e]
theorem fidxI_any (p : Int → Bool) (l : List Int) : decide (0 ≤ fidxI p l) = l.any p := by
  unfold fidxI
  cases h : l.findIdx? p with
  | none =>
    rw [List.findIdx?_eq_none_iff] at h
    have : l.any p = false := by rw [List.any_eq_false]; intro x hx; simp [h x hx]
    rw [this]
    rfl
  | some i =>
    rw [List.findIdx?_eq_some_iff_getElem] at h
    obtain ⟨hi, hh, _⟩ := h
    have : l.any p = true := List.any_eq_true.2 ⟨l[i], List.getElem_mem hi, hh⟩
    rw [this]
    simp
/-- What is asked of a predicate over ints. -/
def PredI (g : Nat) (lb : Array Value) (p : Int → Bool) (l : List Int) (base : Nat) (w : World) : Prop :=
  ∀ (W : World) (d : Int), d ∈ l → Below base w W → Calls Try.prog g (#[.int .i64 d] ++ lb) W fun e w' => e = .returned (.bool (p d)) ∧ Below W.heap.size W w'

set_option maxRecDepth 100000 in
set_option maxHeartbeats 800000 in
theorem idxFuncI_any (g : Nat) (lb : Array Value) (eg : ∀ args w, (callFunc g args).run Try.prog w = .ok (.enter g args) w) (p : Int → Bool) (a : Option Addr) (cap base : Nat) (l : List Int) (w : World) (hl : l.length ≤ 1000000) (hr : RowIn KI w a l) (hbs : base ≤ w.heap.size) (hp : PredI g lb p l base w) :
    Calls Try.prog 58 #[.slice a l.length cap, .func (.func g) #[] lb] w fun e w' => e = .returned (.int .i64 (fidxI p l)) ∧ Below w.heap.size w w' := by
  have HR := Lib.hid hr
  have HP := Lib.hid hp
  clear hr hp
  go_enter Try.func58, Try.ntmps58
  go_wp2
  go_loopw [8] (fun i wr => ∃ k : Nat, k ≤ l.length ∧ i = .int .i64 k ∧ (∀ j (hj : j < l.length), j < k → p l[j] = false) ∧ Below w.heap.size w wr) (fun i _ => l.length - (intOf i).toNat)
  case atStart => exact ⟨0, by omega, rfl, (fun j hj h => by omega), Below.refl _ _⟩
  case round =>
    obtain ⟨k, hk, rfl, hall, hbel⟩ := hrel
    have HA := Lib.hid hall
    clear hall
    by_cases hlt : k < l.length
    · obtain ⟨b, off, rfl, hbl, c0⟩ := (HR.out.below hbel).int k hlt
      have hcall := HP.out wr l[k] (List.getElem_mem hlt) (hbel.mono hbs)
      have HH := Lib.hid (@fidxI_hit p l k hlt HA.out)
      have HN : Hid (p l[k] = false → ∀ j (hj : j < l.length), j < k + 1 → p l[j] = false) := Lib.hid (fun h j hj h2 => by
        by_cases e : j = k
        · subst e; exact h
        · exact HA.out j hj (by omega))
      generalize l[k] = d at c0 hcall HH HN
      cases hq : p d with
      | true =>
        rw [hq] at hcall
        have HQ := Lib.hid hq
        clear hq
        go_wp2_with (go_at_fn g; refine hcall.mono ?_; rintro e w' ⟨rfl, hb'⟩)
        go_ret
        exact ⟨ret_int (HH.out HQ.out).symm, bstep hbel hb'⟩
      | false =>
        rw [hq] at hcall
        have HQ := Lib.hid hq
        clear hq
        go_wp2_with (go_at_fn g; refine hcall.mono ?_; rintro e w' ⟨rfl, hb'⟩)
        go_roundw
        case rel => exact ⟨k + 1, by omega, by go_num, HN.out HQ.out, bstep hbel hb'⟩
        case measure => simp [intOf]; omega
    · obtain rfl : k = l.length := by omega
      go_wp2
      go_ret
      exact ⟨ret_int (fidxI_none (fun j hj => HA.out j hj hj)).symm, hbel⟩

set_option maxRecDepth 100000 in
set_option maxHeartbeats 800000 in
theorem contFuncI_any (g : Nat) (lb : Array Value) (eg : ∀ args w, (callFunc g args).run Try.prog w = .ok (.enter g args) w) (p : Int → Bool) (v : Value) (base : Nat) (l : List Int) (w : World) (hl : l.length ≤ 1000000) (hr : RowAt KI w v l) (hbs : base ≤ w.heap.size) (hp : PredI g lb p l base w) :
    Calls Try.prog 50 #[v, .func (.func g) #[] lb] w fun e w' => e = .returned (.bool (l.any p)) ∧ Below w.heap.size w w' := by
  obtain ⟨a, cap, rfl, _, _, _, hri⟩ := hr
  have hcon := idxFuncI_any g lb eg p a cap base l w hl hri hbs hp
  rw [← fidxI_any]
  generalize fidxI p l = r at hcon ⊢
  clear hri hp
  go_enter Try.func50, Try.ntmps50
  go_wp2_with fail
  refine hcon.mono ?_
  rintro e w1 ⟨rfl, hb⟩
  go_wp2
  all_goals
    go_ret
    exact ⟨ret_bool (by simp_all), hb⟩

end Go.Proofs.Ythjjidfoclcghaa
/- What table.Check answers, and the document's. -/
namespace Go.Proofs.Ythjjidfoclcghaa
open Go.RowKit
set_option linter.unusedVariables false
set_option linter.unusedSimpArgs false

set_option maxRecDepth 100000 in
theorem noO7_any (o : Int) (n B : Nat) (w : World) (hn : 1 ≤ n ∧ n ≤ 6) (hc : w.cell? ⟨B, 0, none⟩ = some (.int .i64 (n : Int))) :
    Calls Try.prog 48 #[.int .i64 o, .pointer (some ⟨B, 0, none⟩)] w fun e w' => e = .returned (.bool (noO n o)) ∧ Below w.heap.size w w' := by
  unfold noO
  have hw : wrap64 ((2 : Int) ^ n) = ((2 ^ n : Nat) : Int) := by
    rcases (show n = 1 ∨ n = 2 ∨ n = 3 ∨ n = 4 ∨ n = 5 ∨ n = 6 by omega) with rfl | rfl | rfl | rfl | rfl | rfl <;> kernel_rfl
  by_cases h1 : o < 1
  · go_enter Try.func48, Try.ntmps48
    go_wp2
    go_ret
    exact ⟨ret_bool (by simp [h1]), Below.refl _ _⟩
  · rw [decide_eq_false h1, Bool.false_or]
    go_enter Try.func48, Try.ntmps48
    go_wp2
    go_ret
    exact ⟨ret_bool (by first | rw [hw] | rfl), Below.refl _ _⟩

theorem kc7 {W w1 : World} {b o : Nat} {v : Value} (hb : Below W.heap.size W w1) (h : W.cell? ⟨b, o, none⟩ = some v) : w1.cell? ⟨b, o, none⟩ = some v := (hb.cell (p := ⟨b, o, none⟩) (World.block_lt_of_cell? W _ h)).trans h

set_option maxRecDepth 100000 in
set_option maxHeartbeats 1600000 in
theorem check7_any (c : Rw) (u0 u1 u2 : Value) (w : World) (h : RwAt w u0 u1 u2 c) :
    Calls Try.prog 36 #[.agg #[u0, u1, u2]] w fun e w' => e = .returned (.bool (tOk c)) ∧ Below w.heap.size w w' := by
  have hmf : ∀ (fn : Fn) (first cap : Array Value) (w : World), (Instr.makeFunc fn first cap).run Try.prog w = .ok (.func fn first cap) w := fun _ _ _ _ => rfl
  have HW := Lib.hid h
  obtain ⟨a0, cp0, hu0, hq0, hm0, _, hri0⟩ := h.rs
  obtain ⟨a1, cp1, hu1, hq1, hm1, _⟩ := h.ow
  obtain ⟨rs, ow, pa⟩ := c
  dsimp only at hu0 hu1 hq0 hq1 hri0
  unfold maxLen at hm0 hm1
  subst hu0 hu1
  have hV := VrP.new w (.slice a0 rs.length cp0) (.slice a1 ow.length cp1) u2 29
  have hb0 : Below w.heap.size w (w.alloc (.cells #[.slice a0 rs.length cp0, .slice a1 ow.length cp1, u2] 29)) := balloc (Below.refl _ w) _
  clear h
  generalize hOK : tOk ⟨rs, ow, pa⟩ = OK
  have HOK := Lib.hid hOK
  clear hOK
  go_enter Try.func36, Try.ntmps36
  go_wp2_with fail
  refine (sites_any ⟨rs, ow, pa⟩ _ _ _ _ (HW.out.pa.below hb0)).mono ?_
  rintro e w1 ⟨rfl, hb1⟩
  have hbw1 := bstep hb0 hb1
  have hV1 := hV.keep hb1
  dsimp only
  have hbn := balloc (Below.refl _ w1) (.cells #[.int .i64 (pa.length : Int)] 3)
  have hN : (w1.alloc (.cells #[.int .i64 (pa.length : Int)] 3)).cell? ⟨w1.heap.size, 0, none⟩ = some (.int .i64 (pa.length : Int)) := by simp
  have hV2 := hV1.keep hbn
  have hbw := bstep hbw1 hbn
  have hm2 : pa.length ≤ 9223372036854775807 := by
    obtain ⟨a2, cp2, _, hq2, hm2, _⟩ := HW.out.pa
    unfold maxLen at hm2
    exact Nat.le_trans hq2 hm2
  have HNN : Hid (∃ B, B = w1.heap.size) := Lib.hid ⟨_, rfl⟩
  clear hb0 hV hb1 hbw1 hV1 hbn
  go_upto_region 2 with fail
  generalize w1.alloc (.cells #[.int .i64 (pa.length : Int)] 3) = w2 at *
  have HV2 := Lib.hid hV2
  have HBW := Lib.hid hbw
  obtain ⟨c0, c1, c2, _⟩ := hV2
  clear hbw
  by_cases hok : 1 ≤ pa.length ∧ pa.length ≤ 6 ∧ rs.length ≤ 8 ∧ ow.length = rs.length
  · obtain ⟨k1, k2, k3, k4⟩ := hok
    have t1 : ¬ (pa.length : Int) < 1 := by omega
    have t2 : ¬ (6 : Int) < (pa.length : Int) := by omega
    have t3 : ¬ (8 : Int) < (rs.length : Int) := by omega
    have t4 : ((ow.length : Int) != (rs.length : Int)) = false := by rw [k4, bne_self_eq_false]
    have hwh := fun W (hb : Below w.heap.size w W) => whole_any a0 cp0 rs W (by omega) HW.out.sz (RowIn.rng (hri0.below hb))
    have hco := fun W (hb : Below w.heap.size w W) (hn : W.cell? ⟨w1.heap.size, 0, none⟩ = some (.int .i64 (pa.length : Int))) => contFuncI_any 48 #[.pointer (some ⟨w1.heap.size, 0, none⟩)] (enters_of Try.func48 (by kernel_rfl) rfl) (noO pa.length) (.slice a1 ow.length cp1) W.heap.size ow W (by omega) (HW.out.ow.below hb) (Nat.le_refl _) (fun W' d _ hb' => noO7_any d pa.length _ W' ⟨k1, k2⟩ (kc7 hb' hn))
    have e0 : tOk ⟨rs, ow, pa⟩ = (Km.whole (tls rs) && !(ow.any (noO pa.length))) := by
      unfold tOk
      rw [decide_eq_true (show 1 ≤ pa.length ∧ pa.length ≤ 6 ∧ rs.length ≤ 8 ∧ ow.length = rs.length from ⟨k1, k2, k3, k4⟩), Bool.true_and]
    rw [e0] at HOK
    generalize Km.whole (tls rs) = wb at hwh HOK
    generalize ow.any (noO pa.length) = ob at hco HOK
    clear e0 k1 k2 k3 k4
    have hbw := HBW.out
    go_wp2_with fail
    refine (hwh _ hbw).mono ?_
    rintro e w3 ⟨rfl, hb3⟩
    have HB3 := Lib.hid (bstep hbw hb3)
    have hV3 := HV2.out.keep hb3
    have hN3 := kc7 hb3 hN
    clear c0 c1 c2 hb3 hbw hwh
    obtain ⟨c0, c1, c2, _⟩ := hV3
    cases wb with
    | false =>
      go_wp2
      go_ret
      exact ⟨ret_bool (by rw [← HOK.out]; rfl), HB3.out⟩
    | true =>
      go_wp2_with fail
      refine (hco _ HB3.out hN3).mono ?_
      rintro e w5 ⟨rfl, hb5⟩
      go_wp2
      go_ret
      exact ⟨ret_bool (by rw [← HOK.out]; simp), bstep HB3.out hb5⟩
  · have e0 : OK = false := by
      rw [← HOK.out]
      unfold tOk
      rw [decide_eq_false (show ¬ (1 ≤ pa.length ∧ pa.length ≤ 6 ∧ rs.length ≤ 8 ∧ ow.length = rs.length) from hok)]
      rfl
    subst e0
    clear HOK
    by_cases t1 : (pa.length : Int) < 1
    · clear hok
      go_wp2
      go_ret
      exact ⟨ret_bool (by simp_all), HBW.out⟩
    · by_cases t2 : (6 : Int) < (pa.length : Int)
      · clear hok
        go_wp2
        go_ret
        exact ⟨ret_bool (by simp_all), HBW.out⟩
      · by_cases t3 : (8 : Int) < (rs.length : Int)
        · clear hok
          go_wp2
          go_ret
          exact ⟨ret_bool (by simp_all), HBW.out⟩
        · have t4 : ((ow.length : Int) != (rs.length : Int)) = true := by rw [bne_iff_ne]; omega
          clear hok
          go_wp2
          go_ret
          exact ⟨ret_bool (by simp_all), HBW.out⟩

theorem two7_same (n : Nat) (w : World) (hn : n ≤ 60) :
    Calls Try.prog 39 #[.int .i64 (n : Int)] w fun e w' => e = .returned (.int .i64 ((2 ^ n : Nat) : Int)) ∧ w' = w :=
  (two7_any n w hn).mono fun _ _ h => ⟨h.1, h.2.symm⟩

set_option maxRecDepth 100000 in
set_option maxHeartbeats 1600000 in
theorem refCheck7_any (c : Rw) (u0 u1 u2 : Value) (w : World) (h : RwAt w u0 u1 u2 c) (hl : c.rs.length ≤ 100) :
    Calls Try.prog 34 #[.agg #[u0, u1, u2]] w fun e w' => e = .returned (.bool (tOk c)) ∧ Below w.heap.size w w' := by
  have HW := Lib.hid h
  obtain ⟨a0, cp0, hu0, hq0, hm0, _, hri0⟩ := h.rs
  obtain ⟨a1, cp1, hu1, hq1, hm1, _⟩ := h.ow
  obtain ⟨a2, cp2, hu2, hq2, hm2, _⟩ := h.pa
  obtain ⟨rs, ow, pa⟩ := c
  dsimp only at hu0 hu1 hu2 hq0 hq1 hq2 hri0 hl
  unfold maxLen at hm0 hm1 hm2
  subst hu0 hu1 hu2
  have hV := VrP.new w (.slice a0 rs.length cp0) (.slice a1 ow.length cp1) (.slice a2 pa.length cp2) 29
  have hb0 : Below w.heap.size w (w.alloc (.cells #[.slice a0 rs.length cp0, .slice a1 ow.length cp1, .slice a2 pa.length cp2] 29)) := balloc (Below.refl _ w) _
  have HRI := Lib.hid hri0
  clear h hri0
  generalize hOK : tOk ⟨rs, ow, pa⟩ = OK
  have HOK := Lib.hid hOK
  clear hOK
  go_enter Try.func34, Try.ntmps34
  go_wp2_with fail
  refine (refWhole_any a0 cp0 rs _ hl HW.out.sz (RowIn.rng (HRI.out.below hb0))).mono ?_
  rintro e w2 ⟨rfl, hb2⟩
  have hbw := bstep hb0 hb2
  have hV2 := hV.keep hb2
  have HV2 := Lib.hid hV2
  have HBW := Lib.hid hbw
  obtain ⟨c0, c1, c2, _⟩ := hV2
  clear hb0 hV hb2 hbw
  generalize hwq : Km.whole (tls rs) = wb
  have HWQ := Lib.hid hwq
  clear hwq
  by_cases hok : 1 ≤ pa.length ∧ pa.length ≤ 6 ∧ rs.length ≤ 8 ∧ ow.length = rs.length
  · have e0 : tOk ⟨rs, ow, pa⟩ = (wb && !(ow.any (noO pa.length))) := by
      unfold tOk
      rw [decide_eq_true (show 1 ≤ pa.length ∧ pa.length ≤ 6 ∧ rs.length ≤ 8 ∧ ow.length = rs.length from hok), Bool.true_and, HWQ.out]
    rw [e0] at HOK
    clear e0
    obtain ⟨k1, k2, k3, k4⟩ := hok
    have t1 : ¬ (pa.length : Int) < 1 := by omega
    have t2 : ¬ (6 : Int) < (pa.length : Int) := by omega
    have t3 : ¬ (8 : Int) < (rs.length : Int) := by omega
    have t4 : ((ow.length : Int) != (rs.length : Int)) = false := by rw [k4, bne_self_eq_false]
    have k4' : ow.length ≤ 8 := by omega
    clear k4
    cases wb with
    | false =>
      go_wp2
      go_ret
      exact ⟨ret_bool (by rw [← HOK.out]; rfl), HBW.out⟩
    | true =>
      generalize hpa : pa.length = n at *
      have HPA := Lib.hid hpa
      clear hpa
      go_wp2_with fail
      go_loopw [5] (fun i wr => ∃ k : Nat, k ≤ ow.length ∧ i = .int .i64 k ∧ (ow.take k).any (noO n) = false ∧ Below w2.heap.size w2 wr) (fun i _ => ow.length - (intOf i).toNat)
      case atStart => exact ⟨0, by omega, rfl, rfl, Below.refl _ _⟩
      case round =>
        obtain ⟨k, hk, rfl, hno, hbel⟩ := hrel
        have hVr := HV2.out.keep hbel
        have HBR := Lib.hid (bstep HBW.out hbel)
        have HBL := Lib.hid hbel
        clear c0 c1 c2 hbel
        obtain ⟨c0, c1, c2, _⟩ := hVr
        have HNO := Lib.hid hno
        clear hno
        by_cases hlt : k < ow.length
        · have hrow : RowIn KI wr a1 ow := by
            obtain ⟨a', cp', e, _, _, _, hr⟩ := HW.out.ow.below HBR.out
            cases e
            exact hr
          obtain ⟨b, off, rfl, hbl, cc⟩ := hrow.int k hlt
          have HST : Hid ((ow.take (k + 1)).any (noO n) = noO n ow[k]) := Lib.hid (by
            rw [List.take_succ_eq_append_getElem hlt, List.any_append, HNO.out]
            simp)
          have HAL : Hid (noO n ow[k] = true → ow.any (noO n) = true) := Lib.hid (fun h => List.any_eq_true.2 ⟨_, List.getElem_mem hlt, h⟩)
          generalize ow[k] = o at cc HST HAL
          have htw := fun W => two7_same n W (by omega)
          have HNOO : Hid (noO n o = (decide (o < 1) || decide (((2 ^ n : Nat) : Int) ≤ o))) := Lib.hid rfl
          generalize 2 ^ n = q at htw HNOO
          by_cases h1 : o < 1
          · go_wp2_with fail
            go_quiet (fail)
            go_wp2
            go_ret
            exact ⟨ret_bool (by rw [← HOK.out, HAL.out (by rw [HNOO.out, decide_eq_true h1]; rfl)]; rfl), bstep HBR.out (below_drewN (Below.refl _ _) _)⟩
          · have h1' : decide (o < 1) = false := decide_eq_false h1
            by_cases h2 : (q : Int) ≤ o
            · go_wp2_with fail
              go_quiet ((go_at_call 39; exact Calls.quiet_of_same (htw _)))
              go_wp2
              go_ret
              exact ⟨ret_bool (by rw [← HOK.out, HAL.out (by rw [HNOO.out, decide_eq_true h2]; simp)]; rfl), bstep HBR.out (below_drewN (Below.refl _ _) _)⟩
            · go_wp2_with fail
              go_quiet ((go_at_call 39; exact Calls.quiet_of_same (htw _)))
              go_wp2
              go_roundw
              case rel => exact ⟨k + 1, by omega, by go_num, by rw [HST.out, HNOO.out, decide_eq_false (show ¬ o < 1 by omega), decide_eq_false (show ¬ (q : Int) ≤ o by omega)]; rfl, bstep HBL.out (below_drewN (Below.refl _ _) _)⟩
              case measure => simp [intOf]; omega
        · obtain rfl : k = ow.length := by omega
          go_wp2
          go_ret
          exact ⟨ret_bool (by rw [← HOK.out]; have := HNO.out; rw [List.take_length] at this; rw [this]; rfl), HBR.out⟩
  · have e0 : OK = false := by
      rw [← HOK.out]
      unfold tOk
      rw [decide_eq_false (show ¬ (1 ≤ pa.length ∧ pa.length ≤ 6 ∧ rs.length ≤ 8 ∧ ow.length = rs.length) from hok)]
      rfl
    subst e0
    clear HOK
    cases wb with
    | false =>
      clear hok
      go_wp2
      go_ret
      exact ⟨ret_bool rfl, HBW.out⟩
    | true =>
      by_cases t1 : (8 : Int) < (rs.length : Int)
      · clear hok
        go_wp2
        go_ret
        exact ⟨ret_bool (by simp_all), HBW.out⟩
      · cases t2 : ((ow.length : Int) != (rs.length : Int)) with
        | true =>
          clear hok
          go_wp2
          go_ret
          exact ⟨ret_bool (by simp_all), HBW.out⟩
        | false =>
          have t2' : ow.length = rs.length := by
            have : (ow.length : Int) = (rs.length : Int) := by simpa using t2
            omega
          have HT2 := Lib.hid t2'
          clear t2'
          by_cases t3 : (pa.length : Int) < 1
          · clear hok
            go_wp2
            go_ret
            exact ⟨ret_bool (by simp_all), HBW.out⟩
          · have t4 : (6 : Int) < (pa.length : Int) := by have := HT2.out; omega
            clear hok
            go_wp2
            go_ret
            exact ⟨ret_bool (by simp_all), HBW.out⟩
end Go.Proofs.Ythjjidfoclcghaa
/- What keys.Find answers, and the document's. -/
namespace Go.Proofs.Ythjjidfoclcghaa
open Go.RowKit
set_option linter.unusedVariables false

set_option maxRecDepth 100000 in
theorem findIn_any (f t key : ByteArray) (B : Nat) (w : World) (hB : B < w.heap.size) (hc : w.cell? ⟨B, 0, none⟩ = some (.string key)) :
    Calls Try.prog 53 #[.agg #[.string f, .string t], .pointer (some ⟨B, 0, none⟩)] w fun e w' => e = .returned (.bool (Km.has f.data.toList t.data.toList key.data.toList)) ∧ Below w.heap.size w w' := by
  have hne : B ≠ w.heap.size := by omega
  have hc1 : ∀ o, (w.alloc o).cell? ⟨B, 0, none⟩ = some (.string key) := fun o => (((Below.refl _ w).alloc (Nat.le_refl _) o).cell (p := ⟨B, 0, none⟩) hB).trans hc
  go_enter Try.func53, Try.ntmps53
  go_wp2_with fail
  refine (has_any f t key _).mono ?_
  rintro e w1 ⟨rfl, hb⟩
  generalize hx : Km.has f.data.toList t.data.toList key.data.toList = x
  have HX := Lib.hid hx
  clear hx
  go_wp2
  go_ret
  exact ⟨ret_bool HX.out.symm, (balloc (Below.refl _ w) _).trans (hb.mono (by simp))⟩

set_option maxRecDepth 100000 in
set_option maxHeartbeats 800000 in
theorem indexFunc_any (a : Option Addr) (cap : Nat) (rs : List (ByteArray × ByteArray)) (key : ByteArray) (B : Nat) (w : World) (hl : rs.length ≤ 100) (hr : RngIn w a rs) (hB : B < w.heap.size) (hc : w.cell? ⟨B, 0, none⟩ = some (.string key)) :
    Calls Try.prog 52 #[.slice a rs.length cap, .func (.func 53) #[] #[.pointer (some ⟨B, 0, none⟩)]] w fun e w' => e = .returned (.int .i64 (Km.fidx (tls rs) key.data.toList)) ∧ Below w.heap.size w w' := by
  have HR := Lib.hid hr
  clear hr
  go_enter Try.func52, Try.ntmps52
  go_wp2
  go_loopw [8] (fun i wr => ∃ k : Nat, k ≤ rs.length ∧ i = .int .i64 k ∧ (∀ j (hj : j < (tls rs).length), j < k → Km.has (tls rs)[j].1 (tls rs)[j].2 key.data.toList = false) ∧ Below w.heap.size w wr) (fun i _ => rs.length - (intOf i).toNat)
  case atStart => exact ⟨0, by omega, rfl, (fun j hj h => by omega), Below.refl _ _⟩
  case round =>
    obtain ⟨k, hk, rfl, hall, hbel⟩ := hrel
    have HA := Lib.hid hall
    clear hall
    by_cases hlt : k < rs.length
    · obtain ⟨b, off, rfl, hbl, hc0, hc1⟩ := HR.out.below hbel k hlt
      have HK := Lib.hid (tls_get rs k hlt)
      generalize rs[k].1 = p at hc0 HK
      generalize rs[k].2 = q at hc1 HK
      go_wp2_with fail
      refine (findIn_any p q key B _ (by have := hbel.size; omega) (kcell hbel hB hc)).mono ?_
      rintro e w2 ⟨rfl, hb⟩
      generalize hx : Km.has p.data.toList q.data.toList key.data.toList = x
      have HX := Lib.hid hx
      clear hx
      cases x with
      | true =>
        go_wp2
        go_ret
        refine ⟨ret_int (Km.fidx_hit (by rw [tls_len]; exact hlt) HA.out ?_).symm, bstep hbel hb⟩
        rw [HK.out]
        exact HX.out
      | false =>
        go_wp2
        go_roundw
        case rel =>
          refine ⟨k + 1, by omega, by go_num, (fun j hj h => ?_), bstep hbel hb⟩
          by_cases e : j = k
          · subst e
            rw [HK.out]
            exact HX.out
          · exact HA.out j hj (by omega)
        case measure => simp [intOf]; omega
    · obtain rfl : k = rs.length := by omega
      go_wp2
      go_ret
      exact ⟨ret_int (Km.fidx_none (fun j hj => HA.out j hj (by rw [tls_len] at hj; exact hj))).symm, hbel⟩

set_option maxRecDepth 100000 in
set_option maxHeartbeats 800000 in
theorem find_any (a : Option Addr) (cap : Nat) (rs : List (ByteArray × ByteArray)) (key : ByteArray) (w : World) (hl : rs.length ≤ 100) (hr : RngIn w a rs) :
    Calls Try.prog 43 #[.slice a rs.length cap, .string key] w fun e w' => e = .returned (.int .i64 (Km.fidx (tls rs) key.data.toList)) ∧ Below w.heap.size w w' := by
  have hmf : ∀ (fn : Fn) (first cap : Array Value) (w : World), (Instr.makeFunc fn first cap).run Try.prog w = .ok (.func fn first cap) w := fun _ _ _ _ => rfl
  have hra : ∀ o, RngIn (w.alloc o) a rs := fun o => hr.below ((Below.refl _ w).alloc (Nat.le_refl _) o)
  have HRA := Lib.hid hra
  clear hra hr
  go_enter Try.func43, Try.ntmps43
  go_wp2_with fail
  refine (indexFunc_any a cap rs key w.heap.size _ hl (HRA.out _) (by simp) (by simp)).mono ?_
  rintro e w1 ⟨rfl, hb⟩
  generalize hx : Km.fidx (tls rs) key.data.toList = x
  have HX := Lib.hid hx
  clear hx
  go_wp2
  go_ret
  exact ⟨ret_int HX.out.symm, (balloc (Below.refl _ w) _).trans (hb.mono (by simp))⟩

set_option maxRecDepth 100000 in
set_option maxHeartbeats 800000 in
theorem refFind_any (a : Option Addr) (cap : Nat) (rs : List (ByteArray × ByteArray)) (key : ByteArray) (w : World) (hl : rs.length ≤ 100) (hr : RngIn w a rs) :
    Calls Try.prog 29 #[.slice a rs.length cap, .string key] w fun e w' => e = .returned (.int .i64 (Km.fidx (tls rs) key.data.toList)) ∧ Below w.heap.size w w' := by
  have HR := Lib.hid hr
  clear hr
  go_enter Try.func29, Try.ntmps29
  go_wp2
  go_loopw [5] (fun i wr => ∃ k : Nat, k ≤ rs.length ∧ i = .int .i64 k ∧ (∀ j (hj : j < (tls rs).length), j < k → Km.has (tls rs)[j].1 (tls rs)[j].2 key.data.toList = false) ∧ Below w.heap.size w wr) (fun i _ => rs.length - (intOf i).toNat)
  case atStart => exact ⟨0, by omega, rfl, (fun j hj h => by omega), Below.refl _ _⟩
  case round =>
    obtain ⟨k, hk, rfl, hall, hbel⟩ := hrel
    have HA := Lib.hid hall
    clear hall
    by_cases hlt : k < rs.length
    · obtain ⟨b, off, rfl, hbl, hc0, hc1⟩ := HR.out.below hbel k hlt
      have HK := Lib.hid (tls_get rs k hlt)
      generalize rs[k].1 = p at hc0 HK
      generalize rs[k].2 = q at hc1 HK
      go_wp2_with fail
      refine (refHas_any p q key _).mono ?_
      rintro e w2 ⟨rfl, hb⟩
      generalize hx : Km.has p.data.toList q.data.toList key.data.toList = x
      have HX := Lib.hid hx
      clear hx
      cases x with
      | true =>
        go_wp2
        go_ret
        refine ⟨ret_int (Km.fidx_hit (by rw [tls_len]; exact hlt) HA.out ?_).symm, bstep hbel hb⟩
        rw [HK.out]
        exact HX.out
      | false =>
        go_wp2
        go_roundw
        case rel =>
          refine ⟨k + 1, by omega, by go_num, (fun j hj h => ?_), bstep hbel hb⟩
          by_cases e : j = k
          · subst e
            rw [HK.out]
            exact HX.out
          · exact HA.out j hj (by omega)
        case measure => simp [intOf]; omega
    · obtain rfl : k = rs.length := by omega
      go_wp2
      go_ret
      exact ⟨ret_int (Km.fidx_none (fun j hj => HA.out j hj (by rw [tls_len] at hj; exact hj))).symm, hbel⟩
end Go.Proofs.Ythjjidfoclcghaa
