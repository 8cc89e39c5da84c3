/- The walk of the law TableGrown. -/
import Derived.Test.YtllagelopdedfaaTableSitesWalk
import Derived.StillTailTactics
namespace Go.Proofs.Ytllagelopdedfaa
open Go.RowKit Go.ChangeShapes Go.WideShapes Go.ChangeAt Go.Joins
set_option linter.unusedVariables false
set_option linter.unusedSimpArgs false

/-- One int of a row of the call's own written anew. -/
theorem OwnR.set7 {w : World} {base g cap : Nat} {l : List Int} (h : OwnR KI w base (.slice (some ⟨g, 0, none⟩) l.length cap) l) (i : Nat) (x : Int) :
    OwnR KI (w.setCell ⟨g, i, none⟩ (.int .i64 x)) base (.slice (some ⟨g, 0, none⟩) l.length cap) (l.set i x) := by
  have h3 := (h.stored i (.int .i64 x)).1
  unfold OwnR
  rw [List.length_set]
  have e : rV KI (l.set i x) = (rV KI l).set i (.int .i64 x) := by
    clear h h3
    unfold rV
    induction l generalizing i with
    | nil => simp
    | cons a l ih =>
      cases i with
      | zero => simp [KI]
      | succ i => simpa [KI] using ih i
  rw [e]
  exact h3
theorem own7_cell {w : World} {base g cap n : Nat} {l : List Int} (h : OwnR KI w base (.slice (some ⟨g, 0, none⟩) n cap) l) (i : Nat) (hi : i < l.length) : w.cell? ⟨g, i, none⟩ = some (.int .i64 l[i]) := by
  obtain ⟨g', cap', e, _, _, _, _, hc⟩ := h.cell ki_ok i hi
  cases e
  have := hc 0 _ rfl
  rw [show KI.sz = 1 from rfl, Nat.mul_one, Nat.add_zero, Nat.zero_add] at this
  exact this
theorem own7_frozen {w : World} {base g cap n : Nat} {l : List Int} (h : OwnR KI w base (.slice (some ⟨g, 0, none⟩) n cap) l) (j : Nat) : w.frozen? ⟨g, j, none⟩ = false := by
  obtain rfl := h.len
  exact World.ownsRow.frozenAt h j
theorem rs_in {w : World} {x0 : Option Addr} {R y0 : Nat} {u1 u2 : Value} {c : Rw} (h : RwAt w (.slice x0 R y0) u1 u2 c) : RngIn w x0 c.rs := by
  obtain ⟨_, _, e, _, _, _, hi⟩ := h.rs
  cases e
  exact RowIn.rng hi
theorem row_tail7 {w : World} {x1 : Option Addr} {O y1 : Nat} {l : List Int} (h : RowAt KI w (.slice x1 O y1) l) (hl : 1 ≤ l.length) : ∃ b off, x1 = some ⟨b, off, none⟩ ∧ O = l.length ∧ O ≤ y1 ∧ RowAt KI w (.slice (if y1 = 1 then some ⟨b, off, none⟩ else some ⟨b, off + 1, none⟩) (O - 1) (y1 - 1)) (l.drop 1) := by
  obtain ⟨a, cp, e, h1, h2, h3, hi⟩ := h
  cases e
  obtain ⟨b, off, rfl, _⟩ := hi 0 hl
  refine ⟨b, off, rfl, rfl, h1, _, _, by rw [List.length_drop], by rw [List.length_drop]; omega, by omega, ?_, fun i hn => ?_⟩
  · split <;> simp
  · rw [List.length_drop] at hn
    obtain ⟨b', off', e, hb, hc⟩ := hi (i + 1) (by omega)
    cases e
    refine ⟨b, off + 1, by rw [if_neg (by omega)], hb, fun j u hu => ?_⟩
    rw [List.getElem_drop] at hu
    simp only [Nat.add_comm 1 i] at hu
    have := hc j u hu
    rw [show KI.sz = 1 from rfl] at this ⊢
    rw [← this]
    congr 2
    omega
theorem keep6w {W w' : World} {b1 b2 : Nat} {x1 x2 x3 x4 x5 x6 : Value} (hb : Below W.heap.size W w')
    (h : W.cell? ⟨b1, 0, none⟩ = some x1 ∧ W.cell? ⟨b1, 1, none⟩ = some x2 ∧ W.cell? ⟨b1, 2, none⟩ = some x3 ∧ W.cell? ⟨b2, 0, none⟩ = some x4 ∧ W.cell? ⟨b2, 1, none⟩ = some x5 ∧ W.cell? ⟨b2, 2, none⟩ = some x6) :
    w'.cell? ⟨b1, 0, none⟩ = some x1 ∧ w'.cell? ⟨b1, 1, none⟩ = some x2 ∧ w'.cell? ⟨b1, 2, none⟩ = some x3 ∧ w'.cell? ⟨b2, 0, none⟩ = some x4 ∧ w'.cell? ⟨b2, 1, none⟩ = some x5 ∧ w'.cell? ⟨b2, 2, none⟩ = some x6 :=
  ⟨kc7 hb h.1, kc7 hb h.2.1, kc7 hb h.2.2.1, kc7 hb h.2.2.2.1, kc7 hb h.2.2.2.2.1, kc7 hb h.2.2.2.2.2⟩
theorem or64 : ∀ m : Nat, m < 64 → ∀ q : Nat, q < 64 → bits .or .i64 (m : Int) (q : Int) = ((m ||| q : Nat) : Int) := by decide +kernel
/-- The row with one owner more. -/
def grown (c : Rw) (k s : Nat) : Rw := ⟨c.rs, c.ow.set k (((c.ow[k]?).getD 0).toNat ||| 2 ^ s : Nat), c.pa⟩
theorem grown_ok {c : Rw} (h : TOk c) {k s : Nat} (hk : k < c.rs.length) (hs : s < c.pa.length) : TOk (grown c k s) := by
  have hk' : k < c.ow.length := by rw [h.ol]; exact hk
  refine ⟨h.n1, h.n6, h.r8, ?_, h.wh, fun o ho => ?_⟩
  · show (c.ow.set k _).length = c.rs.length
    rw [List.length_set]; exact h.ol
  · rcases List.mem_or_eq_of_mem_set ho with h1 | h1
    · exact h.ob o h1
    · subst h1
      have hb := h.ob _ (List.getElem_mem hk')
      have e : (c.ow[k]?).getD 0 = c.ow[k] := by simp [hk']
      rw [e]
      generalize c.ow[k] = o at hb
      obtain ⟨m, rfl⟩ : ∃ m : Nat, o = (m : Int) := ⟨o.toNat, by omega⟩
      rw [Int.toNat_natCast]
      have h2 := Nat.or_lt_two_pow (x := m) (y := 2 ^ s) (n := c.pa.length) (by omega) (Nat.pow_lt_pow_right (by omega) hs)
      have h3 : m ≤ m ||| 2 ^ s := Nat.left_le_or
      show 1 ≤ (((m ||| 2 ^ s : Nat)) : Int) ∧ (((m ||| 2 ^ s : Nat)) : Int) < ((2 ^ c.pa.length : Nat) : Int)
      omega
theorem grown_own {c : Rw} (h : TOk c) {k s : Nat} (hk : k < c.rs.length) (hs : s < c.pa.length) (key : List UInt8) (x : Nat) :
    bitN (ownN (grown c k s) key) (x : Int) = (bitN (ownN c key) (x : Int) || (Km.has c.rs[k].1.data.toList c.rs[k].2.data.toList key && decide (x = s))) := by
  have hg := grown_ok h hk hs
  obtain ⟨j, hj, hf⟩ := h.find key
  obtain ⟨ho, hl, _⟩ := ownN_at h hj hf
  obtain ⟨go, gl, _⟩ := ownN_at hg hj hf
  rw [h.has_iff hf k hk]
  have hj' : j < c.ow.length := by rw [h.ol]; exact hj
  by_cases e : k = j
  · subst e
    have e1 : (grown c k s).ow[k]'(by show k < (c.ow.set k _).length; rw [List.length_set]; exact hj') = (((c.ow[k]?).getD 0).toNat ||| 2 ^ s : Nat) := by
      show (c.ow.set k _)[k]'_ = _
      rw [List.getElem_set_self]
    rw [e1] at go
    have e2 : (c.ow[k]?).getD 0 = c.ow[k] := by simp [hj']
    rw [e2, ← ho, Int.toNat_natCast] at go
    have go' : ownN (grown c k s) key = ownN c key ||| 2 ^ s := by omega
    rw [go']
    unfold bitN
    rw [Nat.testBit_or, Nat.testBit_two_pow]
    simp only [Int.toNat_natCast, decide_true, Bool.true_and]
    rw [decide_eq_true (show (0 : Int) ≤ (x : Int) by omega), Bool.true_and, Bool.true_and]
    congr 1
    rw [Bool.eq_iff_iff]
    simp
    exact eq_comm
  · have e1 : (grown c k s).ow[j]'(by show j < (c.ow.set k _).length; rw [List.length_set]; exact hj') = c.ow[j] := by
      show (c.ow.set k _)[j]'_ = _
      rw [List.getElem_set_ne e]
    rw [e1, ← ho] at go
    have go' : ownN (grown c k s) key = ownN c key := by omega
    rw [go', decide_eq_false e]
    simp

set_option maxRecDepth 100000 in
set_option maxHeartbeats 12800000 in
theorem walkTableGrown (w : World) (a0 b0 : Value) (c0 : Int) (l0 m0 : List Int) (w0 : RowAt KI w a0 l0 ∧ ∀ z ∈ l0, -9223372036854775808 ≤ z ∧ z ≤ 9223372036854775807) (x0 : RowAt KI w b0 m0 ∧ ∀ z ∈ m0, -9223372036854775808 ≤ z ∧ z ≤ 9223372036854775807) (y0 : -9223372036854775808 ≤ c0 ∧ c0 ≤ 9223372036854775807) (q0 q1 : Int) (b1 : -9223372036854775808 ≤ q0 ∧ q0 ≤ 9223372036854775807) (b2 : -9223372036854775808 ≤ q1 ∧ q1 ≤ 9223372036854775807) (key : ByteArray) (w1 : key.size ≤ maxLen) :
    Calls Try.prog 5 #[.agg #[a0, b0, .int .i64 c0], .agg #[.int .i64 q0, .int .i64 q1], .string key] w fun e w' => e = .returned (.bool true) ∧ Below w.heap.size w w' := by
  obtain ⟨w0, w0b⟩ := w0
  obtain ⟨x0, x0b⟩ := x0
  have hrow := fun W hb' => row7_any a0 b0 l0 m0 c0 W (w0.below hb') (x0.below hb') w0b x0b y0
  obtain ⟨i0, j0, rfl, _⟩ := w0
  obtain ⟨i1, j1, rfl, _⟩ := x0
  clear w0b x0b y0 w1
  have hb : Below w.heap.size w ((w.alloc (.cells #[.slice i0 l0.length j0, .slice i1 m0.length j1, .int .i64 c0] 38)).alloc (.cells #[.int .i64 q0, .int .i64 q1] 26)) := balloc (balloc (Below.refl _ _) _) _
  have k0 : ((w.alloc (.cells #[.slice i0 l0.length j0, .slice i1 m0.length j1, .int .i64 c0] 38)).alloc (.cells #[.int .i64 q0, .int .i64 q1] 26)).cell? ⟨w.heap.size + 1, 0, none⟩ = some (.int .i64 q0) := by simp
  have k1 : ((w.alloc (.cells #[.slice i0 l0.length j0, .slice i1 m0.length j1, .int .i64 c0] 38)).alloc (.cells #[.int .i64 q0, .int .i64 q1] 26)).cell? ⟨w.heap.size + 1, 1, none⟩ = some (.int .i64 q1) := by simp
  have p0 : ((w.alloc (.cells #[.slice i0 l0.length j0, .slice i1 m0.length j1, .int .i64 c0] 38)).alloc (.cells #[.int .i64 q0, .int .i64 q1] 26)).cell? ⟨w.heap.size, 0, none⟩ = some (.slice i0 l0.length j0) := by simp
  have p1 : ((w.alloc (.cells #[.slice i0 l0.length j0, .slice i1 m0.length j1, .int .i64 c0] 38)).alloc (.cells #[.int .i64 q0, .int .i64 q1] 26)).cell? ⟨w.heap.size, 1, none⟩ = some (.slice i1 m0.length j1) := by simp
  have p2 : ((w.alloc (.cells #[.slice i0 l0.length j0, .slice i1 m0.length j1, .int .i64 c0] 38)).alloc (.cells #[.int .i64 q0, .int .i64 q1] 26)).cell? ⟨w.heap.size, 2, none⟩ = some (.int .i64 c0) := by simp
  go_enter Try.func5, Try.ntmps5
  go_wp2_with fail
  generalize (w.alloc (.cells #[.slice i0 l0.length j0, .slice i1 m0.length j1, .int .i64 c0] 38)).alloc (.cells #[.int .i64 q0, .int .i64 q1] 26) = wb at *
  refine (awake7_any _).mono ?_
  rintro e wa ⟨rfl, hba⟩
  have k0' := kc7 hba k0
  have k1' := kc7 hba k1
  have p0' := kc7 hba p0
  have p1' := kc7 hba p1
  have p2' := kc7 hba p2
  have HBA := Lib.hid (bstep hb hba)
  clear k0 k1 p0 p1 p2 hb hba
  go_wp2_with fail
  refine (hrow _ HBA.out).mono ?_
  rintro e wS ⟨c, u0, u1, u2, rfl, hRO, hok, hbr⟩
  have hT := (tOk_iff c).1 hok
  have k0 := kc7 hbr k0'
  have k1 := kc7 hbr k1'
  have HBR := Lib.hid (bstep HBA.out hbr)
  have hR := hRO.at
  obtain ⟨x0, y0, rfl⟩ := hRO.r.shape
  obtain ⟨x1, y1, rfl⟩ := hRO.o.shape
  obtain ⟨x2, y2, rfl⟩ := hRO.p.shape
  have HV8 := Lib.hid (VrP.new wS (.slice x0 c.rs.length y0) (.slice x1 c.ow.length y1) (.slice x2 c.pa.length y2) 25)
  have hbv := balloc (Below.refl _ wS) (.cells #[.slice x0 c.rs.length y0, .slice x1 c.ow.length y1, .slice x2 c.pa.length y2] 25)
  have hRV := hR.below hbv
  have k0' := kc7 hbv k0
  have k1' := kc7 hbv k1
  have HBV := Lib.hid (bstep HBR.out hbv)
  clear hrow p0' p1' p2' hbr hRO k0 k1 hbv hR
  have hn1 := hT.n1
  have hn6 := hT.n6
  have hr8 := hT.r8
  have HOL := Lib.hid hT.ol
  have hr1 : 1 ≤ c.rs.length := by
    obtain ⟨k, hk, _⟩ := hT.find key.data.toList
    omega
  have HRV := Lib.hid hRV
  have HT := Lib.hid hT
  clear hRV hT hok
  generalize hR : c.rs.length = R at *
  have HRR := Lib.hid hR
  generalize hP : c.pa.length = P at *
  have HPP := Lib.hid hP
  generalize hOO : c.ow.length = O at *
  have HOO := Lib.hid hOO
  clear hR hP hOO
  obtain ⟨hy1, hy2⟩ := tmod_bd q0 (R : Int) (by omega)
  generalize hy : q0.tmod (R : Int) = y at hy1 hy2
  obtain ⟨hz1, hz2⟩ := tmod_bd q1 (P : Int) (by omega)
  generalize hz : q1.tmod (P : Int) = z at hz1 hz2
  go_upto_region 3 with fail
  generalize (wS.alloc (.cells #[.slice x0 R y0, .slice x1 O y1, .slice x2 P y2] 25)) = wv at *
  obtain ⟨c0', c1', c2', _⟩ := HV8.out
  have e1 : IntKind.i64.wrap (z + (P : Int)) = z + (P : Int) := IntWalk.i64_in _ (by omega)
  have e2 : (0 : Int) ≤ z + (P : Int) := by omega
  go_upto_region 5 with fail
  have hk1 := Int.emod_nonneg (y + (R : Int)) (b := (R : Int)) (by omega)
  have hk2 := Int.emod_lt_of_pos (y + (R : Int)) (b := (R : Int)) (by omega)
  generalize (y + (R : Int)) % (R : Int) = kk at *
  obtain ⟨k, rfl⟩ : ∃ k : Nat, kk = (k : Int) := ⟨kk.toNat, by omega⟩
  generalize y + (R : Int) = y' at *
  have hkR : k < R := by omega
  clear hk1 hk2 hy hy1 hy2
  go_wp2_with fail
  go_quiet (fail)
  clear e1
  go_upto_region 6 with fail
  have hs1 := Int.emod_nonneg (z + (P : Int)) (b := (P : Int)) (by omega)
  have hs2 := Int.emod_lt_of_pos (z + (P : Int)) (b := (P : Int)) (by omega)
  generalize (z + (P : Int)) % (P : Int) = kk at *
  obtain ⟨s, rfl⟩ : ∃ s : Nat, kk = (s : Int) := ⟨kk.toNat, by omega⟩
  generalize z + (P : Int) = z' at *
  have hsP : s < P := by omega
  clear hs1 hs2 hz hz1 hz2 e2 c0' c1' c2'
  have HVD : Hid (VrP (wv.drewN nq) wS.heap.size (.slice x0 R y0) (.slice x1 O y1) (.slice x2 P y2)) := Lib.hid (HV8.out.keep (below_drewN (Below.refl _ _) _))
  have HRD : Hid (RwAt (wv.drewN nq) (.slice x0 R y0) (.slice x1 O y1) (.slice x2 P y2) c) := Lib.hid (HRV.out.below (below_drewN (Below.refl _ _) _))
  have HBD : Hid (Below w.heap.size w (wv.drewN nq)) := Lib.hid (bstep HBV.out (below_drewN (Below.refl _ _) _))
  generalize wv.drewN nq = wd at *
  clear HV8 HRV HBV k0' k1'
  go_wp2_with fail
  go_loop [12, 13] (fun p i => ∃ m q : Nat, m ≤ s ∧ i = .int .i64 m ∧ p = .int .i64 (q : Int) ∧ q = 2 ^ m) (fun _ i => s - (intOf i).toNat)
  case atStart => exact ⟨0, 1, by omega, rfl, rfl, rfl⟩
  case round =>
    obtain ⟨m, q, hm, rfl, rfl, hq⟩ := hrel
    have hq6 : q ≤ 32 := by rw [hq]; exact Nat.pow_le_pow_right (n := 2) (by omega) (show m ≤ 5 by omega)
    have HQ := Lib.hid hq
    clear hq
    by_cases hlt : m < s
    · have hmi : (m : Int) < (s : Int) := by omega
      go_wp2
      go_round
      case rel => exact ⟨m + 1, q * 2, by omega, by go_num, by go_num, by rw [HQ.out, Nat.pow_succ]⟩
      case measure => simp [intOf]; omega
    · obtain rfl : m = s := by omega
      clear hm hlt
      obtain ⟨d0, d1, d2, _⟩ := HVD.out
      have hV14 := VrP.new wd (.slice x0 R y0) (.slice x1 O y1) (.slice x2 P y2) 25
      have hb4 := balloc (Below.refl _ wd) (.cells #[.slice x0 R y0, .slice x1 O y1, .slice x2 P y2] 25)
      have HV14 := Lib.hid hV14
      have HB44 := Lib.hid hb4
      go_upto_region 12 with fail
      clear d0 d1 d2 hb4 hV14
      generalize hw4 : wd.alloc (.cells #[.slice x0 R y0, .slice x1 O y1, .slice x2 P y2] 25) = w4 at *
      have HW4 : Hid (w4.heap.size = wd.heap.size + 1) := Lib.hid (by rw [← hw4]; simp)
      clear hw4
      have hlo := own_lit7 ki_ok w4 w4.heap.size 0 [] #[] rfl rfl (Nat.le_refl _) (by omega)
      have hbl := balloc (Below.refl _ w4) (.cells #[] 3)
      have HLO := Lib.hid hlo
      have HRX := Lib.hid ((HRD.out.below HB44.out).below hbl)
      have e1 := (HVD.out.keep HB44.out).keep hbl
      obtain ⟨e80, e81, e82, _⟩ := e1
      have hlow : wd.heap.size < w4.heap.size := by have := HW4.out; omega
      have hO8 : O ≤ 8 := by have := HOL.out; omega
      have hO1 : 1 ≤ c.ow.length := by have := HOL.out; have := HOO.out; omega
      have HBL := Lib.hid hbl
      clear hlo hbl
      go_upto_region 13 with (at_builtin; refine wp_appI rfl _ _ rfl w4.heap.size (.slice (some ⟨w4.heap.size, 0, none⟩) 0 0) (.slice x1 O y1) [] c.ow rfl HLO.out rfl HRX.out.ow (by have := HOO.out; simp; omega) (by simp) ?_; intro v' w5 ho5 hb5 hk5; rw [List.nil_append] at ho5; obtain ⟨g, cap, rfl, _, _, hgg, _⟩ := ho5.cell ki_ok 0 hO1; rw [HOO.out] at ho5; rw [HOO.out]; have HO5 := Lib.hid ho5; have HB5 := Lib.hid ((HBL.out.trans hb5 : Below w4.heap.size w4 w5)); clear ho5 hb5 hk5 e80 e81 e82; have hv5 := HV14.out.block (HB5.out.block wd.heap.size hlow); obtain ⟨f0, f1, f2, ff⟩ := id hv5; have ffz := ff 1 (by decide); have HV5 := Lib.hid hv5; clear hv5 ff)
      have hv6 := HV5.out.put1 (.slice (some ⟨g, 0, none⟩) O cap)
      have hb6 : Below wd.heap.size wd (w5.setCell ⟨wd.heap.size, 1, none⟩ (.slice (some ⟨g, 0, none⟩) O cap)) := (HB44.out.trans (HB5.out.mono (Nat.le_of_lt hlow))).setCell (p := ⟨wd.heap.size, 1, none⟩) (Nat.le_refl _) _
      have ho6 : OwnR KI (w5.setCell ⟨wd.heap.size, 1, none⟩ (.slice (some ⟨g, 0, none⟩) O cap)) w4.heap.size (.slice (some ⟨g, 0, none⟩) O cap) c.ow := HO5.out.put7 (HO5.out.lo hlow)
      clear f0 f1 f2 ffz HRX HBL
      generalize w5.setCell ⟨wd.heap.size, 1, none⟩ (.slice (some ⟨g, 0, none⟩) O cap) = w6 at *
      have hkO : k < c.ow.length := by have := HOL.out; have := HOO.out; omega
      have hob := HT.out.ob c.ow[k] (List.getElem_mem hkO)
      have hpw := HT.out.pow
      have e2 := own7_cell ho6 k hkO
      have e3 := own7_frozen ho6 k
      have e1 := hv6.c1
      have HGR : Hid (c.ow.set k ((c.ow[k].toNat ||| 2 ^ m : Nat) : Int) = (grown c k m).ow) := Lib.hid (by show _ = c.ow.set k _; congr 3; simp [hkO])
      generalize c.ow[k] = o at hob e2 HGR
      obtain ⟨on, rfl⟩ : ∃ on : Nat, o = (on : Int) := ⟨o.toNat, by omega⟩
      have hbt := or64 on (by omega) q (by omega)
      have hki : (k : Int) < (O : Int) := by have := HOO.out; omega
      have hk0 : (0 : Int) ≤ (k : Int) := by omega
      have HV6 := Lib.hid hv6
      have HO6 := Lib.hid ho6
      have HB6 := Lib.hid hb6
      clear hv6 ho6 hb6 hob hpw
      go_wp2
      go_region
      have hlg : wd.heap.size < g := by omega
      have ho7 := HO6.out
      rw [← HOO.out] at ho7
      have ho7 := ho7.set7 k ((on ||| q : Nat) : Int)
      have hgr := HGR.out
      rw [Int.toNat_natCast, ← HQ.out] at hgr
      rw [hgr, HOO.out] at ho7
      have ho7 := ho7.below (Below.refl _ _).drew
      have hb7 := (HB6.out.setCell (p := ⟨g, k, none⟩) (Nat.le_of_lt hlg) (.int .i64 ((on ||| q : Nat) : Int))).drew
      have hv147 : VrP (w6.setCell ⟨g, k, none⟩ (.int .i64 ((on ||| q : Nat) : Int))).drew wd.heap.size (.slice x0 R y0) (.slice (some ⟨g, 0, none⟩) O cap) (.slice x2 P y2) := HV6.out.block (((Below.refl g w6).setCell (p := ⟨g, k, none⟩) (Nat.le_refl _) _).block wd.heap.size hlg)
      clear hgr HGR e1 e2 e3 hbt hk0 HO6 HB6 HV6 HO5 HB5 HV5 HV14 HLO
      generalize (w6.setCell ⟨g, k, none⟩ (.int .i64 ((on ||| q : Nat) : Int))).drew = w7 at *
      have hr7 := HRD.out.below hb7
      have hG : RwAt w7 (.slice x0 R y0) (.slice (some ⟨g, 0, none⟩) O cap) (.slice x2 P y2) (grown c k m) := ⟨hr7.rs, RowAt.of_own ki_ok ho7, hr7.pa, hr7.sz⟩
      have hv87 := HVD.out.keep hb7
      have HB7 := Lib.hid (bstep HBD.out hb7)
      have hkr : k < c.rs.length := by have := HRR.out; omega
      have hmp : m < c.pa.length := by have := HPP.out; omega
      have HGO := Lib.hid (fun x => grown_own HT.out hkr hmp key.data.toList x)
      have HGK := Lib.hid ((tOk_iff _).2 (grown_ok HT.out hkr hmp))
      obtain ⟨bb, oo, rfl, hoe, hoy, ht7⟩ := row_tail7 hr7.ow (by have := HOO.out; omega)
      clear hoe
      have HTN : Hid (tOk ⟨c.rs, c.ow.drop 1, c.pa⟩ = false) := Lib.hid (by
        unfold tOk
        rw [decide_eq_false (by have := HOL.out; have := HRR.out; have := HOO.out; simp; omega)]
        rfl)
      obtain ⟨bx, ox, rfl, _, c0, c1⟩ := rs_in hr7 k hkr
      have HG := Lib.hid hG
      have HR7 := Lib.hid hr7
      have HV87 := Lib.hid hv87
      have HV147 := Lib.hid hv147
      have HT7 := Lib.hid ht7
      have hhas := fun W => refHas_any c.rs[k].1 c.rs[k].2 key W
      obtain ⟨hh, hhh⟩ : ∃ hh : Bool, Km.has c.rs[k].1.data.toList c.rs[k].2.data.toList key.data.toList = hh := ⟨_, rfl⟩
      rw [hhh] at hhas
      rw [hhh] at HGO
      clear hhh
      generalize c.rs[k].1 = r1 at *
      generalize c.rs[k].2 = r2 at *
      have e0 := HV87.out.c0
      go_wp2_with fail
      refine (hhas _).mono ?_
      rintro e w8 ⟨rfl, hb8⟩
      have HV8' := Lib.hid (HV87.out.keep hb8)
      have HV14' := Lib.hid (HV147.out.keep hb8)
      have HR8 := Lib.hid (HR7.out.below hb8)
      have HG8 := Lib.hid (HG.out.below hb8)
      have HT8 := Lib.hid (HT7.out.below hb8)
      have HB8 := Lib.hid (bstep HB7.out hb8)
      clear hhas hb8 c0 c1 e0 HV87 HV147 HR7 HG HT7 HB7 ht7 hv87 hv147 hr7 hG ho7 hb7
      have hoc := fun (x : Nat) W (hx : x < 6) (hb : Below w8.heap.size w8 W) => owns7_any c _ _ _ (x : Int) key W (HR8.out.below hb) ⟨by omega, by omega⟩
      have hod := fun (x : Nat) W (hx : x < 6) (hb : Below w8.heap.size w8 W) => owns7_any (grown c k m) _ _ _ (x : Int) key W (HG8.out.below hb) ⟨by omega, by omega⟩
      go_wp2
      go_loopw [16] (fun i wr => ∃ x : Nat, x ≤ 6 ∧ i = .int .i64 x ∧ Below w8.heap.size w8 wr) (fun i _ => 6 - (intOf i).toNat)
      case atStart => exact ⟨0, by omega, rfl, Below.refl _ _⟩
      case round =>
        obtain ⟨x, hx, rfl, hbel⟩ := hrel
        by_cases hlt : x < 6
        · have hxi : (x : Int) < 6 := by omega
          have h1 := hoc x wr hlt hbel
          have h2 := fun W hb => hod x W hlt hb
          have h3 := HGO.out x
          generalize bitN (ownN c key.data.toList) (x : Int) = bc at h1 h3
          rw [h3] at h2
          clear h3 hoc hod
          obtain ⟨a0, a1, a2, _⟩ := HV8'.out.keep hbel
          have HBL := Lib.hid hbel
          clear hbel
          cases bc
          · cases hh
            · go_wp2_with fail
              refine h1.mono ?_
              rintro e w9 ⟨rfl, hb9⟩
              obtain ⟨d0, d1, d2, _⟩ := HV14'.out.keep (bstep HBL.out hb9)
              clear a0 a1 a2
              go_wp2_with fail
              refine (h2 _ (bstep HBL.out hb9)).mono ?_
              rintro e w10 ⟨rfl, hb10⟩
              go_wp2
              go_roundw
              case rel => exact ⟨x + 1, by omega, by go_num, bstep (bstep HBL.out hb9) hb10⟩
              case measure => simp [intOf]; omega
            · by_cases hxm : x = m
              · subst hxm
                rw [decide_eq_true rfl] at h2
                go_wp2_with fail
                refine h1.mono ?_
                rintro e w9 ⟨rfl, hb9⟩
                obtain ⟨d0, d1, d2, _⟩ := HV14'.out.keep (bstep HBL.out hb9)
                clear a0 a1 a2
                go_wp2_with fail
                refine (h2 _ (bstep HBL.out hb9)).mono ?_
                rintro e w10 ⟨rfl, hb10⟩
                go_wp2
                go_roundw
                case rel => exact ⟨x + 1, by omega, by go_num, bstep (bstep HBL.out hb9) hb10⟩
                case measure => simp [intOf]; omega
              · rw [decide_eq_false hxm] at h2
                have hne : ¬ ((x : Int) = (m : Int)) := by omega
                have hne2 : ((x : Int) == (m : Int)) = false := by simpa using hne
                go_wp2_with fail
                refine h1.mono ?_
                rintro e w9 ⟨rfl, hb9⟩
                obtain ⟨d0, d1, d2, _⟩ := HV14'.out.keep (bstep HBL.out hb9)
                clear a0 a1 a2
                go_wp2_with fail
                refine (h2 _ (bstep HBL.out hb9)).mono ?_
                rintro e w10 ⟨rfl, hb10⟩
                go_wp2
                go_roundw
                case rel => exact ⟨x + 1, by omega, by go_num, bstep (bstep HBL.out hb9) hb10⟩
                case measure => simp [intOf]; omega
          · go_wp2_with fail
            refine h1.mono ?_
            rintro e w9 ⟨rfl, hb9⟩
            obtain ⟨d0, d1, d2, _⟩ := HV14'.out.keep (bstep HBL.out hb9)
            clear a0 a1 a2
            go_wp2_with fail
            refine (h2 _ (bstep HBL.out hb9)).mono ?_
            rintro e w10 ⟨rfl, hb10⟩
            go_wp2
            go_roundw
            case rel => exact ⟨x + 1, by omega, by go_num, bstep (bstep HBL.out hb9) hb10⟩
            case measure => simp [intOf]; omega
        · obtain rfl : x = 6 := by omega
          clear hlt hx hoc hod
          have hck := fun W (hb : Below w8.heap.size w8 W) => check7_any _ _ _ _ W (HG8.out.below hb)
          have hcy := fun W (hb : Below w8.heap.size w8 W) => check7_any ⟨c.rs, c.ow.drop 1, c.pa⟩ _ _ _ W ⟨(HR8.out.below hb).rs, HT8.out.below hb, (HR8.out.below hb).pa, HR8.out.sz⟩
          rw [HGK.out] at hck
          rw [HTN.out] at hcy
          have HBL := Lib.hid hbel
          have gA : wr.cell? ⟨wS.heap.size, 0, none⟩ = some (.slice (some ⟨bx, ox, none⟩) R y0) ∧ wr.cell? ⟨wS.heap.size, 1, none⟩ = some (.slice (some ⟨bb, oo, none⟩) O y1) ∧ wr.cell? ⟨wS.heap.size, 2, none⟩ = some (.slice x2 P y2) ∧ wr.cell? ⟨wd.heap.size, 0, none⟩ = some (.slice (some ⟨bx, ox, none⟩) R y0) ∧ wr.cell? ⟨wd.heap.size, 1, none⟩ = some (.slice (some ⟨g, 0, none⟩) O cap) ∧ wr.cell? ⟨wd.heap.size, 2, none⟩ = some (.slice x2 P y2) := by
            obtain ⟨a0, a1, a2, _⟩ := HV8'.out.keep hbel
            obtain ⟨b0, b1, b2, _⟩ := HV14'.out.keep hbel
            exact ⟨a0, a1, a2, b0, b1, b2⟩
          have HBD : Hid (Below w8.heap.size w8 wr.drew) := Lib.hid hbel.drew
          clear hbel
          have h1O : (1 : Int) ≤ (O : Int) := by have := HOO.out; omega
          by_cases hy1 : y1 = 1
          · subst hy1
            have hO0 : O - 1 = 0 := by omega
            simp only [if_true, hO0, Nat.sub_self] at hcy
            clear hO0
            go_wp2_with fail
            refine wp_region_held_drew (S := fun w' => w'.cell? ⟨wS.heap.size, 0, none⟩ = some (.slice (some ⟨bx, ox, none⟩) R y0) ∧ w'.cell? ⟨wS.heap.size, 1, none⟩ = some (.slice (some ⟨bb, oo, none⟩) O 1) ∧ w'.cell? ⟨wS.heap.size, 2, none⟩ = some (.slice x2 P y2) ∧ w'.cell? ⟨wd.heap.size, 0, none⟩ = some (.slice (some ⟨bx, ox, none⟩) R y0) ∧ w'.cell? ⟨wd.heap.size, 1, none⟩ = some (.slice (some ⟨g, 0, none⟩) O cap) ∧ w'.cell? ⟨wd.heap.size, 2, none⟩ = some (.slice x2 P y2)) (by kernel_rfl) (gA) (fun hHeld => ?_)
            refine wpAnyH_take (i := 0) (v := ?vz0) rfl (by kernel_rfl) (by kernel_rfl) (by kernel_rfl) (fun _ _ _ h => h) (Or.inl ⟨by rfl, ?yz0⟩) (by assumption) ?rz0
            case yz0 => (intro w hSw; (try dsimp only at hSw); go_simp; try with_reducible rfl)
            try simp only [Act.put, List.setIfInBounds_toArray, List.set_cons_zero, List.set_cons_succ, List.getElem_toArray, List.getElem_cons_zero, List.getElem_cons_succ]
            refine wpAnyH_take (i := 1) (v := ?vz1) rfl (by kernel_rfl) (by kernel_rfl) (by kernel_rfl) (fun _ _ _ h => h) (Or.inl ⟨by rfl, ?yz1⟩) (by assumption) ?rz1
            case yz1 => (intro w hSw; (try dsimp only at hSw); go_simp; try with_reducible rfl)
            try simp only [Act.put, List.setIfInBounds_toArray, List.set_cons_zero, List.set_cons_succ, List.getElem_toArray, List.getElem_cons_zero, List.getElem_cons_succ]
            refine wpAnyH_take (i := 2) (v := ?vz2) rfl (by kernel_rfl) (by kernel_rfl) (by kernel_rfl) (fun _ _ _ h => h) (Or.inl ⟨by rfl, ?yz2⟩) (by assumption) ?rz2
            case yz2 => (intro w hSw; (try dsimp only at hSw); go_simp; try with_reducible rfl)
            try simp only [Act.put, List.setIfInBounds_toArray, List.set_cons_zero, List.set_cons_succ, List.getElem_toArray, List.getElem_cons_zero, List.getElem_cons_succ]
            refine wpAnyH_ready (rs := [3]) (by kernel_rfl) (by simp) ?_
            refine AllReadyH.cons rfl (fun K hK => ?_) AllReadyH.nil
            go_simp
            go_at_call 17
            refine (hck _ (HBD.out)).mono ?_
            rintro e v1 ⟨rfl, q1⟩
            have g1 := keep6w q1 gA
            go_wp2_with fail
            refine hK.out _ _ (g1) (fun hHeld => ?_)
            clear hK K
            try simp only [Act.put, List.setIfInBounds_toArray, List.set_cons_zero, List.set_cons_succ, List.getElem_toArray, List.getElem_cons_zero, List.getElem_cons_succ]
            refine wpAnyH_take (i := 4) (v := ?vz4) rfl (by kernel_rfl) (by kernel_rfl) (by kernel_rfl) (fun _ _ _ h => h) (Or.inl ⟨by rfl, ?yz4⟩) (by assumption) ?rz4
            case yz4 => (intro w hSw; (try dsimp only at hSw); go_simp; try with_reducible rfl)
            try simp only [Act.put, List.setIfInBounds_toArray, List.set_cons_zero, List.set_cons_succ, List.getElem_toArray, List.getElem_cons_zero, List.getElem_cons_succ]
            refine wpAnyH_take (i := 5) (v := ?vz5) rfl (by kernel_rfl) (by kernel_rfl) (by kernel_rfl) (fun _ _ _ h => h) (Or.inl ⟨by rfl, ?yz5⟩) (by assumption) ?rz5
            case yz5 => (intro w hSw; (try dsimp only at hSw); go_simp; try with_reducible rfl)
            try simp only [Act.put, List.setIfInBounds_toArray, List.set_cons_zero, List.set_cons_succ, List.getElem_toArray, List.getElem_cons_zero, List.getElem_cons_succ]
            refine wpAnyH_take (i := 6) (v := ?vz6) rfl (by kernel_rfl) (by kernel_rfl) (by kernel_rfl) (fun _ _ _ h => h) (Or.inl ⟨by rfl, ?yz6⟩) (by assumption) ?rz6
            case yz6 => (intro w hSw; (try dsimp only at hSw); go_simp; try with_reducible rfl)
            try simp only [Act.put, List.setIfInBounds_toArray, List.set_cons_zero, List.set_cons_succ, List.getElem_toArray, List.getElem_cons_zero, List.getElem_cons_succ]
            refine wpAnyH_take (i := 7) (v := ?vz7) rfl (by kernel_rfl) (by kernel_rfl) (by kernel_rfl) (fun _ _ _ h => h) (Or.inl ⟨by rfl, ?yz7⟩) (by assumption) ?rz7
            case yz7 => (intro w hSw; (try dsimp only at hSw); go_simp; try with_reducible rfl)
            try simp only [Act.put, List.setIfInBounds_toArray, List.set_cons_zero, List.set_cons_succ, List.getElem_toArray, List.getElem_cons_zero, List.getElem_cons_succ]
            refine wpAnyH_take (i := 8) (v := ?vz8) rfl (by kernel_rfl) (by kernel_rfl) (by kernel_rfl) (fun _ _ _ h => h) (Or.inl ⟨by rfl, ?yz8⟩) (by assumption) ?rz8
            case yz8 => (intro w hSw; (try dsimp only at hSw); go_simp; try with_reducible rfl)
            try simp only [Act.put, List.setIfInBounds_toArray, List.set_cons_zero, List.set_cons_succ, List.getElem_toArray, List.getElem_cons_zero, List.getElem_cons_succ]
            refine wpAnyH_take (i := 9) (v := ?vz9) rfl (by kernel_rfl) (by kernel_rfl) (by kernel_rfl) (fun _ _ _ h => h) (Or.inl ⟨by rfl, ?yz9⟩) (by assumption) ?rz9
            case yz9 => (intro w hSw; (try dsimp only at hSw); go_simp; try with_reducible rfl)
            try simp only [Act.put, List.setIfInBounds_toArray, List.set_cons_zero, List.set_cons_succ, List.getElem_toArray, List.getElem_cons_zero, List.getElem_cons_succ]
            refine wpAnyH_take (i := 10) (v := ?vz10) rfl (by kernel_rfl) (by kernel_rfl) (by kernel_rfl) (fun _ _ _ h => h) (Or.inl ⟨by rfl, ?yz10⟩) (by assumption) ?rz10
            case yz10 => (intro w hSw; (try dsimp only at hSw); go_simp; try with_reducible rfl)
            try simp only [Act.put, List.setIfInBounds_toArray, List.set_cons_zero, List.set_cons_succ, List.getElem_toArray, List.getElem_cons_zero, List.getElem_cons_succ]
            refine wpAnyH_take (i := 11) (v := ?vz11) rfl (by kernel_rfl) (by kernel_rfl) (by kernel_rfl) (fun _ _ _ h => h) (Or.inl ⟨by rfl, ?yz11⟩) (by assumption) ?rz11
            case yz11 => (intro w hSw; (try dsimp only at hSw); go_simp; try with_reducible rfl)
            try simp only [Act.put, List.setIfInBounds_toArray, List.set_cons_zero, List.set_cons_succ, List.getElem_toArray, List.getElem_cons_zero, List.getElem_cons_succ]
            refine wpAnyH_take (i := 12) (v := ?vz12) rfl (by kernel_rfl) (by kernel_rfl) (by kernel_rfl) (fun _ _ _ h => h) (Or.inl ⟨by rfl, ?yz12⟩) (by assumption) ?rz12
            case yz12 => (intro w hSw; (try dsimp only at hSw); go_simp; try with_reducible rfl)
            try simp only [Act.put, List.setIfInBounds_toArray, List.set_cons_zero, List.set_cons_succ, List.getElem_toArray, List.getElem_cons_zero, List.getElem_cons_succ]
            refine wpAnyH_take (i := 13) (v := ?vz13) rfl (by kernel_rfl) (by kernel_rfl) (by kernel_rfl) (fun _ _ _ h => h) (Or.inl ⟨by rfl, ?yz13⟩) (by assumption) ?rz13
            case yz13 => (intro w hSw; (try dsimp only at hSw); go_simp; try with_reducible rfl)
            try simp only [Act.put, List.setIfInBounds_toArray, List.set_cons_zero, List.set_cons_succ, List.getElem_toArray, List.getElem_cons_zero, List.getElem_cons_succ]
            refine wpAnyH_ready (rs := [14]) (by kernel_rfl) (by simp) ?_
            refine AllReadyH.cons rfl (fun K hK => ?_) AllReadyH.nil
            go_simp
            go_at_call 17
            refine (hcy _ (bstep HBD.out q1)).mono ?_
            rintro e v2 ⟨rfl, q2⟩
            have g2 := keep6w q2 g1
            go_wp2_with fail
            refine hK.out _ _ (g2) (fun hHeld => ?_)
            clear hK K
            try simp only [Act.put, List.setIfInBounds_toArray, List.set_cons_zero, List.set_cons_succ, List.getElem_toArray, List.getElem_cons_zero, List.getElem_cons_succ]
            refine wpAnyH_take (i := 15) (v := ?vz15) rfl (by kernel_rfl) (by kernel_rfl) (by kernel_rfl) (fun _ _ _ h => h) (Or.inl ⟨by rfl, ?yz15⟩) (by assumption) ?rz15
            case yz15 => (intro w hSw; (try dsimp only at hSw); go_simp; try with_reducible rfl)
            try simp only [Act.put, List.setIfInBounds_toArray, List.set_cons_zero, List.set_cons_succ, List.getElem_toArray, List.getElem_cons_zero, List.getElem_cons_succ]
            refine wpAnyH_take (i := 16) (v := ?vz16) rfl (by kernel_rfl) (by kernel_rfl) (by kernel_rfl) (fun _ _ _ h => h) (Or.inl ⟨by rfl, ?yz16⟩) (by assumption) ?rz16
            case yz16 => (intro w hSw; (try dsimp only at hSw); go_simp; try with_reducible rfl)
            try simp only [Act.put, List.setIfInBounds_toArray, List.set_cons_zero, List.set_cons_succ, List.getElem_toArray, List.getElem_cons_zero, List.getElem_cons_succ]
            refine wpAnyH_take (i := 17) (v := ?vz17) rfl (by kernel_rfl) (by kernel_rfl) (by kernel_rfl) (fun _ _ _ h => h) (Or.inl ⟨by rfl, ?yz17⟩) (by assumption) ?rz17
            case yz17 => (intro w hSw; (try dsimp only at hSw); go_simp; try with_reducible rfl)
            try simp only [Act.put, List.setIfInBounds_toArray, List.set_cons_zero, List.set_cons_succ, List.getElem_toArray, List.getElem_cons_zero, List.getElem_cons_succ]
            refine wpAnyH_done (by kernel_rfl) ?_ _
            go_wp2
            go_ret
            exact ⟨rfl, bstep HB8.out (bstep (bstep HBD.out q1) q2)⟩
          · simp only [if_neg hy1] at hcy
            go_wp2_with fail
            refine wp_region_held_drew (S := fun w' => w'.cell? ⟨wS.heap.size, 0, none⟩ = some (.slice (some ⟨bx, ox, none⟩) R y0) ∧ w'.cell? ⟨wS.heap.size, 1, none⟩ = some (.slice (some ⟨bb, oo, none⟩) O y1) ∧ w'.cell? ⟨wS.heap.size, 2, none⟩ = some (.slice x2 P y2) ∧ w'.cell? ⟨wd.heap.size, 0, none⟩ = some (.slice (some ⟨bx, ox, none⟩) R y0) ∧ w'.cell? ⟨wd.heap.size, 1, none⟩ = some (.slice (some ⟨g, 0, none⟩) O cap) ∧ w'.cell? ⟨wd.heap.size, 2, none⟩ = some (.slice x2 P y2)) (by kernel_rfl) (gA) (fun hHeld => ?_)
            refine wpAnyH_take (i := 0) (v := ?vy0) rfl (by kernel_rfl) (by kernel_rfl) (by kernel_rfl) (fun _ _ _ h => h) (Or.inl ⟨by rfl, ?yy0⟩) (by assumption) ?ry0
            case yy0 => (intro w hSw; (try dsimp only at hSw); go_simp; try with_reducible rfl)
            try simp only [Act.put, List.setIfInBounds_toArray, List.set_cons_zero, List.set_cons_succ, List.getElem_toArray, List.getElem_cons_zero, List.getElem_cons_succ]
            refine wpAnyH_take (i := 1) (v := ?vy1) rfl (by kernel_rfl) (by kernel_rfl) (by kernel_rfl) (fun _ _ _ h => h) (Or.inl ⟨by rfl, ?yy1⟩) (by assumption) ?ry1
            case yy1 => (intro w hSw; (try dsimp only at hSw); go_simp; try with_reducible rfl)
            try simp only [Act.put, List.setIfInBounds_toArray, List.set_cons_zero, List.set_cons_succ, List.getElem_toArray, List.getElem_cons_zero, List.getElem_cons_succ]
            refine wpAnyH_take (i := 2) (v := ?vy2) rfl (by kernel_rfl) (by kernel_rfl) (by kernel_rfl) (fun _ _ _ h => h) (Or.inl ⟨by rfl, ?yy2⟩) (by assumption) ?ry2
            case yy2 => (intro w hSw; (try dsimp only at hSw); go_simp; try with_reducible rfl)
            try simp only [Act.put, List.setIfInBounds_toArray, List.set_cons_zero, List.set_cons_succ, List.getElem_toArray, List.getElem_cons_zero, List.getElem_cons_succ]
            refine wpAnyH_ready (rs := [3]) (by kernel_rfl) (by simp) ?_
            refine AllReadyH.cons rfl (fun K hK => ?_) AllReadyH.nil
            go_simp
            go_at_call 17
            refine (hck _ (HBD.out)).mono ?_
            rintro e v1 ⟨rfl, q1⟩
            have g1 := keep6w q1 gA
            go_wp2_with fail
            refine hK.out _ _ (g1) (fun hHeld => ?_)
            clear hK K
            try simp only [Act.put, List.setIfInBounds_toArray, List.set_cons_zero, List.set_cons_succ, List.getElem_toArray, List.getElem_cons_zero, List.getElem_cons_succ]
            refine wpAnyH_take (i := 4) (v := ?vy4) rfl (by kernel_rfl) (by kernel_rfl) (by kernel_rfl) (fun _ _ _ h => h) (Or.inl ⟨by rfl, ?yy4⟩) (by assumption) ?ry4
            case yy4 => (intro w hSw; (try dsimp only at hSw); go_simp; try with_reducible rfl)
            try simp only [Act.put, List.setIfInBounds_toArray, List.set_cons_zero, List.set_cons_succ, List.getElem_toArray, List.getElem_cons_zero, List.getElem_cons_succ]
            refine wpAnyH_take (i := 5) (v := ?vy5) rfl (by kernel_rfl) (by kernel_rfl) (by kernel_rfl) (fun _ _ _ h => h) (Or.inl ⟨by rfl, ?yy5⟩) (by assumption) ?ry5
            case yy5 => (intro w hSw; (try dsimp only at hSw); go_simp; try with_reducible rfl)
            try simp only [Act.put, List.setIfInBounds_toArray, List.set_cons_zero, List.set_cons_succ, List.getElem_toArray, List.getElem_cons_zero, List.getElem_cons_succ]
            refine wpAnyH_take (i := 6) (v := ?vy6) rfl (by kernel_rfl) (by kernel_rfl) (by kernel_rfl) (fun _ _ _ h => h) (Or.inl ⟨by rfl, ?yy6⟩) (by assumption) ?ry6
            case yy6 => (intro w hSw; (try dsimp only at hSw); go_simp; try with_reducible rfl)
            try simp only [Act.put, List.setIfInBounds_toArray, List.set_cons_zero, List.set_cons_succ, List.getElem_toArray, List.getElem_cons_zero, List.getElem_cons_succ]
            refine wpAnyH_take (i := 7) (v := ?vy7) rfl (by kernel_rfl) (by kernel_rfl) (by kernel_rfl) (fun _ _ _ h => h) (Or.inl ⟨by rfl, ?yy7⟩) (by assumption) ?ry7
            case yy7 => (intro w hSw; (try dsimp only at hSw); go_simp; try with_reducible rfl)
            try simp only [Act.put, List.setIfInBounds_toArray, List.set_cons_zero, List.set_cons_succ, List.getElem_toArray, List.getElem_cons_zero, List.getElem_cons_succ]
            refine wpAnyH_take (i := 8) (v := ?vy8) rfl (by kernel_rfl) (by kernel_rfl) (by kernel_rfl) (fun _ _ _ h => h) (Or.inl ⟨by rfl, ?yy8⟩) (by assumption) ?ry8
            case yy8 => (intro w hSw; (try dsimp only at hSw); go_simp; try with_reducible rfl)
            try simp only [Act.put, List.setIfInBounds_toArray, List.set_cons_zero, List.set_cons_succ, List.getElem_toArray, List.getElem_cons_zero, List.getElem_cons_succ]
            refine wpAnyH_take (i := 9) (v := ?vy9) rfl (by kernel_rfl) (by kernel_rfl) (by kernel_rfl) (fun _ _ _ h => h) (Or.inl ⟨by rfl, ?yy9⟩) (by assumption) ?ry9
            case yy9 => (intro w hSw; (try dsimp only at hSw); go_simp; try with_reducible rfl)
            try simp only [Act.put, List.setIfInBounds_toArray, List.set_cons_zero, List.set_cons_succ, List.getElem_toArray, List.getElem_cons_zero, List.getElem_cons_succ]
            refine wpAnyH_take (i := 10) (v := ?vy10) rfl (by kernel_rfl) (by kernel_rfl) (by kernel_rfl) (fun _ _ _ h => h) (Or.inl ⟨by rfl, ?yy10⟩) (by assumption) ?ry10
            case yy10 => (intro w hSw; (try dsimp only at hSw); go_simp; try with_reducible rfl)
            try simp only [Act.put, List.setIfInBounds_toArray, List.set_cons_zero, List.set_cons_succ, List.getElem_toArray, List.getElem_cons_zero, List.getElem_cons_succ]
            refine wpAnyH_take (i := 11) (v := ?vy11) rfl (by kernel_rfl) (by kernel_rfl) (by kernel_rfl) (fun _ _ _ h => h) (Or.inl ⟨by rfl, ?yy11⟩) (by assumption) ?ry11
            case yy11 => (intro w hSw; (try dsimp only at hSw); go_simp; try with_reducible rfl)
            try simp only [Act.put, List.setIfInBounds_toArray, List.set_cons_zero, List.set_cons_succ, List.getElem_toArray, List.getElem_cons_zero, List.getElem_cons_succ]
            refine wpAnyH_take (i := 12) (v := ?vy12) rfl (by kernel_rfl) (by kernel_rfl) (by kernel_rfl) (fun _ _ _ h => h) (Or.inl ⟨by rfl, ?yy12⟩) (by assumption) ?ry12
            case yy12 => (intro w hSw; (try dsimp only at hSw); go_simp; try with_reducible rfl)
            try simp only [Act.put, List.setIfInBounds_toArray, List.set_cons_zero, List.set_cons_succ, List.getElem_toArray, List.getElem_cons_zero, List.getElem_cons_succ]
            refine wpAnyH_take (i := 13) (v := ?vy13) rfl (by kernel_rfl) (by kernel_rfl) (by kernel_rfl) (fun _ _ _ h => h) (Or.inl ⟨by rfl, ?yy13⟩) (by assumption) ?ry13
            case yy13 => (intro w hSw; (try dsimp only at hSw); go_simp; try with_reducible rfl)
            try simp only [Act.put, List.setIfInBounds_toArray, List.set_cons_zero, List.set_cons_succ, List.getElem_toArray, List.getElem_cons_zero, List.getElem_cons_succ]
            refine wpAnyH_ready (rs := [14]) (by kernel_rfl) (by simp) ?_
            refine AllReadyH.cons rfl (fun K hK => ?_) AllReadyH.nil
            go_simp
            go_at_call 17
            refine (hcy _ (bstep HBD.out q1)).mono ?_
            rintro e v2 ⟨rfl, q2⟩
            have g2 := keep6w q2 g1
            go_wp2_with fail
            refine hK.out _ _ (g2) (fun hHeld => ?_)
            clear hK K
            try simp only [Act.put, List.setIfInBounds_toArray, List.set_cons_zero, List.set_cons_succ, List.getElem_toArray, List.getElem_cons_zero, List.getElem_cons_succ]
            refine wpAnyH_take (i := 15) (v := ?vy15) rfl (by kernel_rfl) (by kernel_rfl) (by kernel_rfl) (fun _ _ _ h => h) (Or.inl ⟨by rfl, ?yy15⟩) (by assumption) ?ry15
            case yy15 => (intro w hSw; (try dsimp only at hSw); go_simp; try with_reducible rfl)
            try simp only [Act.put, List.setIfInBounds_toArray, List.set_cons_zero, List.set_cons_succ, List.getElem_toArray, List.getElem_cons_zero, List.getElem_cons_succ]
            refine wpAnyH_take (i := 16) (v := ?vy16) rfl (by kernel_rfl) (by kernel_rfl) (by kernel_rfl) (fun _ _ _ h => h) (Or.inl ⟨by rfl, ?yy16⟩) (by assumption) ?ry16
            case yy16 => (intro w hSw; (try dsimp only at hSw); go_simp; try with_reducible rfl)
            try simp only [Act.put, List.setIfInBounds_toArray, List.set_cons_zero, List.set_cons_succ, List.getElem_toArray, List.getElem_cons_zero, List.getElem_cons_succ]
            refine wpAnyH_take (i := 17) (v := ?vy17) rfl (by kernel_rfl) (by kernel_rfl) (by kernel_rfl) (fun _ _ _ h => h) (Or.inl ⟨by rfl, ?yy17⟩) (by assumption) ?ry17
            case yy17 => (intro w hSw; (try dsimp only at hSw); go_simp; try with_reducible rfl)
            try simp only [Act.put, List.setIfInBounds_toArray, List.set_cons_zero, List.set_cons_succ, List.getElem_toArray, List.getElem_cons_zero, List.getElem_cons_succ]
            refine wpAnyH_done (by kernel_rfl) ?_ _
            go_wp2
            go_ret
            exact ⟨rfl, bstep HB8.out (bstep (bstep HBD.out q1) q2)⟩
end Go.Proofs.Ytllagelopdedfaa
