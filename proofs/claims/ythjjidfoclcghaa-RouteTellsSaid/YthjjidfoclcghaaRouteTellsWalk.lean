/- The walk of the law RouteTells. -/
import Derived.Test.YthjjidfoclcghaaGR28
import Derived.Deep.DeepCutAuto
import Derived.Deep.QuietTactic
import Derived.BigQuiet
import Derived.IntWalk
import Derived.StillTailTactics
namespace Go.Proofs.Ythjjidfoclcghaa
open Go.RowKit
set_option linter.unusedVariables false
set_option linter.unusedSimpArgs false

/-- Four numbers in memory. -/
structure At4 (w : World) (A : Nat) (q0 q1 q2 q3 : Int) : Prop where
  c0 : w.cell? ⟨A, 0, none⟩ = some (.int .i64 q0)
  c1 : w.cell? ⟨A, 1, none⟩ = some (.int .i64 q1)
  c2 : w.cell? ⟨A, 2, none⟩ = some (.int .i64 q2)
  c3 : w.cell? ⟨A, 3, none⟩ = some (.int .i64 q3)
theorem At4.keep {w w' : World} {A : Nat} {q0 q1 q2 q3 : Int} (h : At4 w A q0 q1 q2 q3) (hb : Below w.heap.size w w') : At4 w' A q0 q1 q2 q3 := ⟨kc7 hb h.c0, kc7 hb h.c1, kc7 hb h.c2, kc7 hb h.c3⟩
theorem At4.block {w w' : World} {A : Nat} {q0 q1 q2 q3 : Int} (h : At4 w A q0 q1 q2 q3) (hb : w'.heap[A]? = w.heap[A]?) : At4 w' A q0 q1 q2 q3 := by
  refine ⟨?_, ?_, ?_, ?_⟩ <;> rw [World.cell?_of_block hb]
  · exact h.c0
  · exact h.c1
  · exact h.c2
  · exact h.c3
/-- What is held of a world: the row, its variable, the numbers. -/
structure Tl9 (w : World) (B A : Nat) (u0 u1 u2 : Value) (c : Rw) (q0 q1 q2 q3 : Int) : Prop where
  r : RwAt w u0 u1 u2 c
  v : VrP w B u0 u1 u2
  a : At4 w A q0 q1 q2 q3
theorem Tl9.keep {w w' : World} {B A : Nat} {u0 u1 u2 : Value} {c : Rw} {q0 q1 q2 q3 : Int} (h : Tl9 w B A u0 u1 u2 c q0 q1 q2 q3) (hb : Below w.heap.size w w') : Tl9 w' B A u0 u1 u2 c q0 q1 q2 q3 := ⟨h.r.below hb, h.v.keep hb, h.a.keep hb⟩
/-- The cells that the regions load. -/
def Ld9 (w : World) (B A : Nat) (u0 u1 u2 : Value) (q0 q1 : Int) : Prop := (w.cell? ⟨B, 0, none⟩ = some u0 ∧ w.cell? ⟨B, 1, none⟩ = some u1 ∧ w.cell? ⟨B, 2, none⟩ = some u2) ∧ w.cell? ⟨A, 0, none⟩ = some (.int .i64 q0) ∧ w.cell? ⟨A, 1, none⟩ = some (.int .i64 q1)
theorem Tl9.ld {w : World} {B A : Nat} {u0 u1 u2 : Value} {c : Rw} {q0 q1 q2 q3 : Int} (h : Tl9 w B A u0 u1 u2 c q0 q1 q2 q3) : (w.cell? ⟨B, 0, none⟩ = some u0 ∧ w.cell? ⟨B, 1, none⟩ = some u1 ∧ w.cell? ⟨B, 2, none⟩ = some u2) ∧ w.cell? ⟨A, 0, none⟩ = some (.int .i64 q0) ∧ w.cell? ⟨A, 1, none⟩ = some (.int .i64 q1) := ⟨⟨h.v.c0, h.v.c1, h.v.c2⟩, h.a.c0, h.a.c1⟩

set_option maxRecDepth 100000 in
set_option maxHeartbeats 6400000 in
theorem walkRouteTells (w : World) (a0 b0 c0 : Value) (l0 m0 n0 : List Int) (w0 : RowAt KI w a0 l0 ∧ ∀ z ∈ l0, -9223372036854775808 ≤ z ∧ z ≤ 9223372036854775807) (x0 : RowAt KI w b0 m0 ∧ ∀ z ∈ m0, -9223372036854775808 ≤ z ∧ z ≤ 9223372036854775807) (y0 : RowAt KI w c0 n0 ∧ ∀ z ∈ n0, -9223372036854775808 ≤ z ∧ z ≤ 9223372036854775807) (key : ByteArray) (wk : key.size ≤ maxLen) (q0 q1 q2 q3 : Int) (qb0 : -9223372036854775808 ≤ q0 ∧ q0 ≤ 9223372036854775807) (qb1 : -9223372036854775808 ≤ q1 ∧ q1 ≤ 9223372036854775807) (qb2 : -9223372036854775808 ≤ q2 ∧ q2 ≤ 9223372036854775807) (qb3 : -9223372036854775808 ≤ q3 ∧ q3 ≤ 9223372036854775807) :
    Calls Try.prog 3 #[.agg #[a0, b0, c0], .string key, .agg #[.int .i64 q0, .int .i64 q1, .int .i64 q2, .int .i64 q3]] w fun e w' => e = .returned (.bool true) ∧ Below w.heap.size w w' := by
  obtain ⟨w0, w0b⟩ := w0
  obtain ⟨x0, x0b⟩ := x0
  obtain ⟨y0, y0b⟩ := y0
  have hrow := fun W hb' => row9N_any a0 b0 c0 l0 m0 n0 W (w0.below hb') (x0.below hb') (y0.below hb') w0b x0b y0b
  obtain ⟨i0, j0, rfl, _⟩ := w0
  obtain ⟨i1, j1, rfl, _⟩ := x0
  obtain ⟨i2, j2, rfl, _⟩ := y0
  clear w0b x0b y0b wk qb0 qb1 qb2
  have hb : Below w.heap.size w ((w.alloc (.cells #[.slice i0 l0.length j0, .slice i1 m0.length j1, .slice i2 n0.length j2] 24)).alloc (.cells #[.int .i64 q0, .int .i64 q1, .int .i64 q2, .int .i64 q3] 25)) := balloc (balloc (Below.refl _ _) _) _
  have hS0 := (VrP.new w (.slice i0 l0.length j0) (.slice i1 m0.length j1) (.slice i2 n0.length j2) 24).keep (balloc (Below.refl _ _) (.cells #[.int .i64 q0, .int .i64 q1, .int .i64 q2, .int .i64 q3] 25))
  have hA0 : At4 ((w.alloc (.cells #[.slice i0 l0.length j0, .slice i1 m0.length j1, .slice i2 n0.length j2] 24)).alloc (.cells #[.int .i64 q0, .int .i64 q1, .int .i64 q2, .int .i64 q3] 25)) (w.heap.size + 1) q0 q1 q2 q3 := ⟨by simp, by simp, by simp, by simp⟩
  go_enter Try.func3, Try.ntmps3
  go_wp2_with fail
  generalize ((w.alloc (.cells #[.slice i0 l0.length j0, .slice i1 m0.length j1, .slice i2 n0.length j2] 24)).alloc (.cells #[.int .i64 q0, .int .i64 q1, .int .i64 q2, .int .i64 q3] 25)) = wb at *
  refine (awake9_any _).mono ?_
  rintro e wa ⟨rfl, hba⟩
  obtain ⟨p0, p1, p2, _⟩ := hS0.keep hba
  have HBA := Lib.hid (bstep hb hba)
  have HA1 := Lib.hid (hA0.keep hba)
  clear hb hba hS0 hA0
  go_wp2_with fail
  refine (hrow _ HBA.out).mono ?_
  rintro e wS ⟨c, u0, u1, u2, rfl, hRO, hok, hbr, hd02, hd12⟩
  have hT := (Tm.chkT_iff c.pa).1 (chk9_parts hok).2
  have hn1 := hT.n1
  have hn6 := hT.n6
  have hr8 : c.rs.length ≤ 8 := ((tOk_iff c).1 (chk9_parts hok).1).r8
  obtain ⟨g, cp2, hu2⟩ := hRO.p.someT (by omega)
  subst hu2
  obtain ⟨z0, t0, rfl⟩ := hRO.r.shape
  obtain ⟨z1, t1, rfl⟩ := hRO.o.shape
  have hba := balloc (Below.refl _ wS) (.cells #[.slice z0 c.rs.length t0, .slice z1 c.ow.length t1, .slice (some ⟨g, 0, none⟩) c.pa.length cp2] 29)
  have HRO := Lib.hid (hRO.below hba)
  have HV := Lib.hid (VrP.new wS (.slice z0 c.rs.length t0) (.slice z1 c.ow.length t1) (.slice (some ⟨g, 0, none⟩) c.pa.length cp2) 29)
  have HB := Lib.hid (bstep (bstep HBA.out hbr) hba)
  have HA2 := Lib.hid ((HA1.out.keep hbr).keep hba)
  have HD0 := Lib.hid hd02
  have HD1 := Lib.hid hd12
  have HG := Lib.hid hRO.p.blockT
  have HSB : Hid (w.heap.size + 1 < wa.heap.size) := Lib.hid (lt_of_cellN HA1.out.c0)
  have HSW := Lib.hid hbr.size
  clear hrow p0 p1 p2 hbr hRO hok hT hba HBA HA1 hd02 hd12
  go_upto_region 3 with fail
  generalize wS.alloc (.cells #[.slice z0 c.rs.length t0, .slice z1 c.ow.length t1, .slice (some ⟨g, 0, none⟩) c.pa.length cp2] 29) = w9 at *
  obtain ⟨d0, d1, d2, _⟩ := HV.out
  obtain ⟨e0, e1, e2, e3⟩ := HA2.out
  have hand := and7T q2
  go_upto_if 19 with (fail)
  go_cut [7] (fun s wx => s = .bool true ∧ ∃ c' : Rw, c'.rs.length ≤ 8 ∧ Tl9 wx wS.heap.size (w.heap.size + 1) (.slice z0 c.rs.length t0) (.slice z1 c.ow.length t1) (.slice (some ⟨g, 0, none⟩) c.pa.length cp2) c' q0 q1 q2 q3 ∧ Below w.heap.size w wx)
  case first =>
    by_cases h7 : q2 % 8 = 7
    · have h7b : (q2 % 8 == 7) = true := by rw [beq_iff_eq]; exact h7
      obtain ⟨y1, y2⟩ := tmod_bdT q3 (c.pa.length : Int) (by omega)
      generalize hy : q3.tmod (c.pa.length : Int) = y at y1 y2
      have ho1 := Int.emod_nonneg (y + (c.pa.length : Int)) (b := (c.pa.length : Int)) (by omega)
      have ho2 := Int.emod_lt_of_pos (y + (c.pa.length : Int)) (b := (c.pa.length : Int)) (by omega)
      obtain ⟨k, hk⟩ : ∃ k : Nat, (y + (c.pa.length : Int)) % (c.pa.length : Int) = (k : Int) := ⟨((y + (c.pa.length : Int)) % (c.pa.length : Int)).toNat, by omega⟩
      have hkl : k < c.pa.length := by omega
      have hkt : (y + (c.pa.length : Int)).tmod (c.pa.length : Int) = (k : Int) := by rw [Int.tmod_eq_emod_of_nonneg (by omega)]; exact hk
      have hcell := HRO.out.p.cellT k hkl
      have hfr := HRO.out.p.frozenT k
      have hand3 := and7T q3
      have hpn : ¬ c.pa = [] := fun e => by rw [e] at hn1; simp at hn1
      have hpw : IntKind.i64.wrap (y + (c.pa.length : Int)) = y + (c.pa.length : Int) := IntWalk.i64_in _ (by omega)
      have hkz : decide ((k : Int) < (c.pa.length : Int)) = true := by simp; omega
      have hk0 : (0 : Int) ≤ (k : Int) := by omega
      have hki : (k : Int) < (c.pa.length : Int) := by omega
      clear h7 ho1 ho2
      go_wp2_with fail
      go_still_tail 20, (by kernel_rfl)
      have hne : ∀ v : Value, (∀ x, v.ownBlock = some x → (.slice (some ⟨g, 0, none⟩) c.pa.length cp2 : Value).ownBlock ≠ some x) → v.ownBlock ≠ some g := fun v h e => h g e (by simp [Value.ownBlock])
      obtain ⟨hg1, hg2⟩ := HG.out
      have hsb := HSB.out
      have hsw := HSW.out
      have hbk : ∀ x, x ≠ g → ((w9.setCell ⟨g, k, none⟩ (.int .i64 (q3 % 8))).drew).heap[x]? = w9.heap[x]? := fun x hx => Below.heap_setCell _ _ _ _ hx
      have HTL : Hid (Tl9 (w9.setCell ⟨g, k, none⟩ (.int .i64 (q3 % 8))).drew wS.heap.size (w.heap.size + 1) (.slice z0 c.rs.length t0) (.slice z1 c.ow.length t1) (.slice (some ⟨g, 0, none⟩) c.pa.length cp2) ⟨c.rs, c.ow, c.pa.set k (q3 % 8)⟩ q0 q1 q2 q3) := Lib.hid
        ⟨⟨(RowAt.of_own kr_ok (HRO.out.r.put7 (hne _ HD0.out))).drew, (RowAt.of_own ki_ok (HRO.out.o.put7 (hne _ HD1.out))).drew, (RowAt.of_own ki_ok (HRO.out.p.setT k (q3 % 8))).drew, HRO.out.sz⟩,
          HV.out.block (hbk _ (by omega)), HA2.out.block (hbk _ (by omega))⟩
      have HBW : Hid (Below w.heap.size w (w9.setCell ⟨g, k, none⟩ (.int .i64 (q3 % 8))).drew) := Lib.hid (HB.out.setCell (p := ⟨g, k, none⟩) (show w.heap.size ≤ g by omega) _).drew
      clear hne hbk
      try go_wp2
      go_meet
      exact ⟨rfl, ⟨c.rs, c.ow, c.pa.set k (q3 % 8)⟩, hr8, HTL.out, HBW.out⟩
    · have h7b : (q2 % 8 == 7) = false := by rw [beq_eq_false_iff_ne]; exact h7
      clear h7
      go_wp2
      go_meet
      exact ⟨rfl, c, hr8, ⟨HRO.out.at, HV.out, HA2.out⟩, HB.out⟩
  case rest =>
    obtain ⟨rfl, c', hr8', hTL, hbW⟩ := hcut
    have HTL := Lib.hid hTL
    have HBW := Lib.hid hbW
    obtain ⟨wO, hwO⟩ : ∃ wO : World, wO = wc := ⟨wc, rfl⟩
    subst hwO
    clear d0 d1 d2 e0 e1 e2 e3 HA2 HRO HV HB HD0 HD1 hand hTL hbW
    have HNX := Lib.hid (fun (W : World) (hb : Below wO.heap.size wO W) => rnext_any c' (.slice z0 c.rs.length t0) (.slice z1 c.ow.length t1) (.slice (some ⟨g, 0, none⟩) c.pa.length cp2) q0 q1 key W (HTL.out.keep hb).r)
    have HRX := Lib.hid (fun (W : World) (hb : Below wO.heap.size wO W) => refNext9_any c' (.slice z0 c.rs.length t0) (.slice z1 c.ow.length t1) (.slice (some ⟨g, 0, none⟩) c.pa.length cp2) q0 q1 key W (HTL.out.keep hb).r (by omega))
    have hxl : (Tm.ln (nx9 c' key.data.toList q0 q1)).length ≤ 1000000 := by rw [Tm.ln_len]; have := nx9_len c' key.data.toList q0 q1; omega
    have hsm := fun (u v : Value) (W : World) (hu : RowAt KI W u (Tm.ln (nx9 c' key.data.toList q0 q1))) (hv : RowAt KI W v (Tm.ln (nx9 c' key.data.toList q0 q1))) => refTSame_any u v _ _ W hxl hu hv
    rw [decide_eq_true rfl] at hsm
    generalize Tm.ln (nx9 c' key.data.toList q0 q1) = X at *
    have hdr : Below wO.heap.size wO wO.drew := (Below.refl _ _).drew
    have g0 := (HTL.out.keep hdr).ld
    go_upto_region 5 with fail
    go_cut [9] (fun q wx => q = .bool true ∧ Below wO.heap.size wO wx)
    case first =>
      go_region_held3 (fun w' => (w'.cell? ⟨wS.heap.size, 0, none⟩ = some (.slice z0 c.rs.length t0) ∧ w'.cell? ⟨wS.heap.size, 1, none⟩ = some (.slice z1 c.ow.length t1) ∧ w'.cell? ⟨wS.heap.size, 2, none⟩ = some (.slice (some ⟨g, 0, none⟩) c.pa.length cp2)) ∧ w'.cell? ⟨w.heap.size + 1, 0, none⟩ = some (.int .i64 q0) ∧ w'.cell? ⟨w.heap.size + 1, 1, none⟩ = some (.int .i64 q1))
        (first | exact g0 | exact g1 | exact g2 | exact g3)
        (first
          | (go_at_call 12; ((refine (HNX.out _ hdr).mono ?_); rintro e w5 ⟨v5, rfl, h5o, h5⟩; have hA := RowAt.of_own ki_ok h5o; have hb1 := bstep hdr h5; have g1 := ((HTL.out.keep hb1)).ld))
          | (go_at_call 12; ((refine (HNX.out _ hb1).mono ?_); rintro e w5 ⟨v5, rfl, h5o, h5⟩; have hA2 := RowAt.of_own ki_ok h5o; have hB2 := hB.below h5; have hb2 := bstep hb1 h5; have g2 := ((HTL.out.keep hb2)).ld))
          | (go_at_call 13; ((refine (HRX.out _ hdr).mono ?_); rintro e w6 ⟨v6, rfl, h6o, h6⟩; have hB := RowAt.of_own ki_ok h6o; have hb1 := bstep hdr h6; have g1 := ((HTL.out.keep hb1)).ld))
          | (go_at_call 13; ((refine (HRX.out _ hb1).mono ?_); rintro e w6 ⟨v6, rfl, h6o, h6⟩; have hB2 := RowAt.of_own ki_ok h6o; have hA2 := hA.below h6; have hb2 := bstep hb1 h6; have g2 := ((HTL.out.keep hb2)).ld))
          | (go_at_call 11; ((refine (hsm v5 v6 _ hA2 hB2).mono ?_); rintro e w7 ⟨rfl, h7⟩; have hb3 := bstep hb2 h7; have g3 := ((HTL.out.keep hb3)).ld)))
      all_goals
        go_wp2
        go_meet
        exact ⟨rfl, hb3⟩
    case rest =>
      obtain ⟨rfl, hbx⟩ := hcut
      have HBW2 := Lib.hid (bstep HBW.out hbx)
      have HTL2 := Lib.hid (HTL.out.keep hbx)
      obtain ⟨wP, hwP⟩ : ∃ wP : World, wP = wc := ⟨wc, rfl⟩
      subst hwP
      clear hbx HBW HTL HNX HRX hsm hdr g0 hxl
      obtain ⟨wO, hwO⟩ : ∃ wO : World, wO = wP := ⟨wP, rfl⟩
      subst hwO
      have HTL := HTL2
      have HBW := HBW2
      clear HTL2 HBW2
      have HSX := Lib.hid (fun (W : World) (hb : Below wO.heap.size wO W) => serves_any c' (.slice z0 c.rs.length t0) (.slice z1 c.ow.length t1) (.slice (some ⟨g, 0, none⟩) c.pa.length cp2) q0 q1 W (HTL.out.keep hb).r)
      have HRS := Lib.hid (fun (W : World) (hb : Below wO.heap.size wO W) => refServes9_any c' (.slice z0 c.rs.length t0) (.slice z1 c.ow.length t1) (.slice (some ⟨g, 0, none⟩) c.pa.length cp2) q0 q1 W (HTL.out.keep hb).r (by omega))
      have hsl : (serves9 c' q0 q1).length ≤ 100 := by
        cases hk : chk9 c' with
        | false => rw [serves9_no hk]; simp
        | true => rw [serves9_eq hk]; have := srvK_len c' q0 q1 c'.rs.length; omega
      have hsm := fun (u v : Value) (W : World) (hu : RowAt KR W u (serves9 c' q0 q1)) (hv : RowAt KR W v (serves9 c' q0 q1)) => sameRanges7_any u v _ W hsl hu hv
      generalize serves9 c' q0 q1 = S at *
      have hdr : Below wO.heap.size wO wO.drew := (Below.refl _ _).drew
      have g0 := (HTL.out.keep hdr).ld
      go_upto_region 6 with fail
      go_cut [10] (fun q wx => q = .bool true ∧ Below wO.heap.size wO wx)
      case first =>
        go_region_held3 (fun w' => (w'.cell? ⟨wS.heap.size, 0, none⟩ = some (.slice z0 c.rs.length t0) ∧ w'.cell? ⟨wS.heap.size, 1, none⟩ = some (.slice z1 c.ow.length t1) ∧ w'.cell? ⟨wS.heap.size, 2, none⟩ = some (.slice (some ⟨g, 0, none⟩) c.pa.length cp2)) ∧ w'.cell? ⟨w.heap.size + 1, 0, none⟩ = some (.int .i64 q0) ∧ w'.cell? ⟨w.heap.size + 1, 1, none⟩ = some (.int .i64 q1))
          (first | exact g0 | exact g1 | exact g2 | exact g3)
          (first
            | (go_at_call 15; ((refine (HSX.out _ hdr).mono ?_); rintro e w5 ⟨v5, rfl, h5o, h5⟩; have hA := RowAt.of_own kr_ok h5o; have hb1 := bstep hdr h5; have g1 := ((HTL.out.keep hb1)).ld))
            | (go_at_call 15; ((refine (HSX.out _ hb1).mono ?_); rintro e w5 ⟨v5, rfl, h5o, h5⟩; have hA2 := RowAt.of_own kr_ok h5o; have hB2 := hB.below h5; have hb2 := bstep hb1 h5; have g2 := ((HTL.out.keep hb2)).ld))
            | (go_at_call 16; ((refine (HRS.out _ hdr).mono ?_); rintro e w6 ⟨v6, rfl, h6o, h6⟩; have hB := RowAt.of_own kr_ok h6o; have hb1 := bstep hdr h6; have g1 := ((HTL.out.keep hb1)).ld))
            | (go_at_call 16; ((refine (HRS.out _ hb1).mono ?_); rintro e w6 ⟨v6, rfl, h6o, h6⟩; have hB2 := RowAt.of_own kr_ok h6o; have hA2 := hA.below h6; have hb2 := bstep hb1 h6; have g2 := ((HTL.out.keep hb2)).ld))
            | (go_at_call 14; ((refine (hsm v5 v6 _ hA2 hB2).mono ?_); rintro e w7 ⟨rfl, h7⟩; have hb3 := bstep hb2 h7; have g3 := ((HTL.out.keep hb3)).ld)))
        all_goals
          go_wp2
          go_meet
          exact ⟨rfl, hb3⟩
      case rest =>
        obtain ⟨rfl, hbx⟩ := hcut
        have HBW2 := Lib.hid (bstep HBW.out hbx)
        have HTL2 := Lib.hid (HTL.out.keep hbx)
        obtain ⟨wP, hwP⟩ : ∃ wP : World, wP = wc := ⟨wc, rfl⟩
        subst hwP
        clear hbx HBW HTL HSX HRS hsm hdr g0 hsl
        obtain ⟨wO, hwO⟩ : ∃ wO : World, wO = wP := ⟨wP, rfl⟩
        subst hwO
        have HTL := HTL2
        have HBW := HBW2
        clear HTL2 HBW2
        have hck := refChk9_any c' (.slice z0 c.rs.length t0) (.slice z1 c.ow.length t1) (.slice (some ⟨g, 0, none⟩) c.pa.length cp2) wO HTL.out.r (by omega)
        obtain ⟨⟨d0, d1, d2⟩, e0, e1⟩ := HTL.out.ld
        go_wp2_with fail
        refine hck.mono ?_
        rintro e wQ ⟨rfl, hbQ⟩
        have HBW2 := Lib.hid (bstep HBW.out hbQ)
        have HTL2 := Lib.hid (HTL.out.keep hbQ)
        clear hbQ hck HBW HTL d0 d1 d2 e0 e1
        obtain ⟨wO, hwO⟩ : ∃ wO : World, wO = wQ := ⟨wQ, rfl⟩
        subst hwO
        have HTL := HTL2
        have HBW := HBW2
        clear HTL2 HBW2
        have HWY := Lib.hid (fun (W : World) (hb : Below wO.heap.size wO W) => rways_any c' (.slice z0 c.rs.length t0) (.slice z1 c.ow.length t1) (.slice (some ⟨g, 0, none⟩) c.pa.length cp2) q0 key W (HTL.out.keep hb).r)
        have HRW := Lib.hid (fun (W : World) (hb : Below wO.heap.size wO W) => refWays9_any c' (.slice z0 c.rs.length t0) (.slice z1 c.ow.length t1) (.slice (some ⟨g, 0, none⟩) c.pa.length cp2) q0 key W (HTL.out.keep hb).r (by omega))
        have hwl := ways9_len c' key.data.toList q0
        have hsm := fun (u v : Value) (W : World) (hu : RowAt KP W u (ways9 c' key.data.toList q0)) (hv : RowAt KP W v (ways9 c' key.data.toList q0)) => refSame9_any u v _ W (by omega) hu hv
        generalize ways9 c' key.data.toList q0 = WL at *
        generalize hb9 : chk9 c' = bk
        have HB9 := Lib.hid hb9
        clear hb9
        go_upto_if 70 with (fail)
        go_cut [11] (fun s wx => s = .bool true ∧ Below wO.heap.size wO wx)
        case first =>
          cases bk with
          | false =>
            go_wp2
            go_meet
            exact ⟨rfl, Below.refl _ _⟩
          | true =>
            go_wp2_with fail
            have hdr : Below wO.heap.size wO wO.drew := (Below.refl _ _).drew
            have g0 := (HTL.out.keep hdr).ld
            go_region_held3 (fun w' => (w'.cell? ⟨wS.heap.size, 0, none⟩ = some (.slice z0 c.rs.length t0) ∧ w'.cell? ⟨wS.heap.size, 1, none⟩ = some (.slice z1 c.ow.length t1) ∧ w'.cell? ⟨wS.heap.size, 2, none⟩ = some (.slice (some ⟨g, 0, none⟩) c.pa.length cp2)) ∧ w'.cell? ⟨w.heap.size + 1, 0, none⟩ = some (.int .i64 q0) ∧ w'.cell? ⟨w.heap.size + 1, 1, none⟩ = some (.int .i64 q1))
              (first | exact g0 | exact g1 | exact g2 | exact g3)
              (first
                | (go_at_call 19; ((refine (HWY.out _ hdr).mono ?_); rintro e w5 ⟨v5, rfl, hA, h5⟩; have hb1 := bstep hdr h5; have g1 := ((HTL.out.keep hb1)).ld))
                | (go_at_call 19; ((refine (HWY.out _ hb1).mono ?_); rintro e w5 ⟨v5, rfl, hA2, h5⟩; have hB2 := hB.below h5; have hb2 := bstep hb1 h5; have g2 := ((HTL.out.keep hb2)).ld))
                | (go_at_call 20; ((refine (HRW.out _ hdr).mono ?_); rintro e w6 ⟨v6, rfl, h6o, h6⟩; have hB := RowAt.of_own kp_ok h6o; have hb1 := bstep hdr h6; have g1 := ((HTL.out.keep hb1)).ld))
                | (go_at_call 20; ((refine (HRW.out _ hb1).mono ?_); rintro e w6 ⟨v6, rfl, h6o, h6⟩; have hB2 := RowAt.of_own kp_ok h6o; have hA2 := hA.below h6; have hb2 := bstep hb1 h6; have g2 := ((HTL.out.keep hb2)).ld))
                | (go_at_call 18; ((refine (hsm v5 v6 _ hA2 hB2).mono ?_); rintro e w7 ⟨rfl, h7⟩; have hb3 := bstep hb2 h7; have g3 := ((HTL.out.keep hb3)).ld)))
            all_goals
              go_wp2
              go_meet
              exact ⟨rfl, hb3⟩
        case rest =>
          obtain ⟨rfl, hbx⟩ := hcut
          have HBW2 := Lib.hid (bstep HBW.out hbx)
          have HTL2 := Lib.hid (HTL.out.keep hbx)
          obtain ⟨wP, hwP⟩ : ∃ wP : World, wP = wc := ⟨wc, rfl⟩
          subst hwP
          clear hbx HBW HTL HWY HRW hsm hwl
          obtain ⟨wO, hwO⟩ : ∃ wO : World, wO = wP := ⟨wP, rfl⟩
          subst hwO
          have HTL := HTL2
          have HBW := HBW2
          clear HTL2 HBW2
          have HCK := Lib.hid (fun (W : World) (hb : Below wO.heap.size wO W) => rcheck_any c' (.slice z0 c.rs.length t0) (.slice z1 c.ow.length t1) (.slice (some ⟨g, 0, none⟩) c.pa.length cp2) W (HTL.out.keep hb).r)
          have HRC := Lib.hid (fun (W : World) (hb : Below wO.heap.size wO W) => refChk9_any c' (.slice z0 c.rs.length t0) (.slice z1 c.ow.length t1) (.slice (some ⟨g, 0, none⟩) c.pa.length cp2) W (HTL.out.keep hb).r (by omega))
          have HRE := Lib.hid (fun (W : World) (hb : Below wO.heap.size wO W) => rreach_any c' (.slice z0 c.rs.length t0) (.slice z1 c.ow.length t1) (.slice (some ⟨g, 0, none⟩) c.pa.length cp2) q0 key W (HTL.out.keep hb).r)
          have HRR := Lib.hid (fun (W : World) (hb : Below wO.heap.size wO W) => refReach9_any c' (.slice z0 c.rs.length t0) (.slice z1 c.ow.length t1) (.slice (some ⟨g, 0, none⟩) c.pa.length cp2) q0 key W (HTL.out.keep hb).r (by omega))
          rw [HB9.out] at HCK HRC
          generalize reach9 c' key.data.toList q0 = r at *
          have hrr : ((r : Int) == (r : Int)) = true := by simp
          have hrn : (r == r) = true := by simp
          have hbb : (bk == bk) = true := by simp
          have hdr : Below wO.heap.size wO wO.drew := (Below.refl _ _).drew
          have g0 := (HTL.out.keep hdr).ld
          go_upto_region 11 with fail
          go_region_held3 (fun w' => (w'.cell? ⟨wS.heap.size, 0, none⟩ = some (.slice z0 c.rs.length t0) ∧ w'.cell? ⟨wS.heap.size, 1, none⟩ = some (.slice z1 c.ow.length t1) ∧ w'.cell? ⟨wS.heap.size, 2, none⟩ = some (.slice (some ⟨g, 0, none⟩) c.pa.length cp2)) ∧ w'.cell? ⟨w.heap.size + 1, 0, none⟩ = some (.int .i64 q0) ∧ w'.cell? ⟨w.heap.size + 1, 1, none⟩ = some (.int .i64 q1))
            (first | exact g0 | exact g1 | exact g2 | exact g3 | exact g4)
            (first
              | (go_at_call 21; ((refine (HCK.out _ hdr).mono ?_); rintro e w5 ⟨rfl, h5⟩; have hb1 := bstep hdr h5; have g1 := ((HTL.out.keep hb1)).ld))
              | (go_at_call 21; ((refine (HCK.out _ hb1).mono ?_); rintro e w5 ⟨rfl, h5⟩; have hb2 := bstep hb1 h5; have g2 := ((HTL.out.keep hb2)).ld))
              | (go_at_call 17; ((refine (HRC.out _ hdr).mono ?_); rintro e w6 ⟨rfl, h6⟩; have hb1 := bstep hdr h6; have g1 := ((HTL.out.keep hb1)).ld))
              | (go_at_call 17; ((refine (HRC.out _ hb1).mono ?_); rintro e w6 ⟨rfl, h6⟩; have hb2 := bstep hb1 h6; have g2 := ((HTL.out.keep hb2)).ld))
              | (go_at_call 22; ((refine (HRE.out _ hb2).mono ?_); rintro e w7 ⟨rfl, h7⟩; have hb3 := bstep hb2 h7; have g3 := ((HTL.out.keep hb3)).ld))
              | (go_at_call 22; ((refine (HRE.out _ hb3).mono ?_); rintro e w7 ⟨rfl, h7⟩; have hb4 := bstep hb3 h7; have g4 := ((HTL.out.keep hb4)).ld))
              | (go_at_call 23; ((refine (HRR.out _ hb2).mono ?_); rintro e w8 ⟨rfl, h8⟩; have hb3 := bstep hb2 h8; have g3 := ((HTL.out.keep hb3)).ld))
              | (go_at_call 23; ((refine (HRR.out _ hb3).mono ?_); rintro e w8 ⟨rfl, h8⟩; have hb4 := bstep hb3 h8; have g4 := ((HTL.out.keep hb4)).ld)))
          all_goals
            go_wp2
            go_ret
            exact ⟨rfl, bstep HBW.out hb4⟩
end Go.Proofs.Ythjjidfoclcghaa
