/- The walk of the law RouteOnly. -/
import Derived.Test.YthjjidfoclcghaaGR28
import Derived.Deep.DeepCutAuto
import Derived.Deep.QuietTactic
import Derived.BigQuiet
import Derived.IntWalk
namespace Go.Proofs.Ythjjidfoclcghaa
open Go.RowKit
set_option linter.unusedVariables false
set_option linter.unusedSimpArgs false

/-- Two variables of a row's type, whose owners are the call's own and grow. -/
structure On9 (E O bs : Nat) (wr : World) (z0 z2 ve vo : Value) (L M : List Int) : Prop where
  e : VrP wr E z0 ve z2
  o : VrP wr O z0 vo z2
  l : OwnR KI wr bs ve L
  m : OwnR KI wr bs vo M
  d : ∀ g, ve.ownBlock = some g → vo.ownBlock ≠ some g
  hE : E < bs
  hO : O < bs
  ne : E ≠ O
section
variable {E O bs : Nat} {wr w2 : World} {z0 z2 ve vo : Value} {L M : List Int}
theorem On9.below (h : On9 E O bs wr z0 z2 ve vo L M) (hb : Below wr.heap.size wr w2) : On9 E O bs w2 z0 z2 ve vo L M :=
  ⟨h.e.keep hb, h.o.keep hb, h.l.below hb, h.m.below hb, h.d, h.hE, h.hO, h.ne⟩
theorem On9.putE (h : On9 E O bs wr z0 z2 ve vo L M) {g n cap : Nat} {L' : List Int} (ho : OwnR KI w2 bs (.slice (some ⟨g, 0, none⟩) n cap) L') (hk : KeptD ve wr w2) (hat : ve.ownBlock = some g ∨ wr.heap.size ≤ g) :
    On9 E O bs (w2.setCell ⟨E, 1, none⟩ (.slice (some ⟨g, 0, none⟩) n cap)) z0 z2 (.slice (some ⟨g, 0, none⟩) n cap) vo L' M :=
  ⟨(h.e.block (hk E h.e.lt (h.l.lo h.hE))).put1 _, (h.o.block (hk O h.o.lt (h.l.lo h.hO))).block (Below.heap_setCell _ _ _ _ (fun e => h.ne e.symm)),
    ho.put7 (ho.lo h.hE), (h.m.keptP hk (not_sym h.d)).put7 (h.m.lo h.hE),
    not_sym (new_ne hat (not_sym h.d) (fun x e => (h.m.lt x e).2)), h.hE, h.hO, h.ne⟩
theorem On9.putO (h : On9 E O bs wr z0 z2 ve vo L M) {g n cap : Nat} {M' : List Int} (ho : OwnR KI w2 bs (.slice (some ⟨g, 0, none⟩) n cap) M') (hk : KeptD vo wr w2) (hat : vo.ownBlock = some g ∨ wr.heap.size ≤ g) :
    On9 E O bs (w2.setCell ⟨O, 1, none⟩ (.slice (some ⟨g, 0, none⟩) n cap)) z0 z2 ve (.slice (some ⟨g, 0, none⟩) n cap) L M' :=
  ⟨(h.e.block (hk E h.e.lt (h.m.lo h.hE))).block (Below.heap_setCell _ _ _ _ h.ne), (h.o.block (hk O h.o.lt (h.m.lo h.hO))).put1 _,
    (h.l.keptP hk h.d).put7 (h.l.lo h.hO), ho.put7 (ho.lo h.hO),
    new_ne hat h.d (fun x e => (h.l.lt x e).2), h.hE, h.hO, h.ne⟩
end

set_option maxRecDepth 100000 in
set_option maxHeartbeats 6400000 in
theorem walkRouteOnly (w : World) (a0 b0 c0 : Value) (l0 m0 n0 : List Int) (w0 : RowAt KI w a0 l0 ∧ ∀ z ∈ l0, -9223372036854775808 ≤ z ∧ z ≤ 9223372036854775807) (x0 : RowAt KI w b0 m0 ∧ ∀ z ∈ m0, -9223372036854775808 ≤ z ∧ z ≤ 9223372036854775807) (y0 : RowAt KI w c0 n0 ∧ ∀ z ∈ n0, -9223372036854775808 ≤ z ∧ z ≤ 9223372036854775807) (key : ByteArray) (wk : key.size ≤ maxLen) (t : Int) (wt : (Lit.int .i64 t).wf = true) :
    Calls Try.prog 8 #[.agg #[a0, b0, c0], .string key, .int .i64 t] w fun e w' => e = .returned (.bool true) ∧ Below w.heap.size w w' := by
  obtain ⟨w0, w0b⟩ := w0
  obtain ⟨x0, x0b⟩ := x0
  obtain ⟨y0, y0b⟩ := y0
  have hrow := fun W hb' => row9_any a0 b0 c0 l0 m0 n0 W (w0.below hb') (x0.below hb') (y0.below hb') w0b x0b y0b
  obtain ⟨i0, j0, rfl, _⟩ := w0
  obtain ⟨i1, j1, rfl, _⟩ := x0
  obtain ⟨i2, j2, rfl, _⟩ := y0
  obtain ⟨ht1, ht2⟩ := bounds_i64 wt
  clear w0b x0b y0b wk wt
  have hb : Below w.heap.size w (w.alloc (.cells #[.slice i0 l0.length j0, .slice i1 m0.length j1, .slice i2 n0.length j2] 24)) := balloc (Below.refl _ _) _
  have hS0 := VrP.new w (.slice i0 l0.length j0) (.slice i1 m0.length j1) (.slice i2 n0.length j2) 24
  go_enter Try.func8, Try.ntmps8
  go_wp2_with fail
  generalize w.alloc (.cells #[.slice i0 l0.length j0, .slice i1 m0.length j1, .slice i2 n0.length j2] 24) = wb at *
  refine (awake9_any _).mono ?_
  rintro e wa ⟨rfl, hba⟩
  obtain ⟨p0, p1, p2, _⟩ := hS0.keep hba
  have HBA := Lib.hid (bstep hb hba)
  clear hb hba hS0
  go_wp2_with fail
  refine (hrow _ HBA.out).mono ?_
  rintro e wS ⟨c, u0, u1, u2, rfl, hRO, hok, hbr⟩
  have hR := hRO.at
  obtain ⟨a2, cp2, hu2, hq2, hm2, _, hri2⟩ := hR.pa
  unfold maxLen at hm2
  subst hu2
  obtain ⟨z0, t0, rfl, _⟩ := id hR.rs
  obtain ⟨z1, t1, rfl, _⟩ := id hR.ow
  have HOK := Lib.hid hok
  have hba := balloc (Below.refl _ wS) (.cells #[.slice z0 c.rs.length t0, .slice z1 c.ow.length t1, .slice a2 c.pa.length cp2] 29)
  have HR := Lib.hid (hR.below hba)
  have HRI := Lib.hid (hri2.below hba)
  have HV := Lib.hid (VrP.new wS (.slice z0 c.rs.length t0) (.slice z1 c.ow.length t1) (.slice a2 c.pa.length cp2) 29)
  have HB := Lib.hid (bstep (bstep HBA.out hbr) hba)
  have hT := (Tm.chkT_iff c.pa).1 (chk9_parts hok).2
  have hn1 := hT.n1
  have hn6 := hT.n6
  have HR8 : Hid (c.rs.length ≤ 8) := Lib.hid ((tOk_iff c).1 (chk9_parts hok).1).r8
  have HT := Lib.hid hT
  clear hrow p0 p1 p2 hbr hRO hok hR hri2 hT hba HBA
  go_upto_region 3 with fail
  generalize wS.alloc (.cells #[.slice z0 c.rs.length t0, .slice z1 c.ow.length t1, .slice a2 c.pa.length cp2] 29) = w9 at *
  obtain ⟨d0, d1, d2, _⟩ := HV.out
  obtain ⟨y1, y2⟩ := tmod_bdT t (c.pa.length : Int) (by omega)
  generalize hy : t.tmod (c.pa.length : Int) = y at y1 y2
  go_upto_region 5 with fail
  have ho1 := Int.emod_nonneg (y + (c.pa.length : Int)) (b := (c.pa.length : Int)) (by omega)
  have ho2 := Int.emod_lt_of_pos (y + (c.pa.length : Int)) (b := (c.pa.length : Int)) (by omega)
  generalize (y + (c.pa.length : Int)) % (c.pa.length : Int) = o at *
  obtain ⟨x, rfl⟩ : ∃ x : Nat, o = (x : Int) := ⟨o.toNat, by omega⟩
  have hx : x < c.pa.length := by omega
  clear hy y1 y2 ho1 ho2 ht1 ht2
  have HCA := Lib.hid (only_all HOK.out key.data.toList hx)
  have HCO := Lib.hid (only_one HOK.out key.data.toList hx)
  have HRE := Lib.hid (fun (q : Nat) (v : Value) (W : World) (h : RwAt W (.slice z0 c.rs.length t0) v (.slice a2 c.pa.length cp2) ⟨c.rs, List.replicate c.rs.length (q : Int), c.pa⟩) => rreach_any ⟨c.rs, List.replicate c.rs.length (q : Int), c.pa⟩ (.slice z0 c.rs.length t0) v (.slice a2 c.pa.length cp2) (x : Int) key W h)
  have HWY := Lib.hid (fun (q : Nat) (v : Value) (W : World) (h : RwAt W (.slice z0 c.rs.length t0) v (.slice a2 c.pa.length cp2) ⟨c.rs, List.replicate c.rs.length (q : Int), c.pa⟩) => rways_any ⟨c.rs, List.replicate c.rs.length (q : Int), c.pa⟩ (.slice z0 c.rs.length t0) v (.slice a2 c.pa.length cp2) (x : Int) key W h)
  have hr8 := HR8.out
  have HNN : Hid (2 ^ c.pa.length ≤ 64 ∧ 2 ≤ 2 ^ c.pa.length) := Lib.hid ⟨Nat.pow_le_pow_right (n := 2) (by omega) hn6, by
    have := Nat.pow_le_pow_right (n := 2) (by omega) hn1
    rwa [Nat.pow_one] at this⟩
  go_wp2_with fail
  go_loop [11, 12, 13] (fun al bt i => ∃ k p q : Nat, k ≤ c.pa.length ∧ i = .int .i64 k ∧ al = .int .i64 (p : Int) ∧ bt = .int .i64 (q : Int) ∧ p ≤ 64 ∧ q ≤ 64 ∧ Hid (p = 2 ^ k) ∧ Hid (q = 2 ^ (min k x))) (fun _ _ i => c.pa.length - (intOf i).toNat)
  case atStart => exact ⟨0, 1, 1, by omega, rfl, rfl, rfl, by omega, by omega, Lib.hid rfl, Lib.hid (by simp)⟩
  case round =>
    obtain ⟨k, p, q, hk, rfl, rfl, rfl, hp, hq, HP, HQ⟩ := hrel
    by_cases hlk : k < c.pa.length
    · have hki : (k : Int) < (c.pa.length : Int) := by omega
      have HP2 : Hid (p * 2 = 2 ^ (k + 1)) := Lib.hid (by rw [HP.out, Nat.pow_succ])
      have HP3 : Hid (2 ^ (k + 1) ≤ 64) := Lib.hid (Nat.pow_le_pow_right (n := 2) (by omega) (show k + 1 ≤ 6 by omega))
      by_cases hlx : k < x
      · have hxi : (k : Int) < (x : Int) := by omega
        have HQ2 : Hid (q * 2 = 2 ^ (min (k + 1) x)) := Lib.hid (by rw [HQ.out, ← Nat.pow_succ]; congr 1; omega)
        have HQ3 : Hid (2 ^ (min (k + 1) x) ≤ 64) := Lib.hid (Nat.pow_le_pow_right (n := 2) (by omega) (show min (k + 1) x ≤ 6 by omega))
        go_wp2
        go_round
        case rel => exact ⟨k + 1, p * 2, q * 2, by omega, by go_num, by go_num, by go_num, by rw [HP2.out]; exact HP3.out, by rw [HQ2.out]; exact HQ3.out, HP2, HQ2⟩
        case measure => simp [intOf]; omega
      · have hxi : ¬ (k : Int) < (x : Int) := by omega
        have HQ2 : Hid (q = 2 ^ (min (k + 1) x)) := Lib.hid (by rw [HQ.out]; congr 1; omega)
        go_wp2
        go_round
        case rel => exact ⟨k + 1, p * 2, q, by omega, by go_num, by go_num, by go_num, by rw [HP2.out]; exact HP3.out, hq, HP2, HQ2⟩
        case measure => simp [intOf]; omega
    · obtain rfl : k = c.pa.length := by omega
      have HQ2 : Hid (q = 2 ^ x) := Lib.hid (by rw [HQ.out]; congr 1; omega)
      obtain ⟨hN1, hN2⟩ := HNN.out
      rw [← HP.out] at hN1 hN2
      have HCA2 := HCA
      rw [← HP.out] at HCA2
      rw [← HQ2.out] at HCO
      have HPP : Hid (((p - 1 : Nat) : Int) = (p : Int) - 1) := Lib.hid (by omega)
      clear HP HQ HCA HNN HQ2 hk hlk hp
      have hV1 := HV.out.keep (balloc (Below.refl _ w9) (.cells #[.slice z0 c.rs.length t0, .slice z1 c.ow.length t1, .slice a2 c.pa.length cp2] 29))
      have HE1 := Lib.hid (VrP.new w9 (.slice z0 c.rs.length t0) (.slice z1 c.ow.length t1) (.slice a2 c.pa.length cp2) 29)
      have HB1 := Lib.hid (balloc (Below.refl _ w9) (.cells #[.slice z0 c.rs.length t0, .slice z1 c.ow.length t1, .slice a2 c.pa.length cp2] 29))
      have HV1 := Lib.hid hV1
      clear hV1
      go_upto_region 14 with fail
      generalize w9.alloc (.cells #[.slice z0 c.rs.length t0, .slice z1 c.ow.length t1, .slice a2 c.pa.length cp2] 29) = wE at *
      clear d0 d1 d2
      obtain ⟨d0, d1, d2, _⟩ := HV1.out
      have HB2 := Lib.hid (balloc (Below.refl _ wE) (.cells #[.slice z0 c.rs.length t0, .slice z1 c.ow.length t1, .slice a2 c.pa.length cp2] 29))
      have HO2 := Lib.hid (VrP.new wE (.slice z0 c.rs.length t0) (.slice z1 c.ow.length t1) (.slice a2 c.pa.length cp2) 29)
      have HZ2 : Hid ((wE.alloc (.cells #[.slice z0 c.rs.length t0, .slice z1 c.ow.length t1, .slice a2 c.pa.length cp2] 29)).heap.size = wE.heap.size + 1) := Lib.hid (by simp)
      go_upto_region 15 with fail
      generalize wE.alloc (.cells #[.slice z0 c.rs.length t0, .slice z1 c.ow.length t1, .slice a2 c.pa.length cp2] 29) = wF at *
      have HE2 := Lib.hid (HE1.out.keep HB2.out)
      have hEO : w9.heap.size < wE.heap.size := HE1.out.lt
      clear d0 d1 d2
      obtain ⟨e0, e1, e2, ef⟩ := HE2.out
      have ef1 := ef 1 (by omega)
      have HE3 := Lib.hid (HE2.out.put1 (.slice none 0 0))
      have HO3 := Lib.hid (HO2.out.block (w' := wF.setCell ⟨w9.heap.size, 1, none⟩ (.slice none 0 0)) (Below.heap_setCell _ _ _ _ (by show wE.heap.size ≠ w9.heap.size; omega)))
      have HB3 := Lib.hid ((bstep HB1.out HB2.out).setCell (p := ⟨w9.heap.size, 1, none⟩) (Nat.le_refl _) (.slice none 0 0))
      have HZ3 : Hid ((wF.setCell ⟨w9.heap.size, 1, none⟩ (.slice none 0 0)).heap.size = wE.heap.size + 1) := Lib.hid (by rw [World.size_setCell]; exact HZ2.out)
      go_upto_region 16 with fail
      generalize wF.setCell ⟨w9.heap.size, 1, none⟩ (.slice none 0 0) = wG at *
      clear e0 e1 e2 ef ef1
      obtain ⟨e0, e1, e2, ef⟩ := HO3.out
      have ef1 := ef 1 (by omega)
      have HO4 := Lib.hid (HO3.out.put1 (.slice none 0 0))
      have HE4 := Lib.hid (HE3.out.block (w' := wG.setCell ⟨wE.heap.size, 1, none⟩ (.slice none 0 0)) (Below.heap_setCell _ _ _ _ (by show w9.heap.size ≠ wE.heap.size; omega)))
      have HB4 := Lib.hid (HB3.out.setCell (p := ⟨wE.heap.size, 1, none⟩) (Nat.le_of_lt hEO) (.slice none 0 0))
      have HZ4 : Hid ((wG.setCell ⟨wE.heap.size, 1, none⟩ (.slice none 0 0)).heap.size = wE.heap.size + 1) := Lib.hid (by rw [World.size_setCell]; exact HZ3.out)
      go_upto_region 17 with fail
      generalize wG.setCell ⟨wE.heap.size, 1, none⟩ (.slice none 0 0) = wH at *
      clear e0 e1 e2 ef ef1 HE1 HE2 HE3 HO2 HO3 HB1 HB2 HB3 HZ2 HZ3 HV1
      have HON : Hid (On9 w9.heap.size wE.heap.size (wE.heap.size + 1) wH (.slice z0 c.rs.length t0) (.slice a2 c.pa.length cp2) (.slice none 0 0) (.slice none 0 0) [] []) := Lib.hid ⟨HE4.out, HO4.out, OwnR.nil _ _ _, OwnR.nil _ _ _, by simp [Value.ownBlock], by omega, by omega, by omega⟩
      have HSZ := Lib.hid HZ4.out
      clear HE4 HO4
      go_wp2_with fail
      go_loopw [16] (fun i wr => ∃ (k : Nat) (ve vo : Value), k ≤ c.rs.length ∧ i = .int .i64 k ∧ Hid (On9 w9.heap.size wE.heap.size (wE.heap.size + 1) wr (.slice z0 c.rs.length t0) (.slice a2 c.pa.length cp2) ve vo (List.replicate k ((p : Int) - 1)) (List.replicate k (q : Int))) ∧ Hid (Below w9.heap.size w9 wr) ∧ wE.heap.size + 1 ≤ wr.heap.size) (fun i _ => c.rs.length - (intOf i).toNat)
      case atStart => exact ⟨0, _, _, by omega, rfl, HON, HB4, by have := HSZ.out; omega⟩
      case round =>
        clear HON HB4
        obtain ⟨k, ve, vo, hk, rfl, HO, HBL, hsz⟩ := hrel
        obtain ⟨d0, d1, d2, _⟩ := HV.out.keep HBL.out
        obtain ⟨e0, e1, e2, ef⟩ := HO.out.e
        have ef1 := ef 1 (by omega)
        by_cases hlk : k < c.rs.length
        · have hki : (k : Int) < (c.rs.length : Int) := by omega
          have hk8 : (List.replicate k ((p : Int) - 1)).length ≤ 8 := by rw [List.length_replicate]; omega
          have hk8' : (List.replicate k (q : Int)).length ≤ 8 := by rw [List.length_replicate]; omega
          have HR1 : Hid (List.replicate (k + 1) ((p : Int) - 1) = List.replicate k ((p : Int) - 1) ++ [(p : Int) - 1]) := Lib.hid (List.replicate_succ' ..)
          have HR2 : Hid (List.replicate (k + 1) (q : Int) = List.replicate k (q : Int) ++ [(q : Int)]) := Lib.hid (List.replicate_succ' ..)
          generalize List.replicate k ((p : Int) - 1) = L at *
          generalize List.replicate k (q : Int) = M at *
          obtain ⟨sa, sc, rfl⟩ := HO.out.l.shape
          obtain ⟨ta, tc, rfl⟩ := HO.out.m.shape
          clear ef
          go_upto_region 21 with (at_builtin; refine wp_pushR ki_ok (wr := wr) rfl _ _ rfl (wE.heap.size + 1) (.slice sa L.length sc) L ((p : Int) - 1) #[.int .i64 ((p : Int) - 1)] rfl rfl HO.out.l rfl (by omega) hsz ?_; intro g2 cap2 w2 ho2 hb2 hk2 hat2 hlt2; obtain ⟨f0, f1, f2, ff⟩ := HO.out.e.block (hk2 _ HO.out.e.lt (HO.out.l.lo HO.out.hE)); have ff1 := ff 1 (by omega))
          have HO2 := Lib.hid (HO.out.putE ho2 hk2 hat2)
          have HB2 := Lib.hid ((HBL.out.trans (hb2.mono (by omega))).setCell (p := ⟨w9.heap.size, 1, none⟩) (Nat.le_refl _) (.slice (some ⟨g2, 0, none⟩) (L.length + 1) cap2))
          have hsz2 : wE.heap.size + 1 ≤ (w2.setCell ⟨w9.heap.size, 1, none⟩ (.slice (some ⟨g2, 0, none⟩) (L.length + 1) cap2)).heap.size := by rw [World.size_setCell]; exact Nat.le_trans hsz hb2.size
          generalize w2.setCell ⟨w9.heap.size, 1, none⟩ (.slice (some ⟨g2, 0, none⟩) (L.length + 1) cap2) = w3 at *
          clear ho2 hb2 hk2 hat2 hlt2 f0 f1 f2 ff ff1 e0 e1 e2 ef1 d0 d1 d2 HO HBL
          obtain ⟨e0, e1, e2, ef⟩ := HO2.out.o
          have ef1 := ef 1 (by omega)
          clear ef
          go_wp2_with (at_builtin; refine wp_pushR ki_ok (wr := w3) rfl _ _ rfl (wE.heap.size + 1) (.slice ta M.length tc) M (q : Int) #[.int .i64 (q : Int)] rfl rfl HO2.out.m rfl (by omega) hsz2 ?_; intro g4 cap4 w4 ho4 hb4 hk4 hat4 hlt4; obtain ⟨f0, f1, f2, ff⟩ := HO2.out.o.block (hk4 _ HO2.out.o.lt (HO2.out.m.lo HO2.out.hO)); have ff1 := ff 1 (by omega))
          have HO4 := Lib.hid (HO2.out.putO ho4 hk4 hat4)
          have HB4 := Lib.hid ((HB2.out.trans (hb4.mono (by omega))).setCell (p := ⟨wE.heap.size, 1, none⟩) (Nat.le_of_lt hEO) (.slice (some ⟨g4, 0, none⟩) (M.length + 1) cap4))
          have hsz4 : wE.heap.size + 1 ≤ (w4.setCell ⟨wE.heap.size, 1, none⟩ (.slice (some ⟨g4, 0, none⟩) (M.length + 1) cap4)).heap.size := by rw [World.size_setCell]; exact Nat.le_trans hsz2 hb4.size
          go_wp2
          go_roundw
          case rel => exact ⟨k + 1, _, _, by omega, by go_num, by rw [HR1.out, HR2.out]; exact HO4, HB4, hsz4⟩
          case measure => simp [intOf]; omega
        · obtain rfl : k = c.rs.length := by omega
          obtain ⟨ha1, ha2⟩ := HCA2.out
          obtain ⟨hb1, hb2⟩ := HCO.out
          have hRa : RwAt wr (.slice z0 c.rs.length t0) ve (.slice a2 c.pa.length cp2) ⟨c.rs, List.replicate c.rs.length ((p - 1 : Nat) : Int), c.pa⟩ := ⟨(HR.out.below HBL.out).rs, by rw [HPP.out]; exact RowAt.of_own ki_ok HO.out.l, (HR.out.below HBL.out).pa, HR.out.sz⟩
          have hRb : RwAt wr (.slice z0 c.rs.length t0) vo (.slice a2 c.pa.length cp2) ⟨c.rs, List.replicate c.rs.length (q : Int), c.pa⟩ := ⟨(HR.out.below HBL.out).rs, RowAt.of_own ki_ok HO.out.m, (HR.out.below HBL.out).pa, HR.out.sz⟩
          have hre1 := fun (W : World) (hb : Below wr.heap.size wr W) => HRE.out (p - 1) ve W (hRa.below hb)
          have hwy1 := fun (W : World) (hb : Below wr.heap.size wr W) => HWY.out (p - 1) ve W (hRa.below hb)
          have hre2 := fun (W : World) (hb : Below wr.heap.size wr W) => HRE.out q vo W (hRb.below hb)
          have hwy2 := fun (W : World) (hb : Below wr.heap.size wr W) => HWY.out q vo W (hRb.below hb)
          rw [ha1, HPP.out] at hre1
          rw [hb1] at hre2
          rw [HPP.out] at hwy1
          rw [HPP.out] at ha2
          generalize ways9 ⟨c.rs, List.replicate c.rs.length ((p : Int) - 1), c.pa⟩ key.data.toList (x : Int) = W1 at *
          generalize ways9 ⟨c.rs, List.replicate c.rs.length (q : Int), c.pa⟩ key.data.toList (x : Int) = W2 at *
          have hl1 : ((W1.length : Int) == (c.pa.length : Int) - 1) = true := by rw [beq_iff_eq]; omega
          have hl2 : ((W2.length : Int) == 0) = true := by rw [beq_iff_eq]; omega
          have hl2n : (W2.length == 0) = true := by rw [beq_iff_eq]; omega
          have HRE1 := Lib.hid hre1
          have HRE2 := Lib.hid hre2
          have HWY1 := Lib.hid hwy1
          have HWY2 := Lib.hid hwy2
          obtain ⟨va0, vn0, hva⟩ := HO.out.l.shape
          obtain ⟨va1, vn1, hvo⟩ := HO.out.m.shape
          subst hva hvo
          simp only [List.length_replicate] at HRE1 HWY1 HRE2 HWY2 HO e1
          clear hre1 hre2 hwy1 hwy2 hRa hRb ha1 ha2 hb1 hb2 ef ef1
          go_wp2_with fail
          refine (HRE1.out wr (Below.refl _ _)).mono ?_
          rintro e w5 ⟨rfl, hb5⟩
          have HO5 := Lib.hid (HO.out.below hb5)
          have HB5 := Lib.hid hb5
          clear e0 e1 e2 hb5 d0 d1 d2
          obtain ⟨e0, e1, e2, _⟩ := HO5.out.e
          go_wp2_with fail
          refine (HWY1.out w5 HB5.out).mono ?_
          rintro e w6 ⟨v6, rfl, hr6, hb6⟩
          obtain ⟨va6, vc6, rfl, _⟩ := hr6
          have HO6 := Lib.hid (HO5.out.below hb6)
          have HB6 := Lib.hid (bstep HB5.out hb6)
          clear e0 e1 e2 hb6
          obtain ⟨e0, e1, e2, _⟩ := HO6.out.o
          go_wp2_with fail
          refine (HRE2.out w6 HB6.out).mono ?_
          rintro e w7 ⟨rfl, hb7⟩
          have HO7 := Lib.hid (HO6.out.below hb7)
          have HB7 := Lib.hid (bstep HB6.out hb7)
          clear e0 e1 e2 hb7
          obtain ⟨e0, e1, e2, _⟩ := HO7.out.o
          go_wp2_with fail
          refine (HWY2.out w7 HB7.out).mono ?_
          rintro e w8 ⟨v8, rfl, hr8', hb8⟩
          obtain ⟨va8, vc8, rfl, _⟩ := hr8'
          go_wp2
          go_ret
          exact ⟨rfl, bstep HB.out (bstep HBL.out (bstep HB7.out hb8))⟩
end Go.Proofs.Ythjjidfoclcghaa
