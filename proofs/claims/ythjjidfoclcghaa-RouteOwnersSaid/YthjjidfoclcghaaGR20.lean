/- Texts of this proof, one behind the other: RouteRefWays, TabRng, EqRng. -/
import Derived.Test.YthjjidfoclcghaaGR19
import Derived.Deep.DeepCutAuto
import Derived.WalkSmall
/- What archipelagoref09's Ways answers. -/
namespace Go.Proofs.Ythjjidfoclcghaa
open Go.RowKit
set_option linter.unusedVariables false
set_option linter.unusedSimpArgs false

/-- The three rows that grow, and the one that is read. -/
structure Wy9 (base bs : Nat) (w : World) (vo va vc vl : Value) (O : List (Int × Int)) (A C L : List Int) : Prop where
  o : OwnR KP w base vo O
  a : OwnR KI w base va A
  c : OwnR KI w base vc C
  l : OwnR KI w bs vl L
  oa : ∀ g, vo.ownBlock = some g → va.ownBlock ≠ some g
  oc : ∀ g, vo.ownBlock = some g → vc.ownBlock ≠ some g
  ac : ∀ g, va.ownBlock = some g → vc.ownBlock ≠ some g
  lo : ∀ g, vl.ownBlock = some g → vo.ownBlock ≠ some g
  la : ∀ g, vl.ownBlock = some g → va.ownBlock ≠ some g
  lc : ∀ g, vl.ownBlock = some g → vc.ownBlock ≠ some g
section
variable {base bs : Nat} {w w2 : World} {vo va vc vl : Value} {O : List (Int × Int)} {A C L : List Int}
theorem Wy9.below (h : Wy9 base bs w vo va vc vl O A C L) (hb : Below w.heap.size w w2) : Wy9 base bs w2 vo va vc vl O A C L :=
  ⟨h.o.below hb, h.a.below hb, h.c.below hb, h.l.below hb, h.oa, h.oc, h.ac, h.lo, h.la, h.lc⟩
theorem not_sym {u v : Value} (h : ∀ g, u.ownBlock = some g → v.ownBlock ≠ some g) : ∀ g, v.ownBlock = some g → u.ownBlock ≠ some g := fun g e e2 => h g e2 e
theorem own_at9 {a n c g : Nat} (h : (Value.slice (some ⟨a, 0, none⟩) n c).ownBlock = some g) : g = a := by
  simp [Value.ownBlock] at h
  omega
theorem new_ne {g n cap : Nat} {u v : Value} {s : Nat} (hat : u.ownBlock = some g ∨ s ≤ g) (hu : ∀ x, v.ownBlock = some x → u.ownBlock ≠ some x) (hl : ∀ x, v.ownBlock = some x → x < s) : ∀ x, v.ownBlock = some x → (Value.slice (some ⟨g, 0, none⟩) n cap).ownBlock ≠ some x := fun x e e2 => by
  obtain rfl := own_at9 e2
  rcases hat with h | h
  · exact hu _ e h
  · have := hl _ e
    omega
theorem Wy9.putO (h : Wy9 base bs w vo va vc vl O A C L) {g n cap : Nat} {O' : List (Int × Int)} (ho : OwnR KP w2 base (.slice (some ⟨g, 0, none⟩) n cap) O') (hk : KeptD vo w w2) (hat : vo.ownBlock = some g ∨ w.heap.size ≤ g) :
    Wy9 base bs w2 (.slice (some ⟨g, 0, none⟩) n cap) va vc vl O' A C L :=
  ⟨ho, h.a.keptP hk (not_sym h.oa), h.c.keptP hk (not_sym h.oc), h.l.keptP hk h.lo,
    not_sym (new_ne hat (not_sym h.oa) (fun x e => (h.a.lt x e).2)), not_sym (new_ne hat (not_sym h.oc) (fun x e => (h.c.lt x e).2)), h.ac, new_ne hat h.lo (fun x e => (h.l.lt x e).2), h.la, h.lc⟩
theorem Wy9.putA (h : Wy9 base bs w vo va vc vl O A C L) {g n cap : Nat} {A' : List Int} (ho : OwnR KI w2 base (.slice (some ⟨g, 0, none⟩) n cap) A') (hk : KeptD va w w2) (hat : va.ownBlock = some g ∨ w.heap.size ≤ g) :
    Wy9 base bs w2 vo (.slice (some ⟨g, 0, none⟩) n cap) vc vl O A' C L :=
  ⟨h.o.keptP hk h.oa, ho, h.c.keptP hk (not_sym h.ac), h.l.keptP hk h.la,
    new_ne hat h.oa (fun x e => (h.o.lt x e).2), h.oc, not_sym (new_ne hat (not_sym h.ac) (fun x e => (h.c.lt x e).2)), h.lo, new_ne hat h.la (fun x e => (h.l.lt x e).2), h.lc⟩
theorem Wy9.putC (h : Wy9 base bs w vo va vc vl O A C L) {g n cap : Nat} {C' : List Int} (ho : OwnR KI w2 base (.slice (some ⟨g, 0, none⟩) n cap) C') (hk : KeptD vc w w2) (hat : vc.ownBlock = some g ∨ w.heap.size ≤ g) :
    Wy9 base bs w2 vo va (.slice (some ⟨g, 0, none⟩) n cap) vl O A C' L :=
  ⟨h.o.keptP hk h.oc, h.a.keptP hk h.ac, ho, h.l.keptP hk h.lc,
    h.oa, new_ne hat h.oc (fun x e => (h.o.lt x e).2), new_ne hat h.ac (fun x e => (h.a.lt x e).2), h.lo, h.la, new_ne hat h.lc (fun x e => (h.l.lt x e).2)⟩
theorem Wy9.setL (h : Wy9 base bs w vo va vc vl O A C L) {bs' : Nat} {v : Value} {l : List Int} (hb : Below w.heap.size w w2) (hl : OwnR KI w2 bs' v l) (hs : w.heap.size ≤ bs') : Wy9 base bs' w2 vo va vc v O A C l :=
  ⟨h.o.below hb, h.a.below hb, h.c.below hb, hl, h.oa, h.oc, h.ac,
    fun g e e2 => by have := (hl.lt g e).1; have := (h.o.lt g e2).2; omega,
    fun g e e2 => by have := (hl.lt g e).1; have := (h.a.lt g e2).2; omega,
    fun g e e2 => by have := (hl.lt g e).1; have := (h.c.lt g e2).2; omega⟩
theorem Wy9.noL (h : Wy9 base bs w vo va vc vl O A C L) : Wy9 base 0 w vo va vc (.slice none 0 0) O A C [] :=
  ⟨h.o, h.a, h.c, OwnR.nil _ _ _, h.oa, h.oc, h.ac, by simp [Value.ownBlock], by simp [Value.ownBlock], by simp [Value.ownBlock]⟩
end
theorem Wy9.start (w : World) (fr : Int) : Wy9 w.heap.size 0 ((w.alloc (.cells #[.int .i64 fr] 3)).alloc (.cells #[.int .i64 (-1)] 3)) (.slice none 0 0) (.slice (some ⟨w.heap.size, 0, none⟩) 1 1) (.slice (some ⟨w.heap.size + 1, 0, none⟩) 1 1) (.slice none 0 0) [] [fr] [-1] [] := by
  have h1 := own_lit9 ki_ok w w.heap.size 1 [fr] #[.int .i64 fr] rfl rfl (Nat.le_refl _) (by omega)
  have h2 := own_lit9 ki_ok (w.alloc (.cells #[.int .i64 fr] 3)) w.heap.size 1 [-1] #[.int .i64 (-1)] rfl rfl (by simp) (by omega)
  rw [World.size_alloc] at h2
  refine ⟨OwnR.nil _ _ _, h1.below (balloc (Below.refl _ _) _), h2, OwnR.nil _ _ _, by simp [Value.ownBlock], by simp [Value.ownBlock], ?_, by simp [Value.ownBlock], by simp [Value.ownBlock], by simp [Value.ownBlock]⟩
  intro g e e2
  have h3 := own_at9 e
  have h4 := own_at9 e2
  omega
theorem st9_fst {c : Rw} {key : List UInt8} {fr : Int} {i : Nat} (hi : i < (st9 c key fr i).length) : (st9 c key fr (i + 1)).map Prod.fst = (st9 c key fr i).map Prod.fst ++ Tm.ln (nx9 c key (st9 c key fr i)[i].1 (st9 c key fr i)[i].2) := by
  rw [st9_some hi, List.map_append, List.map_map]
  rfl
theorem st9_snd {c : Rw} {key : List UInt8} {fr : Int} {i : Nat} (hi : i < (st9 c key fr i).length) : (st9 c key fr (i + 1)).map Prod.snd = (st9 c key fr i).map Prod.snd ++ (nx9 c key (st9 c key fr i)[i].1 (st9 c key fr i)[i].2).map fun _ => (st9 c key fr i)[i].1 := by
  rw [st9_some hi, List.map_append, List.map_map]
  rfl
theorem st9_steps {c : Rw} {key : List UInt8} {fr : Int} {i : Nat} (hi : i < (st9 c key fr i).length) : Tm.stepsL (st9 c key fr (i + 1)) = Tm.stepsL (st9 c key fr i) ++ (nx9 c key (st9 c key fr i)[i].1 (st9 c key fr i)[i].2).map fun (s : Nat) => ((st9 c key fr i)[i].1, (s : Int)) := by
  rw [st9_some hi, Tm.stepsL_app (by omega), List.map_map]
  rfl
theorem take_ln (l : List Nat) (k : Nat) (h : k < l.length) : Tm.ln (l.take (k + 1)) = Tm.ln (l.take k) ++ [(l[k] : Int)] := by
  rw [List.take_succ_eq_append_getElem h, Tm.ln_app]
  rfl
theorem take_map9 {α β : Type} (f : α → β) (l : List α) (k : Nat) (h : k < l.length) : (l.take (k + 1)).map f = (l.take k).map f ++ [f l[k]] := by
  rw [List.take_succ_eq_append_getElem h, List.map_append]
  rfl
def WyPostR (w : World) (l : List (Int × Int)) (e : Ending) (w' : World) : Prop := ∃ v, e = .returned v ∧ OwnR KP w' w.heap.size v l ∧ Below w.heap.size w w'
theorem keepW9 {W w' : World} {b0 b o b2 o2 : Nat} {x0 x1 x2 x3 x4 : Value} (hb : Below W.heap.size W w') (h : (W.cell? ⟨b0, 0, none⟩ = some x0 ∧ W.cell? ⟨b0, 1, none⟩ = some x1 ∧ W.cell? ⟨b0, 2, none⟩ = some x2) ∧ W.cell? ⟨b, o, none⟩ = some x3 ∧ W.cell? ⟨b2, o2, none⟩ = some x4) :
    (w'.cell? ⟨b0, 0, none⟩ = some x0 ∧ w'.cell? ⟨b0, 1, none⟩ = some x1 ∧ w'.cell? ⟨b0, 2, none⟩ = some x2) ∧ w'.cell? ⟨b, o, none⟩ = some x3 ∧ w'.cell? ⟨b2, o2, none⟩ = some x4 :=
  ⟨⟨kc7 hb h.1.1, kc7 hb h.1.2.1, kc7 hb h.1.2.2⟩, kc7 hb h.2.1, kc7 hb h.2.2⟩

set_option maxRecDepth 100000 in
set_option maxHeartbeats 3200000 in
theorem refWays9_any (c : Rw) (u0 u1 u2 : Value) (fr : Int) (key : ByteArray) (w : World) (h : RwAt w u0 u1 u2 c) (hl : c.rs.length ≤ 100) :
    Calls Try.prog 20 #[.agg #[u0, u1, u2], .int .i64 fr, .string key] w (WyPostR w (ways9 c key.data.toList fr)) := by
  have HW := Lib.hid h
  have HV := Lib.hid (VrP.new w u0 u1 u2 29)
  have hb0 : Below w.heap.size w (w.alloc (.cells #[u0, u1, u2] 29)) := balloc (Below.refl _ w) _
  have HB0 := Lib.hid hb0
  have HSL := Lib.hid (fun i => st9_len c key.data.toList fr i)
  have HST := Lib.hid (fun i hi => @st9_stop c key.data.toList fr i hi)
  have HF1 := Lib.hid (fun i hi => @st9_fst c key.data.toList fr i hi)
  have HF2 := Lib.hid (fun i hi => @st9_snd c key.data.toList fr i hi)
  have HF3 := Lib.hid (fun i hi => @st9_steps c key.data.toList fr i hi)
  have HTL : Hid (ways9 c key.data.toList fr = Tm.stepsL (st9 c key.data.toList fr 7)) := Lib.hid rfl
  have HZ : Hid (st9 c key.data.toList fr 0 = [(fr, -1)]) := Lib.hid rfl
  have HNL := Lib.hid (fun a b => nx9_len c key.data.toList a b)
  have HCN := Lib.hid (fun a b W hW => refNext9_any c u0 u1 u2 a b key W hW hl)
  generalize ways9 c key.data.toList fr = R at HTL ⊢
  generalize st9 c key.data.toList fr = S at *
  generalize nx9 c key.data.toList = X at *
  have hsz0 : (w.alloc (.cells #[u0, u1, u2] 29)).heap.size = w.heap.size + 1 := by simp
  have hY := Wy9.start (w.alloc (.cells #[u0, u1, u2] 29)) fr
  have hbb : Below (w.heap.size + 1) (w.alloc (.cells #[u0, u1, u2] 29)) (((w.alloc (.cells #[u0, u1, u2] 29)).alloc (.cells #[.int .i64 fr] 3)).alloc (.cells #[.int .i64 (-1)] 3)) := by
    have h1 := balloc (Below.refl _ (w.alloc (.cells #[u0, u1, u2] 29))) (.cells #[.int .i64 fr] 3)
    have h2 := balloc (Below.refl _ ((w.alloc (.cells #[u0, u1, u2] 29)).alloc (.cells #[.int .i64 fr] 3))) (.cells #[.int .i64 (-1)] 3)
    have h3 := bstep h1 h2
    rw [hsz0] at h3
    exact h3
  have HBB := Lib.hid hbb
  rw [hsz0] at hY
  have HY := Lib.hid hY
  have HSZ := Lib.hid hsz0
  clear h hb0 hbb hY hsz0
  go_enter Try.func20, Try.ntmps20
  go_wp2_with fail
  generalize ((w.alloc (.cells #[u0, u1, u2] 29)).alloc (.cells #[.int .i64 fr] 3)).alloc (.cells #[.int .i64 (-1)] 3) = w1 at *
  generalize w.alloc (.cells #[u0, u1, u2] 29) = w0 at *
  go_loopw [7, 8, 9, 10] (fun o a cm i wr => ∃ k : Nat, k ≤ (S k).length ∧ i = .int .i64 k ∧ Wy9 (w.heap.size + 1) 0 wr o a cm (.slice none 0 0) (Tm.stepsL (S k)) ((S k).map Prod.fst) ((S k).map Prod.snd) [] ∧ Below (w.heap.size + 1) w0 wr) (fun _ _ _ i _ => 7 - (intOf i).toNat)
  case atStart => exact ⟨0, by omega, rfl, by rw [HZ.out]; exact HY.out, HBB.out⟩
  case round =>
    obtain ⟨k, hk, rfl, hY, hbel⟩ := hrel
    clear HY HBB
    have hsl := HSL.out k
    have hm1 : ((S k).map Prod.fst).length = (S k).length := List.length_map _
    have hm2 : ((S k).map Prod.snd).length = (S k).length := List.length_map _
    obtain ⟨sa, sc, rfl⟩ := hY.o.shape
    obtain ⟨ta, tc, rfl⟩ := hY.a.shape
    obtain ⟨ka, kcp, rfl⟩ := hY.c.shape
    have HYY := Lib.hid hY
    have HBL := Lib.hid hbel
    have hbs : w.heap.size + 1 ≤ wr.heap.size := by have := hbel.size; have := HSZ.out; omega
    have HBR : Hid (Below w.heap.size w wr) := Lib.hid (HB0.out.trans (hbel.mono (by omega)))
    obtain ⟨c0, c1, c2, _⟩ := HV.out.block (w' := wr) (by
      have h1 := hbel.block w.heap.size (by omega)
      exact h1)
    rw [hm1, hm2]
    clear hY
    by_cases hlt : k < (S k).length
    · have hlt1 : k < ((S k).map Prod.fst).length := by omega
      have hlt2 : k < ((S k).map Prod.snd).length := by omega
      obtain ⟨ba, oa, rfl, hbla, d0⟩ := (RowIn.of_own ki_ok HYY.out.a).int k hlt1
      obtain ⟨bc, oc, rfl, hblc, d1⟩ := (RowIn.of_own ki_ok HYY.out.c).int k hlt2
      have HAX0 : Hid (((S k).map Prod.fst)[k] = (S k)[k].1) := Lib.hid (List.getElem_map _)
      rw [List.getElem_map] at d0 d1
      have HN1 := Lib.hid (HF1.out k hlt)
      have HN2 := Lib.hid (HF2.out k hlt)
      have HN3 := Lib.hid (HF3.out k hlt)
      generalize (S k)[k] = ee at d0 d1 HN1 HN2 HN3 HAX0
      obtain ⟨x, y⟩ := ee
      dsimp only at d0 d1 HN1 HN2 HN3 HAX0
      have hki : (k : Int) < ((S k).length : Int) := by omega
      have k0 : (0 : Int) ≤ (k : Int) := by omega
      have hxl := HNL.out x y
      have HCNW := Lib.hid (fun (W : World) (hb : Below wr.heap.size wr W) => HCN.out x y W (HW.out.below (bstep HBR.out hb)))
      generalize X x y = XL at HCNW hxl HN1 HN2 HN3
      have g0 : (wr.cell? ⟨w.heap.size, 0, none⟩ = some u0 ∧ wr.cell? ⟨w.heap.size, 1, none⟩ = some u1 ∧ wr.cell? ⟨w.heap.size, 2, none⟩ = some u2) ∧ wr.cell? ⟨ba, oa + k, none⟩ = some (.int .i64 x) ∧ wr.cell? ⟨bc, oc + k, none⟩ = some (.int .i64 y) := ⟨⟨c0, c1, c2⟩, d0, d1⟩
      have hdr : Below wr.heap.size wr wr.drew := (Below.refl _ _).drew
      clear c0 c1 c2 d0 d1
      go_wp2_with fail
      go_region_held3 (fun w' => (w'.cell? ⟨w.heap.size, 0, none⟩ = some u0 ∧ w'.cell? ⟨w.heap.size, 1, none⟩ = some u1 ∧ w'.cell? ⟨w.heap.size, 2, none⟩ = some u2) ∧ w'.cell? ⟨ba, oa + k, none⟩ = some (.int .i64 x) ∧ w'.cell? ⟨bc, oc + k, none⟩ = some (.int .i64 y))
        (first | exact g0 | exact g1)
        (first
          | (go_at_call 13; ((refine (HCNW.out _ hdr).mono ?_); rintro e w4 ⟨v4, rfl, ho4, hb4⟩; have hbS := bstep hdr hb4; have g1 := keepW9 hbS g0)))
      obtain ⟨la, lc, rfl⟩ := ho4.shape
      have hvl : (Tm.ln XL).length = XL.length := Tm.ln_len XL
      have HY4 := Lib.hid (HYY.out.setL hbS ho4 (by have := hdr.size; omega))
      have HB4 : Hid (Below (w.heap.size + 1) w0 w4) := Lib.hid (HBL.out.trans (hbS.mono hbs))
      have HKA0 : Hid (k < ((S k).map Prod.fst).length) := Lib.hid hlt1
      rw [hvl] at HY4 ⊢
      rw [hm1, hm2] at HY4
      have HLK : Hid (k < (S k).length) := Lib.hid hlt
      generalize hbq : wr.drew.heap.size = bq at HY4
      clear ho4 hb4 hbS g0 g1 hdr HCNW hbel HBL HBR HYY hbq
      go_wp2_with fail
      go_loopw [7, 8, 9, 12] (fun o a cm i wz => ∃ j : Nat, j ≤ XL.length ∧ i = .int .i64 j ∧ Wy9 (w.heap.size + 1) bq wz o a cm (.slice la XL.length lc) (Tm.stepsL (S k) ++ (XL.take j).map fun (s : Nat) => (x, (s : Int))) ((S k).map Prod.fst ++ Tm.ln (XL.take j)) ((S k).map Prod.snd ++ (XL.take j).map fun _ => x) (Tm.ln XL) ∧ Below (w.heap.size + 1) w0 wz) (fun _ _ _ i _ => XL.length - (intOf i).toNat)
      case atStart => exact ⟨0, by omega, rfl, by simpa [Tm.ln_nil] using HY4.out, HB4.out⟩
      case round =>
        clear HY4 HB4
        obtain ⟨j, hj, rfl, hY, hbel⟩ := hrel
        have hO1 : (Tm.stepsL (S k) ++ (XL.take j).map fun (s : Nat) => (x, (s : Int))).length ≤ 12 := by
          have h1 : (Tm.stepsL (S k)).length ≤ 6 := by unfold Tm.stepsL; rw [List.length_map, List.length_drop]; omega
          rw [List.length_append, List.length_map, List.length_take]
          omega
        have hA1 : ((S k).map Prod.fst ++ Tm.ln (XL.take j)).length ≤ 12 := by
          rw [List.length_append, Tm.ln_len, List.length_take]
          omega
        have hC1 : ((S k).map Prod.snd ++ (XL.take j).map fun _ => x).length ≤ 12 := by
          rw [List.length_append, List.length_map (f := fun _ => x), List.length_take]
          omega
        have hKA : k < ((S k).map Prod.fst ++ Tm.ln (XL.take j)).length := by rw [List.length_append]; omega
        have HAX : Hid (((S k).map Prod.fst ++ Tm.ln (XL.take j))[k] = x) := Lib.hid (by rw [List.getElem_append_left HKA0.out]; exact HAX0.out)
        obtain ⟨sa, sc, rfl⟩ := hY.o.shape
        obtain ⟨ta, tc, rfl⟩ := hY.a.shape
        obtain ⟨ka, kcp, rfl⟩ := hY.c.shape
        have hbs : w.heap.size + 1 ≤ wr.heap.size := by have := hbel.size; have := HSZ.out; omega
        by_cases hlj : j < XL.length
        · have hji : (j : Int) < (XL.length : Int) := by omega
          have j0 : (0 : Int) ≤ (j : Int) := by omega
          have hJL : j < (Tm.ln XL).length := by rw [Tm.ln_len]; exact hlj
          have HLZ : Hid ((Tm.ln XL)[j] = (XL[j] : Int)) := Lib.hid (Tm.ln_get _ _ _)
          have HT1 := Lib.hid (take_map9 (fun (s : Nat) => (x, (s : Int))) XL j hlj)
          have HT2 := Lib.hid (take_ln XL j hlj)
          have HT3 := Lib.hid (take_map9 (fun (_ : Nat) => x) XL j hlj)
          generalize XL[j] = z at HLZ HT1 HT2 HT3
          have HO2 : Hid (Tm.stepsL (S k) ++ (XL.take (j + 1)).map (fun (s : Nat) => (x, (s : Int))) = (Tm.stepsL (S k) ++ (XL.take j).map fun (s : Nat) => (x, (s : Int))) ++ [(x, (z : Int))]) := Lib.hid (by rw [HT1.out, List.append_assoc])
          have HA2 : Hid ((S k).map Prod.fst ++ Tm.ln (XL.take (j + 1)) = ((S k).map Prod.fst ++ Tm.ln (XL.take j)) ++ [(z : Int)]) := Lib.hid (by rw [HT2.out, List.append_assoc])
          have HC2 : Hid ((S k).map Prod.snd ++ (XL.take (j + 1)).map (fun _ => x) = ((S k).map Prod.snd ++ (XL.take j).map fun _ => x) ++ [x]) := Lib.hid (by rw [HT3.out, List.append_assoc])
          generalize (Tm.stepsL (S k) ++ (XL.take j).map fun (s : Nat) => (x, (s : Int))) = O at *
          generalize ((S k).map Prod.fst ++ Tm.ln (XL.take j)) = A at *
          generalize ((S k).map Prod.snd ++ (XL.take j).map fun _ => x) = CM at *
          have hki2 : (k : Int) < (A.length : Int) := by omega
          obtain ⟨ba, oa, rfl, hbla, d0⟩ := (RowIn.of_own ki_ok hY.a).int k hKA
          obtain ⟨bl, ol, rfl, hbll, d1⟩ := (RowIn.of_own ki_ok hY.l).int j hJL
          rw [HAX.out] at d0
          rw [HLZ.out] at d1
          have HKA : Hid (k < A.length) := Lib.hid hKA
          have HJL : Hid (j < (Tm.ln XL).length) := Lib.hid hJL
          have HD := Lib.hid (hY.below (w2 := wr.drew) (Below.refl _ _).drew)
          have HBD : Hid (Below (w.heap.size + 1) w0 wr.drew) := Lib.hid hbel.drew
          have gd : wr.drew.cell? ⟨ba, oa + k, none⟩ = some (.int .i64 x) ∧ wr.drew.cell? ⟨bl, ol + j, none⟩ = some (.int .i64 (z : Int)) := ⟨d0, d1⟩
          clear d0 d1 hY hbel
          go_wp2_with fail
          refine wp_region_held_drew (S := fun w' => w'.cell? ⟨ba, oa + k, none⟩ = some (.int .i64 x) ∧ w'.cell? ⟨bl, ol + j, none⟩ = some (.int .i64 (z : Int))) (by kernel_rfl) (gd) (fun hHeld => ?_)
          generalize wr.drew = wd at *
          have hba := balloc (Below.refl _ wd) (.cells #[.int .i64 x, .int .i64 (z : Int)] 43)
          have ge : (wd.alloc (.cells #[.int .i64 x, .int .i64 (z : Int)] 43)).cell? ⟨ba, oa + k, none⟩ = some (.int .i64 x) ∧ (wd.alloc (.cells #[.int .i64 x, .int .i64 (z : Int)] 43)).cell? ⟨bl, ol + j, none⟩ = some (.int .i64 (z : Int)) := ⟨kc7 hba gd.1, kc7 hba gd.2⟩
          have hsd : w.heap.size + 1 ≤ wd.heap.size := by have := HBD.out.size; have := HSZ.out; omega
          refine wpAnyH_take (i := 0) (v := ?v0) rfl (by kernel_rfl) (by kernel_rfl) (by kernel_rfl) (fun _ _ _ h => h) (Or.inl ⟨by rfl, ?y0⟩) (by assumption) ?r0
          case y0 => (intro w hSw; (try dsimp only at hSw); go_simp; try with_reducible rfl)
          try simp only [Act.put, List.setIfInBounds_toArray, List.set_cons_zero, List.set_cons_succ, List.getElem_toArray, List.getElem_cons_zero, List.getElem_cons_succ]
          refine wpAnyH_take (i := 1) (v := ?v1) rfl (by kernel_rfl) (by kernel_rfl) (by kernel_rfl) (fun _ _ _ h => h) (Or.inl ⟨by rfl, ?y1⟩) (by assumption) ?r1
          case y1 => (intro w hSw; (try dsimp only at hSw); go_simp; try with_reducible rfl)
          try simp only [Act.put, List.setIfInBounds_toArray, List.set_cons_zero, List.set_cons_succ, List.getElem_toArray, List.getElem_cons_zero, List.getElem_cons_succ]
          refine wpAnyH_take (i := 2) (v := ?v2) rfl (by kernel_rfl) (by kernel_rfl) (by kernel_rfl) (fun _ _ _ h => h) (Or.inl ⟨by rfl, ?y2⟩) (by assumption) ?r2
          case y2 => (intro w hSw; (try dsimp only at hSw); go_simp; try with_reducible rfl)
          try simp only [Act.put, List.setIfInBounds_toArray, List.set_cons_zero, List.set_cons_succ, List.getElem_toArray, List.getElem_cons_zero, List.getElem_cons_succ]
          refine wpAnyH_take (i := 3) (v := ?v3) rfl (by kernel_rfl) (by kernel_rfl) (by kernel_rfl) (fun _ _ _ h => h) (Or.inl ⟨by rfl, ?y3⟩) (by assumption) ?r3
          case y3 => (intro w hSw; (try dsimp only at hSw); go_simp; try with_reducible rfl)
          try simp only [Act.put, List.setIfInBounds_toArray, List.set_cons_zero, List.set_cons_succ, List.getElem_toArray, List.getElem_cons_zero, List.getElem_cons_succ]
          refine wpAnyH_take (i := 4) (v := ?v4) rfl (by kernel_rfl) (by kernel_rfl) (by kernel_rfl) (fun _ _ _ h => h) (Or.inl ⟨by rfl, ?y4⟩) (by assumption) ?r4
          case y4 => (intro w hSw; (try dsimp only at hSw); go_simp; try with_reducible rfl)
          try simp only [Act.put, List.setIfInBounds_toArray, List.set_cons_zero, List.set_cons_succ, List.getElem_toArray, List.getElem_cons_zero, List.getElem_cons_succ]
          refine wpAnyH_take (i := 5) (v := ?v5) rfl (by kernel_rfl) (by kernel_rfl) (by kernel_rfl) (fun _ _ _ h => h) (Or.inl ⟨by rfl, ?y5⟩) (by assumption) ?r5
          case y5 => (intro w hSw; (try dsimp only at hSw); go_simp; try with_reducible rfl)
          try simp only [Act.put, List.setIfInBounds_toArray, List.set_cons_zero, List.set_cons_succ, List.getElem_toArray, List.getElem_cons_zero, List.getElem_cons_succ]
          refine wpAnyH_take (i := 6) (v := ?v6) rfl (by kernel_rfl) (by kernel_rfl) (by kernel_rfl) (fun _ _ _ h => h) (Or.inl ⟨by rfl, ?y6⟩) (by assumption) ?r6
          case y6 => (intro w hSw; (try dsimp only at hSw); go_simp; try with_reducible rfl)
          try simp only [Act.put, List.setIfInBounds_toArray, List.set_cons_zero, List.set_cons_succ, List.getElem_toArray, List.getElem_cons_zero, List.getElem_cons_succ]
          refine wpAnyH_take (i := 7) (v := ?v7) rfl (by kernel_rfl) (by kernel_rfl) (by kernel_rfl) (fun _ _ _ h => h) (Or.inl ⟨by rfl, ?y7⟩) (by assumption) ?r7
          case y7 => (intro w hSw; (try dsimp only at hSw); go_simp; try with_reducible rfl)
          try simp only [Act.put, List.setIfInBounds_toArray, List.set_cons_zero, List.set_cons_succ, List.getElem_toArray, List.getElem_cons_zero, List.getElem_cons_succ]
          refine wpAnyH_take (i := 8) (v := ?v8) rfl (by kernel_rfl) (by kernel_rfl) (by kernel_rfl) (fun _ _ _ h => h) (Or.inl ⟨by rfl, ?y8⟩) (by assumption) ?r8
          case y8 => (intro w hSw; (try dsimp only at hSw); go_simp; try with_reducible rfl)
          try simp only [Act.put, List.setIfInBounds_toArray, List.set_cons_zero, List.set_cons_succ, List.getElem_toArray, List.getElem_cons_zero, List.getElem_cons_succ]
          refine wpAnyH_take (i := 9) (v := ?v9) rfl (by kernel_rfl) (by kernel_rfl) (by kernel_rfl) (fun _ _ _ h => h) (Or.inl ⟨by rfl, ?y9⟩) (by assumption) ?r9
          case y9 => (intro w hSw; (try dsimp only at hSw); go_simp; try with_reducible rfl)
          try simp only [Act.put, List.setIfInBounds_toArray, List.set_cons_zero, List.set_cons_succ, List.getElem_toArray, List.getElem_cons_zero, List.getElem_cons_succ]
          refine wpAnyH_ready (rs := [10]) (by kernel_rfl) (by simp) ?_
          refine AllReadyH.cons rfl (fun K hK => ?_) AllReadyH.nil
          go_simp
          refine hK.out _ _ (ge) (fun hHeld => ?_)
          clear hK K
          try simp only [Act.put, List.setIfInBounds_toArray, List.set_cons_zero, List.set_cons_succ, List.getElem_toArray, List.getElem_cons_zero, List.getElem_cons_succ]
          refine wpAnyH_ready (rs := [11]) (by kernel_rfl) (by simp) ?_
          refine AllReadyH.cons rfl (fun K hK => ?_) AllReadyH.nil
          refine step_push9 kp_ok (wr := wd) (by rfl) _ _ (by rfl) (w.heap.size + 1) (.slice sa O.length sc) O (x, (z : Int)) #[.int .i64 x, .int .i64 (z : Int)] rfl (by rfl) HD.out.o (by rfl) (by omega) (by omega) ?_
          intro g6 cap6 w6 ho6 hb6 hk6 hat6 hlt6
          have HD6 := Lib.hid (HD.out.putO ho6 hk6 hat6)
          have HB6 := Lib.hid (HBD.out.trans hb6)
          have gf : w6.cell? ⟨ba, oa + k, none⟩ = some (.int .i64 x) ∧ w6.cell? ⟨bl, ol + j, none⟩ = some (.int .i64 (z : Int)) := ⟨by have := HD6.out.a.intAt k HKA.out; rw [HAX.out] at this; exact this, by have := HD6.out.l.intAt j HJL.out; rw [HLZ.out] at this; exact this⟩
          refine hK.out _ _ (gf) (fun hHeld => ?_)
          clear hK K
          try simp only [Act.put, List.setIfInBounds_toArray, List.set_cons_zero, List.set_cons_succ, List.getElem_toArray, List.getElem_cons_zero, List.getElem_cons_succ]
          refine wpAnyH_take (i := 12) (v := ?v12) rfl (by kernel_rfl) (by kernel_rfl) (by kernel_rfl) (fun _ _ _ h => h) (Or.inl ⟨by rfl, ?y12⟩) (by assumption) ?r12
          case y12 => (intro w hSw; (try dsimp only at hSw); go_simp; try with_reducible rfl)
          try simp only [Act.put, List.setIfInBounds_toArray, List.set_cons_zero, List.set_cons_succ, List.getElem_toArray, List.getElem_cons_zero, List.getElem_cons_succ]
          refine wpAnyH_done (by kernel_rfl) ?_ _
          obtain ⟨e0, e1⟩ := gf
          have hs6 : w.heap.size + 1 ≤ w6.heap.size := by have := HB6.out.size; have := HSZ.out; omega
          clear hHeld ge gd hba ho6 hb6 hk6 hat6 hlt6 HD HBD
          go_wp2_with (at_builtin; first
            | (refine wp_pushR ki_ok (wr := w6) rfl _ _ rfl (w.heap.size + 1) (.slice (some ⟨ba, oa, none⟩) A.length tc) A (z : Int) #[.int .i64 (z : Int)] rfl rfl HD6.out.a rfl (by omega) hs6 ?_; intro g7 cap7 w7 ho7 hb7 hk7 hat7 hlt7; have HD7 := Lib.hid (HD6.out.putA ho7 hk7 hat7); have HB7 := Lib.hid (HB6.out.trans hb7); have hs7 : w.heap.size + 1 ≤ w7.heap.size := (by have := HB7.out.size; have := HSZ.out; omega); have e3 : w7.cell? ⟨g7, k, none⟩ = some (.int .i64 x) := (by have := HD7.out.a.intAt k (by have := HKA.out; simp; omega); rw [List.getElem_append_left HKA.out, HAX.out, Nat.zero_add] at this; exact this); clear ho7 hb7 hk7 hat7 e0 e1)
            | (refine wp_pushR ki_ok (wr := w7) rfl _ _ rfl (w.heap.size + 1) (.slice ka CM.length kcp) CM x #[.int .i64 x] rfl rfl HD7.out.c rfl (by omega) hs7 ?_; intro g8 cap8 w8 ho8 hb8 hk8 hat8 hlt8; have HD8 := Lib.hid (HD7.out.putC ho8 hk8 hat8); have HB8 := Lib.hid (HB7.out.trans hb8)))
          go_wp2
          go_roundw
          case rel => exact ⟨j + 1, by omega, by go_num, by rw [HO2.out, HA2.out, HC2.out]; exact HD8.out, HB8.out⟩
          case measure => simp [intOf]; omega
        · obtain rfl : j = XL.length := by omega
          have hY2 : Wy9 (w.heap.size + 1) 0 wr (.slice sa (Tm.stepsL (S k) ++ (XL.take XL.length).map fun (s : Nat) => (x, (s : Int))).length sc) (.slice ta ((S k).map Prod.fst ++ Tm.ln (XL.take XL.length)).length tc) (.slice ka ((S k).map Prod.snd ++ (XL.take XL.length).map fun _ => x).length kcp) (.slice none 0 0) (Tm.stepsL (S (k + 1))) ((S (k + 1)).map Prod.fst) ((S (k + 1)).map Prod.snd) [] := by
            have h1 := hY.noL
            rw [List.take_length] at h1 ⊢
            rw [HN1.out, HN2.out, HN3.out]
            exact h1
          have HY2 := Lib.hid hY2
          have HBL := Lib.hid hbel
          have hgo : k + 1 ≤ (S (k + 1)).length := by
            have h1 := congrArg List.length HN1.out
            rw [List.length_append, List.length_map, List.length_map] at h1
            have := HLK.out
            by_cases h2 : k + 1 ≤ (S (k + 1)).length
            · exact h2
            · omega
          clear hY hY2 hbel
          go_wp2
          go_roundw
          case rel => exact ⟨k + 1, hgo, by go_num, HY2.out, HBL.out⟩
          case measure => simp [intOf]; omega
    · have HS7 : Hid (R = Tm.stepsL (S k)) := Lib.hid (by rw [HTL.out, HST.out k (by omega)])
      have hki : ¬ (k : Int) < ((S k).length : Int) := by omega
      have HO := Lib.hid HYY.out.o
      clear c0 c1 c2 HYY
      go_wp2
      go_ret
      exact ⟨_, rfl, by rw [HS7.out]; exact HO.out.mono (by omega), HBR.out⟩
end Go.Proofs.Ythjjidfoclcghaa
/- What table.Ranges answers, and the document's. -/
namespace Go.Proofs.Ythjjidfoclcghaa
open Go.RowKit
set_option linter.unusedVariables false
set_option linter.unusedSimpArgs false

/-- The ranges that a site owns, of the first ones. -/
def rngsK (c : Rw) (s : Int) (k : Nat) : List (ByteArray × ByteArray) := (((c.rs.zip c.ow).take k).filter fun x => bitN x.2.toNat s).map (·.1)
theorem rngsK_zero (c : Rw) (s : Int) : rngsK c s 0 = [] := rfl
theorem rngsK_snoc (c : Rw) (s : Int) (k : Nat) (h : k < c.rs.length) (h' : k < c.ow.length) : rngsK c s (k + 1) = rngsK c s k ++ (if bitN (c.ow[k]).toNat s then [c.rs[k]] else []) := by
  unfold rngsK
  have hz : k < (c.rs.zip c.ow).length := by simp; omega
  rw [List.take_succ_eq_append_getElem hz, List.filter_append, List.map_append]
  congr 1
  rw [List.getElem_zip]
  split <;> rename_i hq <;> simp [hq]
theorem rngsK_all {c : Rw} {s : Int} (h : tOk c = true) : rngsK c s c.rs.length = rngsN c s := by
  unfold rngsK rngsN
  rw [if_pos h, List.take_of_length_le (by simp; omega)]
theorem rngsK_len (c : Rw) (s : Int) (k : Nat) : (rngsK c s k).length ≤ k := by
  unfold rngsK
  rw [List.length_map]
  refine Nat.le_trans (List.length_filter_le _ _) ?_
  simp
  omega
theorem rngsN_no {c : Rw} (h : tOk c = false) (s : Int) : rngsN c s = [] := by
  unfold rngsN
  rw [if_neg (by simp [h])]
theorem rngsN_far {c : Rw} {s : Int} (h : s < 0 ∨ 6 ≤ s) : rngsN c s = [] := by
  by_cases hk : tOk c = true
  · have hT := (tOk_iff c).1 hk
    have hp := hT.pow
    unfold rngsN
    rw [if_pos hk]
    rw [List.map_eq_nil_iff, List.filter_eq_nil_iff]
    intro x hx
    have hm : x.2 ∈ c.ow := by
      obtain ⟨r, o⟩ := x
      exact (List.of_mem_zip hx).2
    have := hT.ob _ hm
    rcases h with h | h
    · rw [bitN_neg h]; simp
    · rw [bitN_far (by omega) h]; simp
  · exact rngsN_no (by simpa using hk) s

/-- What the calls leave. -/
def RngPost (w : World) (l : List (ByteArray × ByteArray)) (e : Ending) (w' : World) : Prop := ∃ v, e = .returned v ∧ OwnR KR w' w.heap.size v l ∧ Below w.heap.size w w'

end Go.Proofs.Ythjjidfoclcghaa
/- Two ranges compared as structs. -/
namespace Go.Proofs.Ythjjidfoclcghaa
open Go.RowKit
set_option linter.unusedVariables false
set_option linter.unusedSimpArgs false

theorem eq_rng (w : World) (k l k' l' : ByteArray) : (binOp .eql 52 (.agg #[.string k, .string l]) (.agg #[.string k', .string l'])).run Try.prog w = .ok (.bool (decide ((k, l) = (k', l')))) w := by
  rw [run_eql_struct, run_equalIn_agg w 9999 52 _ _ (by kernel_rfl) (by kernel_rfl)]
  unfold Program.fieldsOf
  rw [Try.underlying52]
  simp [go_sem, Try.underlying9]
  have hk : ∀ a b : ByteArray, a.toList = b.toList ↔ a = b := fun a b => by
    rw [Lib.toList_data, Lib.toList_data]
    exact ⟨fun h => ByteArray.ext (Array.toList_inj.1 h), fun h => by rw [h]⟩
  by_cases h1 : k = k' <;> by_cases h2 : l = l' <;> simp [hk, h1, h2]
theorem ne_rng (w : World) (k l k' l' : ByteArray) : (binOp .neq 52 (.agg #[.string k, .string l]) (.agg #[.string k', .string l'])).run Try.prog w = .ok (.bool (!decide ((k, l) = (k', l')))) w := by
  have h := eq_rng w k l k' l'
  rw [run_eql_struct] at h
  rw [run_neq_struct]
  generalize (Op.equalIn 10000 _ _ _).run _ _ = r at h
  cases r with
  | ok b w1 => simp at h ⊢; simp [h]
  | halt x w1 => simp at h

end Go.Proofs.Ythjjidfoclcghaa
