/- What law09's (Spec).row answers: some row that may be, its parents a tree. -/
import Derived.Test.YthjjidfoclcghaaGR11
import Derived.Deep.RegionHeld3
import Derived.Deep.AppendLies
namespace Go.Proofs.Ythjjidfoclcghaa
open Go.RowKit
set_option linter.unusedVariables false
set_option linter.unusedSimpArgs false

/-- Each one's parent is ahead of it. -/
def Ah (pa : List Int) : Prop := ∀ i (h : i < pa.length), (i = 0 → pa[i] = -1) ∧ (0 < i → 0 ≤ pa[i] ∧ pa[i] < (i : Int))
theorem Ah.one : Ah [-1] := fun i h => by
  simp at h
  subst h
  exact ⟨fun _ => rfl, fun h => by omega⟩
theorem Ah.snoc {pa : List Int} (h : Ah pa) {k : Nat} (hk : pa.length = k + 1) {y : Int} (h0 : 0 ≤ y) (h1 : y < (k : Int) + 1) : Ah (pa ++ [y]) := fun i hi => by
  by_cases e : i < pa.length
  · rw [List.getElem_append_left e]
    exact h i e
  · have : i = pa.length := by simp at hi; omega
    subst this
    rw [List.getElem_append_right (Nat.le_refl _)]
    simp
    exact ⟨fun e => by rw [e] at hk; simp at hk, fun _ => ⟨h0, by omega⟩⟩
theorem Ah.tr {pa : List Int} (h : Ah pa) (h1 : 1 ≤ pa.length) (h6 : pa.length ≤ 6) : Tm.Tr pa := by
  have hx : ∀ i, 0 < i → i < pa.length → (fun i => ((pa[i]?).getD 0).toNat) i < i := fun i h0 hi => by
    have := (h i hi).2 h0
    show ((pa[i]?).getD 0).toNat < i
    rw [List.getElem?_eq_getElem hi, Option.getD_some]
    omega
  have e : pa = Tm.madeK pa.length 0 (fun i => ((pa[i]?).getD 0).toNat) pa.length := by
    refine List.ext_getElem? fun i => ?_
    by_cases hi : i < pa.length
    · have hg := Tm.madeK_get pa.length 0 (fun i => ((pa[i]?).getD 0).toNat) (by omega) pa.length (Nat.le_refl _) i hi
      have es : Tm.sg pa.length 0 i = i := by unfold Tm.sg; rw [Nat.add_zero, Nat.mod_eq_of_lt hi]
      rw [es] at hg
      rw [hg, List.getElem?_eq_getElem hi]
      unfold Tm.qM
      by_cases e0 : i = 0
      · subst e0
        rw [if_pos rfl, (h 0 hi).1 rfl]
      · rw [if_neg e0]
        have h2 := (h i hi).2 (by omega)
        have h3 : Tm.sg pa.length 0 ((pa[i]?).getD 0).toNat = (pa[i]).toNat := by
          rw [List.getElem?_eq_getElem hi, Option.getD_some]
          unfold Tm.sg
          rw [Nat.add_zero, Nat.mod_eq_of_lt (by omega)]
        show some pa[i] = some ((Tm.sg pa.length 0 ((pa[i]?).getD 0).toNat : Nat) : Int)
        rw [h3]
        congr 1
        omega
    · rw [List.getElem?_eq_none (by omega), List.getElem?_eq_none (by rw [Tm.madeK_len]; omega)]
  rw [e]
  exact Tm.made_tr h1 h6 hx
theorem made9_ok {us : List (List UInt8)} {c : Rw} (h : Ends us) (hu : us.length ≤ 7) (hr : c.rs = wbas (Km.chainL [] us)) (hp : 1 ≤ c.pa.length ∧ c.pa.length ≤ 6) (hl : c.ow.length = c.rs.length) (hq : Ah c.pa) (ho : ∀ o ∈ c.ow, 1 ≤ o ∧ o < ((2 ^ c.pa.length : Nat) : Int)) : chk9 c = true := by
  unfold chk9
  rw [made_ok h hu hr hp hl ho, (Tm.chkT_iff c.pa).2 (hq.tr hp.1 hp.2)]
  rfl
/-- How the variable, the result's and the plain numbers stand. -/
structure Md9 (w wr : World) (v0 v1 v2 u0 u1 u2 : Value) (c : Rw) : Prop where
  R : RwV (w.heap.size + 1 + 1) (w.heap.size + 1 + 1 + 1) wr u0 u1 u2 c
  V : VrP wr (w.heap.size + 1) (.slice none 0 0) (.slice none 0 0) (.slice none 0 0)
  S : VrP wr w.heap.size v0 v1 v2
  B : Below w.heap.size w wr
theorem Md9.below {w wr w' : World} {v0 v1 v2 u0 u1 u2 : Value} {c : Rw} (h : Md9 w wr v0 v1 v2 u0 u1 u2 c) (hb : Below wr.heap.size wr w') : Md9 w w' v0 v1 v2 u0 u1 u2 c := ⟨h.R.below hb, h.V.keep hb, h.S.keep hb, bstep h.B hb⟩
theorem Md9.put0 {w wr w2 : World} {v0 v1 v2 u0 u1 u2 : Value} {c : Rw} {g n cap : Nat} {l : List (ByteArray × ByteArray)} (h : Md9 w wr v0 v1 v2 u0 u1 u2 c) (ho : OwnR KR w2 (w.heap.size + 1 + 1) (.slice (some ⟨g, 0, none⟩) n cap) l) (hb : Below (w.heap.size + 1 + 1) wr w2) (hk : KeptD u0 wr w2) (hat : u0.ownBlock = some g ∨ wr.heap.size ≤ g) :
    Md9 w (w2.setCell ⟨w.heap.size + 1 + 1 + 1, 0, none⟩ (.slice (some ⟨g, 0, none⟩) n cap)) v0 v1 v2 (.slice (some ⟨g, 0, none⟩) n cap) u1 u2 ⟨l, c.ow, c.pa⟩ :=
  ⟨h.R.put0 ho hk (fun g e => by obtain rfl := own_at7 g e; exact hat), (h.V.block (hb.block _ (by omega))).block (Below.heap_setCell _ _ _ _ (by simp)), (h.S.block (hb.block _ (by omega))).block (Below.heap_setCell _ _ _ _ (by show w.heap.size ≠ w.heap.size + 1 + 1 + 1; omega)), (h.B.trans (hb.mono (by omega))).setCell (p := ⟨w.heap.size + 1 + 1 + 1, 0, none⟩) (by show w.heap.size ≤ w.heap.size + 1 + 1 + 1; omega) _⟩
theorem Md9.put1 {w wr w2 : World} {v0 v1 v2 u0 u1 u2 : Value} {c : Rw} {g n cap : Nat} {l : List Int} (h : Md9 w wr v0 v1 v2 u0 u1 u2 c) (ho : OwnR KI w2 (w.heap.size + 1 + 1) (.slice (some ⟨g, 0, none⟩) n cap) l) (hb : Below (w.heap.size + 1 + 1) wr w2) (hk : KeptD u1 wr w2) (hat : u1.ownBlock = some g ∨ wr.heap.size ≤ g) :
    Md9 w (w2.setCell ⟨w.heap.size + 1 + 1 + 1, 1, none⟩ (.slice (some ⟨g, 0, none⟩) n cap)) v0 v1 v2 u0 (.slice (some ⟨g, 0, none⟩) n cap) u2 ⟨c.rs, l, c.pa⟩ :=
  ⟨h.R.put1 ho hk (fun g e => by obtain rfl := own_at7 g e; exact hat), (h.V.block (hb.block _ (by omega))).block (Below.heap_setCell _ _ _ _ (by simp)), (h.S.block (hb.block _ (by omega))).block (Below.heap_setCell _ _ _ _ (by show w.heap.size ≠ w.heap.size + 1 + 1 + 1; omega)), (h.B.trans (hb.mono (by omega))).setCell (p := ⟨w.heap.size + 1 + 1 + 1, 1, none⟩) (by show w.heap.size ≤ w.heap.size + 1 + 1 + 1; omega) _⟩
theorem Md9.put2 {w wr w2 : World} {v0 v1 v2 u0 u1 u2 : Value} {c : Rw} {g n cap : Nat} {l : List Int} (h : Md9 w wr v0 v1 v2 u0 u1 u2 c) (ho : OwnR KI w2 (w.heap.size + 1 + 1) (.slice (some ⟨g, 0, none⟩) n cap) l) (hb : Below (w.heap.size + 1 + 1) wr w2) (hk : KeptD u2 wr w2) (hat : u2.ownBlock = some g ∨ wr.heap.size ≤ g) :
    Md9 w (w2.setCell ⟨w.heap.size + 1 + 1 + 1, 2, none⟩ (.slice (some ⟨g, 0, none⟩) n cap)) v0 v1 v2 u0 u1 (.slice (some ⟨g, 0, none⟩) n cap) ⟨c.rs, c.ow, l⟩ :=
  ⟨h.R.put2 ho hk (fun g e => by obtain rfl := own_at7 g e; exact hat), (h.V.block (hb.block _ (by omega))).block (Below.heap_setCell _ _ _ _ (by simp)), (h.S.block (hb.block _ (by omega))).block (Below.heap_setCell _ _ _ _ (by show w.heap.size ≠ w.heap.size + 1 + 1 + 1; omega)), (h.B.trans (hb.mono (by omega))).setCell (p := ⟨w.heap.size + 1 + 1 + 1, 2, none⟩) (by show w.heap.size ≤ w.heap.size + 1 + 1 + 1; omega) _⟩
theorem Md9.cells {w wr w2 : World} {v0 v1 v2 u0 u1 u2 u : Value} {c : Rw} (h : Md9 w wr v0 v1 v2 u0 u1 u2 c) (hk : KeptD u wr w2) (hn : u.ownBlock ≠ some (w.heap.size + 1 + 1 + 1)) : VrP w2 (w.heap.size + 1 + 1 + 1) u0 u1 u2 := h.R.v.block (hk _ h.R.v.lt hn)
/-- The variable copied to the result's. -/
theorem Md9.fin {w wr : World} {v0 v1 v2 u0 u1 u2 : Value} {c : Rw} (h : Md9 w wr v0 v1 v2 u0 u1 u2 c) (hz : Szs c.rs) :
    RwO w.heap.size (((wr.setCell ⟨w.heap.size + 1, 0, none⟩ u0).setCell ⟨w.heap.size + 1, 1, none⟩ u1).setCell ⟨w.heap.size + 1, 2, none⟩ u2) u0 u1 u2 c ∧
      VrP (((wr.setCell ⟨w.heap.size + 1, 0, none⟩ u0).setCell ⟨w.heap.size + 1, 1, none⟩ u1).setCell ⟨w.heap.size + 1, 2, none⟩ u2) (w.heap.size + 1) u0 u1 u2 ∧
      Below w.heap.size w (((wr.setCell ⟨w.heap.size + 1, 0, none⟩ u0).setCell ⟨w.heap.size + 1, 1, none⟩ u1).setCell ⟨w.heap.size + 1, 2, none⟩ u2) := by
  have n0 := h.R.r.lo (k := w.heap.size + 1) (by omega)
  have n1 := h.R.o.lo (k := w.heap.size + 1) (by omega)
  have n2 := h.R.p.lo (k := w.heap.size + 1) (by omega)
  exact ⟨⟨(((h.R.r.put7 n0).put7 n0).put7 n0).mono (by omega), (((h.R.o.put7 n1).put7 n1).put7 n1).mono (by omega), (((h.R.p.put7 n2).put7 n2).put7 n2).mono (by omega), hz⟩,
    ((h.V.put0 u0).put1 u1).put2 u2, ((h.B.setCell (p := ⟨w.heap.size + 1, 0, none⟩) (by simp) u0).setCell (p := ⟨w.heap.size + 1, 1, none⟩) (by simp) u1).setCell (p := ⟨w.heap.size + 1, 2, none⟩) (by simp) u2⟩
/-- Behind so many parents; behind so many ends; behind so many owners. -/
def M9P (w wr : World) (v0 v1 v2 : Value) (k : Nat) : Prop := ∃ u2 pa, pa.length = k + 1 ∧ Ah pa ∧ Md9 w wr v0 v1 v2 (.slice none 0 0) (.slice none 0 0) u2 ⟨[], [], pa⟩
def M9R (w wr : World) (v0 v1 v2 : Value) (N j : Nat) (us : List (List UInt8)) : Prop := ∃ u0 u2 pa, pa.length = N ∧ Ah pa ∧ Ends us ∧ us.length ≤ j ∧ Md9 w wr v0 v1 v2 u0 (.slice none 0 0) u2 ⟨wbas (Km.preL [] us), [], pa⟩
def M9O (w wr : World) (v0 v1 v2 : Value) (N k : Nat) (us : List (List UInt8)) : Prop := ∃ u0 u1 u2 ow pa, pa.length = N ∧ Ah pa ∧ ow.length = k ∧ (∀ o ∈ ow, 1 ≤ o ∧ o < ((2 ^ N : Nat) : Int)) ∧ Md9 w wr v0 v1 v2 u0 u1 u2 ⟨wbas (Km.chainL [] us), ow, pa⟩
/-- What row leaves. -/
def MadePost9 (w : World) (e : Ending) (w' : World) : Prop := ∃ c u0 u1 u2, e = .returned (.agg #[u0, u1, u2]) ∧ RwO w.heap.size w' u0 u1 u2 c ∧ chk9 c = true ∧ Below w.heap.size w w'
/-- The same, and the parents' block is no other's. -/
def MadePostN (w : World) (e : Ending) (w' : World) : Prop := ∃ c u0 u1 u2, e = .returned (.agg #[u0, u1, u2]) ∧ RwO w.heap.size w' u0 u1 u2 c ∧ chk9 c = true ∧ Below w.heap.size w w' ∧ (∀ g, u0.ownBlock = some g → u2.ownBlock ≠ some g) ∧ ∀ g, u1.ownBlock = some g → u2.ownBlock ≠ some g
theorem M9P.start (w : World) (v0 v1 v2 : Value) (TS : TypeId) :
    M9P w ((((w.alloc (.cells #[v0, v1, v2] TS)).alloc (.cells #[.slice none 0 0, .slice none 0 0, .slice none 0 0] 29)).alloc (.cells #[.int .i64 (-1)] 3)).alloc (.cells #[.slice none 0 0, .slice none 0 0, .slice (some ⟨w.heap.size + 1 + 1, 0, none⟩) 1 1] 29)) v0 v1 v2 0 := by
  obtain ⟨w1, h1⟩ : ∃ w1, w1 = w.alloc (.cells #[v0, v1, v2] TS) := ⟨_, rfl⟩
  obtain ⟨w2, h2⟩ : ∃ w2, w2 = w1.alloc (.cells #[.slice none 0 0, .slice none 0 0, .slice none 0 0] 29) := ⟨_, rfl⟩
  obtain ⟨w3, h3⟩ : ∃ w3, w3 = w2.alloc (.cells #[.int .i64 (-1)] 3) := ⟨_, rfl⟩
  obtain ⟨w4, h4⟩ : ∃ w4, w4 = w3.alloc (.cells #[.slice none 0 0, .slice none 0 0, .slice (some ⟨w.heap.size + 1 + 1, 0, none⟩) 1 1] 29) := ⟨_, rfl⟩
  have z1 : w1.heap.size = w.heap.size + 1 := by rw [h1]; simp
  have z2 : w2.heap.size = w1.heap.size + 1 := by rw [h2]; simp
  have z3 : w3.heap.size = w2.heap.size + 1 := by rw [h3]; simp
  have b1 : Below w.heap.size w w1 := by rw [h1]; exact balloc (Below.refl _ _) _
  have b2 : Below w1.heap.size w1 w2 := by rw [h2]; exact balloc (Below.refl _ _) _
  have b3 : Below w2.heap.size w2 w3 := by rw [h3]; exact balloc (Below.refl _ _) _
  have b4 : Below w3.heap.size w3 w4 := by rw [h4]; exact balloc (Below.refl _ _) _
  have s1 : VrP w1 w.heap.size v0 v1 v2 := by rw [h1]; exact VrP.new _ _ _ _ _
  have s2 : VrP w2 w1.heap.size (.slice none 0 0) (.slice none 0 0) (.slice none 0 0) := by rw [h2]; exact VrP.new _ _ _ _ _
  have o3 : OwnR KI w3 w2.heap.size (.slice (some ⟨w2.heap.size, 0, none⟩) 1 1) [-1] := by rw [h3]; exact own_lit9 ki_ok w2 w2.heap.size 1 [-1] #[.int .i64 (-1)] rfl rfl (Nat.le_refl _) (by omega)
  have s4 : VrP w4 w3.heap.size (.slice none 0 0) (.slice none 0 0) (.slice (some ⟨w.heap.size + 1 + 1, 0, none⟩) 1 1) := by rw [h4]; exact VrP.new _ _ _ _ _
  rw [← h1, ← h2, ← h3, ← h4]
  have o4 := o3.below b4
  have s24 := (s2.keep b3).keep b4
  have s14 := ((s1.keep b2).keep b3).keep b4
  rw [z3, z2, z1] at s4
  rw [z1] at s24
  rw [z2, z1] at o4
  exact ⟨_, [-1], rfl, Ah.one, ⟨s4, OwnR.nil _ _ _, OwnR.nil _ _ _, o4, by omega, by simp [Value.ownBlock], by simp [Value.ownBlock], by simp [Value.ownBlock], by simp [Value.ownBlock], by simp [Value.ownBlock], by simp [Value.ownBlock]⟩, s24, s14, bstep b1 (bstep b2 (bstep b3 b4))⟩

set_option maxRecDepth 100000 in
set_option maxHeartbeats 12800000 in
theorem row9N_any (v0 v1 v2 : Value) (l0 l1 l2 : List Int) (w : World) (h0 : RowAt KI w v0 l0) (h1 : RowAt KI w v1 l1) (h2 : RowAt KI w v2 l2) (hb0 : ∀ z ∈ l0, -9223372036854775808 ≤ z ∧ z ≤ 9223372036854775807) (hb1 : ∀ z ∈ l1, -9223372036854775808 ≤ z ∧ z ≤ 9223372036854775807) (hb2 : ∀ z ∈ l2, -9223372036854775808 ≤ z ∧ z ≤ 9223372036854775807) :
    Calls Try.prog 10 #[.agg #[v0, v1, v2]] w (MadePostN w) := by
  obtain ⟨a0, p0, rfl, hq0, hm0, _, hi0⟩ := h0
  obtain ⟨a1, p1, rfl, hq1, hm1, _, hi1⟩ := h1
  obtain ⟨a2, p2, rfl, hq2, hm2, _, hi2⟩ := h2
  unfold maxLen at hm0 hm1 hm2
  have HI0 := Lib.hid hi0
  have HI1 := Lib.hid hi1
  have HI2 := Lib.hid hi2
  have HZ0 := Lib.hid hb0
  have HZ1 := Lib.hid hb1
  have HZ2 := Lib.hid hb2
  have HM0 := Lib.hid (M9P.start w (.slice a0 l0.length p0) (.slice a1 l1.length p1) (.slice a2 l2.length p2) 24)
  clear hi0 hi1 hi2 hb0 hb1 hb2
  go_enter Try.func10, Try.ntmps10
  go_wp2_with fail
  generalize (((w.alloc (.cells #[.slice a0 l0.length p0, .slice a1 l1.length p1, .slice a2 l2.length p2] 24)).alloc (.cells #[.slice none 0 0, .slice none 0 0, .slice none 0 0] 29)).alloc (.cells #[.int .i64 (-1)] 3)).alloc (.cells #[.slice none 0 0, .slice none 0 0, .slice (some ⟨w.heap.size + 1 + 1, 0, none⟩) 1 1] 29) = wa at *
  go_loopw [4] (fun i wr => ∃ k : Nat, k ≤ 5 ∧ i = .int .i64 k ∧ M9P w wr (.slice a0 l0.length p0) (.slice a1 l1.length p1) (.slice a2 l2.length p2) k) (fun i _ => 5 - (intOf i).toNat)
  case atStart => exact ⟨0, by omega, rfl, HM0.out⟩
  case round =>
    obtain ⟨k, hk, rfl, u2, pa, hpl, hpb, hM⟩ := hrel
    clear HM0
    have HM := Lib.hid hM
    have HPL := Lib.hid hpl
    have HPB := Lib.hid hpb
    obtain ⟨c0, c1, c2, hf⟩ := hM.R.v
    obtain ⟨s0, s1, s2, _⟩ := hM.S
    obtain ⟨sa, sc, rfl⟩ := hM.R.p.shape
    have hol : pa.length ≤ 6 := by omega
    have hbs := hM.R.v.lt
    dsimp only at c2 HM
    clear hM hpl hpb
    by_cases hgo : k < l2.length ∧ k < 5
    · obtain ⟨hk1, hk2⟩ := hgo
      have hki : (k : Int) < (l2.length : Int) := by omega
      have hki2 : (k : Int) < 5 := by omega
      obtain ⟨b, off, rfl, hbl, cc⟩ := (HI2.out.below HM.out.B).int k hk1
      have hz := HZ2.out _ (List.getElem_mem hk1)
      generalize l2[k] = z at cc hz
      obtain ⟨hz1, hz2⟩ := hz
      obtain ⟨ht1, ht2⟩ := tmod_bd z ((k : Int) + 1) (by omega)
      generalize ht : z.tmod ((k : Int) + 1) = t at ht1 ht2
      have hkw : IntKind.i64.wrap ((k : Int) + 1) = (k : Int) + 1 := IntWalk.i64_in _ (by omega)
      have hkz : ¬ ((k : Int) + 1 = 0) := by omega
      have HMD := Lib.hid (HM.out.below (Below.refl _ wr).drew)
      have hbw : b < w.heap.size := by
        obtain ⟨b', off', e', h', _⟩ := HI2.out.int k hk1
        cases e'
        exact h'
      go_wp2_with fail
      refine wp_region_held_drew (S := fun w' => w'.cell? ⟨w.heap.size, 2, none⟩ = some (.slice (some ⟨b, off, none⟩) l2.length p2) ∧ w'.cell? ⟨b, off + k, none⟩ = some (.int .i64 z)) (by kernel_rfl) ⟨s2, cc⟩ (fun hHeld => ?_)
      clear c0 c1 c2 hf s0 s1 s2 cc HM hbs
      generalize wr.drew = wd at *
      refine wpAnyH_take (i := 0) (v := ?v0) rfl (by kernel_rfl) (by kernel_rfl) (by kernel_rfl) (fun _ _ _ h => h) (Or.inl ⟨by rfl, ?y0⟩) (by assumption) ?r0
      case y0 => (intro w hSw; (try dsimp only at hSw); go_simp; try with_reducible rfl)
      try simp only [Act.put, List.setIfInBounds_toArray, List.set_cons_zero, List.set_cons_succ, List.getElem_toArray, List.getElem_cons_zero, List.getElem_cons_succ]
      refine wpAnyH_take (i := 2) (v := ?v2) rfl (by kernel_rfl) (by kernel_rfl) (by kernel_rfl) (fun _ _ _ h => h) (Or.inl ⟨by rfl, ?y2⟩) (by assumption) ?r2
      case y2 => (intro w hSw; (try dsimp only at hSw); go_simp; try with_reducible rfl)
      try simp only [Act.put, List.setIfInBounds_toArray, List.set_cons_zero, List.set_cons_succ, List.getElem_toArray, List.getElem_cons_zero, List.getElem_cons_succ]
      refine wpAnyH_take (i := 3) (v := ?v3) rfl (by kernel_rfl) (by kernel_rfl) (by kernel_rfl) (fun _ _ _ h => h) (Or.inl ⟨by rfl, ?y3⟩) (by assumption) ?r3
      case y3 => (intro w hSw; (try dsimp only at hSw); go_simp; try with_reducible rfl)
      try simp only [Act.put, List.setIfInBounds_toArray, List.set_cons_zero, List.set_cons_succ, List.getElem_toArray, List.getElem_cons_zero, List.getElem_cons_succ]
      refine wpAnyH_take (i := 4) (v := ?v4) rfl (by kernel_rfl) (by kernel_rfl) (by kernel_rfl) (fun _ _ _ h => h) (Or.inl ⟨by rfl, ?y4⟩) (by assumption) ?r4
      case y4 => (intro w hSw; (try dsimp only at hSw); go_simp; try with_reducible rfl)
      try simp only [Act.put, List.setIfInBounds_toArray, List.set_cons_zero, List.set_cons_succ, List.getElem_toArray, List.getElem_cons_zero, List.getElem_cons_succ]
      refine wpAnyH_take (i := 5) (v := ?v5) rfl (by kernel_rfl) (by kernel_rfl) (by kernel_rfl) (fun _ _ _ h => h) (Or.inl ⟨by rfl, ?y5⟩) (by assumption) ?r5
      case y5 => (intro w hSw; (try dsimp only at hSw); go_simp; try with_reducible rfl)
      try simp only [Act.put, List.setIfInBounds_toArray, List.set_cons_zero, List.set_cons_succ, List.getElem_toArray, List.getElem_cons_zero, List.getElem_cons_succ]
      refine wpAnyH_take (i := 6) (v := ?v6) rfl (by kernel_rfl) (by kernel_rfl) (by kernel_rfl) (fun _ _ _ h => h) (Or.inl ⟨by rfl, ?y6⟩) (by assumption) ?r6
      case y6 => (intro w hSw; (try dsimp only at hSw); go_simp; try with_reducible rfl)
      try simp only [Act.put, List.setIfInBounds_toArray, List.set_cons_zero, List.set_cons_succ, List.getElem_toArray, List.getElem_cons_zero, List.getElem_cons_succ]
      refine wpAnyH_take (i := 7) (v := ?v7) rfl (by kernel_rfl) (by kernel_rfl) (by kernel_rfl) (fun _ _ _ h => h) (Or.inl ⟨by rfl, ?y7⟩) (by assumption) ?r7
      case y7 => (intro w hSw; (try dsimp only at hSw); go_simp; try with_reducible rfl)
      try simp only [Act.put, List.setIfInBounds_toArray, List.set_cons_zero, List.set_cons_succ, List.getElem_toArray, List.getElem_cons_zero, List.getElem_cons_succ]
      refine wpAnyH_take (i := 8) (v := ?v8) rfl (by kernel_rfl) (by kernel_rfl) (by kernel_rfl) (fun _ _ _ h => h) (Or.inl ⟨by rfl, ?y8⟩) (by assumption) ?r8
      case y8 => (intro w hSw; (try dsimp only at hSw); go_simp; try with_reducible rfl)
      try simp only [Act.put, List.setIfInBounds_toArray, List.set_cons_zero, List.set_cons_succ, List.getElem_toArray, List.getElem_cons_zero, List.getElem_cons_succ]
      refine wpAnyH_take (i := 9) (v := ?v9) rfl (by kernel_rfl) (by kernel_rfl) (by kernel_rfl) (fun _ _ _ h => h) (Or.inl ⟨by rfl, ?y9⟩) (by assumption) ?r9
      case y9 => (intro w hSw; (try dsimp only at hSw); go_simp; try with_reducible rfl)
      try simp only [Act.put, List.setIfInBounds_toArray, List.set_cons_zero, List.set_cons_succ, List.getElem_toArray, List.getElem_cons_zero, List.getElem_cons_succ]
      refine wpAnyH_take (i := 10) (v := ?v10) rfl (by kernel_rfl) (by kernel_rfl) (by kernel_rfl) (fun _ _ _ h => h) (Or.inl ⟨by rfl, ?y10⟩) (by assumption) ?r10
      case y10 => (intro w hSw; (try dsimp only at hSw); go_simp; try with_reducible rfl)
      try simp only [Act.put, List.setIfInBounds_toArray, List.set_cons_zero, List.set_cons_succ, List.getElem_toArray, List.getElem_cons_zero, List.getElem_cons_succ]
      refine wpAnyH_take (i := 11) (v := ?v11) rfl (by kernel_rfl) (by kernel_rfl) (by kernel_rfl) (fun _ _ _ h => h) (Or.inl ⟨by rfl, ?y11⟩) (by assumption) ?r11
      case y11 => (intro w hSw; (try dsimp only at hSw); go_simp; try with_reducible rfl)
      try simp only [Act.put, List.setIfInBounds_toArray, List.set_cons_zero, List.set_cons_succ, List.getElem_toArray, List.getElem_cons_zero, List.getElem_cons_succ]
      refine wpAnyH_take (i := 12) (v := ?v12) rfl (by kernel_rfl) (by kernel_rfl) (by kernel_rfl) (fun _ _ _ h => h) (Or.inl ⟨by rfl, ?y12⟩) (by assumption) ?r12
      case y12 => (intro w hSw; (try dsimp only at hSw); go_simp; try with_reducible rfl)
      try simp only [Act.put, List.setIfInBounds_toArray, List.set_cons_zero, List.set_cons_succ, List.getElem_toArray, List.getElem_cons_zero, List.getElem_cons_succ]
      refine wpAnyH_take (i := 13) (v := ?v13) rfl (by kernel_rfl) (by kernel_rfl) (by kernel_rfl) (fun _ _ _ h => h) (Or.inl ⟨by rfl, ?y13⟩) (by assumption) ?r13
      case y13 => (intro w hSw; (try dsimp only at hSw); go_simp; try with_reducible rfl)
      try simp only [Act.put, List.setIfInBounds_toArray, List.set_cons_zero, List.set_cons_succ, List.getElem_toArray, List.getElem_cons_zero, List.getElem_cons_succ]
      refine wpAnyH_take (i := 14) (v := ?v14) rfl (by kernel_rfl) (by kernel_rfl) (by kernel_rfl) (fun _ _ _ h => h) (Or.inl ⟨by rfl, ?y14⟩) (by assumption) ?r14
      case y14 => (intro w hSw; (try dsimp only at hSw); go_simp; try with_reducible rfl)
      try simp only [Act.put, List.setIfInBounds_toArray, List.set_cons_zero, List.set_cons_succ, List.getElem_toArray, List.getElem_cons_zero, List.getElem_cons_succ]
      refine wpAnyH_take (i := 15) (v := ?v15) rfl (by kernel_rfl) (by kernel_rfl) (by kernel_rfl) (fun _ _ _ h => h) (Or.inl ⟨by rfl, ?y15⟩) (by assumption) ?r15
      case y15 => (intro w hSw; (try dsimp only at hSw); go_simp; try with_reducible rfl)
      try simp only [Act.put, List.setIfInBounds_toArray, List.set_cons_zero, List.set_cons_succ, List.getElem_toArray, List.getElem_cons_zero, List.getElem_cons_succ]
      have hyb : 0 ≤ (IntKind.i64.wrap (IntKind.i64.wrap (t + (k : Int)) + 1)).tmod ((k : Int) + 1) ∧ (IntKind.i64.wrap (IntKind.i64.wrap (t + (k : Int)) + 1)).tmod ((k : Int) + 1) < (k : Int) + 1 := by
        rw [IntWalk.i64_in (t + (k : Int)) (by omega), IntWalk.i64_in (t + (k : Int) + 1) (by omega), Int.tmod_eq_emod_of_nonneg (by omega)]
        exact ⟨Int.emod_nonneg _ (by omega), Int.emod_lt_of_pos _ (by omega)⟩
      generalize (IntKind.i64.wrap (IntKind.i64.wrap (t + (k : Int)) + 1)).tmod ((k : Int) + 1) = y at *
      clear hkw hkz
      obtain ⟨c0, c1, c2, hf⟩ := HMD.out.R.v
      have hbs := HMD.out.R.v.lt
      have f2 := hf 2 (by decide)
      have hba := balloc (Below.refl _ wd) (.cells #[.int .i64 y] 3)
      have c2a := kc hba c2
      have hHw := hHeld
      have hSa : (wd.alloc (.cells #[.int .i64 y] 3)).cell? ⟨w.heap.size, 2, none⟩ = some (.slice (some ⟨b, off, none⟩) l2.length p2) ∧ (wd.alloc (.cells #[.int .i64 y] 3)).cell? ⟨b, off + k, none⟩ = some (.int .i64 z) := ⟨kc hba hHeld.1, kc hba hHeld.2⟩
      refine wpAnyH_ready (rs := [1, 16]) (by kernel_rfl) (by simp) ?_
      refine AllReadyH.cons rfl (fun K hK => ?_) (AllReadyH.cons rfl (fun K hK => ?_) AllReadyH.nil)
      · go_simp
        refine hK.out _ _ (hHeld) (fun hHeld => ?_)
        clear hK K
        try simp only [Act.put, List.setIfInBounds_toArray, List.set_cons_zero, List.set_cons_succ, List.getElem_toArray, List.getElem_cons_zero, List.getElem_cons_succ]
        refine wpAnyH_ready (rs := [16]) (by kernel_rfl) (by simp) ?_
        refine AllReadyH.cons rfl (fun K hK => ?_) AllReadyH.nil
        go_simp
        refine hK.out _ _ (hSa) (fun hHeld => ?_)
        clear hK K
        try simp only [Act.put, List.setIfInBounds_toArray, List.set_cons_zero, List.set_cons_succ, List.getElem_toArray, List.getElem_cons_zero, List.getElem_cons_succ]
        refine wpAnyH_ready (rs := [17]) (by kernel_rfl) (by simp) ?_
        refine AllReadyH.cons rfl (fun K hK => ?_) AllReadyH.nil
        refine step_push9 ki_ok (wr := wd) (by rfl) _ _ (by rfl) (w.heap.size + 1 + 1) (.slice sa pa.length sc) pa y #[.int .i64 y] rfl (by rfl) HMD.out.R.p (by rfl) (by omega) (by omega) ?_
        intro g2 cap2 w5 ho2 hb2 hk2 hat2 hlt2
        obtain ⟨e0, e1, e2, ef⟩ := HMD.out.cells hk2 HMD.out.R.n2
        have ef2 := ef 2 (by decide)
        have HM3 := Lib.hid (HMD.out.put2 ho2 hb2 hk2 hat2)
        have hS5 : w5.cell? ⟨w.heap.size, 2, none⟩ = some (.slice (some ⟨b, off, none⟩) l2.length p2) ∧ w5.cell? ⟨b, off + k, none⟩ = some (.int .i64 z) := ⟨(World.cell?_of_block (hb2.block w.heap.size (by omega))).trans hHw.1, (World.cell?_of_block (hb2.block b (by omega))).trans hHw.2⟩
        have hS6 : (w5.setCell ⟨w.heap.size + 1 + 1 + 1, 2, none⟩ (.slice (some ⟨g2, 0, none⟩) (pa.length + 1) cap2)).cell? ⟨w.heap.size, 2, none⟩ = some (.slice (some ⟨b, off, none⟩) l2.length p2) ∧ (w5.setCell ⟨w.heap.size + 1 + 1 + 1, 2, none⟩ (.slice (some ⟨g2, 0, none⟩) (pa.length + 1) cap2)).cell? ⟨b, off + k, none⟩ = some (.int .i64 z) := ⟨(World.cell?_of_block (Below.heap_setCell _ _ _ _ (by show w.heap.size ≠ w.heap.size + 1 + 1 + 1; omega))).trans hS5.1, (World.cell?_of_block (Below.heap_setCell _ _ _ _ (by show b ≠ w.heap.size + 1 + 1 + 1; omega))).trans hS5.2⟩
        have HMS : Hid (M9P w (w5.setCell ⟨w.heap.size + 1 + 1 + 1, 2, none⟩ (.slice (some ⟨g2, 0, none⟩) (pa.length + 1) cap2)) (.slice a0 l0.length p0) (.slice a1 l1.length p1) (.slice (some ⟨b, off, none⟩) l2.length p2) (k + 1)) := Lib.hid ⟨_, pa ++ [y], by rw [List.length_append, HPL.out]; rfl, HPB.out.snoc HPL.out hyb.1 hyb.2, HM3.out⟩
        refine hK.out _ _ (hS5) (fun hHeld => ?_)
        clear hK K
        try simp only [Act.put, List.setIfInBounds_toArray, List.set_cons_zero, List.set_cons_succ, List.getElem_toArray, List.getElem_cons_zero, List.getElem_cons_succ]
        refine wpAnyH_take (i := 18) (v := ?v18) rfl (by kernel_rfl) (by kernel_rfl) (by kernel_rfl) (fun _ _ _ h => h) (Or.inl ⟨by rfl, ?y18⟩) (by assumption) ?r18
        case y18 => (intro w hSw; (try dsimp only at hSw); go_simp; try with_reducible rfl)
        try simp only [Act.put, List.setIfInBounds_toArray, List.set_cons_zero, List.set_cons_succ, List.getElem_toArray, List.getElem_cons_zero, List.getElem_cons_succ]
        refine wpAnyH_ready (rs := [19]) (by kernel_rfl) (by simp) ?_
        refine AllReadyH.cons rfl (fun K hK => ?_) AllReadyH.nil
        go_simp
        refine hK.out _ _ (hS6) (fun hHeld => ?_)
        clear hK K
        try simp only [Act.put, List.setIfInBounds_toArray, List.set_cons_zero, List.set_cons_succ, List.getElem_toArray, List.getElem_cons_zero, List.getElem_cons_succ]
        refine wpAnyH_done (by kernel_rfl) ?_ _
        go_wp2
        go_roundw
        case rel => exact ⟨k + 1, by omega, by go_num, HMS.out⟩
        case measure => simp [intOf]; omega
      · go_simp
        refine hK.out _ _ (hSa) (fun hHeld => ?_)
        clear hK K
        try simp only [Act.put, List.setIfInBounds_toArray, List.set_cons_zero, List.set_cons_succ, List.getElem_toArray, List.getElem_cons_zero, List.getElem_cons_succ]
        refine wpAnyH_ready (rs := [1]) (by kernel_rfl) (by simp) ?_
        refine AllReadyH.cons rfl (fun K hK => ?_) AllReadyH.nil
        go_simp
        refine hK.out _ _ (hHeld) (fun hHeld => ?_)
        clear hK K
        try simp only [Act.put, List.setIfInBounds_toArray, List.set_cons_zero, List.set_cons_succ, List.getElem_toArray, List.getElem_cons_zero, List.getElem_cons_succ]
        refine wpAnyH_ready (rs := [17]) (by kernel_rfl) (by simp) ?_
        refine AllReadyH.cons rfl (fun K hK => ?_) AllReadyH.nil
        refine step_push9 ki_ok (wr := wd) (by rfl) _ _ (by rfl) (w.heap.size + 1 + 1) (.slice sa pa.length sc) pa y #[.int .i64 y] rfl (by rfl) HMD.out.R.p (by rfl) (by omega) (by omega) ?_
        intro g2 cap2 w5 ho2 hb2 hk2 hat2 hlt2
        obtain ⟨e0, e1, e2, ef⟩ := HMD.out.cells hk2 HMD.out.R.n2
        have ef2 := ef 2 (by decide)
        have HM3 := Lib.hid (HMD.out.put2 ho2 hb2 hk2 hat2)
        have hS5 : w5.cell? ⟨w.heap.size, 2, none⟩ = some (.slice (some ⟨b, off, none⟩) l2.length p2) ∧ w5.cell? ⟨b, off + k, none⟩ = some (.int .i64 z) := ⟨(World.cell?_of_block (hb2.block w.heap.size (by omega))).trans hHw.1, (World.cell?_of_block (hb2.block b (by omega))).trans hHw.2⟩
        have hS6 : (w5.setCell ⟨w.heap.size + 1 + 1 + 1, 2, none⟩ (.slice (some ⟨g2, 0, none⟩) (pa.length + 1) cap2)).cell? ⟨w.heap.size, 2, none⟩ = some (.slice (some ⟨b, off, none⟩) l2.length p2) ∧ (w5.setCell ⟨w.heap.size + 1 + 1 + 1, 2, none⟩ (.slice (some ⟨g2, 0, none⟩) (pa.length + 1) cap2)).cell? ⟨b, off + k, none⟩ = some (.int .i64 z) := ⟨(World.cell?_of_block (Below.heap_setCell _ _ _ _ (by show w.heap.size ≠ w.heap.size + 1 + 1 + 1; omega))).trans hS5.1, (World.cell?_of_block (Below.heap_setCell _ _ _ _ (by show b ≠ w.heap.size + 1 + 1 + 1; omega))).trans hS5.2⟩
        have HMS : Hid (M9P w (w5.setCell ⟨w.heap.size + 1 + 1 + 1, 2, none⟩ (.slice (some ⟨g2, 0, none⟩) (pa.length + 1) cap2)) (.slice a0 l0.length p0) (.slice a1 l1.length p1) (.slice (some ⟨b, off, none⟩) l2.length p2) (k + 1)) := Lib.hid ⟨_, pa ++ [y], by rw [List.length_append, HPL.out]; rfl, HPB.out.snoc HPL.out hyb.1 hyb.2, HM3.out⟩
        refine hK.out _ _ (hS5) (fun hHeld => ?_)
        clear hK K
        try simp only [Act.put, List.setIfInBounds_toArray, List.set_cons_zero, List.set_cons_succ, List.getElem_toArray, List.getElem_cons_zero, List.getElem_cons_succ]
        refine wpAnyH_take (i := 18) (v := ?v18b) rfl (by kernel_rfl) (by kernel_rfl) (by kernel_rfl) (fun _ _ _ h => h) (Or.inl ⟨by rfl, ?y18b⟩) (by assumption) ?r18b
        case y18b => (intro w hSw; (try dsimp only at hSw); go_simp; try with_reducible rfl)
        try simp only [Act.put, List.setIfInBounds_toArray, List.set_cons_zero, List.set_cons_succ, List.getElem_toArray, List.getElem_cons_zero, List.getElem_cons_succ]
        refine wpAnyH_ready (rs := [19]) (by kernel_rfl) (by simp) ?_
        refine AllReadyH.cons rfl (fun K hK => ?_) AllReadyH.nil
        go_simp
        refine hK.out _ _ (hS6) (fun hHeld => ?_)
        clear hK K
        try simp only [Act.put, List.setIfInBounds_toArray, List.set_cons_zero, List.set_cons_succ, List.getElem_toArray, List.getElem_cons_zero, List.getElem_cons_succ]
        refine wpAnyH_done (by kernel_rfl) ?_ _
        go_wp2
        go_roundw
        case rel => exact ⟨k + 1, by omega, by go_num, HMS.out⟩
        case measure => simp [intOf]; omega
    · rcases (show (decide (k < l2.length) = false) ∨ (decide (k < l2.length) = true ∧ decide ((k : Int) < 5) = false) by simp; omega) with hd | ⟨hd, hd2⟩
      all_goals
        clear hgo
        have HR0 : Hid (M9R w wr (.slice a0 l0.length p0) (.slice a1 l1.length p1) (.slice a2 l2.length p2) (k + 1) 0 []) := Lib.hid ⟨_, _, pa, HPL.out, HPB.out, Ends.nil, by simp, HM.out⟩
        obtain ⟨N, hN⟩ : ∃ N, N = k + 1 := ⟨_, rfl⟩
        rw [← hN] at HR0
        have hN1 : 1 ≤ N := by omega
        have hN6 : N ≤ 6 := by omega
        clear HM HPL HPB hbs hol hN c0 c1 c2 hf
        go_wp2_with fail
        clear hd
        try clear hd2
        clear s0 s1 s2 hk
        go_loopw [5, 6] (fun s i wr => ∃ (j : Nat) (us : List (List UInt8)), j ≤ 6 ∧ i = .int .i64 j ∧ s = .string ⟨(Km.lastL [] us).toArray⟩ ∧ M9R w wr (.slice a0 l0.length p0) (.slice a1 l1.length p1) (.slice a2 l2.length p2) N j us) (fun _ i _ => 6 - (intOf i).toNat)
        case atStart => exact ⟨0, [], by omega, rfl, rfl, HR0.out⟩
        case round =>
          clear HR0
          obtain ⟨j, us, hj, rfl, rfl, u0, u2, pa, hpl, hpb, hE, hul, hM⟩ := hrel
          obtain ⟨ta, tc, hu2⟩ := hM.R.p.shape
          dsimp only at hu2
          rw [hpl] at hu2
          subst hu2
          obtain ⟨s0, s1, s2, _⟩ := hM.S
          have HPB := Lib.hid hpb
          clear hpb
          have HM := Lib.hid hM
          have HPL := Lib.hid hpl
          have HE := Lib.hid hE
          obtain ⟨c0, c1, c2, hf⟩ := hM.R.v
          obtain ⟨sa, sc, rfl⟩ := hM.R.r.shape
          dsimp only at c0 HM
          have hol : (wbas (Km.preL [] us)).length ≤ 7 := by rw [wbas_len, Km.pre_len]; omega
          have hbs := hM.R.v.lt
          have hlz := last_len1 hE
          clear hM hpl hE
          by_cases hgo : j < l0.length ∧ j < 6
          · obtain ⟨hj1, hj2⟩ := hgo
            have hji : (j : Int) < (l0.length : Int) := by omega
            have hji2 : (j : Int) < 6 := by omega
            obtain ⟨b, off, rfl, hbl, cc⟩ := (HI0.out.below HM.out.B).int j hj1
            have hz := HZ0.out _ (List.getElem_mem hj1)
            generalize l0[j] = z at cc hz
            obtain ⟨hz1, hz2⟩ := hz
            obtain ⟨ht1, ht2⟩ := tmod_bd z 26 (by omega)
            generalize ht : z.tmod 26 = t at ht1 ht2
            obtain ⟨c, hc⟩ : ∃ c : UInt8, c.toNat = 97 + (t % 26).toNat := ⟨UInt8.ofNat (97 + (t % 26).toNat), by rw [UInt8.toNat_ofNat']; omega⟩
            have hcv : ∀ (w' : World) (b off : Nat), w'.cell? ⟨b, off, none⟩ = some (.int .u8 (97 + t % 26)) → _ := fun w' b off h => kconv_one w' b off c _ (by omega) h
            have HC1 : Hid (97 ≤ c.toNat ∧ c.toNat ≤ 122) := Lib.hid (by omega)
            have HMX := Lib.hid (HM.out.below (balloc (Below.refl _ wr) (.cells #[.int .u8 (97 + t % 26)] 5)))
            clear hc
            go_upto_region 11 with fail
            generalize wr.alloc (.cells #[.int .u8 (97 + t % 26)] 5) = wx at *
            clear hcv cc HM c0 c1 c2 hf hbl s0 s1 s2
            have hgt := Km.bl_gtr (Km.lastL [] us) [c]
            have HNE : Hid (Op.bytesLess (Km.lastL [] us) [c] = true → Ends (us ++ [[c]])) := Lib.hid (fun h => HE.out.snoc c HC1.out.1 HC1.out.2 h)
            have HPR : Hid (wbas (Km.preL [] us) ++ [((⟨(Km.lastL [] us).toArray⟩ : ByteArray), (⟨#[c]⟩ : ByteArray))] = wbas (Km.preL [] (us ++ [[c]]))) := Lib.hid (by rw [Km.pre_snoc]; simp [wbas])
            have HLS : Hid (Km.lastL [] (us ++ [[c]]) = [c]) := Lib.hid (Km.last_snoc _ _ _)
            have hbx := HMX.out.R.v.lt
            obtain ⟨c0, c1, c2, hf⟩ := HMX.out.R.v
            have hul2 : us.length ≤ j + 1 := by omega
            cases hls : Op.bytesLess (Km.lastL [] us) [c] with
            | false =>
              rw [hls] at hgt
              have t1 : (!Op.bytesLess [c] (⟨(Km.lastL [] us).toArray⟩ : ByteArray).toList && ![c] == (⟨(Km.lastL [] us).toArray⟩ : ByteArray).toList) = false := by rw [strl7]; exact hgt
              have HRL : Hid (M9R w wx (.slice (some ⟨b, off, none⟩) l0.length p0) (.slice a1 l1.length p1) (.slice a2 l2.length p2) N (j + 1) us) := Lib.hid ⟨_, _, pa, HPL.out, HPB.out, HE.out, hul2, HMX.out⟩
              clear hls hgt HNE HPR HLS HMX HE
              have HL : Hid (∃ L : ByteArray, L = ⟨(Km.lastL [] us).toArray⟩) := Lib.hid ⟨_, rfl⟩
              generalize hL : (⟨(Km.lastL [] us).toArray⟩ : ByteArray) = L at *
              have HLL := Lib.hid hL
              clear hL
              have t2 : Op.bytesLess [c] L.toList = true ∨ (Op.bytesLess [c] L.toList = false ∧ ([c] == L.toList) = true) := by
                cases hx : Op.bytesLess [c] L.toList with
                | true => exact .inl rfl
                | false =>
                  rw [hx] at t1
                  exact .inr ⟨rfl, by simpa using t1⟩
              clear t1
              rcases t2 with t2 | ⟨t2, t3⟩
              all_goals
                go_wp2
                go_roundw
                case rel => exact ⟨j + 1, us, by omega, by go_num, by rw [HLL.out], HRL.out⟩
                case measure => simp [intOf]; omega
            | true =>
              rw [hls] at hgt
              have t1 : (!Op.bytesLess [c] (⟨(Km.lastL [] us).toArray⟩ : ByteArray).toList && ![c] == (⟨(Km.lastL [] us).toArray⟩ : ByteArray).toList) = true := by rw [strl7]; exact hgt
              have HNE2 := Lib.hid (HNE.out hls)
              have HLT2 : Hid ((us ++ [[c]]).length ≤ j + 1) := Lib.hid (by simp; omega)
              clear hls hgt HNE HE
              generalize (⟨(Km.lastL [] us).toArray⟩ : ByteArray) = L at *
              generalize wbas (Km.preL [] us) = acc at *
              go_wp2_with (at_builtin; refine wp_pushR kr_ok (wr := wx) rfl _ _ rfl (w.heap.size + 1 + 1) (.slice sa acc.length sc) acc (L, ⟨#[c]⟩) #[.string L, .string ⟨#[c]⟩] rfl rfl HMX.out.R.r rfl (by omega) (by omega) ?_; intro g2 cap2 w2 ho2 hb2 hk2 hat2 hlt2; obtain ⟨d0, d1, d2, df⟩ := HMX.out.cells hk2 HMX.out.R.n0; have f2 := df 0 (by decide))
              have hM3 := HMX.out.put0 ho2 hb2 hk2 hat2
              rw [HPR.out] at hM3
              go_wp2
              go_roundw
              case rel => exact ⟨j + 1, us ++ [[c]], by omega, by go_num, by rw [HLS.out], _, _, pa, HPL.out, HPB.out, HNE2.out, HLT2.out, hM3⟩
              case measure => simp [intOf]; omega
          · have HPR : Hid (wbas (Km.preL [] us) ++ [((⟨(Km.lastL [] us).toArray⟩ : ByteArray), (⟨#[]⟩ : ByteArray))] = wbas (Km.chainL [] us)) := Lib.hid (by rw [Km.pre_chain]; simp [wbas])
            have hrl : (wbas (Km.chainL [] us)).length ≤ 8 := by rw [wbas_len, Km.chain_len]; omega
            generalize (⟨(Km.lastL [] us).toArray⟩ : ByteArray) = L at *
            generalize wbas (Km.preL [] us) = acc at *
            rcases (show (decide (j < l0.length) = false) ∨ (decide (j < l0.length) = true ∧ decide ((j : Int) < 6) = false) by simp; omega) with hd | ⟨hd, hd2⟩
            all_goals
              clear hgo
              go_wp2_with (at_builtin; refine wp_pushR kr_ok (wr := wr) rfl _ _ rfl (w.heap.size + 1 + 1) (.slice sa acc.length sc) acc (L, ⟨#[]⟩) #[.string L, .string ⟨#[]⟩] rfl rfl HM.out.R.r rfl (by omega) (by omega) ?_; intro g2 cap2 w2 ho2 hb2 hk2 hat2 hlt2; obtain ⟨d0, d1, d2, df⟩ := HM.out.cells hk2 HM.out.R.n0; have f2 := df 0 (by decide))
              have hM3 := HM.out.put0 ho2 hb2 hk2 hat2
              rw [HPR.out] at hM3
              have HMO : Hid (M9O w (w2.setCell ⟨w.heap.size + 1 + 1 + 1, 0, none⟩ (.slice (some ⟨g2, 0, none⟩) (acc.length + 1) cap2)) (.slice a0 l0.length p0) (.slice a1 l1.length p1) (.slice a2 l2.length p2) N 0 us) := Lib.hid ⟨_, _, _, [], pa, HPL.out, HPB.out, rfl, by simp, hM3⟩
              have c2w := hM3.R.v.c2
              clear hM3 d0 d1 d2 df f2 ho2 hb2 hk2 hat2 hlt2 c0 c1 c2 hf HM HPR s0 s1 s2
              generalize w2.setCell ⟨w.heap.size + 1 + 1 + 1, 0, none⟩ (.slice (some ⟨g2, 0, none⟩) (acc.length + 1) cap2) = w3 at *
              have HUL : Hid (us.length ≤ 7) := Lib.hid (by omega)
              clear hd hlz hul hbs hol
              try clear hd2
              go_wp2_with fail
              go_loop [8, 9] (fun p i => ∃ m q : Nat, m ≤ N ∧ i = .int .i64 m ∧ p = .int .i64 (q : Int) ∧ q = 2 ^ m) (fun _ i => N - (intOf i).toNat)
              case atStart => exact ⟨0, 1, by omega, rfl, rfl, rfl⟩
              case round =>
                obtain ⟨m, q, hm, rfl, rfl, hq⟩ := hrel
                have hq6 : q ≤ 64 := by rw [hq]; exact Nat.pow_le_pow_right (n := 2) (by omega) (show m ≤ 6 by omega)
                have HQ := Lib.hid hq
                clear hq
                by_cases hlt : m < N
                · have hmi : (m : Int) < (N : Int) := by omega
                  go_wp2
                  go_round
                  case rel => exact ⟨m + 1, q * 2, by omega, by go_num, by go_num, by rw [HQ.out, Nat.pow_succ]⟩
                  case measure => simp [intOf]; omega
                · obtain rfl : m = N := by omega
                  have hq2 : 2 ≤ q := by
                    have h2 := Nat.pow_le_pow_right (n := 2) (by omega) hN1
                    rw [HQ.out]
                    rwa [Nat.pow_one] at h2
                  clear hm hlt
                  go_wp2_with fail
                  go_loopw [10] (fun i wr => ∃ x : Nat, x ≤ (wbas (Km.chainL [] us)).length ∧ i = .int .i64 x ∧ M9O w wr (.slice a0 l0.length p0) (.slice a1 l1.length p1) (.slice a2 l2.length p2) m x us) (fun i _ => (wbas (Km.chainL [] us)).length - (intOf i).toNat)
                  case atStart => exact ⟨0, by omega, rfl, HMO.out⟩
                  case round =>
                    clear HMO
                    obtain ⟨x, hx, rfl, t0, t1, t2, ow, pa2, hpl, hpb2, how, hob, hM⟩ := hrel
                    obtain ⟨s0, s1, s2, _⟩ := hM.S
                    have HPB2 := Lib.hid hpb2
                    clear hpb2
                    have HM := Lib.hid hM
                    have HPL2 := Lib.hid hpl
                    have HOW := Lib.hid how
                    have HOB := Lib.hid hob
                    obtain ⟨c0, c1, c2, hf⟩ := hM.R.v
                    obtain ⟨ra, rc, rfl⟩ := hM.R.r.shape
                    obtain ⟨sa, sc, rfl⟩ := hM.R.o.shape
                    obtain ⟨za, zc, rfl⟩ := hM.R.p.shape
                    dsimp only at c0 c1 c2 HM
                    have hbs := hM.R.v.lt
                    have hol : ow.length ≤ 8 := by omega
                    clear hM hpl how hob
                    generalize hrs : wbas (Km.chainL [] us) = rs at *
                    have HRS := Lib.hid hrs
                    clear hrs
                    by_cases hgo : x < rs.length
                    · have hgi : (x : Int) < (rs.length : Int) := by omega
                      have hsn : ∀ o : Int, 1 ≤ o → o < (q : Int) → ∀ y ∈ ow ++ [o], 1 ≤ y ∧ y < ((2 ^ m : Nat) : Int) := by
                        intro o h1 h2 y hy
                        rcases List.mem_append.1 hy with h3 | h3
                        · exact HOB.out y h3
                        · obtain rfl : y = o := by simpa using h3
                          rw [← HQ.out]
                          exact ⟨h1, h2⟩
                      have HSN := Lib.hid hsn
                      clear hsn
                      by_cases hown : x < l1.length
                      · have hoi : (x : Int) < (l1.length : Int) := by omega
                        obtain ⟨b, off, rfl, hbl, cc⟩ := (HI1.out.below HM.out.B).int x hown
                        have hz := HZ1.out _ (List.getElem_mem hown)
                        generalize l1[x] = z at cc hz
                        obtain ⟨hz1, hz2⟩ := hz
                        obtain ⟨ht1, ht2⟩ := tmod_bd z ((q : Int) - 1) (by omega)
                        generalize ht : z.tmod ((q : Int) - 1) = t at ht1 ht2
                        go_upto_region 26 with fail
                        have ho1 := Int.emod_nonneg (t + (q : Int) - 1) (b := (q : Int) - 1) (by omega)
                        have ho2 := Int.emod_lt_of_pos (t + (q : Int) - 1) (b := (q : Int) - 1) (by omega)
                        generalize (t + (q : Int) - 1) % ((q : Int) - 1) = o at *
                        clear ht ht1 ht2 cc
                        have HSN2 := Lib.hid (HSN.out (1 + o) (by omega) (by omega))
                        have HLN : Hid ((ow ++ [1 + o]).length = x + 1) := Lib.hid (by rw [List.length_append, HOW.out]; rfl)
                        go_wp2_with (at_builtin; refine wp_pushR ki_ok (wr := wr) rfl _ _ rfl (w.heap.size + 1 + 1) (.slice sa ow.length sc) ow (1 + o) #[.int .i64 (1 + o)] rfl rfl HM.out.R.o rfl (by omega) (by omega) ?_; intro g3 cap3 w4 hoo3 hb3 hk3 hat3 hlt3; obtain ⟨d0, d1, d2, df⟩ := HM.out.cells hk3 HM.out.R.n1; have f2 := df 1 (by decide))
                        have hM3 := HM.out.put1 hoo3 hb3 hk3 hat3
                        go_roundw
                        case rel => exact ⟨x + 1, by omega, by go_num, _, _, _, _, pa2, HPL2.out, HPB2.out, HLN.out, HSN2.out, by rw [HRS.out]; exact hM3⟩
                        case measure => simp [intOf]; omega
                      · have hoi : ¬ (x : Int) < (l1.length : Int) := by omega
                        have HSN2 := Lib.hid (HSN.out 1 (by omega) (by omega))
                        have HLN : Hid ((ow ++ [1]).length = x + 1) := Lib.hid (by rw [List.length_append, HOW.out]; rfl)
                        go_wp2_with (at_builtin; refine wp_pushR ki_ok (wr := wr) rfl _ _ rfl (w.heap.size + 1 + 1) (.slice sa ow.length sc) ow 1 #[.int .i64 1] rfl rfl HM.out.R.o rfl (by omega) (by omega) ?_; intro g3 cap3 w4 hoo3 hb3 hk3 hat3 hlt3; obtain ⟨d0, d1, d2, df⟩ := HM.out.cells hk3 HM.out.R.n1; have f2 := df 1 (by decide))
                        have hM3 := HM.out.put1 hoo3 hb3 hk3 hat3
                        go_roundw
                        case rel => exact ⟨x + 1, by omega, by go_num, _, _, _, _, pa2, HPL2.out, HPB2.out, HLN.out, HSN2.out, by rw [HRS.out]; exact hM3⟩
                        case measure => simp [intOf]; omega
                    · obtain rfl : x = rs.length := by omega
                      have hOK : chk9 ⟨rs, ow, pa2⟩ = true := by
                        refine made9_ok HE.out HUL.out HRS.out.symm (by rw [HPL2.out]; exact ⟨hN1, hN6⟩) HOW.out HPB2.out ?_
                        rw [HPL2.out]
                        exact HOB.out
                      have hsz : Szs rs := by rw [← HRS.out]; exact wbas_szs HE.out
                      obtain ⟨e1, e2, e3⟩ := HM.out.fin hsz
                      have HOK := Lib.hid hOK
                      have HE1 := Lib.hid e1
                      have HE3 := Lib.hid e3
                      have hfr := HM.out.V.f
                      have hv0 := HM.out.V.c0
                      have hv1 := HM.out.V.c1
                      have hv2 := HM.out.V.c2
                      have q0 := hfr 0 (by decide)
                      have q1 := hfr 1 (by decide)
                      have q2 := hfr 2 (by decide)
                      clear hOK hsz e1 e3 hfr s0 s1 s2
                      go_wp2
                      obtain ⟨r0, r1, r2, _⟩ := e2
                      refine bodyPost_ret (v := .agg #[.slice ra rs.length rc, .slice sa ow.length sc, .slice za pa2.length zc]) (by simp [results, Try.results10, go_sem, r0, r1, r2]) rfl ⟨_, _, _, _, rfl, HE1.out, HOK.out, HE3.out, HM.out.R.d02, HM.out.R.d12⟩
theorem row9_any (v0 v1 v2 : Value) (l0 l1 l2 : List Int) (w : World) (h0 : RowAt KI w v0 l0) (h1 : RowAt KI w v1 l1) (h2 : RowAt KI w v2 l2) (hb0 : ∀ z ∈ l0, -9223372036854775808 ≤ z ∧ z ≤ 9223372036854775807) (hb1 : ∀ z ∈ l1, -9223372036854775808 ≤ z ∧ z ≤ 9223372036854775807) (hb2 : ∀ z ∈ l2, -9223372036854775808 ≤ z ∧ z ≤ 9223372036854775807) :
    Calls Try.prog 10 #[.agg #[v0, v1, v2]] w (MadePost9 w) :=
  (row9N_any v0 v1 v2 l0 l1 l2 w h0 h1 h2 hb0 hb1 hb2).mono fun e w' ⟨c, u0, u1, u2, a, b, d, f, _⟩ => ⟨c, u0, u1, u2, a, b, d, f⟩
end Go.Proofs.Ythjjidfoclcghaa
