/- Texts of this proof, one behind the other: ShPut, ShPutM, ShPutW. -/
import Derived.Test.YtjfmgplhcinkfaaGreatGP13
import Derived.Deep.DeepCutAuto
/- What a shard's At answers; what Put does. -/
namespace Go.Proofs.YtjfmgplhcinkfaaGreat
open Go.RowKit
set_option linter.unusedVariables false
set_option linter.unusedSimpArgs false

section
variable {w : World} {S : Nat → Prop} {b : Nat} {R : List (ByteArray × ByteArray)} {L : List ByteArray} {F : Ch}
set_option maxRecDepth 100000 in
set_option maxHeartbeats 1600000 in
theorem satC_any (p : Value) (k : ByteArray) (s : Int × Int) (xs : List Vw) (w : World) (hl : xs.length ≤ 1000000) (hp : ∃ a, p = .pointer a)
    (hc : ∀ W, Below w.heap.size w W → Calls Tryz.prog 40 #[p, .string k] W fun e w' => W = w' ∧ ∃ v, e = .returned v ∧ WRow W v xs) :
    Calls Tryz.prog 12 #[p, .string k, sv s] w fun e w' => e = .returned (.tuple #[wV ((lastP (isS s) xs).getD vw0), .bool (lastP (isS s) xs).isSome]) ∧ Below w.heap.size w w' := by
  obtain ⟨pa, rfl⟩ := hp
  obtain ⟨W1, hW1⟩ : ∃ W1, (w.alloc (.cells #[.int .i64 s.1, .int .i64 s.2] 33)).alloc (.cells #[.string ⟨#[]⟩, .string ⟨#[]⟩, .bool false, .int .i64 0, .int .i64 0, .slice none 0 0] 36) = W1 := ⟨_, rfl⟩
  have hs1 : (w.alloc (.cells #[.int .i64 s.1, .int .i64 s.2] 33)).heap.size = w.heap.size + 1 := by simp
  have hbA : Below w.heap.size w (w.alloc (.cells #[.int .i64 s.1, .int .i64 s.2] 33)) := balloc (Below.refl _ w) _
  have hb1 : Below w.heap.size w W1 := by rw [← hW1]; exact balloc hbA _
  have hbB : Below (w.heap.size + 1) (w.alloc (.cells #[.int .i64 s.1, .int .i64 s.2] 33)) W1 := by rw [← hW1, ← hs1]; exact balloc (Below.refl _ _) _
  have q0 : W1.cell? ⟨w.heap.size, 0, none⟩ = some (.int .i64 s.1) := (hbB.cell (p := ⟨w.heap.size, 0, none⟩) (by show w.heap.size < _; omega)).trans (by simp)
  have q1 : W1.cell? ⟨w.heap.size, 1, none⟩ = some (.int .i64 s.2) := (hbB.cell (p := ⟨w.heap.size, 1, none⟩) (by show w.heap.size < _; omega)).trans (by simp)
  have hV : VwP W1 (w.heap.size + 1) wz (.slice none 0 0) := by
    have := VwP.new (w.alloc (.cells #[.int .i64 s.1, .int .i64 s.2] 33)) wz (.slice none 0 0) 36
    rw [hs1] at this
    rw [← hW1]
    exact this
  have hc1 := hc W1.drew hb1.drew
  have hat := fun W v h => cat_any v xs s W hl h
  generalize (lastP (isS s) xs).isSome = c at hat ⊢
  generalize (lastP (isS s) xs).getD vw0 = x at hat ⊢
  have HV := Lib.hid hV
  have HB1 := Lib.hid hb1
  have HPUT := Lib.hid (fun (W : World) (h : VwP W (w.heap.size + 1) wz (.slice none 0 0)) => h.putw x.1 (pw x))
  have HBP := Lib.hid (fun (W : World) (h : Below w.heap.size w W) => below_putw h (show w.heap.size ≤ w.heap.size + 1 by omega) x.1 (pw x))
  have HBQ := Lib.hid (fun (W : World) (h : W.cell? ⟨w.heap.size, 0, none⟩ = some (.int .i64 s.1) ∧ W.cell? ⟨w.heap.size, 1, none⟩ = some (.int .i64 s.2)) => And.intro (((below_putw (Below.refl (w.heap.size + 1) W) (Nat.le_refl _) x.1 (pw x)).cell (p := ⟨w.heap.size, 0, none⟩) (Nat.lt_succ_self _)).trans h.1) (((below_putw (Below.refl (w.heap.size + 1) W) (Nat.le_refl _) x.1 (pw x)).cell (p := ⟨w.heap.size, 1, none⟩) (Nat.lt_succ_self _)).trans h.2))
  obtain ⟨⟨key, val, gone, ⟨m, t⟩, past⟩, pa', pc⟩ := x
  obtain ⟨s0, s1⟩ := s
  dsimp only [wV, wcs, wvs, pw, World.putw] at *
  clear hV hb1 hbA hbB hc
  go_enter Tryz.func12, Tryz.ntmps12
  go_upto_region 1 with fail
  try rw [hW1]
  try rw [hs1]
  clear hW1 hs1
  have g0 : W1.drew.cell? ⟨w.heap.size, 0, none⟩ = some (.int .i64 s0) ∧ W1.drew.cell? ⟨w.heap.size, 1, none⟩ = some (.int .i64 s1) := ⟨q0, q1⟩
  clear q0 q1
  have HV0 := Lib.hid (HV.out.keep ((Below.refl _ W1).drew))
  refine wp_region_held_drew (S := fun w' => w'.cell? ⟨w.heap.size, 0, none⟩ = some (.int .i64 s0) ∧ w'.cell? ⟨w.heap.size, 1, none⟩ = some (.int .i64 s1)) (by kernel_rfl) (g0) (fun hHeld => ?_)
  refine wpAnyH_take (i := 0) (v := ?va0) rfl (by kernel_rfl) (by kernel_rfl) (by kernel_rfl) (fun _ _ _ h => h) (Or.inl ⟨by rfl, ?ya0⟩) (by assumption) ?ra0
  case ya0 => (intro w hSw; (try dsimp only at hSw); go_simp; try with_reducible rfl)
  try simp only [Act.put, List.setIfInBounds_toArray, List.set_cons_zero, List.set_cons_succ, List.getElem_toArray, List.getElem_cons_zero, List.getElem_cons_succ]
  refine wpAnyH_take (i := 1) (v := ?va1) rfl (by kernel_rfl) (by kernel_rfl) (by kernel_rfl) (fun _ _ _ h => h) (Or.inl ⟨by rfl, ?ya1⟩) (by assumption) ?ra1
  case ya1 => (intro w hSw; (try dsimp only at hSw); go_simp; try with_reducible rfl)
  try simp only [Act.put, List.setIfInBounds_toArray, List.set_cons_zero, List.set_cons_succ, List.getElem_toArray, List.getElem_cons_zero, List.getElem_cons_succ]
  refine wpAnyH_take (i := 3) (v := ?va3) rfl (by kernel_rfl) (by kernel_rfl) (by kernel_rfl) (fun _ _ _ h => h) (Or.inl ⟨by rfl, ?ya3⟩) (by assumption) ?ra3
  case ya3 => (intro w hSw; (try dsimp only at hSw); go_simp; try with_reducible rfl)
  try simp only [Act.put, List.setIfInBounds_toArray, List.set_cons_zero, List.set_cons_succ, List.getElem_toArray, List.getElem_cons_zero, List.getElem_cons_succ]
  refine wpAnyH_ready (rs := [2]) (by kernel_rfl) (by simp) ?_
  refine AllReadyH.cons rfl (fun K hK => ?_) AllReadyH.nil
  go_simp
  go_at_call 40
  refine (hc1).mono ?_
  rintro e w3 ⟨rfl, v, rfl, hrow⟩
  obtain ⟨sa, sc, rfl, _, _, _⟩ := hrow.shape
  have hh := hat _ _ hrow
  clear hat hc1 hrow
  go_wp2_with fail
  refine hK.out _ _ (g0) (fun hHeld => ?_)
  clear hK K
  try simp only [Act.put, List.setIfInBounds_toArray, List.set_cons_zero, List.set_cons_succ, List.getElem_toArray, List.getElem_cons_zero, List.getElem_cons_succ]
  refine wpAnyH_ready (rs := [4]) (by kernel_rfl) (by simp) ?_
  refine AllReadyH.cons rfl (fun K hK => ?_) AllReadyH.nil
  go_simp
  go_at_call 39
  refine (hh).mono ?_
  rintro e w4 ⟨rfl, hb4⟩
  have g1 := And.intro (kc hb4 g0.1) (kc hb4 g0.2)
  have HV1 := Lib.hid (HV0.out.keep hb4)
  have HBE := Lib.hid (HBP.out _ (bstep HB1.out.drew hb4))
  have HP := Lib.hid (HPUT.out _ HV1.out)
  obtain ⟨z0, z1, z2, z3, z4, z5, zf⟩ := HV1.out
  have zf0 := zf 0 (by decide)
  have zf1 := zf 1 (by decide)
  have zf2 := zf 2 (by decide)
  have zf3 := zf 3 (by decide)
  have zf4 := zf 4 (by decide)
  have zf5 := zf 5 (by decide)
  dsimp only [wz] at z0 z1 z2 z3 z4 z5
  have HS5 := Lib.hid (HBQ.out w4 g1)
  clear zf hb4 hh HBQ HV0 HPUT HBP HV HB1
  go_wp2_with fail
  refine hK.out _ _ (g1) (fun hHeld => ?_)
  clear hK K
  try simp only [Act.put, List.setIfInBounds_toArray, List.set_cons_zero, List.set_cons_succ, List.getElem_toArray, List.getElem_cons_zero, List.getElem_cons_succ]
  refine wpAnyH_take (i := 5) (v := ?va5) rfl (by kernel_rfl) (by kernel_rfl) (by kernel_rfl) (fun _ _ _ h => h) (Or.inl ⟨by rfl, ?ya5⟩) (by assumption) ?ra5
  case ya5 => (intro w hSw; (try dsimp only at hSw); go_simp; try with_reducible rfl)
  try simp only [Act.put, List.setIfInBounds_toArray, List.set_cons_zero, List.set_cons_succ, List.getElem_toArray, List.getElem_cons_zero, List.getElem_cons_succ]
  refine wpAnyH_take (i := 6) (v := ?va6) rfl (by kernel_rfl) (by kernel_rfl) (by kernel_rfl) (fun _ _ _ h => h) (Or.inl ⟨by rfl, ?ya6⟩) (by assumption) ?ra6
  case ya6 => (intro w hSw; (try dsimp only at hSw); go_simp; try with_reducible rfl)
  try simp only [Act.put, List.setIfInBounds_toArray, List.set_cons_zero, List.set_cons_succ, List.getElem_toArray, List.getElem_cons_zero, List.getElem_cons_succ]
  refine wpAnyH_ready (rs := [7]) (by kernel_rfl) (by simp) ?_
  refine AllReadyH.cons rfl (fun K hK => ?_) AllReadyH.nil
  go_simp
  refine hK.out _ _ (HS5.out) (fun hHeld => ?_)
  clear hK K
  try simp only [Act.put, List.setIfInBounds_toArray, List.set_cons_zero, List.set_cons_succ, List.getElem_toArray, List.getElem_cons_zero, List.getElem_cons_succ]
  refine wpAnyH_take (i := 8) (v := ?va8) rfl (by kernel_rfl) (by kernel_rfl) (by kernel_rfl) (fun _ _ _ h => h) (Or.inl ⟨by rfl, ?ya8⟩) (by assumption) ?ra8
  case ya8 => (intro w hSw; (try dsimp only at hSw); go_simp; try with_reducible rfl)
  try simp only [Act.put, List.setIfInBounds_toArray, List.set_cons_zero, List.set_cons_succ, List.getElem_toArray, List.getElem_cons_zero, List.getElem_cons_succ]
  refine wpAnyH_done (by kernel_rfl) ?_ _
  go_wp2
  obtain ⟨r0, r1, r2, r3, r4, r5, _⟩ := HP.out
  dsimp only at r0 r1 r2 r3 r4 r5
  refine bodyPost_ret (v := .tuple #[.agg #[.string key, .string val, .bool gone, .int .i64 m, .int .i64 t, .slice pa' past.length pc], .bool c]) (by simp [results, Tryz.results12, go_sem, r0, r1, r2, r3, r4, r5]) rfl ⟨rfl, HBE.out⟩
end
end Go.Proofs.YtjfmgplhcinkfaaGreat
/- A shard in memory: a chain is put into its map. -/
namespace Go.Proofs.YtjfmgplhcinkfaaGreat
open Go.RowKit
set_option linter.unusedVariables false
set_option linter.unusedSimpArgs false

theorem gF_upd (F : Ch) (val : ByteArray → Value) (k : ByteArray) (v : Value) {c : List Vw} (hc : c ≠ []) : gF (updF F k c) (fun d => if d = k then v else val d) = updG (gF F val) k v := by
  funext d
  unfold gF updG
  by_cases e : d = k
  · subst e
    dsimp only
    rw [updF_same, if_neg hc, if_pos rfl, if_pos rfl]
  · dsimp only
    rw [updF_other _ _ e, if_neg e, if_neg e]
theorem gF_same (F F' : Ch) (val : ByteArray → Value) (h : ∀ k, F k = [] ↔ F' k = []) : gF F val = gF F' val := by
  funext d
  unfold gF
  by_cases e : F d = []
  · rw [if_pos e, if_pos ((h d).1 e)]
  · rw [if_neg e, if_neg (fun e' => e ((h d).2 e'))]
section
variable {w : World} {S : Nat → Prop} {b : Nat} {mo : Option Nat} {n : Nat} {rv : Value} {val : ByteArray → Value} {R : List (ByteArray × ByteArray)} {L : List ByteArray} {F : Ch}
theorem SdM.cnt (h : SdM w S b mo n rv val R L F) {m : Nat} (hm : mo = some m) : n = L.length := by
  obtain ⟨D, _, _, _, e⟩ := (h.mp m hm).keys (L := L) h.kl.nodup (fun s => by
    rw [h.kl.2]
    unfold gF
    constructor
    · intro hs
      exact ⟨h.ks s ((h.kl.2 s).2 hs), by rw [if_neg hs]; rfl⟩
    · rintro ⟨_, hs⟩ e
      rw [if_pos e] at hs
      cases hs)
  exact e
theorem SdM.pastNe (h : SdM w S b mo n rv val R L F) {w' : World} {m : Nat} (hm : mo = some m) (ht : w.mapTurned w' m) : ∀ d, ∀ x ∈ F d, VwB w' x := fun d x hx =>
  (h.vb d x hx).1.block (by rw [turned_size ht]; exact Nat.le_refl _) ((h.vb d x hx).2.mono fun j hj => turned_block ht j (fun e => hj (e ▸ (h.sm m hm).1)))
/-- A chain that lies apart is put in place of another one. -/
theorem SdM.put {w' : World} {m n' base : Nat} (h : SdM w S b mo n rv val R L F) (hmo : mo = some m) {k : ByteArray} (hk : k.size ≤ maxLen) {v : Value} {c : List Vw} (hc : c ≠ []) (ho : OwnR KW w base v c) (hv : ∀ g, v.ownBlock = some g → ¬ S g)
    (hm : MapZ w' m n' (updG (gF F val) k v)) (ht : w.mapTurned w' m) (hq : ∀ d, ∀ x ∈ F d, PastIn (fun j => v.ownBlock ≠ some j) x) (hcb : ∀ x ∈ c, VwB w x ∧ PastIn (fun j => ¬ S j ∧ v.ownBlock ≠ some j) x) :
    ∃ M, M.length ≤ L.length + 1 ∧ SdM w' (fun j => S j ∨ v.ownBlock = some j) b mo n' rv (fun d => if d = k then v else val d) R M (updF F k c) := by
  obtain ⟨M, hM, hl⟩ := h.kl.upd k hc
  have hS := (h.sm m hmo).1
  have hbm : b ≠ m := fun e => (h.sm m hmo).2 e.symm
  have hbb : w'.heap[b]? = w.heap[b]? := turned_block ht b hbm
  have hvm : ∀ g, v.ownBlock = some g → g ≠ m ∧ g ≠ b := fun g hg => ⟨fun e => hv g hg (e ▸ hS), fun e => hv g hg (e ▸ h.sb)⟩
  have hks : ∀ d ∈ M, d.size ≤ maxLen := fun d hd => by
    have := (hM.2 d).1 hd
    by_cases e : d = k
    · rw [e]; exact hk
    · rw [updF_other _ _ e] at this
      exact h.ks d ((h.kl.2 d).2 this)
  refine ⟨M, hl, ⟨?_, .inl h.sb, fun m' e => ⟨.inl (h.sm m' e).1, (h.sm m' e).2⟩, by rw [World.cell?_of_block hbb]; exact h.c0, by rw [World.cell?_of_block hbb]; exact h.c1, fun i => by rw [World.frozen?_of_block hbb]; exact h.fr i, ?_, ?_, hM, hks, ?_, (fun e => by rw [hmo] at e; cases e), ?_, ?_⟩⟩
  · rintro j (hj | hj)
    · rw [turned_size ht]; exact h.lt j hj
    · rw [turned_size ht]; exact (ho.lt j hj).2
  · exact h.rr.block (fun g hg => turned_block ht g (fun e => (h.ro g hg).2.2 (by rw [hmo, e])))
  · exact fun g hg => ⟨.inl (h.ro g hg).1, (h.ro g hg).2⟩
  · intro m' e
    rw [hmo] at e
    cases e
    rw [gF_upd _ _ _ _ hc]
    exact hm
  · intro d hd
    by_cases e : d = k
    · subst e
      rw [updF_same, if_pos rfl]
      exact ⟨(ho.mono (Nat.zero_le _)).block (fun g hg => turned_block ht g (hvm g hg).1), fun g hg => ⟨.inr hg, (hvm g hg).2, fun e => (hvm g hg).1 (by rw [hmo] at e; injection e with e; exact e.symm)⟩⟩
    · rw [updF_other _ _ e] at hd ⊢
      rw [if_neg e]
      have := h.rows d hd
      exact ⟨this.1.block (fun g hg => turned_block ht g (fun e => (this.2 g hg).2.2 (by rw [hmo, e]))), fun g hg => ⟨.inl (this.2 g hg).1, (this.2 g hg).2⟩⟩
  · intro d x hx
    by_cases e : d = k
    · subst e
      rw [updF_same] at hx
      have := hcb x hx
      refine ⟨this.1.block (by rw [turned_size ht]; exact Nat.le_refl _) (this.2.mono fun j hj => turned_block ht j (fun e => hj.1 (e ▸ hS))), this.2.mono fun j hj => ?_⟩
      rintro (hs | hv)
      · exact hj.1 hs
      · exact hj.2 hv
    · rw [updF_other _ _ e] at hx
      refine ⟨h.pastNe hmo ht d x hx, fun hne a ha => ?_⟩
      have h1 := (h.vb d x hx).2 hne a ha
      have h2 := hq d x hx hne a ha
      rintro (hs | hv)
      · exact h1 hs
      · exact h2 hv
/-- A chain is replaced by a part of it. -/
theorem SdM.repl {w2 w3 : World} {m n' base : Nat} (h0 : SdM w S b mo n rv val R L F) (hmo : mo = some m) (hb : Below w.heap.size w w2) {k : ByteArray} (hk : k.size ≤ maxLen) {v : Value} {c : List Vw} (hin : F k ≠ []) (hc : c ≠ []) (ho : OwnR KW w2 base v c) (hbs : w.heap.size ≤ base)
    (hm : MapZ w3 m n' (updG (gF F val) k v)) (ht : w2.mapTurned w3 m) (hsub : ∀ x ∈ c, x ∈ F k) :
    SdM w3 (fun j => S j ∨ v.ownBlock = some j) b mo n' rv (fun d => if d = k then v else val d) R L (updF F k c) := by
  have hne : ∀ {j}, j < w.heap.size → v.ownBlock ≠ some j := fun hj e => by have := (ho.lt _ e).1; omega
  obtain ⟨M, hM, hs⟩ := (h0.below hb).put hmo hk hc ho (fun g hg hs => hne (h0.lt g hs) hg) hm ht (fun d x hx => (h0.vb d x hx).1.pastLt.mono fun j hj => hne hj)
    (fun x hx => ⟨(h0.vb k x (hsub x hx)).1.below hb, fun he a ha => ⟨(h0.vb k x (hsub x hx)).2 he a ha, hne ((h0.vb k x (hsub x hx)).1.pastLt he a ha)⟩⟩)
  have hkl : KeyL (updF F k c) L := h0.kl.same (fun d => by
    by_cases e : d = k
    · subst e
      rw [updF_same]
      exact ⟨fun h => absurd h hin, fun h => absurd h hc⟩
    · rw [updF_other _ _ e])
  rw [hs.kl.uniq hkl] at hs
  exact hs
/-- Other ranges. -/
theorem SdM.rset {base : Nat} (h : SdM w S b mo n rv val R L F) {v : Value} {R' : List (ByteArray × ByteArray)} (ho : OwnR KR w base v R') (hv : ∀ g, v.ownBlock = some g → ¬ S g) (hq : ∀ d, ∀ x ∈ F d, PastIn (fun j => v.ownBlock ≠ some j) x) :
    SdM (w.setCell ⟨b, 0, none⟩ v) (fun j => S j ∨ v.ownBlock = some j) b mo n v val R' L F := by
  have hbk : ∀ j, j ≠ b → (w.setCell ⟨b, 0, none⟩ v).heap[j]? = w.heap[j]? := fun j hj => Below.heap_setCell _ _ _ _ hj
  have hvb : ∀ g, v.ownBlock = some g → g ≠ b := fun g hg e => hv g hg (e ▸ h.sb)
  refine ⟨?_, .inl h.sb, fun m e => ⟨.inl (h.sm m e).1, (h.sm m e).2⟩, World.cell?_setCell_same _ _ _ h.c0, ?_, ?_, ?_, ?_, h.kl, h.ks, ?_, h.m0, ?_, ?_⟩
  · rintro j (hj | hj)
    · have := h.lt j hj; simpa using this
    · have := (ho.lt j hj).2; simpa using this
  · rw [World.cell?_setCell_other _ _ _ _ (by simp)]
    exact h.c1
  · intro i
    simpa using h.fr i
  · exact (ho.mono (Nat.zero_le _)).block (fun g hg => hbk g (hvb g hg))
  · intro g hg
    exact ⟨.inr hg, hvb g hg, fun e => hv g hg (h.sm g e).1⟩
  · intro m e
    exact (h.mp m e).block (hbk m (h.sm m e).2)
  · intro k hk
    exact ⟨(h.rows k hk).1.block (fun g hg => hbk g ((h.rows k hk).2 g hg).2.1), fun g hg => ⟨.inl ((h.rows k hk).2 g hg).1, ((h.rows k hk).2 g hg).2⟩⟩
  · intro k x hx
    obtain ⟨h1, h2⟩ := h.vb k x hx
    refine ⟨h1.block (by simp) (h2.mono fun j hj => hbk j (fun e => hj (e ▸ h.sb))), fun hne a ha => ?_⟩
    rintro (hs | hs)
    · exact h2 hne a ha hs
    · exact hq k x hx hne a ha hs
/-- The map is made. -/
theorem SdM.made (h : SdM w S b none n rv val R L F) : SdM ((w.alloc (.map #[] 0)).setCell ⟨b, 1, none⟩ (.map (some w.heap.size))) (fun j => S j ∨ j = w.heap.size) b (some w.heap.size) 0 rv val R L F := by
  have hF : ∀ k, F k = [] := fun k => by
    by_cases e : F k = []
    · exact e
    · have := (h.kl.2 k).2 e
      rw [h.m0 rfl] at this
      cases this
  have hbl := h.lt b h.sb
  have hA : Below w.heap.size w (w.alloc (.map #[] 0)) := balloc (Below.refl _ w) _
  have hbk : ∀ j, j ≠ b → ((w.alloc (.map #[] 0)).setCell ⟨b, 1, none⟩ (.map (some w.heap.size))).heap[j]? = (w.alloc (.map #[] 0)).heap[j]? := fun j hj => Below.heap_setCell _ _ _ _ hj
  refine ⟨?_, .inl h.sb, ?_, ?_, ?_, ?_, ?_, ?_, h.kl, h.ks, ?_, (fun e => by cases e), fun k hk => absurd (hF k) hk, fun k x hx => by rw [hF k] at hx; cases hx⟩
  · rintro j (hj | rfl)
    · have := h.lt j hj
      simp
      omega
    · simp
  · intro m e
    cases e
    exact ⟨.inr rfl, by omega⟩
  · rw [World.cell?_setCell_other _ _ _ _ (by simp)]
    exact kc hA h.c0
  · exact World.cell?_setCell_same _ _ _ (kc hA h.c1)
  · intro i
    have := (hA.frozen (p := ⟨b, i, none⟩) hbl).trans (h.fr i)
    simpa using this
  · exact h.rr.block (fun g hg => (hbk g (h.ro g hg).2.1).trans (hA.block g (h.lt g (h.ro g hg).1)))
  · intro g hg
    have := h.lt g (h.ro g hg).1
    exact ⟨.inl (h.ro g hg).1, (h.ro g hg).2.1, by intro e; injection e with e; omega⟩
  · intro m e
    cases e
    refine ((MapZ.made w).congr (g' := gF F val) (fun s _ => ?_)).block (hbk _ (by omega))
    unfold gF
    rw [if_pos (hF s)]
end
end Go.Proofs.YtjfmgplhcinkfaaGreat
/- What a shard's Put does. -/
namespace Go.Proofs.YtjfmgplhcinkfaaGreat
open Go.RowKit
set_option linter.unusedVariables false
set_option linter.unusedSimpArgs false

/-- Is a map nil? -/
theorem eql_map_nil (w : World) (p : Option Nat) : (binOp .eql 66 (.map p) (.map none)).run Tryz.prog w = .ok (.bool p.isNone) w := by
  have h : ∀ n, (Op.equalIn (n + 1) 66 (.map p) (.map none)).run Tryz.prog w = .ok p.isNone w := fun n => by
    unfold Op.equalIn
    cases p <;> simp [run_underlying Tryz.underlying66]
  simp only [binOp]
  simp [Op.equal, Op.maxDepth, h 9999]
/-- What Put leaves. -/
def PutPost (w : World) (S : Nat → Prop) (b : Nat) (R : List (ByteArray × ByteArray)) (L : List ByteArray) (F' : Ch) (w' : World) : Prop := (∃ S' M, M.length ≤ L.length + 1 ∧ SdAt w' S' b R M F' ∧ ∀ j, S' j → S j ∨ w.heap.size ≤ j) ∧ Mv S w w'
theorem putF_no {R : List (ByteArray × ByteArray)} {F : Ch} {x : Vw} (h : (ownsK R x.1.key && putOk (F x.1.key) x) = false) : putF R F x = F := by unfold putF; rw [h]; rfl
theorem PutPost.same {w w' : World} {S : Nat → Prop} {b : Nat} {R : List (ByteArray × ByteArray)} {L : List ByteArray} {F : Ch} (h : SdAt w S b R L F) (hb : Below w.heap.size w w') : PutPost w S b R L F w' :=
  ⟨⟨S, L, by omega, h.below hb, fun j hj => .inl hj⟩, Mv.of_below hb⟩
/-- The row is put into the map, which was there. -/
theorem PutPost.old {w w2 w3 : World} {S : Nat → Prop} {b m n n' : Nat} {rv v : Value} {val : ByteArray → Value} {R : List (ByteArray × ByteArray)} {L : List ByteArray} {F : Ch} {k : ByteArray} {c : List Vw}
    (h0 : SdM w S b (some m) n rv val R L F) (hb : Below w.heap.size w w2) (hk : k.size ≤ maxLen) (hc : c ≠ []) (ho : OwnR KW w2 w.heap.size v c) 
    (hm : MapZ w3 m n' (updG (gF F val) k v)) (ht : w2.mapTurned w3 m) (hcb : ∀ x ∈ c, VwB w x ∧ PastIn (fun j => ¬ S j) x) :
    PutPost w S b R L (updF F k c) w3 := by
  have hne : ∀ {j}, j < w.heap.size → v.ownBlock ≠ some j := fun hj e => by have := (ho.lt _ e).1; omega
  obtain ⟨M, hM, hs⟩ := (h0.below hb).put rfl hk hc ho (fun g hg hs => hne (h0.lt g hs) hg) hm ht (fun d x hx => (h0.vb d x hx).1.pastLt.mono fun j hj => hne hj)
    (fun x hx => ⟨(hcb x hx).1.below hb, fun he a ha => ⟨(hcb x hx).2 he a ha, hne ((hcb x hx).1.pastLt he a ha)⟩⟩)
  exact ⟨⟨_, M, hM, ⟨_, _, _, _, hs⟩, fun j hj => by
    rcases hj with hj | hj
    · exact .inl hj
    · exact .inr (ho.lt j hj).1⟩, (Mv.of_below hb).trans ((Mv.of_turned ht).mono (fun j e => by rw [e]; exact (h0.sm m rfl).1))⟩
/-- The same, where the map is made first. -/
theorem PutPost.new {w w2 w3 : World} {S : Nat → Prop} {b n n' : Nat} {rv v : Value} {val : ByteArray → Value} {R : List (ByteArray × ByteArray)} {L : List ByteArray} {F : Ch} {k : ByteArray} {c : List Vw}
    (h0 : SdM w S b none n rv val R L F) (hb : Below w.heap.size w w2) (hk : k.size ≤ maxLen) (hc : c ≠ []) (ho : OwnR KW w2 w.heap.size v c) 
    (hm : MapZ w3 w2.heap.size n' (updG (gF F val) k v)) (ht : (((w2.alloc (.map #[] 0)).setCell ⟨b, 1, none⟩ (.map (some w2.heap.size))).drew).mapTurned w3 w2.heap.size) (hcb : ∀ x ∈ c, VwB w x ∧ PastIn (fun j => ¬ S j) x) :
    PutPost w S b R L (updF F k c) w3 := by
  have hne : ∀ {j}, j < w.heap.size → v.ownBlock ≠ some j := fun hj e => by have := (ho.lt _ e).1; omega
  have hsz := hb.size
  have hbl := h0.lt b h0.sb
  have hA : Below w2.heap.size w2 (w2.alloc (.map #[] 0)) := balloc (Below.refl _ w2) _
  have hMvA : Mv S w (((w2.alloc (.map #[] 0)).setCell ⟨b, 1, none⟩ (.map (some w2.heap.size))).drew) := ((Mv.of_below (bstep hb hA)).set h0.sb _).step ((Below.refl _ _).drew)
  have h1 := ((h0.below hb).made).below ((Below.refl _ _).drew)
  have hvb : v.ownBlock ≠ some b := hne hbl
  have ho1 : OwnR KW (((w2.alloc (.map #[] 0)).setCell ⟨b, 1, none⟩ (.map (some w2.heap.size))).drew) w.heap.size v c := OwnR.below ((ho.below hA).block (fun g hg => Below.heap_setCell _ _ _ _ (fun e => hvb (by rw [← (show g = b from e)]; exact hg)))) ((Below.refl _ _).drew)
  have hVB : ∀ x, VwB w x ∧ PastIn (fun j => ¬ S j) x → VwB (((w2.alloc (.map #[] 0)).setCell ⟨b, 1, none⟩ (.map (some w2.heap.size))).drew) x := fun x hx =>
    hx.1.block hMvA.size (fun he a ha => hMvA.block _ (hx.1.pastLt he a ha) (hx.2 he a ha))
  obtain ⟨M, hM, hs⟩ := h1.put rfl hk hc ho1 (fun g hg hs => by
      rcases hs with hs | hs
      · exact hne (h0.lt g hs) hg
      · have := (ho.lt g hg).2; omega) hm ht (fun d x hx => (h0.vb d x hx).1.pastLt.mono fun j hj => hne hj)
    (fun x hx => ⟨hVB x (hcb x hx), fun he a ha => ⟨fun hs => by
      have := (hcb x hx).1.pastLt he a ha
      rcases hs with hs | hs
      · exact (hcb x hx).2 he a ha hs
      · omega, hne ((hcb x hx).1.pastLt he a ha)⟩⟩)
  exact ⟨⟨_, M, hM, ⟨_, _, _, _, hs⟩, fun j hj => by
    rcases hj with (hj | hj) | hj
    · exact .inl hj
    · exact .inr (by omega)
    · exact .inr (ho.lt j hj).1⟩, hMvA.low (turned_below ht hsz (by have := hMvA.size; omega))⟩

set_option maxRecDepth 100000 in
set_option maxHeartbeats 3200000 in
theorem sput_any {w : World} {S : Nat → Prop} {b : Nat} {R : List (ByteArray × ByteArray)} {L : List ByteArray} {F : Ch} (h : SdAt w S b R L F) (hR : R.length ≤ 100) (hL : L.length ≤ 100000) (x : Vw) (hc : (F x.1.key).length ≤ 100000) (hx : VwB w x) (hpx : PastIn (fun j => ¬ S j) x) (hk : x.1.key.size ≤ maxLen) :
    Calls Tryz.prog 16 #[.pointer (some ⟨b, 0, none⟩), wV x] w fun e w' => e = .returned (.bool (ownsK R x.1.key && putOk (F x.1.key) x)) ∧ PutPost w S b R L (putF R F x) w' := by
  have HS := Lib.hid h
  obtain ⟨mo, n, rv, val, h⟩ := h
  have hb1 : Below w.heap.size w (w.alloc (.cells (wcs x) 36)) := balloc (Below.refl _ w) _
  have hV := VwP.new w x.1 (pw x) 36
  have how := fun W (hb : Below w.heap.size w W) => sowns_any (h.below hb) hR x.1.key
  have HPT := Lib.hid (fun W v (hb : Below w.heap.size w W) (hr : WRow W v (F x.1.key)) => cput_any v (F x.1.key) x W hc hr (hx.below hb))
  obtain ⟨sa, sc, hsh⟩ := (h.own x.1.key).1.shape
  have HSM : Hid (∀ W, Below w.heap.size w W → SdM W S b mo n rv val R L F) := Lib.hid (fun W hb => h.below hb)
  have HWR : Hid (∀ W, Below w.heap.size w W → WRow W (.slice sa (F x.1.key).length sc) (F x.1.key)) := Lib.hid (fun W hb => by
    have h1 := h.below hb
    rw [← hsh]
    exact h1.wrow (h1.own x.1.key).1)
  have HG : Hid (∀ W, Below (w.alloc (.cells (wcs x) 36)).heap.size (w.alloc (.cells (wcs x) 36)) W → VwP W w.heap.size x.1 (pw x) ∧ W.cell? ⟨b, 1, none⟩ = some (.map mo) ∧ (Instr.lookup 66 (.map mo) (.string x.1.key) false).run Tryz.prog W = .ok (.slice sa (F x.1.key).length sc) W) := Lib.hid (fun W hW => by
    have h1 := h.below (bstep hb1 hW)
    refine ⟨hV.keep hW, h1.c1, ?_⟩
    rw [← hsh]
    exact h1.look hk)
  have HNO : Hid ((ownsK R x.1.key && putOk (F x.1.key) x) = false → putF R F x = F) := Lib.hid putF_no
  have HYES : Hid ((ownsK R x.1.key && putOk (F x.1.key) x) = true → putF R F x = updF F x.1.key (putC (F x.1.key) x)) := Lib.hid (fun e => by
    unfold putF putC
    rw [if_pos e, if_pos (by rw [Bool.and_eq_true] at e; exact e.2)])
  have HNE : Hid (putOk (F x.1.key) x = true → putC (F x.1.key) x ≠ []) := Lib.hid (fun e => by unfold putC; rw [if_pos e]; exact midC_ne _ _)
  have HMEM : Hid (∀ y ∈ putC (F x.1.key) x, VwB w y ∧ PastIn (fun j => ¬ S j) y) := Lib.hid (fun y hy => by
    have : y = x ∨ y ∈ F x.1.key := by
      unfold putC at hy
      split at hy
      · unfold midC at hy
        rcases List.mem_append.1 hy with hy | hy
        · exact .inr (List.mem_of_mem_take hy)
        · rcases List.mem_cons.1 hy with hy | hy
          · exact .inl hy
          · exact .inr (List.mem_of_mem_drop hy)
      · exact .inr hy
    rcases this with rfl | hy
    · exact ⟨hx, hpx⟩
    · exact h.vb _ y hy)
  have HLL := Lib.hid hL
  have HK := Lib.hid hk
  have HH := Lib.hid h
  have hbl := h.lt b h.sb
  have HBB := Lib.hid hbl
  generalize putF R F x = F' at HNO HYES ⊢
  generalize putC (F x.1.key) x = pc1 at HPT HYES HNE HMEM
  generalize putOk (F x.1.key) x = ok at HPT HNO HYES HNE ⊢
  generalize ownsK R x.1.key = ow at how HNO HYES ⊢
  have hxl : ∃ xl, xl = (F x.1.key).length := ⟨_, rfl⟩
  obtain ⟨xl, hxl⟩ := hxl
  rw [← hxl] at HWR HG
  have HB1 := Lib.hid hb1
  clear h hsh hc hL hx hpx hxl hR hbl hb1
  obtain ⟨⟨key, vl, gone, ⟨m, t⟩, past⟩, pa, pc⟩ := x
  dsimp only [wV, wcs, wvs, pw] at *
  obtain ⟨v0, v1, v2, v3, v4, v5, vf⟩ := hV
  dsimp only at v0 v1 v2 v3 v4 v5
  clear vf
  go_enter Tryz.func16, Tryz.ntmps16
  go_upto_region 1 with fail
  generalize w.alloc (.cells #[.string key, .string vl, .bool gone, .int .i64 m, .int .i64 t, .slice pa past.length pc] 36) = w1 at *
  go_wp2_with fail
  refine (how _ HB1.out).mono ?_
  rintro e w2 ⟨rfl, hb2⟩
  have HB2 := Lib.hid (bstep HB1.out hb2)
  have HB12 := Lib.hid hb2
  clear how v0 v1 v2 v3 v4 v5 hb2
  cases ow with
  | false =>
    have hF := HNO.out rfl
    subst hF
    go_wp2
    go_ret
    exact ⟨rfl, PutPost.same HS.out HB2.out⟩
  | true =>
    have HBD : Hid (Below w.heap.size w w2.drew) := Lib.hid HB2.out.drew
    have HBE : Hid (Below w1.heap.size w1 w2.drew) := Lib.hid HB12.out.drew
    have g0 : (w2.drew.cell? ⟨w.heap.size, 0, none⟩ = some (.string key) ∧ w2.drew.cell? ⟨w.heap.size, 1, none⟩ = some (.string vl) ∧ w2.drew.cell? ⟨w.heap.size, 2, none⟩ = some (.bool gone) ∧ w2.drew.cell? ⟨w.heap.size, 3, none⟩ = some (.int .i64 m) ∧ w2.drew.cell? ⟨w.heap.size, 4, none⟩ = some (.int .i64 t) ∧ w2.drew.cell? ⟨w.heap.size, 5, none⟩ = some (.slice pa past.length pc)) ∧ w2.drew.cell? ⟨b, 1, none⟩ = some (.map mo) ∧ (Instr.lookup 66 (.map mo) (.string key) false).run Tryz.prog w2.drew = .ok (.slice sa xl sc) w2.drew := (HG.out _ HBE.out).imp_left (fun h => ⟨h.c0, h.c1, h.c2, h.c3, h.c4, h.c5⟩)
    go_wp2_with fail
    refine wp_region_held_drew (S := fun w' => (w'.cell? ⟨w.heap.size, 0, none⟩ = some (.string key) ∧ w'.cell? ⟨w.heap.size, 1, none⟩ = some (.string vl) ∧ w'.cell? ⟨w.heap.size, 2, none⟩ = some (.bool gone) ∧ w'.cell? ⟨w.heap.size, 3, none⟩ = some (.int .i64 m) ∧ w'.cell? ⟨w.heap.size, 4, none⟩ = some (.int .i64 t) ∧ w'.cell? ⟨w.heap.size, 5, none⟩ = some (.slice pa past.length pc)) ∧ w'.cell? ⟨b, 1, none⟩ = some (.map mo) ∧ (Instr.lookup 66 (.map mo) (.string key) false).run Tryz.prog w' = .ok (.slice sa xl sc) w') (by kernel_rfl) (g0) (fun hHeld => ?_)
    refine wpAnyH_take (i := 0) (v := ?vp0) rfl (by kernel_rfl) (by kernel_rfl) (by kernel_rfl) (fun _ _ _ h => h) (Or.inl ⟨by rfl, ?yp0⟩) (by assumption) ?rp0
    case yp0 => (intro w hSw; (try dsimp only at hSw); go_simp; try with_reducible rfl)
    try simp only [Act.put, List.setIfInBounds_toArray, List.set_cons_zero, List.set_cons_succ, List.getElem_toArray, List.getElem_cons_zero, List.getElem_cons_succ]
    refine wpAnyH_take (i := 1) (v := ?vp1) rfl (by kernel_rfl) (by kernel_rfl) (by kernel_rfl) (fun _ _ _ h => h) (Or.inl ⟨by rfl, ?yp1⟩) (by assumption) ?rp1
    case yp1 => (intro w hSw; (try dsimp only at hSw); go_simp; try with_reducible rfl)
    try simp only [Act.put, List.setIfInBounds_toArray, List.set_cons_zero, List.set_cons_succ, List.getElem_toArray, List.getElem_cons_zero, List.getElem_cons_succ]
    refine wpAnyH_take (i := 2) (v := ?vp2) rfl (by kernel_rfl) (by kernel_rfl) (by kernel_rfl) (fun _ _ _ h => h) (Or.inl ⟨by rfl, ?yp2⟩) (by assumption) ?rp2
    case yp2 => (intro w hSw; (try dsimp only at hSw); go_simp; try with_reducible rfl)
    try simp only [Act.put, List.setIfInBounds_toArray, List.set_cons_zero, List.set_cons_succ, List.getElem_toArray, List.getElem_cons_zero, List.getElem_cons_succ]
    refine wpAnyH_take (i := 3) (v := ?vp3) rfl (by kernel_rfl) (by kernel_rfl) (by kernel_rfl) (fun _ _ _ h => h) (Or.inl ⟨by rfl, ?yp3⟩) (by assumption) ?rp3
    case yp3 => (intro w hSw; (try dsimp only at hSw); go_simp; try with_reducible rfl)
    try simp only [Act.put, List.setIfInBounds_toArray, List.set_cons_zero, List.set_cons_succ, List.getElem_toArray, List.getElem_cons_zero, List.getElem_cons_succ]
    refine wpAnyH_take (i := 4) (v := ?vp4) rfl (by kernel_rfl) (by kernel_rfl) (by kernel_rfl) (fun _ _ _ h => h) (Or.inl ⟨by rfl, ?yp4⟩) (by assumption) ?rp4
    case yp4 => (intro w hSw; (try dsimp only at hSw); go_simp; try with_reducible rfl)
    try simp only [Act.put, List.setIfInBounds_toArray, List.set_cons_zero, List.set_cons_succ, List.getElem_toArray, List.getElem_cons_zero, List.getElem_cons_succ]
    refine wpAnyH_take (i := 5) (v := ?vp5) rfl (by kernel_rfl) (by kernel_rfl) (by kernel_rfl) (fun _ _ _ h => h) (Or.inl ⟨by rfl, ?yp5⟩) (by assumption) ?rp5
    case yp5 => (intro w hSw; (try dsimp only at hSw); go_simp; try with_reducible rfl)
    try simp only [Act.put, List.setIfInBounds_toArray, List.set_cons_zero, List.set_cons_succ, List.getElem_toArray, List.getElem_cons_zero, List.getElem_cons_succ]
    refine wpAnyH_take (i := 6) (v := ?vp6) rfl (by kernel_rfl) (by kernel_rfl) (by kernel_rfl) (fun _ _ _ h => h) (Or.inl ⟨by rfl, ?yp6⟩) (by assumption) ?rp6
    case yp6 => (intro w hSw; (try dsimp only at hSw); go_simp; try with_reducible rfl)
    try simp only [Act.put, List.setIfInBounds_toArray, List.set_cons_zero, List.set_cons_succ, List.getElem_toArray, List.getElem_cons_zero, List.getElem_cons_succ]
    refine wpAnyH_take (i := 7) (v := ?vp7) rfl (by kernel_rfl) (by kernel_rfl) (by kernel_rfl) (fun _ _ _ h => h) (Or.inl ⟨by rfl, ?yp7⟩) (by assumption) ?rp7
    case yp7 => (intro w hSw; (try dsimp only at hSw); go_simp; try with_reducible rfl)
    try simp only [Act.put, List.setIfInBounds_toArray, List.set_cons_zero, List.set_cons_succ, List.getElem_toArray, List.getElem_cons_zero, List.getElem_cons_succ]
    refine wpAnyH_ready (rs := [8]) (by kernel_rfl) (by simp) ?_
    refine AllReadyH.cons rfl (fun K hK => ?_) AllReadyH.nil
    go_simp
    go_at_call 42
    refine (HPT.out _ _ HBD.out (HWR.out _ HBD.out)).mono ?_
    rintro e w4 ⟨v4, rfl, ho4, hb4⟩
    obtain ⟨ta, tc, rfl⟩ := ho4.shape
    have g1 : (w4.cell? ⟨w.heap.size, 0, none⟩ = some (.string key) ∧ w4.cell? ⟨w.heap.size, 1, none⟩ = some (.string vl) ∧ w4.cell? ⟨w.heap.size, 2, none⟩ = some (.bool gone) ∧ w4.cell? ⟨w.heap.size, 3, none⟩ = some (.int .i64 m) ∧ w4.cell? ⟨w.heap.size, 4, none⟩ = some (.int .i64 t) ∧ w4.cell? ⟨w.heap.size, 5, none⟩ = some (.slice pa past.length pc)) ∧ w4.cell? ⟨b, 1, none⟩ = some (.map mo) ∧ (Instr.lookup 66 (.map mo) (.string key) false).run Tryz.prog w4 = .ok (.slice sa xl sc) w4 := (HG.out _ (bstep HBE.out hb4)).imp_left (fun h => ⟨h.c0, h.c1, h.c2, h.c3, h.c4, h.c5⟩)
    have HO4 := Lib.hid ho4
    have HB4 := Lib.hid (bstep HBD.out hb4)
    have HSM4 := Lib.hid (HSM.out _ (bstep HBD.out hb4))
    clear ho4 hb4
    go_wp2_with fail
    refine hK.out _ _ (g1) (fun hHeld => ?_)
    clear hK K
    try simp only [Act.put, List.setIfInBounds_toArray, List.set_cons_zero, List.set_cons_succ, List.getElem_toArray, List.getElem_cons_zero, List.getElem_cons_succ]
    refine wpAnyH_take (i := 9) (v := ?vp9) rfl (by kernel_rfl) (by kernel_rfl) (by kernel_rfl) (fun _ _ _ h => h) (Or.inl ⟨by rfl, ?yp9⟩) (by assumption) ?rp9
    case yp9 => (intro w hSw; (try dsimp only at hSw); go_simp; try with_reducible rfl)
    try simp only [Act.put, List.setIfInBounds_toArray, List.set_cons_zero, List.set_cons_succ, List.getElem_toArray, List.getElem_cons_zero, List.getElem_cons_succ]
    refine wpAnyH_take (i := 10) (v := ?vp10) rfl (by kernel_rfl) (by kernel_rfl) (by kernel_rfl) (fun _ _ _ h => h) (Or.inl ⟨by rfl, ?yp10⟩) (by assumption) ?rp10
    case yp10 => (intro w hSw; (try dsimp only at hSw); go_simp; try with_reducible rfl)
    try simp only [Act.put, List.setIfInBounds_toArray, List.set_cons_zero, List.set_cons_succ, List.getElem_toArray, List.getElem_cons_zero, List.getElem_cons_succ]
    refine wpAnyH_take (i := 11) (v := ?vp11) rfl (by kernel_rfl) (by kernel_rfl) (by kernel_rfl) (fun _ _ _ h => h) (Or.inl ⟨by rfl, ?yp11⟩) (by assumption) ?rp11
    case yp11 => (intro w hSw; (try dsimp only at hSw); go_simp; try with_reducible rfl)
    try simp only [Act.put, List.setIfInBounds_toArray, List.set_cons_zero, List.set_cons_succ, List.getElem_toArray, List.getElem_cons_zero, List.getElem_cons_succ]
    refine wpAnyH_take (i := 12) (v := ?vp12) rfl (by kernel_rfl) (by kernel_rfl) (by kernel_rfl) (fun _ _ _ h => h) (Or.inl ⟨by rfl, ?yp12⟩) (by assumption) ?rp12
    case yp12 => (intro w hSw; (try dsimp only at hSw); go_simp; try with_reducible rfl)
    try simp only [Act.put, List.setIfInBounds_toArray, List.set_cons_zero, List.set_cons_succ, List.getElem_toArray, List.getElem_cons_zero, List.getElem_cons_succ]
    refine wpAnyH_take (i := 13) (v := ?vp13) rfl (by kernel_rfl) (by kernel_rfl) (by kernel_rfl) (fun _ _ _ h => h) (Or.inl ⟨by rfl, ?yp13⟩) (by assumption) ?rp13
    case yp13 => (intro w hSw; (try dsimp only at hSw); go_simp; try with_reducible rfl)
    try simp only [Act.put, List.setIfInBounds_toArray, List.set_cons_zero, List.set_cons_succ, List.getElem_toArray, List.getElem_cons_zero, List.getElem_cons_succ]
    refine wpAnyH_done (by kernel_rfl) ?_ _
    clear g0
    cases ok with
    | false =>
      have hF := HNO.out rfl
      subst hF
      clear g1
      go_wp2
      go_ret
      exact ⟨rfl, PutPost.same HS.out HB4.out⟩
    | true =>
      have hF := HYES.out rfl
      subst hF
      have hne := HNE.out rfl
      obtain ⟨⟨x0, _, _, _, _, _⟩, x6, _⟩ := g1
      have HNEE := Lib.hid hne
      clear HNO HYES HNE hne
      have hme := eql_map_nil
      cases mo with
      | some mb =>
        obtain ⟨w5, hrun5, hm5, ht5⟩ := ((HSM4.out.mp mb rfl).below ((Below.refl _ w4).drew)).store Tryz.underlying66 (by have := HSM4.out.cnt rfl; have := HLL.out; unfold maxLen; omega) HK.out (.slice ta pc1.length tc)
        have y0 : w4.drew.cell? ⟨w.heap.size, 0, none⟩ = some (.string key) := x0
        have y6 : w4.drew.cell? ⟨b, 1, none⟩ = some (.map (some mb)) := x6
        have HM5 := Lib.hid hm5
        have HT5 := Lib.hid ht5
        clear hm5 ht5
        go_wp2_with fail
        go_region
        all_goals
          go_wp2
          go_ret
          exact ⟨rfl, PutPost.old HH.out HB4.out.drew HK.out HNEE.out (HO4.out.mono (HB2.out.size) |>.below ((Below.refl _ w4).drew)) HM5.out HT5.out HMEM.out⟩
      | none =>
        have hmm : ∀ (w : World), (Instr.makeMap 66 none).run Tryz.prog w = .ok (.map (some w.heap.size)) (w.alloc (.map #[] 0)) := fun w => by
          simp [Instr.makeMap, run_underlying Tryz.underlying66, asInt, asIntOf]
        have hA : Below w4.heap.size w4 (w4.alloc (.map #[] 0)) := balloc (Below.refl _ w4) _
        have hbl : b < w4.heap.size := by have := HBB.out; have := HB4.out.size; omega
        have z6 := kc hA x6
        have zf : (w4.alloc (.map #[] 0)).frozen? ⟨b, 1, none⟩ = false := (hA.frozen (p := ⟨b, 1, none⟩) hbl).trans (HSM4.out.fr 1)
        have hsmk := HSM4.out.made
        obtain ⟨w5, hw5⟩ : ∃ w5, (w4.alloc (.map #[] 0)).setCell ⟨b, 1, none⟩ (.map (some w4.heap.size)) = w5 := ⟨_, rfl⟩
        have hwl : w.heap.size < w4.heap.size := by have := lt_of_cellN x0; exact this
        have HY : Hid (w5.drew.cell? ⟨w.heap.size, 0, none⟩ = some (.string key) ∧ w5.drew.cell? ⟨b, 1, none⟩ = some (.map (some w4.heap.size))) := Lib.hid (by
          rw [← hw5]
          have hbw : b < w.heap.size := HBB.out
          refine ⟨?_, World.cell?_setCell_same _ _ _ z6⟩
          show ((w4.alloc (.map #[] 0)).setCell ⟨b, 1, none⟩ (.map (some w4.heap.size))).cell? ⟨w.heap.size, 0, none⟩ = _
          rw [World.cell?_setCell_other _ _ _ _ (by simp <;> omega)]
          exact kc hA x0)
        have hst : ∃ w6, (Instr.mapUpdate 66 (.map (some w4.heap.size)) (.string key) (.slice ta pc1.length tc)).run Tryz.prog w5.drew = .ok () w6 ∧ PutPost w S b R L (updF F key pc1) w6 := by
          obtain ⟨w6, hrun6, hm6, ht6⟩ := ((hsmk.mp _ rfl).below ((Below.refl _ _).drew)).store Tryz.underlying66 (by unfold maxLen; omega) HK.out (.slice ta pc1.length tc)
          refine ⟨w6, by rw [← hw5]; exact hrun6, ?_⟩
          exact PutPost.new HH.out HB4.out HK.out HNEE.out (HO4.out.mono HB2.out.size) hm6 ht6 HMEM.out
        obtain ⟨w6, hrun6, hpost⟩ := hst
        have HPO := Lib.hid hpost
        clear hpost hsmk hA hbl hwl
        go_upto_region 8 with fail
        try rw [hw5]
        clear hw5 z6 zf hmm x0 x6
        obtain ⟨y0, y6⟩ := HY.out
        go_wp2_with fail
        go_region
        all_goals
          go_wp2
          go_ret
          exact ⟨rfl, HPO.out⟩
end Go.Proofs.YtjfmgplhcinkfaaGreat
