/- Texts of this proof, one behind the other: ShPut, ShPutM. -/
import Derived.Test.YtjfmgplhcinkfaaGO17
import Derived.Deep.DeepCutAuto
/- What a shard's At answers; what Put does. -/
namespace Go.Proofs.Ytjfmgplhcinkfaa
open Go.RowKit
set_option linter.unusedVariables false
set_option linter.unusedSimpArgs false

section
variable {w : World} {S : Nat → Prop} {b : Nat} {R : List (ByteArray × ByteArray)} {L : List ByteArray} {F : Ch}
set_option maxRecDepth 100000 in
set_option maxHeartbeats 1600000 in
theorem satC_any (p : Value) (k : ByteArray) (s : Int × Int) (xs : List Vw) (w : World) (hl : xs.length ≤ 1000000) (hp : ∃ a, p = .pointer a)
    (hc : ∀ W, Below w.heap.size w W → Calls Try.prog 35 #[p, .string k] W fun e w' => W = w' ∧ ∃ v, e = .returned v ∧ WRow W v xs) :
    Calls Try.prog 16 #[p, .string k, sv s] w fun e w' => e = .returned (.tuple #[wV ((lastP (isS s) xs).getD vw0), .bool (lastP (isS s) xs).isSome]) ∧ Below w.heap.size w w' := by
  obtain ⟨pa, rfl⟩ := hp
  obtain ⟨W1, hW1⟩ : ∃ W1, (w.alloc (.cells #[.int .i64 s.1, .int .i64 s.2] 29)).alloc (.cells #[.string ⟨#[]⟩, .string ⟨#[]⟩, .bool false, .int .i64 0, .int .i64 0, .slice none 0 0] 32) = W1 := ⟨_, rfl⟩
  have hs1 : (w.alloc (.cells #[.int .i64 s.1, .int .i64 s.2] 29)).heap.size = w.heap.size + 1 := by simp
  have hbA : Below w.heap.size w (w.alloc (.cells #[.int .i64 s.1, .int .i64 s.2] 29)) := balloc (Below.refl _ w) _
  have hb1 : Below w.heap.size w W1 := by rw [← hW1]; exact balloc hbA _
  have hbB : Below (w.heap.size + 1) (w.alloc (.cells #[.int .i64 s.1, .int .i64 s.2] 29)) W1 := by rw [← hW1, ← hs1]; exact balloc (Below.refl _ _) _
  have q0 : W1.cell? ⟨w.heap.size, 0, none⟩ = some (.int .i64 s.1) := (hbB.cell (p := ⟨w.heap.size, 0, none⟩) (by show w.heap.size < _; omega)).trans (by simp)
  have q1 : W1.cell? ⟨w.heap.size, 1, none⟩ = some (.int .i64 s.2) := (hbB.cell (p := ⟨w.heap.size, 1, none⟩) (by show w.heap.size < _; omega)).trans (by simp)
  have hV : VwP W1 (w.heap.size + 1) wz (.slice none 0 0) := by
    have := VwP.new (w.alloc (.cells #[.int .i64 s.1, .int .i64 s.2] 29)) wz (.slice none 0 0) 32
    rw [hs1] at this
    rw [← hW1]
    exact this
  have hc1 := hc W1.drew hb1.drew
  have hat := fun W v h => cat_any v xs s W hl h
  generalize (lastP (isS s) xs).isSome = c at hat ⊢
  generalize (lastP (isS s) xs).getD vw0 = x at hat ⊢
  have HV := Lib.hid hV
  have HB1 := Lib.hid hb1
  have HPUT := Lib.hid (fun (W : World) (h : VwP W (w.heap.size + 1) wz (.slice none 0 0)) => h.putw x.1 (pw x))
  have HBP := Lib.hid (fun (W : World) (h : Below w.heap.size w W) => below_putw h (show w.heap.size ≤ w.heap.size + 1 by omega) x.1 (pw x))
  have HBQ := Lib.hid (fun (W : World) (h : W.cell? ⟨w.heap.size, 0, none⟩ = some (.int .i64 s.1) ∧ W.cell? ⟨w.heap.size, 1, none⟩ = some (.int .i64 s.2)) => And.intro (((below_putw (Below.refl (w.heap.size + 1) W) (Nat.le_refl _) x.1 (pw x)).cell (p := ⟨w.heap.size, 0, none⟩) (Nat.lt_succ_self _)).trans h.1) (((below_putw (Below.refl (w.heap.size + 1) W) (Nat.le_refl _) x.1 (pw x)).cell (p := ⟨w.heap.size, 1, none⟩) (Nat.lt_succ_self _)).trans h.2))
  obtain ⟨⟨key, val, gone, ⟨m, t⟩, past⟩, pa', pc⟩ := x
  obtain ⟨s0, s1⟩ := s
  dsimp only [wV, wcs, wvs, pw, World.putw] at *
  clear hV hb1 hbA hbB hc
  go_enter Try.func16, Try.ntmps16
  go_upto_region 1 with fail
  try rw [hW1]
  try rw [hs1]
  clear hW1 hs1
  have g0 : W1.drew.cell? ⟨w.heap.size, 0, none⟩ = some (.int .i64 s0) ∧ W1.drew.cell? ⟨w.heap.size, 1, none⟩ = some (.int .i64 s1) := ⟨q0, q1⟩
  clear q0 q1
  have HV0 := Lib.hid (HV.out.keep ((Below.refl _ W1).drew))
  refine wp_region_held_drew (S := fun w' => w'.cell? ⟨w.heap.size, 0, none⟩ = some (.int .i64 s0) ∧ w'.cell? ⟨w.heap.size, 1, none⟩ = some (.int .i64 s1)) (by kernel_rfl) (g0) (fun hHeld => ?_)
  refine wpAnyH_take (i := 0) (v := ?va0) rfl (by kernel_rfl) (by kernel_rfl) (by kernel_rfl) (fun _ _ _ h => h) (Or.inl ⟨by rfl, ?ya0⟩) (by assumption) ?ra0
  case ya0 => (intro w hSw; (try dsimp only at hSw); go_simp; try with_reducible rfl)
  try simp only [Act.put, List.setIfInBounds_toArray, List.set_cons_zero, List.set_cons_succ, List.getElem_toArray, List.getElem_cons_zero, List.getElem_cons_succ]
  refine wpAnyH_take (i := 1) (v := ?va1) rfl (by kernel_rfl) (by kernel_rfl) (by kernel_rfl) (fun _ _ _ h => h) (Or.inl ⟨by rfl, ?ya1⟩) (by assumption) ?ra1
  case ya1 => (intro w hSw; (try dsimp only at hSw); go_simp; try with_reducible rfl)
  try simp only [Act.put, List.setIfInBounds_toArray, List.set_cons_zero, List.set_cons_succ, List.getElem_toArray, List.getElem_cons_zero, List.getElem_cons_succ]
  refine wpAnyH_take (i := 3) (v := ?va3) rfl (by kernel_rfl) (by kernel_rfl) (by kernel_rfl) (fun _ _ _ h => h) (Or.inl ⟨by rfl, ?ya3⟩) (by assumption) ?ra3
  case ya3 => (intro w hSw; (try dsimp only at hSw); go_simp; try with_reducible rfl)
  try simp only [Act.put, List.setIfInBounds_toArray, List.set_cons_zero, List.set_cons_succ, List.getElem_toArray, List.getElem_cons_zero, List.getElem_cons_succ]
  refine wpAnyH_ready (rs := [2]) (by kernel_rfl) (by simp) ?_
  refine AllReadyH.cons rfl (fun K hK => ?_) AllReadyH.nil
  go_simp
  go_at_call 35
  refine (hc1).mono ?_
  rintro e w3 ⟨rfl, v, rfl, hrow⟩
  obtain ⟨sa, sc, rfl, _, _, _⟩ := hrow.shape
  have hh := hat _ _ hrow
  clear hat hc1 hrow
  go_wp2_with fail
  refine hK.out _ _ (g0) (fun hHeld => ?_)
  clear hK K
  try simp only [Act.put, List.setIfInBounds_toArray, List.set_cons_zero, List.set_cons_succ, List.getElem_toArray, List.getElem_cons_zero, List.getElem_cons_succ]
  refine wpAnyH_ready (rs := [4]) (by kernel_rfl) (by simp) ?_
  refine AllReadyH.cons rfl (fun K hK => ?_) AllReadyH.nil
  go_simp
  go_at_call 34
  refine (hh).mono ?_
  rintro e w4 ⟨rfl, hb4⟩
  have g1 := And.intro (kc hb4 g0.1) (kc hb4 g0.2)
  have HV1 := Lib.hid (HV0.out.keep hb4)
  have HBE := Lib.hid (HBP.out _ (bstep HB1.out.drew hb4))
  have HP := Lib.hid (HPUT.out _ HV1.out)
  obtain ⟨z0, z1, z2, z3, z4, z5, zf⟩ := HV1.out
  have zf0 := zf 0 (by decide)
  have zf1 := zf 1 (by decide)
  have zf2 := zf 2 (by decide)
  have zf3 := zf 3 (by decide)
  have zf4 := zf 4 (by decide)
  have zf5 := zf 5 (by decide)
  dsimp only [wz] at z0 z1 z2 z3 z4 z5
  have HS5 := Lib.hid (HBQ.out w4 g1)
  clear zf hb4 hh HBQ HV0 HPUT HBP HV HB1
  go_wp2_with fail
  refine hK.out _ _ (g1) (fun hHeld => ?_)
  clear hK K
  try simp only [Act.put, List.setIfInBounds_toArray, List.set_cons_zero, List.set_cons_succ, List.getElem_toArray, List.getElem_cons_zero, List.getElem_cons_succ]
  refine wpAnyH_take (i := 5) (v := ?va5) rfl (by kernel_rfl) (by kernel_rfl) (by kernel_rfl) (fun _ _ _ h => h) (Or.inl ⟨by rfl, ?ya5⟩) (by assumption) ?ra5
  case ya5 => (intro w hSw; (try dsimp only at hSw); go_simp; try with_reducible rfl)
  try simp only [Act.put, List.setIfInBounds_toArray, List.set_cons_zero, List.set_cons_succ, List.getElem_toArray, List.getElem_cons_zero, List.getElem_cons_succ]
  refine wpAnyH_take (i := 6) (v := ?va6) rfl (by kernel_rfl) (by kernel_rfl) (by kernel_rfl) (fun _ _ _ h => h) (Or.inl ⟨by rfl, ?ya6⟩) (by assumption) ?ra6
  case ya6 => (intro w hSw; (try dsimp only at hSw); go_simp; try with_reducible rfl)
  try simp only [Act.put, List.setIfInBounds_toArray, List.set_cons_zero, List.set_cons_succ, List.getElem_toArray, List.getElem_cons_zero, List.getElem_cons_succ]
  refine wpAnyH_ready (rs := [7]) (by kernel_rfl) (by simp) ?_
  refine AllReadyH.cons rfl (fun K hK => ?_) AllReadyH.nil
  go_simp
  refine hK.out _ _ (HS5.out) (fun hHeld => ?_)
  clear hK K
  try simp only [Act.put, List.setIfInBounds_toArray, List.set_cons_zero, List.set_cons_succ, List.getElem_toArray, List.getElem_cons_zero, List.getElem_cons_succ]
  refine wpAnyH_take (i := 8) (v := ?va8) rfl (by kernel_rfl) (by kernel_rfl) (by kernel_rfl) (fun _ _ _ h => h) (Or.inl ⟨by rfl, ?ya8⟩) (by assumption) ?ra8
  case ya8 => (intro w hSw; (try dsimp only at hSw); go_simp; try with_reducible rfl)
  try simp only [Act.put, List.setIfInBounds_toArray, List.set_cons_zero, List.set_cons_succ, List.getElem_toArray, List.getElem_cons_zero, List.getElem_cons_succ]
  refine wpAnyH_done (by kernel_rfl) ?_ _
  go_wp2
  obtain ⟨r0, r1, r2, r3, r4, r5, _⟩ := HP.out
  dsimp only at r0 r1 r2 r3 r4 r5
  refine bodyPost_ret (v := .tuple #[.agg #[.string key, .string val, .bool gone, .int .i64 m, .int .i64 t, .slice pa' past.length pc], .bool c]) (by simp [results, Try.results16, go_sem, r0, r1, r2, r3, r4, r5]) rfl ⟨rfl, HBE.out⟩
end
end Go.Proofs.Ytjfmgplhcinkfaa
/- A shard in memory: a chain is put into its map. -/
namespace Go.Proofs.Ytjfmgplhcinkfaa
open Go.RowKit
set_option linter.unusedVariables false
set_option linter.unusedSimpArgs false

theorem gF_upd (F : Ch) (val : ByteArray → Value) (k : ByteArray) (v : Value) {c : List Vw} (hc : c ≠ []) : gF (updF F k c) (fun d => if d = k then v else val d) = updG (gF F val) k v := by
  funext d
  unfold gF updG
  by_cases e : d = k
  · subst e
    dsimp only
    rw [updF_same, if_neg hc, if_pos rfl, if_pos rfl]
  · dsimp only
    rw [updF_other _ _ e, if_neg e, if_neg e]
theorem gF_same (F F' : Ch) (val : ByteArray → Value) (h : ∀ k, F k = [] ↔ F' k = []) : gF F val = gF F' val := by
  funext d
  unfold gF
  by_cases e : F d = []
  · rw [if_pos e, if_pos ((h d).1 e)]
  · rw [if_neg e, if_neg (fun e' => e ((h d).2 e'))]
section
variable {w : World} {S : Nat → Prop} {b : Nat} {mo : Option Nat} {n : Nat} {rv : Value} {val : ByteArray → Value} {R : List (ByteArray × ByteArray)} {L : List ByteArray} {F : Ch}
theorem SdM.cnt (h : SdM w S b mo n rv val R L F) {m : Nat} (hm : mo = some m) : n = L.length := by
  obtain ⟨D, _, _, _, e⟩ := (h.mp m hm).keys (L := L) h.kl.nodup (fun s => by
    rw [h.kl.2]
    unfold gF
    constructor
    · intro hs
      exact ⟨h.ks s ((h.kl.2 s).2 hs), by rw [if_neg hs]; rfl⟩
    · rintro ⟨_, hs⟩ e
      rw [if_pos e] at hs
      cases hs)
  exact e
theorem SdM.pastNe (h : SdM w S b mo n rv val R L F) {w' : World} {m : Nat} (hm : mo = some m) (ht : w.mapTurned w' m) : ∀ d, ∀ x ∈ F d, VwB w' x := fun d x hx =>
  (h.vb d x hx).1.block (by rw [turned_size ht]; exact Nat.le_refl _) ((h.vb d x hx).2.mono fun j hj => turned_block ht j (fun e => hj (e ▸ (h.sm m hm).1)))
/-- A chain that lies apart is put in place of another one. -/
theorem SdM.put {w' : World} {m n' base : Nat} (h : SdM w S b mo n rv val R L F) (hmo : mo = some m) {k : ByteArray} (hk : k.size ≤ maxLen) {v : Value} {c : List Vw} (hc : c ≠ []) (ho : OwnR KW w base v c) (hv : ∀ g, v.ownBlock = some g → ¬ S g)
    (hm : MapZ w' m n' (updG (gF F val) k v)) (ht : w.mapTurned w' m) (hq : ∀ d, ∀ x ∈ F d, PastIn (fun j => v.ownBlock ≠ some j) x) (hcb : ∀ x ∈ c, VwB w x ∧ PastIn (fun j => ¬ S j ∧ v.ownBlock ≠ some j) x) :
    ∃ M, M.length ≤ L.length + 1 ∧ SdM w' (fun j => S j ∨ v.ownBlock = some j) b mo n' rv (fun d => if d = k then v else val d) R M (updF F k c) := by
  obtain ⟨M, hM, hl⟩ := h.kl.upd k hc
  have hS := (h.sm m hmo).1
  have hbm : b ≠ m := fun e => (h.sm m hmo).2 e.symm
  have hbb : w'.heap[b]? = w.heap[b]? := turned_block ht b hbm
  have hvm : ∀ g, v.ownBlock = some g → g ≠ m ∧ g ≠ b := fun g hg => ⟨fun e => hv g hg (e ▸ hS), fun e => hv g hg (e ▸ h.sb)⟩
  have hks : ∀ d ∈ M, d.size ≤ maxLen := fun d hd => by
    have := (hM.2 d).1 hd
    by_cases e : d = k
    · rw [e]; exact hk
    · rw [updF_other _ _ e] at this
      exact h.ks d ((h.kl.2 d).2 this)
  refine ⟨M, hl, ⟨?_, .inl h.sb, fun m' e => ⟨.inl (h.sm m' e).1, (h.sm m' e).2⟩, by rw [World.cell?_of_block hbb]; exact h.c0, by rw [World.cell?_of_block hbb]; exact h.c1, fun i => by rw [World.frozen?_of_block hbb]; exact h.fr i, ?_, ?_, hM, hks, ?_, (fun e => by rw [hmo] at e; cases e), ?_, ?_⟩⟩
  · rintro j (hj | hj)
    · rw [turned_size ht]; exact h.lt j hj
    · rw [turned_size ht]; exact (ho.lt j hj).2
  · exact h.rr.block (fun g hg => turned_block ht g (fun e => (h.ro g hg).2.2 (by rw [hmo, e])))
  · exact fun g hg => ⟨.inl (h.ro g hg).1, (h.ro g hg).2⟩
  · intro m' e
    rw [hmo] at e
    cases e
    rw [gF_upd _ _ _ _ hc]
    exact hm
  · intro d hd
    by_cases e : d = k
    · subst e
      rw [updF_same, if_pos rfl]
      exact ⟨(ho.mono (Nat.zero_le _)).block (fun g hg => turned_block ht g (hvm g hg).1), fun g hg => ⟨.inr hg, (hvm g hg).2, fun e => (hvm g hg).1 (by rw [hmo] at e; injection e with e; exact e.symm)⟩⟩
    · rw [updF_other _ _ e] at hd ⊢
      rw [if_neg e]
      have := h.rows d hd
      exact ⟨this.1.block (fun g hg => turned_block ht g (fun e => (this.2 g hg).2.2 (by rw [hmo, e]))), fun g hg => ⟨.inl (this.2 g hg).1, (this.2 g hg).2⟩⟩
  · intro d x hx
    by_cases e : d = k
    · subst e
      rw [updF_same] at hx
      have := hcb x hx
      refine ⟨this.1.block (by rw [turned_size ht]; exact Nat.le_refl _) (this.2.mono fun j hj => turned_block ht j (fun e => hj.1 (e ▸ hS))), this.2.mono fun j hj => ?_⟩
      rintro (hs | hv)
      · exact hj.1 hs
      · exact hj.2 hv
    · rw [updF_other _ _ e] at hx
      refine ⟨h.pastNe hmo ht d x hx, fun hne a ha => ?_⟩
      have h1 := (h.vb d x hx).2 hne a ha
      have h2 := hq d x hx hne a ha
      rintro (hs | hv)
      · exact h1 hs
      · exact h2 hv
/-- A chain is replaced by a part of it. -/
theorem SdM.repl {w2 w3 : World} {m n' base : Nat} (h0 : SdM w S b mo n rv val R L F) (hmo : mo = some m) (hb : Below w.heap.size w w2) {k : ByteArray} (hk : k.size ≤ maxLen) {v : Value} {c : List Vw} (hin : F k ≠ []) (hc : c ≠ []) (ho : OwnR KW w2 base v c) (hbs : w.heap.size ≤ base)
    (hm : MapZ w3 m n' (updG (gF F val) k v)) (ht : w2.mapTurned w3 m) (hsub : ∀ x ∈ c, x ∈ F k) :
    SdM w3 (fun j => S j ∨ v.ownBlock = some j) b mo n' rv (fun d => if d = k then v else val d) R L (updF F k c) := by
  have hne : ∀ {j}, j < w.heap.size → v.ownBlock ≠ some j := fun hj e => by have := (ho.lt _ e).1; omega
  obtain ⟨M, hM, hs⟩ := (h0.below hb).put hmo hk hc ho (fun g hg hs => hne (h0.lt g hs) hg) hm ht (fun d x hx => (h0.vb d x hx).1.pastLt.mono fun j hj => hne hj)
    (fun x hx => ⟨(h0.vb k x (hsub x hx)).1.below hb, fun he a ha => ⟨(h0.vb k x (hsub x hx)).2 he a ha, hne ((h0.vb k x (hsub x hx)).1.pastLt he a ha)⟩⟩)
  have hkl : KeyL (updF F k c) L := h0.kl.same (fun d => by
    by_cases e : d = k
    · subst e
      rw [updF_same]
      exact ⟨fun h => absurd h hin, fun h => absurd h hc⟩
    · rw [updF_other _ _ e])
  rw [hs.kl.uniq hkl] at hs
  exact hs
/-- Other ranges. -/
theorem SdM.rset {base : Nat} (h : SdM w S b mo n rv val R L F) {v : Value} {R' : List (ByteArray × ByteArray)} (ho : OwnR KR w base v R') (hv : ∀ g, v.ownBlock = some g → ¬ S g) (hq : ∀ d, ∀ x ∈ F d, PastIn (fun j => v.ownBlock ≠ some j) x) :
    SdM (w.setCell ⟨b, 0, none⟩ v) (fun j => S j ∨ v.ownBlock = some j) b mo n v val R' L F := by
  have hbk : ∀ j, j ≠ b → (w.setCell ⟨b, 0, none⟩ v).heap[j]? = w.heap[j]? := fun j hj => Below.heap_setCell _ _ _ _ hj
  have hvb : ∀ g, v.ownBlock = some g → g ≠ b := fun g hg e => hv g hg (e ▸ h.sb)
  refine ⟨?_, .inl h.sb, fun m e => ⟨.inl (h.sm m e).1, (h.sm m e).2⟩, World.cell?_setCell_same _ _ _ h.c0, ?_, ?_, ?_, ?_, h.kl, h.ks, ?_, h.m0, ?_, ?_⟩
  · rintro j (hj | hj)
    · have := h.lt j hj; simpa using this
    · have := (ho.lt j hj).2; simpa using this
  · rw [World.cell?_setCell_other _ _ _ _ (by simp)]
    exact h.c1
  · intro i
    simpa using h.fr i
  · exact (ho.mono (Nat.zero_le _)).block (fun g hg => hbk g (hvb g hg))
  · intro g hg
    exact ⟨.inr hg, hvb g hg, fun e => hv g hg (h.sm g e).1⟩
  · intro m e
    exact (h.mp m e).block (hbk m (h.sm m e).2)
  · intro k hk
    exact ⟨(h.rows k hk).1.block (fun g hg => hbk g ((h.rows k hk).2 g hg).2.1), fun g hg => ⟨.inl ((h.rows k hk).2 g hg).1, ((h.rows k hk).2 g hg).2⟩⟩
  · intro k x hx
    obtain ⟨h1, h2⟩ := h.vb k x hx
    refine ⟨h1.block (by simp) (h2.mono fun j hj => hbk j (fun e => hj (e ▸ h.sb))), fun hne a ha => ?_⟩
    rintro (hs | hs)
    · exact h2 hne a ha hs
    · exact hq k x hx hne a ha hs
/-- The map is made. -/
theorem SdM.made (h : SdM w S b none n rv val R L F) : SdM ((w.alloc (.map #[] 0)).setCell ⟨b, 1, none⟩ (.map (some w.heap.size))) (fun j => S j ∨ j = w.heap.size) b (some w.heap.size) 0 rv val R L F := by
  have hF : ∀ k, F k = [] := fun k => by
    by_cases e : F k = []
    · exact e
    · have := (h.kl.2 k).2 e
      rw [h.m0 rfl] at this
      cases this
  have hbl := h.lt b h.sb
  have hA : Below w.heap.size w (w.alloc (.map #[] 0)) := balloc (Below.refl _ w) _
  have hbk : ∀ j, j ≠ b → ((w.alloc (.map #[] 0)).setCell ⟨b, 1, none⟩ (.map (some w.heap.size))).heap[j]? = (w.alloc (.map #[] 0)).heap[j]? := fun j hj => Below.heap_setCell _ _ _ _ hj
  refine ⟨?_, .inl h.sb, ?_, ?_, ?_, ?_, ?_, ?_, h.kl, h.ks, ?_, (fun e => by cases e), fun k hk => absurd (hF k) hk, fun k x hx => by rw [hF k] at hx; cases hx⟩
  · rintro j (hj | rfl)
    · have := h.lt j hj
      simp
      omega
    · simp
  · intro m e
    cases e
    exact ⟨.inr rfl, by omega⟩
  · rw [World.cell?_setCell_other _ _ _ _ (by simp)]
    exact kc hA h.c0
  · exact World.cell?_setCell_same _ _ _ (kc hA h.c1)
  · intro i
    have := (hA.frozen (p := ⟨b, i, none⟩) hbl).trans (h.fr i)
    simpa using this
  · exact h.rr.block (fun g hg => (hbk g (h.ro g hg).2.1).trans (hA.block g (h.lt g (h.ro g hg).1)))
  · intro g hg
    have := h.lt g (h.ro g hg).1
    exact ⟨.inl (h.ro g hg).1, (h.ro g hg).2.1, by intro e; injection e with e; omega⟩
  · intro m e
    cases e
    refine ((MapZ.made w).congr (g' := gF F val) (fun s _ => ?_)).block (hbk _ (by omega))
    unfold gF
    rw [if_pos (hF s)]
end
end Go.Proofs.Ytjfmgplhcinkfaa
