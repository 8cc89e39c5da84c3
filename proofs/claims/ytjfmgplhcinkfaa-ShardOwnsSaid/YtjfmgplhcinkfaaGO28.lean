/- Texts of this proof, one behind the other: ShMove, ShLaw3, ShOwn, OpenT. -/
import Derived.Test.YtjfmgplhcinkfaaGO27
import Derived.Maps.RangeWalk
/- What a shard's Move does. -/
namespace Go.Proofs.Ytjfmgplhcinkfaa
open Go.RowKit Go.Maps
set_option linter.unusedVariables false
set_option linter.unusedSimpArgs false

/-- What is left in the map on the way: what the ranges have, and what is still to come. -/
def gL (F : Ch) (val : ByteArray → Value) (R : List (ByteArray × ByteArray)) (left : Lit → Bool) (s : ByteArray) : Option Value := if F s = [] then none else if ownsK R s || left (.string (bts s)) then some (val s) else none
def MvRel (D : DataW Value) (g : ByteArray → Option Value) : Prop := ∀ l, WideAt.IsKeyLit l → Maps.has D l = (litS g l).isSome ∧ ∀ z, D.atKey l (.held z) = .held ((litS g l).getD z)
theorem MvRel.congr {D : DataW Value} {g g' : ByteArray → Option Value} (h : MvRel D g) (e : ∀ s : ByteArray, s.size ≤ maxLen → g s = g' s) : MvRel D g' := by
  unfold MvRel at *
  rw [← litS_congr e]
  exact h
theorem MvRel.del {D : DataW Value} {g g' : ByteArray → Option Value} (h : MvRel D g) {k : ByteArray} (hk : k.size ≤ maxLen) (h0 : g' k = none) (h1 : ∀ s, s ≠ k → g' s = g s) : MvRel (D.del (.string (bts k))) g' := by
  intro l hl
  by_cases e : l = .string (bts k)
  · subst e
    rw [litS_str _ hk, h0]
    exact ⟨Maps.has_del_same, fun z => Maps.atKey_del_same _⟩
  · have he : litS g' l = litS g l := by
      cases l <;> try rfl
      rename_i x
      simp only [litS]
      by_cases hx : x.length ≤ maxLen
      · rw [if_pos hx, if_pos hx]
        exact h1 _ (fun e' => e (by rw [← e']))
      · rw [if_neg hx, if_neg hx]
    rw [he]
    exact ⟨(Maps.has_del_other e).trans (h l hl).1, fun z => (Maps.atKey_del_other e _).trans ((h l hl).2 z)⟩
theorem MapZ.of_rel {w : World} {m n : Nat} {D : DataW Value} {g : ByteArray → Option Value} (ho : w.ownsMap Try.prog 9 hvR m n D) (h : MvRel D g) : ∃ n', MapZ w m n' g := by
  obtain ⟨es, clock, g1, g2, g3, g4⟩ := ho
  have hs : Maps.size D = es.size := by rw [g4]; simp [Maps.size, DataW.length_sorted]
  exact ⟨es.size, D, ⟨es, clock, g1, g2, Nat.le_refl _, g4⟩, hs, h⟩
theorem gL_step {F : Ch} {val : ByteArray → Value} {R : List (ByteArray × ByteArray)} {left : Lit → Bool} {k : ByteArray} (s : ByteArray) (hs : s ≠ k) : gL F val R (fun z => left z && !z.sameKey (.string (bts k))) s = gL F val R left s := by
  unfold gL
  have : (Lit.string (bts s)).sameKey (.string (bts k)) = false := by
    cases h : (Lit.string (bts s)).sameKey (.string (bts k)) with
    | false => rfl
    | true =>
      have := WideAt.sameKey_eq h
      simp only [Lit.string.injEq] at this
      exact absurd (bts_inj this) hs
  simp [this]

/-- What Move leaves. -/
def MovPost (w : World) (S : Nat → Prop) (b : Nat) (R' : List (ByteArray × ByteArray)) (L : List ByteArray) (F' : Ch) (w' : World) : Prop := (∃ S', SdAt w' S' b R' L F' ∧ ∀ j, S' j → S j ∨ w.heap.size ≤ j) ∧ Mv S w w'
/-- The map turned. -/
theorem SdM.moved {w w' : World} {S : Nat → Prop} {b m n n' : Nat} {rv : Value} {val : ByteArray → Value} {R : List (ByteArray × ByteArray)} {L : List ByteArray} {F : Ch} (h : SdM w S b (some m) n rv val R L F) (hm : Mv (fun j => j = m) w w') (p : ByteArray → Bool) (hz : MapZ w' m n' (gF (cutF F p) val)) :
    SdM w' S b (some m) n' rv val R (L.filter p) (cutF F p) := by
  have hS := (h.sm m rfl).1
  have hbm : b ≠ m := fun e => (h.sm m rfl).2 e.symm
  have hbl := h.lt b h.sb
  have hbb : w'.heap[b]? = w.heap[b]? := hm.block b hbl hbm
  have hsub : ∀ k, cutF F p k ≠ [] → cutF F p k = F k ∧ F k ≠ [] := fun k hk => by
    unfold cutF at hk ⊢
    by_cases e : p k = true
    · rw [if_pos e] at hk ⊢
      exact ⟨rfl, hk⟩
    · rw [if_neg e] at hk
      exact absurd rfl hk
  refine ⟨fun j hj => Nat.lt_of_lt_of_le (h.lt j hj) hm.size, h.sb, h.sm, by rw [World.cell?_of_block hbb]; exact h.c0, by rw [World.cell?_of_block hbb]; exact h.c1, fun i => by rw [World.frozen?_of_block hbb]; exact h.fr i, ?_, h.ro, h.kl.cut p, fun k hk => h.ks k (List.mem_filter.1 hk).1, ?_, (fun e => by cases e), ?_, ?_⟩
  · exact h.rr.block (fun g hg => hm.block g (h.lt g (h.ro g hg).1) (fun e => (h.ro g hg).2.2 (by rw [e])))
  · intro m' e
    cases e
    exact hz
  · intro k hk
    obtain ⟨e1, e2⟩ := hsub k hk
    rw [e1]
    have := h.rows k e2
    exact ⟨this.1.block (fun g hg => hm.block g (h.lt g (this.2 g hg).1) (fun e => (this.2 g hg).2.2 (by rw [e]))), this.2⟩
  · intro k x hx
    have hk : cutF F p k ≠ [] := fun e => by rw [e] at hx; cases hx
    obtain ⟨e1, e2⟩ := hsub k hk
    rw [e1] at hx
    obtain ⟨h1, h2⟩ := h.vb k x hx
    exact ⟨h1.block hm.size (fun hne a ha => hm.block _ (h1.pastLt hne a ha) (fun e => h2 hne a ha (by rw [e]; exact hS))), h2⟩

set_option maxRecDepth 100000 in
set_option maxHeartbeats 3200000 in
theorem smove_any {w : World} {S : Nat → Prop} {b : Nat} {R : List (ByteArray × ByteArray)} {L : List ByteArray} {F : Ch} (h : SdAt w S b R L F) (v : Value) (R' : List (ByteArray × ByteArray)) (hR : R'.length ≤ 100) (hr : RowAt KR w v R') :
    Calls Try.prog 14 #[.pointer (some ⟨b, 0, none⟩), v] w fun e w' => e = .returned (.tuple #[]) ∧ MovPost w S b R' (L.filter (ownsK R')) (cutF F (ownsK R')) w' := by
  obtain ⟨mo, n, rv, val, h⟩ := h
  have hcl := cloneR_any v R' w (by omega) hr
  obtain ⟨va, vc, rfl, _⟩ := id hr
  have HH := Lib.hid h
  clear hr h
  go_enter Try.func14, Try.ntmps14
  go_wp2_with fail
  refine hcl.mono ?_
  rintro e w1 ⟨v1, rfl, ho1, hb1⟩
  obtain ⟨a1, c1, rfl⟩ := ho1.shape
  have h1 := HH.out.below hb1
  have hne : ∀ {j}, j < w.heap.size → (Value.slice a1 R'.length c1).ownBlock ≠ some j := fun hj e => by have := (ho1.lt _ e).1; omega
  have h2 := h1.rset ho1 (fun g hg hs => hne (HH.out.lt g hs) hg) (fun d x hx => (HH.out.vb d x hx).1.pastLt.mono fun j hj => hne hj)
  have c0 := h1.c0
  have f0 := h1.fr 0
  have hMv : Mv S w (w1.setCell ⟨b, 0, none⟩ (.slice a1 R'.length c1)) := (Mv.of_below hb1).set HH.out.sb _
  have HS : Hid (∀ j, S j ∨ (Value.slice a1 R'.length c1).ownBlock = some j → S j ∨ w.heap.size ≤ j) := Lib.hid (fun j hj => hj.imp id (fun e => (ho1.lt j e).1))
  have HMV := Lib.hid hMv
  have HH2 := Lib.hid h2
  clear h1 h2 ho1 hb1 hMv hcl hne
  go_upto_region 2 with fail
  generalize w1.setCell ⟨b, 0, none⟩ (.slice a1 R'.length c1) = w2 at *
  clear c0 f0
  have c1' := HH2.out.c1
  cases mo with
  | none =>
    have hF : ∀ k, F k = [] := fun k => by
      by_cases e : F k = []
      · exact e
      · have := (HH2.out.kl.2 k).2 e
        rw [HH2.out.m0 rfl] at this
        cases this
    have hcut : cutF F (ownsK R') = F := by
      funext k
      unfold cutF
      rw [hF k]
      simp
    have hL : L.filter (ownsK R') = L := by rw [HH2.out.m0 rfl]; rfl
    have hrg := run_range_nilMap (P := Try.prog) w2 55 _ _ Try.underlying55
    have hnx : ∀ ty, (Instr.next (.pointer (some ⟨w2.heap.size, 0, none⟩)) false ty).run Try.prog (w2.alloc (.mapIter none 0 #[] 0)) = _ := fun ty => run_next_nilMap _ ty 0 0 #[]
    have hA : Below w2.heap.size w2 (w2.alloc (.mapIter none 0 #[] 0)) := balloc (Below.refl _ _) _
    have HPO : Hid (MovPost w S b R' (L.filter (ownsK R')) (cutF F (ownsK R')) (w2.alloc (.mapIter none 0 #[] 0))) := Lib.hid (by
      rw [hcut, hL]
      exact ⟨⟨_, ⟨_, _, _, _, HH2.out.below hA⟩, HS.out⟩, HMV.out.step hA⟩)
    clear hA hcut hL hF
    go_wp2
    refine wp_loop_rounds 1 ?_
    rw [rounds_succ]
    go_wp2
    go_end0
    exact ⟨rfl, HPO.out⟩
  | some m =>
    obtain ⟨D0, hown, hsz, hf⟩ := HH2.out.mp m rfl
    have hml := HH2.out.lt m (HH2.out.sm m rfl).1
    have HSB := Lib.hid (HH2.out.sb)
    have hrel0 : MvRel D0 (gL F val R' (Maps.has D0)) := MvRel.congr (D := D0) (g := gF F val) hf (fun s hs => by
      unfold gL gF
      by_cases e : F s = []
      · rw [if_pos e, if_pos e]
      · rw [if_neg e, if_neg e]
        have : Maps.has D0 (.string (bts s)) = true := by
          rw [(hf (.string (bts s)) trivial).1, litS_str _ hs]
          unfold gF
          rw [if_neg e]
          rfl
        rw [this]
        simp)
    have HF := Lib.hid hf
    have HR0 := Lib.hid hrel0
    clear hf hrel0 hsz
    go_wp2_with (first | (at_range; refine wpList_range_own _ rfl _ 55 rfl 9 51 keyed_text Try.underlying55 hvR m n D0 rfl hown ?_; intro w3 hrg0 hg0 hs0) | go_in)
    go_frame
    have HB3 : Hid (Below w2.heap.size w2 w3) := Lib.hid ((Below.refl _ w2).grown hg0 (Nat.le_refl _) (fun k e => by cases e))
    have HRG := Lib.hid hrg0
    clear hrg0 hg0 hs0 hown c1'
    go_loopw [4] (fun _ wr => ∃ D left c, wr.ranges Try.prog 9 hvR m w2.heap.size n D left c ∧ MvRel D (gL F val R' left) ∧ Mv (fun j => j = m ∨ j = w2.heap.size) w3 wr) (fun _ wr => wr.rangeLeft m w2.heap.size)
    case atStart => exact ⟨_, _, _, HRG.out, HR0.out, Mv.refl _ _⟩
    case round =>
      obtain ⟨D, left, c, q1, q2, q3⟩ := hrel
      have HQ1 := Lib.hid q1
      have HQ2 := Lib.hid q2
      have HQ3 := Lib.hid q3
      clear q1 q2 q3
      go_wp2_with (first | (at_next; refine wpList_next_ranges _ rfl _ rfl 9 keyed_text hvR Value.string id (fun key kl hkey => by obtain ⟨x, ex, _⟩ := Maps.keyOf_str Try.underlying9 hkey; exact ⟨_, ex⟩) (fun v _ _ => ⟨v, rfl⟩) m w2.heap.size n _ _ _ rfl HQ1.out ?_ ?_) | go_in)
      · intro _ hl0
        obtain ⟨n', hz⟩ := MapZ.of_rel (g := gF (cutF F (ownsK R')) val) HQ1.out.owns (HQ2.out.congr (fun s _ => by
          unfold gL gF cutF
          rw [hl0]
          by_cases e : F s = []
          · rw [if_pos e]
            by_cases o : ownsK R' s = true
            · rw [if_pos o, if_pos e]
            · rw [if_neg o, if_pos rfl]
          · rw [if_neg e]
            by_cases o : ownsK R' s = true
            · rw [if_pos o, if_neg e, o]
              rfl
            · rw [if_neg o, if_pos rfl]
              simp at o
              rw [o]
              rfl))
        have hmm : Mv (fun j => j = m) w2 wr := by
          have h3 := HB3.out
          have h4 := HQ3.out
          exact ⟨h4.os.trans h3.os, h4.tape.trans h3.tape, h4.output.trans h3.output, Nat.le_trans h3.size h4.size, fun k hk hne => (h4.block k (Nat.lt_of_lt_of_le hk h3.size) (fun e => by rcases e with e | e; exact hne e; omega)).trans (h3.block k hk)⟩
        have HPO : Hid (MovPost w S b R' (L.filter (ownsK R')) (cutF F (ownsK R')) wr) := Lib.hid ⟨⟨_, ⟨_, _, _, _, HH2.out.moved hmm (ownsK R') hz⟩, HS.out⟩, HMV.out.trans ⟨hmm.os, hmm.tape, hmm.output, hmm.size, fun k hk hne => by
          by_cases e : k = m
          · subst e
            exact absurd (HH.out.sm k rfl).1 hne
          · exact hmm.block k hk e⟩⟩
        clear hz hmm
        go_wp2
        go_end0
        exact ⟨rfl, HPO.out⟩
      · intro x cv kl yd yp w4 cnt1 hkey hlx hv hat hrg1 hlt hg1 hs1 hen
        obtain ⟨xl, ex, rfl, hxl⟩ := Maps.keyOf_str Try.underlying9 hkey
        have hxb : bts x = xl := by
          unfold Go.Proofs.encStr at ex
          injection ex with ex
          rw [ex]
        subst hxb
        have hxs : x.size ≤ maxLen := by simpa using hxl
        have HXS := Lib.hid hxs
        have hg4 : Mv (fun j => j = m ∨ j = w2.heap.size) wr w4 := ⟨hg1.os, hg1.tape, hg1.output, hg1.size, fun k hk hne => hg1.block k hk (fun e => hne (.inr (by cases e; rfl)))⟩
        have HG4 := Lib.hid (HQ3.out.trans hg4)
        have hbm : b ≠ m := fun e => (HH2.out.sm m rfl).2 e.symm
        have hbl : b < w2.heap.size := HH2.out.lt b HSB.out
        have hPb : ¬ (b = m ∨ b = w2.heap.size) := fun e => by rcases e with e | e; exact hbm e; omega
        have hrb : ∀ g, (Value.slice a1 R'.length c1).ownBlock = some g → ¬ (g = m ∨ g = w2.heap.size) := fun g hg e => by
          have h5 := HH2.out.ro g hg
          have h6 := HH2.out.lt g h5.1
          rcases e with e | e
          · exact h5.2.2 (by rw [e])
          · omega
        have hrr : RowAt KR w4 (.slice a1 R'.length c1) R' := RowAt.of_own kr_ok ((HH2.out.rr.below HB3.out).block (fun g hg => HG4.out.block g (by have := (HH2.out.rr.lt g hg).2; have := HB3.out.size; omega) (hrb g hg)))
        have hc0 : w4.cell? ⟨b, 0, none⟩ = some (.slice a1 R'.length c1) := HG4.out.cell hPb (kc HB3.out HH2.out.c0)
        have hc1 : w4.cell? ⟨b, 1, none⟩ = some (.map (some m)) := HG4.out.cell hPb (kc HB3.out HH2.out.c1)
        have how := sownsC_any hc0 hrr hR x
        have HRG1 := Lib.hid hrg1
        have HKEY := Lib.hid hkey
        have HLT : Hid (w4.rangeLeft m w2.heap.size < wr.rangeLeft m w2.heap.size) := Lib.hid (by rw [hrg1.left_eq, HQ1.out.left_eq]; exact hlt)
        have HNE : Hid (some m ≠ (none : Option Nat) ∧ some w2.heap.size ≠ (none : Option Nat)) := Lib.hid ⟨by simp, by simp⟩
        have HOW : Hid (∀ o, ownsK R' x = o → (o = true → MvRel D (gL F val R' (fun z => left z && !z.sameKey (.string (bts x))))) ∧ (o = false → MvRel (D.del (.string (bts x))) (gL F val R' (fun z => left z && !z.sameKey (.string (bts x)))))) := Lib.hid (fun o ho => by
          have hsame : gL F val R' (fun z => left z && !z.sameKey (.string (bts x))) x = if F x = [] then none else if o = true then some (val x) else none := by
            unfold gL
            have : (Lit.string (bts x)).sameKey (.string (bts x)) = true := WideAt.sameKey_self trivial
            simp [this, ho]
          refine ⟨fun h => HQ2.out.congr (fun s _ => ?_), fun h => HQ2.out.del hxs ?_ (fun s hs => gL_step s hs)⟩
          · by_cases e : s = x
            · subst e
              rw [hsame, h]
              unfold gL
              rw [ho, h]
              simp
            · exact (gL_step s e).symm
          · rw [hsame, h]
            simp)
        clear hrg1 hlt hg1 hs1 hat hv hlx hkey hxl hxs ex hg4 hrr hc0 hrb hPb hbm hbl
        generalize ownsK R' x = o at how HOW
        go_wp2_with fail
        refine how.mono ?_
        rintro e w5 ⟨rfl, hb5⟩
        have HB5 := Lib.hid hb5
        have hgb : w4.grownBy w5 none := ⟨hb5.os, hb5.tape, hb5.output, hb5.size, fun k hk _ => hb5.block k hk⟩
        have hrg5 := HRG1.out.kept hgb (by simp) (by simp)
        have HM5 : Hid (Mv (fun j => j = m ∨ j = w2.heap.size) w3 w5) := Lib.hid (HG4.out.step hb5)
        have HL5 : Hid (w5.rangeLeft m w2.heap.size < wr.rangeLeft m w2.heap.size) := Lib.hid (by rw [hrg5.left_eq, ← HRG1.out.left_eq]; exact HLT.out)
        have HRG5 := Lib.hid hrg5
        have hc5 := kc hb5 hc1
        clear hrg5 hgb hb5 hc1 how
        cases o with
        | true =>
          have HR5 := Lib.hid ((HOW.out true rfl).1 rfl)
          go_wp2
          go_roundw
          case rel => exact ⟨_, _, _, HRG5.out, HR5.out, HM5.out⟩
          case measure => exact HL5.out
        | false =>
          have HR5 := Lib.hid ((HOW.out false rfl).2 rfl)
          go_wp2_with (first | (at_delete; refine wpList_delete_ranges _ rfl _ _ 55 9 rfl 51 keyed_text Try.underlying55 hvR m w2.heap.size n _ _ _ rfl HRG5.out (.string x) (.string (bts x)) rfl (key_text HXS.out) ?_; intro w6 cnt6 hrg6 hle hturn; go_frame) | go_in)
          rw [Maps.strike_twice] at hrg6
          go_roundw
          case rel => exact ⟨_, _, _, hrg6, HR5.out, HM5.out.trans ((Mv.of_turned hturn).mono (fun j e => .inl e))⟩
          case measure => have := HL5.out; rw [HRG5.out.left_eq] at this; rw [hrg6.left_eq]; omega
set_option maxRecDepth 100000 in
/-- No shard is moved. -/
theorem smove_nil (v : Value) (w : World) (hv : ∃ a n c, v = .slice a n c) : Calls Try.prog 14 #[.pointer none, v] w fun e w' => e = .returned (.tuple #[]) ∧ w = w' := by
  obtain ⟨a, n, c, rfl⟩ := hv
  go_enter Try.func14, Try.ntmps14
  go_wp2
  refine bodyPost_ret (v := .tuple #[]) (by simp [results, Try.results14, go_sem]) rfl ⟨rfl, rfl⟩
end Go.Proofs.Ytjfmgplhcinkfaa
/- Move and Clean of a shard, as a law sees them. -/
namespace Go.Proofs.Ytjfmgplhcinkfaa
open Go.RowKit
set_option linter.unusedVariables false
set_option linter.unusedSimpArgs false

section
variable {w w' : World} {A : Nat → Prop} {N b : Nat} {R : List (ByteArray × ByteArray)} {F : Ch}
theorem lmove_any (h : ShA w A N b R F) (v : Value) (R' : List (ByteArray × ByteArray)) (hR : R'.length ≤ 100) (hr : RowAt KR w v R') :
    Calls Try.prog 14 #[.pointer (some ⟨b, 0, none⟩), v] w fun e w' => e = .returned (.tuple #[]) ∧ ShA w' A N b R' (cutF F (ownsK R')) ∧ Wr A w w' := by
  obtain ⟨S, L, h1, h2, h3⟩ := h
  refine (smove_any h1 v R' hR hr).mono ?_
  rintro e w' ⟨he, ⟨S', hs, hsub⟩, hm⟩
  obtain ⟨g1, g2⟩ := ShA.of_put (N := N) h3 hs (Nat.le_trans (List.length_filter_le _ _) h2) hsub hm
  exact ⟨he, g1, g2⟩
theorem lclean_any (h : ShA w A N b R F) (hN : N ≤ 100000) (hF : ∀ k, (F k).length ≤ 100000) (s : Int × Int) (v : Value) (pins : List De) (hp : pins.length ≤ 100000) (hpk : ∀ d ∈ pins, d.1.size ≤ maxLen ∧ In64 d.2) (hpr : DepAt w v pins) :
    Calls Try.prog 13 #[.pointer (some ⟨b, 0, none⟩), sv s, v] w fun e w' => e = .returned (.tuple #[]) ∧ ShA w' A N b R (cleanF F s pins) ∧ Wr A w w' := by
  obtain ⟨S, L, h1, h2, h3⟩ := h
  refine (sclean_any h1 (by omega) hF s v pins hp hpk hpr).mono ?_
  rintro e w' ⟨he, ⟨S', hs, hsub⟩, hm⟩
  obtain ⟨g1, g2⟩ := ShA.of_put (N := N) h3 hs h2 hsub hm
  exact ⟨he, g1, g2⟩
end
theorem cutF_len {F : Ch} {p : ByteArray → Bool} {n : Nat} (h : ∀ k, (F k).length ≤ n) (k : ByteArray) : (cutF F p k).length ≤ n := by
  unfold cutF
  split
  · exact h k
  · simp
theorem cutF_yes {F : Ch} {p : ByteArray → Bool} {k : ByteArray} (h : p k = true) : cutF F p k = F k := by unfold cutF; rw [if_pos h]
theorem cutF_no {F : Ch} {p : ByteArray → Bool} {k : ByteArray} (h : p k = false) : cutF F p k = [] := by unfold cutF; rw [if_neg (by rw [h]; simp)]
theorem cutF_bd {F : Ch} {p : ByteArray → Bool} (hF : ∀ W d, ∀ y ∈ F d, VwB W y) : ∀ W d, ∀ y ∈ cutF F p d, VwB W y := fun W d y hy => by
  unfold cutF at hy
  split at hy
  · exact hF W d y hy
  · cases hy
theorem cleanF_len {F : Ch} {s : Int × Int} {pins : List De} {n : Nat} (h : ∀ k, (F k).length ≤ n) (k : ByteArray) : (cleanF F s pins k).length ≤ n := Nat.le_trans clean_len (h k)
theorem cleanF_bd {F : Ch} {s : Int × Int} {pins : List De} (hF : ∀ W d, ∀ y ∈ F d, VwB W y) : ∀ W d, ∀ y ∈ cleanF F s pins d, VwB W y := fun W d y hy => hF W d y (cleanL_sub y hy)
/-- Where the document's Find finds a key. -/
theorem rfind_any (a : Option Addr) (cap : Nat) (R : List (ByteArray × ByteArray)) (k : ByteArray) (w : World) (hl : R.length ≤ 100) (hr : RowAt KR w (.slice a R.length cap) R) :
    Calls Try.prog 21 #[.slice a R.length cap, .string k] w fun e w' => ∃ z : Int, e = .returned (.int .i64 z) ∧ decide (0 ≤ z) = ownsK R k ∧ Below w.heap.size w w' := by
  obtain ⟨a', c', e', _, _, _, h⟩ := hr
  cases e'
  refine (refFind_any a cap R k w hl h.rng).mono ?_
  rintro e w' ⟨he, hb⟩
  exact ⟨_, he, rfl, hb⟩
end Go.Proofs.Ytjfmgplhcinkfaa
/- ShardOwns' invariant: no key is kept that no range has; and what a step leaves of a shard. -/
namespace Go.Proofs.Ytjfmgplhcinkfaa
open Go.RowKit
set_option linter.unusedVariables false
set_option linter.unusedSimpArgs false

/-- What is kept of the chains at each step: of at most n versions each, within bounds, with no past, of keys that a range has. -/
structure Kp (R : List (ByteArray × ByteArray)) (F : Ch) (n : Nat) : Prop where
  len : ∀ d, (F d).length ≤ n
  bd : ∀ W d, ∀ x ∈ F d, VwB W x
  past : ∀ d, ∀ x ∈ F d, x.1.past = []
  own : ∀ d, F d ≠ [] → ownsK R d = true
theorem Kp.nil (R : List (ByteArray × ByteArray)) : Kp R (fun _ => []) 0 := ⟨fun d => by simp, fun W d x hx => (List.not_mem_nil hx).elim, fun d x hx => (List.not_mem_nil hx).elim, fun d h => absurd rfl h⟩
theorem Kp.mono {R : List (ByteArray × ByteArray)} {F : Ch} {n m : Nat} (h : Kp R F n) (hm : n ≤ m) : Kp R F m := ⟨fun d => Nat.le_trans (h.len d) hm, h.bd, h.past, h.own⟩
theorem Kp.put {R : List (ByteArray × ByteArray)} {F : Ch} {n : Nat} (h : Kp R F n) {x : Vw} (hx : ∀ W, VwB W x) (hp : x.1.past = []) : Kp R (putF R F x) (n + 1) := by
  refine ⟨fun d => putF_len R F x h.len d, putF_bd h.bd hx, fun d y hy => ?_, fun d hd => ?_⟩
  · rcases putF_mem hy with h1 | ⟨_, rfl, _⟩
    · exact h.past d y h1
    · exact hp
  · obtain ⟨y, hy⟩ := List.exists_mem_of_ne_nil _ hd
    rcases putF_mem hy with h1 | ⟨rfl, _, ho, _⟩
    · exact h.own d (fun e => by rw [e] at h1; cases h1)
    · exact ho
theorem Kp.cut {R R' : List (ByteArray × ByteArray)} {F : Ch} {n : Nat} (h : Kp R F n) : Kp R' (cutF F (ownsK R')) n := by
  refine ⟨cutF_len h.len, cutF_bd h.bd, fun d y hy => ?_, fun d hd => ?_⟩
  · by_cases e : ownsK R' d = true
    · rw [cutF_yes e] at hy
      exact h.past d y hy
    · rw [cutF_no (by simpa using e)] at hy
      cases hy
  · by_cases e : ownsK R' d = true
    · exact e
    · exact absurd (cutF_no (by simpa using e)) hd
theorem Kp.clean {R : List (ByteArray × ByteArray)} {F : Ch} {n : Nat} (h : Kp R F n) (s : Int × Int) (pins : List De) : Kp R (cleanF F s pins) n := by
  refine ⟨cleanF_len h.len, cleanF_bd h.bd, fun d y hy => h.past d y (cleanL_sub y hy), fun d hd => h.own d (fun e => hd (by
    unfold cleanF
    exact clean_ne.2 e))⟩
/-- What is found behind a put that went well. -/
theorem put_found {R : List (ByteArray × ByteArray)} {F : Ch} {x : Vw} (h : (ownsK R x.1.key && putOk (F x.1.key) x) = true) : (lastP (isS x.1.st) (putF R F x x.1.key)).isSome = true ∧ ((lastP (isS x.1.st) (putF R F x x.1.key)).getD vw0) = x := by
  rw [put_at h]
  exact ⟨rfl, rfl⟩
/-- A key of the list has a version, and a range has it. -/
theorem Kp.key {R : List (ByteArray × ByteArray)} {F : Ch} {n : Nat} (h : Kp R F n) {L : List ByteArray} (hl : KeyL F L) {k : ByteArray} (hk : k ∈ L) : ownsK R k = true ∧ (F k).getLast?.isSome = true := by
  have hne := (hl.2 k).1 hk
  refine ⟨h.own k hne, ?_⟩
  cases e : (F k).getLast? with
  | some y => rfl
  | none => exact absurd (List.getLast?_eq_none_iff.1 e) hne
end Go.Proofs.Ytjfmgplhcinkfaa
/- Arrays of two and three ints, and slices of ints, among the arguments, opened. -/
namespace Go.Proofs.Ytjfmgplhcinkfaa
open Go.ChangeShapes Go.WideShapes Go.ChangeAt Go.RowKit Go.Joins Go.Deep
set_option linter.unusedVariables false

section
variable {H : Type} {enc : TypeId × Value → H} {P : Program} {w : World} {base : Nat} {spare : Nat → Bool} {held : Bool}
theorem open_intsT2 {r : Reach} {b0 : Nat} {t e : TypeId} {v : Value} {d : DataW H} {p : List MemPlace}
    (ht : P.underlying t = some (.array 2 e)) (he : P.underlying e = some (.int .i64)) (hc : P.cellsOf t = 2) (hce : P.cellsOf e = 1)
    (hv : Value.okWide P w r b0 t v) (h : DataW.Trod enc P w base spare held t v d p) :
    ∃ q0 q1 : Int, v = .agg #[.int .i64 q0, .int .i64 q1] ∧ (-9223372036854775808 ≤ q0 ∧ q0 ≤ 9223372036854775807) ∧ (-9223372036854775808 ≤ q1 ∧ q1 ≤ 9223372036854775807) := by
  obtain ⟨cs, rfl, hl, hx⟩ := open_arr ht hc hce hv h
  match cs, hl with
  | [c0, c1], _ =>
    obtain ⟨_, _, k0⟩ := hx 0 (by simp)
    obtain ⟨_, _, k1⟩ := hx 1 (by simp)
    obtain ⟨n0, e0, _, w0⟩ := DataW.trod_int he k0
    obtain ⟨n1, e1, _, w1⟩ := DataW.trod_int he k1
    simp at e0 e1
    subst e0 e1
    exact ⟨n0, n1, rfl, bounds_i64 w0, bounds_i64 w1⟩
theorem open_intsT3 {r : Reach} {b0 : Nat} {t e : TypeId} {v : Value} {d : DataW H} {p : List MemPlace}
    (ht : P.underlying t = some (.array 3 e)) (he : P.underlying e = some (.int .i64)) (hc : P.cellsOf t = 3) (hce : P.cellsOf e = 1)
    (hv : Value.okWide P w r b0 t v) (h : DataW.Trod enc P w base spare held t v d p) :
    ∃ q0 q1 q2 : Int, v = .agg #[.int .i64 q0, .int .i64 q1, .int .i64 q2] ∧ (-9223372036854775808 ≤ q0 ∧ q0 ≤ 9223372036854775807) ∧ (-9223372036854775808 ≤ q1 ∧ q1 ≤ 9223372036854775807) ∧ (-9223372036854775808 ≤ q2 ∧ q2 ≤ 9223372036854775807) := by
  obtain ⟨cs, rfl, hl, hx⟩ := open_arr ht hc hce hv h
  match cs, hl with
  | [c0, c1, c2], _ =>
    obtain ⟨_, _, k0⟩ := hx 0 (by simp)
    obtain ⟨_, _, k1⟩ := hx 1 (by simp)
    obtain ⟨_, _, k2⟩ := hx 2 (by simp)
    obtain ⟨n0, e0, _, w0⟩ := DataW.trod_int he k0
    obtain ⟨n1, e1, _, w1⟩ := DataW.trod_int he k1
    obtain ⟨n2, e2, _, w2⟩ := DataW.trod_int he k2
    simp at e0 e1 e2
    subst e0 e1 e2
    exact ⟨n0, n1, n2, rfl, bounds_i64 w0, bounds_i64 w1, bounds_i64 w2⟩
end
/-- A slice of ints that came in, as a row. -/
theorem isRow_rowT {w : World} {a : Option Addr} {len cap : Nat} {zs : List Int} (h : IsRow .i64 w a len cap zs) : ∃ l : List Int, l.length = len ∧ RowAt KI w (.slice a len cap) l ∧ ∀ z ∈ l, -9223372036854775808 ≤ z ∧ z ≤ 9223372036854775807 := by
  rcases h with ⟨rfl, rfl, rfl, rfl⟩ | ⟨x, rfl, hl, hm, hz, hcell, hwz⟩
  · exact ⟨[], rfl, ⟨none, 0, rfl, by simp, by simp, by simp, fun i hi => absurd hi (by simp)⟩, by simp⟩
  · have hlz : (zs.take len).length = len := by rw [List.length_take]; omega
    refine ⟨zs.take len, hlz, ⟨some x, cap, by rw [hlz], by omega, hm, by simp, fun i hi => ?_⟩, fun z hzz => bounds_i64 (hwz z (List.mem_of_mem_take hzz))⟩
    obtain ⟨b, off, spot⟩ := x
    have hi' : i < zs.length := by omega
    have hspot : spot = none := by simpa [Addr.add] using World.cell?_spot (hcell 0 (by omega))
    subst hspot
    have hcl := hcell i hi'
    rw [Addr.add_lit] at hcl
    refine ⟨b, off, rfl, lt_of_cellN hcl, fun j u hu => ?_⟩
    have e : (zs.take len)[i] = zs[i] := by simp
    have hj : j < 1 := by have := (List.getElem?_eq_some_iff.1 hu).1; simpa [KI] using this
    obtain rfl : j = 0 := by omega
    simp [KI] at hu ⊢
    rw [← hu]
    simpa [List.getD_eq_getElem?_getD, hi'] using hcl
end Go.Proofs.Ytjfmgplhcinkfaa
