/- What repeat does. -/
import Derived.Test.YtgaghlofcokijaaNetSes
namespace Go.Proofs.Ytgaghlofcokijaa
open Go.RowKit
set_option linter.unusedVariables false
set_option linter.unusedSimpArgs false

theorem OwnQ.drew {w : World} {v : Value} {l : List (Int × ByteArray)} (h : OwnQ w v l) : OwnQ w.drew v l := h
theorem OwnQ.alloc {w : World} {v : Value} {l : List (Int × ByteArray)} (h : OwnQ w v l) (o : Obj) : OwnQ (w.alloc o) v l := h.below (balloc (Below.refl _ _) _)
/-- The slice that an append gave is stored. -/
theorem SesAt.stored1 {w w1 : World} {b : Nat} {s : Ses} {v v' : Value} {l : List (Int × ByteArray)} (h : SesAt w b s v) (hq : OwnQ w1 v' l) (hg : w.grownBy w1 v.ownBlock) (hv : v'.ownBlock = v.ownBlock ∨ ∃ g, v'.ownBlock = some g ∧ w.heap.size ≤ g) : SesAt (w1.setCell ⟨b, 19, none⟩ v') b ⟨s.all, s.m, l⟩ v' ∧ Mv (SesP b v) w (w1.setCell ⟨b, 19, none⟩ v') ∧ (∀ g, v'.ownBlock = some g → v.ownBlock = some g ∨ w.heap.size ≤ g) := by
  have hb : w1.heap[b]? = w.heap[b]? := hg.block b h.lt (fun e => h.ne e.symm)
  have h19 : w1.cell? ⟨b, 19, none⟩ = some v := by rw [World.cell?_of_block hb]; exact h.fl
  have hne : v'.ownBlock ≠ some b := by
    rcases hv with e | ⟨g, e, hge⟩
    · rw [e]; exact h.ne
    · intro e'
      rw [e] at e'
      cases e'
      have := h.lt
      omega
  have hsn := (h.sn.block hb)
  refine ⟨⟨?_, ?_, World.cell?_setCell_same _ _ _ h19, hq.block (fun g e => Below.heap_setCell _ _ _ _ (fun e' => hne (by rw [e]; exact congrArg some e'))), hne⟩, ⟨hg.os, hg.tape, hg.output, by simpa using hg.size, fun k hk hp => ?_⟩, fun g e => ?_⟩
  · obtain ⟨h8, pc, pd, hp, hh⟩ := hsn
    refine ⟨h8, pc, pd, ⟨?_, ?_, fun i hi => ?_, fun i hi => ?_, fun j => by simpa using hp.f j⟩, hh⟩
    · rw [World.cell?_setCell_other _ _ _ _ (by simp)]; exact hp.c0
    · rw [World.cell?_setCell_other _ _ _ _ (by simp)]; exact hp.cc
    · rw [World.cell?_setCell_other _ _ _ _ (by simp <;> omega)]; exact hp.ci i hi
    · rw [World.cell?_setCell_other _ _ _ _ (by simp <;> omega)]; exact hp.cd i hi
  · rw [World.cell?_setCell_other _ _ _ _ (by simp), World.cell?_of_block hb]; exact h.rc
  · have h1 : k ≠ b := fun e => hp (.inl e)
    rw [Below.heap_setCell _ _ _ _ h1]
    exact hg.block k hk (fun e => hp (.inr e.symm))
  · rcases hv with e' | ⟨g', e', hge⟩
    · exact .inl (e' ▸ e)
    · rw [e'] at e
      cases e
      exact .inr hge

theorem SesAt.stored {w w1 : World} {b : Nat} {s : Ses} {v v' : Value} {l : List (Int × ByteArray)} (h : SesAt w b s v) (hq : OwnQ w1 v' l) (hg : w.grownBy w1 v.ownBlock) (hv : v'.ownBlock = v.ownBlock ∨ ∃ g, v'.ownBlock = some g ∧ w.heap.size ≤ g) : SesTo w b v (w1.setCell ⟨b, 19, none⟩ v') ⟨s.all, s.m, l⟩ := ⟨v', h.stored1 hq hg hv⟩

set_option maxRecDepth 100000 in
set_option maxHeartbeats 1600000 in
theorem repeat_at (b : Nat) (s : Ses) (v : Value) (n : Int) (d : ByteArray) (w : World) (h : SesAt w b s v) (hl : s.way.length ≤ 1000) :
    Calls Try.prog 22 #[.pointer (some ⟨b, 0, none⟩), .agg #[.int .i64 n, .string d]] w fun e w' => e = .returned (.bool (!decide (32 ≤ s.way.length))) ∧ SesTo w b v w' (s.rep (n, d)) := by
  have hba := balloc (Below.refl _ w) (.cells #[.int .i64 n, .string d] 53)
  have H2 := Lib.hid (h.below hba)
  have HB := Lib.hid hba
  have HH := Lib.hid h
  have hf := H2.out.fl
  have hfr := H2.out.fr 19
  obtain ⟨p, c, hv⟩ := h.row.shape
  obtain ⟨p0, p1, _, _⟩ := PkV.new w n d 53
  have HVV := Lib.hid hv
  unfold Ses.rep
  by_cases h32 : 32 ≤ s.way.length
  · have h32i : 32 ≤ (s.way.length : Int) := by omega
    rw [if_pos h32, decide_eq_true h32]
    subst hv
    clear h hba
    go_enter Try.func22, Try.ntmps22
    go_wp2
    go_ret
    exact ⟨rfl, (SesTo.refl HH.out).below HB.out⟩
  · have h32i : ¬ 32 ≤ (s.way.length : Int) := by omega
    rw [if_neg h32, decide_eq_false h32]
    have HQ := Lib.hid H2.out.row
    have HL : Hid (s.way.length + [(n, d)].length ≤ 1000000) := Lib.hid (by simp; omega)
    subst hv
    have HNE : Hid (some b ≠ (Value.slice p s.way.length c).ownBlock) := Lib.hid (fun e => H2.out.ne e.symm)
    clear h hba hl
    go_enter Try.func22, Try.ntmps22
    go_upto_region 3 with fail
    generalize w.alloc (.cells #[.int .i64 n, .string d] 53) = w1 at *
    have hba := balloc (Below.refl _ w1) (.cells #[.int .i64 n, .string d] 53)
    have H3 := Lib.hid (H2.out.below hba)
    have HB3 := Lib.hid hba
    have hfr3 := H3.out.fr 19
    have hf3 := H3.out.fl
    clear hba
    go_region_law (refine step_appendQ rfl _ _ rfl (.slice p s.way.length c) s.way (by simp [Act.eval, Act.put]) (HQ.out.alloc _).drew ⟨w1.heap.size, 0, none⟩ 1 1 [(n, d)] rfl (by simp [Act.eval, Act.put]) (World.news_of_block (heap_alloc_new w1 _)) HL.out ?_; intro gb gk w3 ho3 hg3 hat3; have hbb := hg3.block b H3.out.lt HNE.out; have h19 := (World.cell?_of_block (a := ⟨b, 19, none⟩) hbb).trans H3.out.fl; have hf19 := (World.frozen?_of_block (a := ⟨b, 19, none⟩) hbb).trans (H3.out.fr 19))
    all_goals
      have HE := SesAt.stored H3.out (w1 := w3) ho3 ⟨hg3.os, hg3.tape, hg3.output, hg3.size, hg3.block⟩ (hat3.imp id (fun e => ⟨_, e, Nat.le_refl _⟩))
      go_wp2
      go_ret
      rw [List.length_append] at HE
      exact ⟨rfl, SesTo.trans (Mv.of_below (bstep HB.out HB3.out)) (fun g e => .inl e) HE⟩
end Go.Proofs.Ytgaghlofcokijaa
