/- The document's own sender and receiver: what their methods do. -/
import Derived.Test.YtlpfnclbkndcgaaLinkEnds
import Derived.Test.YtlpfnclbkndcgaaGen
namespace Go.Proofs.Ytlpfnclbkndcgaa
open Go.RowKit
set_option linter.unusedVariables false
set_option linter.unusedSimpArgs false

/-- The document's sender: all that was sent lies in a row of one's own, which v is; so many are answered. -/
structure RfAt (w : World) (c B : Nat) (v : Value) (all : List ByteArray) (ans : Nat) : Prop where
  row : OwnR KS w B v all
  c0 : w.cell? ⟨c, 0, none⟩ = some v
  c1 : w.cell? ⟨c, 1, none⟩ = some (.int .i64 (ans : Int))
  f0 : w.frozen? ⟨c, 0, none⟩ = false
  f1 : w.frozen? ⟨c, 1, none⟩ = false
  ne : v.ownBlock ≠ some c
theorem RfAt.lt {w : World} {c B : Nat} {v : Value} {all : List ByteArray} {ans : Nat} (h : RfAt w c B v all ans) : c < w.heap.size := lt_of_cellN h.c0
theorem RfAt.block {w w' : World} {c B : Nat} {v : Value} {all : List ByteArray} {ans : Nat} (h : RfAt w c B v all ans) (hc : w'.heap[c]? = w.heap[c]?) (hv : ∀ g, v.ownBlock = some g → w'.heap[g]? = w.heap[g]?) : RfAt w' c B v all ans := by
  refine ⟨h.row.block hv, ?_, ?_, ?_, ?_, h.ne⟩
  · rw [World.cell?_of_block hc]; exact h.c0
  · rw [World.cell?_of_block hc]; exact h.c1
  · rw [World.frozen?_of_block hc]; exact h.f0
  · rw [World.frozen?_of_block hc]; exact h.f1
theorem RfAt.keep {w w' : World} {c B : Nat} {v : Value} {all : List ByteArray} {ans : Nat} (h : RfAt w c B v all ans) (hb : Below w.heap.size w w') : RfAt w' c B v all ans :=
  h.block (hb.block c h.lt) (fun g e => hb.block g (h.row.lt g e).2)
theorem RfAt.mv {P : Nat → Prop} {w w' : World} {c B : Nat} {v : Value} {all : List ByteArray} {ans : Nat} (h : RfAt w c B v all ans) (hb : Mv P w w') (hc : ¬ P c) (hv : ∀ g, v.ownBlock = some g → ¬ P g) : RfAt w' c B v all ans :=
  h.block (hb.block c h.lt hc) (fun g e => hb.block g (h.row.lt g e).2 (hv g e))
theorem RfAt.new (w : World) (B : Nat) (T : TypeId) : RfAt (w.alloc (.cells #[.slice none 0 0, .int .i64 0] T)) w.heap.size B (.slice none 0 0) [] 0 :=
  ⟨OwnR.nil _ _ _, by simp, by simp, by simp, by simp, by simp [Value.ownBlock]⟩
/-- The blocks of the document's sender. -/
def RfB (c : Nat) (v : Value) (j : Nat) : Prop := j = c ∨ v.ownBlock = some j

set_option maxRecDepth 100000 in
set_option maxHeartbeats 1600000 in
theorem refSend_ok (c B : Nat) (v : Value) (all : List ByteArray) (ans : Nat) (d : ByteArray) (w : World) (h : RfAt w c B v all ans) (hB : B ≤ w.heap.size) (hl : all.length ≤ 100000) (ha : ans ≤ all.length) (h8 : all.length < ans + 8) :
    Calls Try.prog 18 #[.pointer (some ⟨c, 0, none⟩), .string d] w fun e w' => e = .returned (.tuple #[.agg #[.int .i64 (all.length : Int), .string d], .int .i64 0]) ∧ ∃ v', RfAt w' c B v' (all ++ [d]) ans ∧ Mv (RfB c v) w w' ∧ ∀ j, j < w.heap.size → v.ownBlock ≠ some j → v'.ownBlock ≠ some j := by
  obtain ⟨a, cap, rfl⟩ := h.row.shape
  have hwo := h.row.lt' (Nat.le_refl w.heap.size)
  have hb := balloc (Below.refl _ w) (.cells #[.int .i64 0, .string ⟨#[]⟩] 39)
  have HM := Lib.hid (Mv.of_below (P := RfB c (.slice a all.length cap)) hb)
  have hlt := h.lt
  have hp := h.keep hb
  have hc0 := hp.c0
  have hc1 := hp.c1
  have HP := Lib.hid hp
  have HR := Lib.hid (PkV.new w 0 ⟨#[]⟩ 39)
  have HAL := Lib.hid ha
  have HL8 := Lib.hid h8
  have q8 : decide ((8 : Int) ≤ (all.length : Int) - (ans : Int)) = false := by simp; omega
  clear h hb hp
  go_enter Try.func18, Try.ntmps18
  go_upto_region 1 with fail
  generalize w.alloc (.cells #[.int .i64 0, .string ⟨#[]⟩] 39) = w1 at *
  go_quiet (fail)
  have hbd := bdrew10 w1 nq
  have HP2 := Lib.hid (HP.out.keep hbd)
  have HM2 := Lib.hid (HM.out.step hbd)
  have HR2 := Lib.hid (HR.out.keep hbd)
  have hB2 : B ≤ (w1.drewN nq).heap.size := by have := HM2.out.size; omega
  clear hbd HP HM HR q8 hc0 hc1
  generalize w1.drewN nq = w2 at *
  have hc0 := HP2.out.c0
  have hwc := HR2.out.lt
  go_upto_region 4 with (at_builtin; refine wp_pushR ks_ok (wr := w2) rfl _ _ rfl B (.slice a all.length cap) all d #[.string d] rfl rfl HP2.out.row rfl (by omega) hB2 ?_; intro g cap2 w3 ho3 hb3 hk3 hat3 hlt3; have e0 := hk3.cell HP2.out.lt HP2.out.ne HP2.out.c0; have e1 := hk3.cell HP2.out.lt HP2.out.ne HP2.out.c1; have ef0 : w3.frozen? ⟨c, 0, none⟩ = false := (World.frozen?_of_block (hk3 c HP2.out.lt HP2.out.ne)).trans HP2.out.f0; have ef1 : w3.frozen? ⟨c, 1, none⟩ = false := (World.frozen?_of_block (hk3 c HP2.out.lt HP2.out.ne)).trans HP2.out.f1)
  have hgc : g ≠ c := by
    rcases hat3 with h1 | h1
    · exact fun e => HP2.out.ne (e ▸ h1)
    · have := HP2.out.lt; omega
  have HR3 := Lib.hid (HR2.out.block (hk3 _ hwc hwo))
  have HM3 : Hid (Mv (RfB c (.slice a all.length cap)) w2 w3) := Lib.hid ⟨hb3.os, hb3.tape, hb3.output, hb3.size, fun j hj hp => hk3 j hj (fun e => hp (.inr e))⟩
  have hne1 : w.heap.size ≠ c := by omega
  have HM4 := Lib.hid ((HM2.out.trans HM3.out).set (b := c) (o := 0) (.inl rfl) (.slice (some ⟨g, 0, none⟩) (all.length + 1) cap2))
  have HR4 := Lib.hid (HR3.out.block (Below.heap_setCell w3 ⟨c, 0, none⟩ (.slice (some ⟨g, 0, none⟩) (all.length + 1) cap2) _ hne1))
  have x0 : (w3.setCell ⟨c, 0, none⟩ (.slice (some ⟨g, 0, none⟩) (all.length + 1) cap2)).cell? ⟨c, 0, none⟩ = some (.slice (some ⟨g, 0, none⟩) (all.length + 1) cap2) := World.cell?_setCell_same _ _ _ e0
  have hgo : ∀ k, (Value.slice (some ⟨g, 0, none⟩) (all.length + 1) cap2).ownBlock = some k → k = g := fun k hk => by simp [Value.ownBlock] at hk; exact hk.symm
  have HP4 : Hid (RfAt (w3.setCell ⟨c, 0, none⟩ (.slice (some ⟨g, 0, none⟩) (all.length + 1) cap2)) c B (.slice (some ⟨g, 0, none⟩) (all.length + 1) cap2) (all ++ [d]) ans) := Lib.hid (by
    have ho : OwnR KS w3 B (.slice (some ⟨g, 0, none⟩) (all.length + 1) cap2) (all ++ [d]) := by simpa using ho3
    refine ⟨ho.block (fun k hk => Below.heap_setCell _ _ _ _ (fun e => hgc ((hgo k hk).symm.trans e))), x0, ?_, by simpa using ef0, by simpa using ef1, fun e => hgc (hgo c e).symm⟩
    rw [World.cell?_setCell_other _ _ _ _ (by simp)]
    exact e1)
  have HOB : Hid (∀ j, j < w.heap.size → (Value.slice a all.length cap).ownBlock ≠ some j → (Value.slice (some ⟨g, 0, none⟩) (all.length + 1) cap2).ownBlock ≠ some j) := Lib.hid (fun j hj hn e => by
    have e2 := hgo j e
    subst e2
    rcases hat3 with h1 | h1
    · exact hn h1
    · have := HM2.out.size; omega)
  have HOW : Hid ((Value.slice (some ⟨g, 0, none⟩) (all.length + 1) cap2).ownBlock ≠ some w.heap.size) := Lib.hid (fun e => by
    have e2 := hgo _ e
    rcases hat3 with h1 | h1
    · exact hwo (e2 ▸ h1)
    · omega)
  clear hgo HM3 HR3 HM2 HR2 HP2 hc0 e0 e1 ef0 ef1 hk3 hb3 ho3 hat3 hlt3 x0
  generalize w3.setCell ⟨c, 0, none⟩ (.slice (some ⟨g, 0, none⟩) (all.length + 1) cap2) = w4 at *
  obtain ⟨r0, r1, rf0, rf1⟩ := HR4.out
  have hc0 := HP4.out.c0
  have HPE : Hid (RfAt ((w4.setCell ⟨w.heap.size, 0, none⟩ (.int .i64 (all.length : Int))).setCell ⟨w.heap.size, 1, none⟩ (.string d)) c B (.slice (some ⟨g, 0, none⟩) (all.length + 1) cap2) (all ++ [d]) ans) := Lib.hid (HP4.out.block (put2_block w4 w.heap.size _ _ c (fun e => hne1 e.symm)) (fun k hk => put2_block w4 w.heap.size _ _ k (fun e => HOW.out (e ▸ hk))))
  have HME := Lib.hid (HM4.out.low (put2_below w4 (Nat.le_refl w.heap.size) (.int .i64 (all.length : Int)) (.string d)))
  have hrr := HR4.out.put (all.length : Int) d
  have z0 := hrr.c0
  have z1 := hrr.c1
  clear HR4 HP4 HM4 hrr
  go_wp2_with fail
  refine bodyPost_ret (v := .tuple #[.agg #[.int .i64 (all.length : Int), .string d], .int .i64 0]) (by simp [results, Try.results18, go_sem, z0, z1]) rfl ⟨rfl, _, HPE.out, HME.out, HOB.out⟩
end Go.Proofs.Ytlpfnclbkndcgaa
