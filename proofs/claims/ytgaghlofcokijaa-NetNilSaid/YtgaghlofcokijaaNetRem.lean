/- What remove does. -/
import Derived.Test.YtgaghlofcokijaaNetRep
namespace Go.Proofs.Ytgaghlofcokijaa
open Go.RowKit
set_option linter.unusedVariables false
set_option linter.unusedSimpArgs false

theorem take_drop_set {α : Type} (l : List α) (i : Nat) (x : α) : (l.set i x).take i ++ (l.set i x).drop (i + 1) = l.eraseIdx i := by
  rw [List.eraseIdx_eq_take_drop_succ, List.take_set_of_le (Nat.le_refl _), List.drop_set_of_lt (by omega)]
/-- The tail of a row. -/
theorem OwnQ.tail {w : World} {g n cap : Nat} {l : List (Int × ByteArray)} (h : OwnQ w (.slice (some ⟨g, 0, none⟩) n cap) l) (k : Nat) : ∀ j u, (rV KPk (l.drop k))[j]? = some u → w.cell? ((⟨g, k * 2, none⟩ : Addr).add j) = some u := by
  intro j u hu
  have e2 : rV KPk l = rV KPk (l.take k) ++ rV KPk (l.drop k) := by
    unfold rV
    rw [← List.flatMap_append, List.take_append_drop]
  rw [Addr.add_lit]
  refine h.cells _ _ ?_
  have hk : k ≤ l.length := by
    rcases Nat.lt_or_ge l.length k with h1 | h1
    · rw [List.drop_eq_nil_of_le (by omega)] at hu; simp [rV] at hu
    · exact h1
  rw [e2, List.getElem?_append_right (by rw [rV_len kpk_ok, List.length_take, Nat.min_eq_left hk]; show k * 2 ≤ _; omega), rV_len kpk_ok, List.length_take, Nat.min_eq_left hk]
  rw [show k * 2 + j - k * KPk.sz = j by show k * 2 + j - k * 2 = j; omega]
  exact hu

set_option maxRecDepth 100000 in
set_option maxHeartbeats 3200000 in
theorem remove_at (b : Nat) (s : Ses) (v : Value) (i : Nat) (w : World) (h : SesAt w b s v) (hi : i < s.way.length) (hl : s.way.length ≤ 1000) :
    Calls Try.prog 24 #[.pointer (some ⟨b, 0, none⟩), .int .i64 (i : Int)] w fun e w' => e = .returned (.agg #[.int .i64 s.way[i].1, .string s.way[i].2]) ∧ SesTo w b v w' (s.out i) := by
  obtain ⟨g, cap, rfl, hcl, hcm⟩ := h.row.pos (by omega)
  have hp := h.row.at i hi
  generalize hN : s.way[i].1 = n at hp ⊢
  generalize hD : s.way[i].2 = d at hp ⊢
  have ha0 := balloc (Below.refl _ w) (.cells #[.int .i64 0, .string ⟨#[]⟩] 53)
  have ha1 := balloc (Below.refl _ (w.alloc (.cells #[.int .i64 0, .string ⟨#[]⟩] 53))) (.cells #[.int .i64 n, .string d] 53)
  have HB0 := Lib.hid (bstep ha0 ha1)
  have HS0 := Lib.hid h
  have HS := Lib.hid (h.below (bstep ha0 ha1))
  have HR := Lib.hid ((PkV.new w 0 ⟨#[]⟩ 53).keep ha1)
  have HV := Lib.hid (PkV.new (w.alloc (.cells #[.int .i64 0, .string ⟨#[]⟩] 53)) n d 53)
  have f0 := kc ha0 h.fl
  have p0 := kc ha0 hp.1
  have p1 := kc ha0 hp.2
  have hii : (i : Int) < (s.way.length : Int) := by omega
  have HZ : Hid ((w.alloc (.cells #[.int .i64 0, .string ⟨#[]⟩] 53)).heap.size = w.heap.size + 1) := Lib.hid (by simp)
  clear h ha0 ha1 hp hN hD
  go_enter Try.func24, Try.ntmps24
  go_upto_region 2 with fail
  clear f0 p0 p1
  generalize w.alloc (.cells #[.int .i64 0, .string ⟨#[]⟩] 53) = w1 at *
  generalize w1.alloc (.cells #[.int .i64 n, .string d] 53) = w2 at *
  have f0 := HS.out.fl
  obtain ⟨p0, p1⟩ := HS.out.row.at i hi
  have q0 := HS.out.row.fr (i * 2)
  have q1 := HS.out.row.fr (i * 2 + 1)
  go_upto_region 3 with fail
  have hne : b ≠ g := fun e => HS.out.ne (by rw [e]; rfl)
  have HP := Lib.hid (HS.out.row.put i 0 ⟨#[]⟩)
  have HBK : Hid (∀ k, k ≠ g → ((w2.setCell ⟨g, i * 2, none⟩ (.int .i64 0)).setCell ⟨g, i * 2 + 1, none⟩ (.string ⟨#[]⟩)).heap[k]? = w2.heap[k]?) := Lib.hid (fun k hk => (Below.heap_setCell _ _ _ _ hk).trans (Below.heap_setCell _ _ _ _ hk))
  have hb3 := HBK.out b hne
  have hs3 := HS.out.sn.block hb3
  have HS3 : Hid (SesAt ((w2.setCell ⟨g, i * 2, none⟩ (.int .i64 0)).setCell ⟨g, i * 2 + 1, none⟩ (.string ⟨#[]⟩)) b ⟨s.all, s.m, s.way.set i (0, ⟨#[]⟩)⟩ (.slice (some ⟨g, 0, none⟩) s.way.length cap)) := Lib.hid ⟨hs3, (World.cell?_of_block (a := ⟨b, 18, none⟩) hb3).trans HS.out.rc, (World.cell?_of_block (a := ⟨b, 19, none⟩) hb3).trans HS.out.fl, HP.out, HS.out.ne⟩
  have HM3 : Hid (Mv (SesP b (.slice (some ⟨g, 0, none⟩) s.way.length cap)) w2 ((w2.setCell ⟨g, i * 2, none⟩ (.int .i64 0)).setCell ⟨g, i * 2 + 1, none⟩ (.string ⟨#[]⟩))) := Lib.hid (((Mv.refl _ w2).set (.inr rfl) _).set (.inr rfl) _)
  have hgr : g < w.heap.size := HS0.out.row.lt g rfl
  have HR3 := Lib.hid (HR.out.block (HBK.out w.heap.size (by omega)))
  have HV3 := Lib.hid (HV.out.block (HBK.out w1.heap.size (by have := HZ.out; omega)))
  clear hb3 hs3 f0 p0 p1 q0 q1 HBK HP HR HV
  generalize ((w2.setCell ⟨g, i * 2, none⟩ (.int .i64 0)).setCell ⟨g, i * 2 + 1, none⟩ (.string ⟨#[]⟩)) = w3 at *
  have f0 := HS3.out.fl
  have f1 := HS3.out.fr 19
  have HC := Lib.hid (HS3.out.row.cut i (by rw [List.length_set]; omega))
  have HT := Lib.hid (HS3.out.row.tail (i + 1))
  have HNL : Hid (((s.way.set i (0, ⟨#[]⟩)).drop (i + 1)).length = s.way.length - (i + 1)) := Lib.hid (by simp)
  have HLL : Hid (((s.way.set i (0, ⟨#[]⟩)).take i).length + ((s.way.set i (0, ⟨#[]⟩)).drop (i + 1)).length ≤ 1000000) := Lib.hid (by simp; omega)
  have HNG : Hid (some b ≠ (Value.slice (some ⟨g, 0, none⟩) i i).ownBlock) := Lib.hid (fun e => hne (by simpa [Value.ownBlock] using e))
  have HE : Hid ((s.way.set i (0, ⟨#[]⟩)).take i ++ (s.way.set i (0, ⟨#[]⟩)).drop (i + 1) = s.way.eraseIdx i) := Lib.hid (take_drop_set _ _ _)
  dsimp only at HC HT
  generalize (s.way.set i (0, ⟨#[]⟩)).take i = L at *
  generalize (s.way.set i (0, ⟨#[]⟩)).drop (i + 1) = NS at *
  have hic : (i : Int) ≤ (cap : Int) := by omega
  have hw1 : IntKind.i64.wrap ((i : Int) + 1) = ((i + 1 : Nat) : Int) := by rw [IntWalk.i64_in _ (by omega)]; omega
  have hil : ((i + 1 : Nat) : Int) ≤ (s.way.length : Int) := by omega
  have hlc : (s.way.length : Int) ≤ (cap : Int) := by omega
  generalize hJ : i + 1 = j at *
  have HJ := Lib.hid hJ
  have HFIN : ∀ gb gk w4, OwnQ w4 (.slice gb (L ++ NS).length gk) (L ++ NS) → w3.drew.grownBy w4 (Value.slice (some ⟨g, 0, none⟩) i i).ownBlock → ((Value.slice gb (L ++ NS).length gk).ownBlock = (Value.slice (some ⟨g, 0, none⟩) i i).ownBlock ∨ (Value.slice gb (L ++ NS).length gk).ownBlock = some w3.heap.size) →
      SesTo w b (.slice (some ⟨g, 0, none⟩) s.way.length cap) (((w4.setCell ⟨b, 19, none⟩ (.slice gb (L.length + NS.length) gk)).setCell ⟨w.heap.size, 0, none⟩ (.int .i64 n)).setCell ⟨w.heap.size, 1, none⟩ (.string d)) (s.out i) ∧ PkV (w4.setCell ⟨b, 19, none⟩ (.slice gb (L.length + NS.length) gk)) w.heap.size 0 ⟨#[]⟩ ∧ PkV (w4.setCell ⟨b, 19, none⟩ (.slice gb (L.length + NS.length) gk)) (w.heap.size + 1) n d := by
    intro gb gk w4 ho4 hg4 hat4
    obtain ⟨q1, q2, q3⟩ := SesAt.stored1 HS3.out (w1 := w4) ho4 ⟨hg4.os, hg4.tape, hg4.output, hg4.size, hg4.block⟩ (hat4.imp id (fun e => ⟨_, e, Nat.le_refl _⟩))
    rw [List.length_append] at q1 q2 q3 hat4
    rw [HE.out] at q1
    have hbw : b < w.heap.size := HS0.out.lt
    have hnw : w.heap.size ≠ b := by omega
    have hnw1 : w.heap.size + 1 ≠ b := by omega
    have k1 := HR3.out.lt
    have k2 := HV3.out.lt
    have hv3 := HV3.out
    rw [HZ.out] at hv3 k2
    have q4 := q1.block (w' := ((w4.setCell ⟨b, 19, none⟩ (.slice gb (L.length + NS.length) gk)).setCell ⟨w.heap.size, 0, none⟩ (.int .i64 n)).setCell ⟨w.heap.size, 1, none⟩ (.string d)) (put2_block _ w.heap.size _ _ b (fun e => hnw e.symm)) (fun g' e => put2_block _ w.heap.size _ _ g' (fun e' => by
      rcases hat4 with e2 | e2
      · rw [e2] at e
        simp [Value.ownBlock] at e
        omega
      · rw [e2] at e
        cases e
        omega))
    have q5 := (((Mv.of_below HB0.out).trans HM3.out).trans q2).low (put2_below (w4.setCell ⟨b, 19, none⟩ (.slice gb (L.length + NS.length) gk)) (Nat.le_refl w.heap.size) (.int .i64 n) (.string d))
    refine ⟨⟨_, q4, q5, fun g' e => ?_⟩, HR3.out.block ?_, hv3.block ?_⟩
    · rcases hat4 with e2 | e2
      · rw [e2] at e
        exact .inl e
      · rw [e2] at e
        cases e
        exact .inr (Nat.le_of_lt k1)
    · exact (Below.heap_setCell _ _ _ _ hnw).trans (hg4.block _ k1 (fun e => by simp [Value.ownBlock] at e; omega))
    · exact (Below.heap_setCell _ _ _ _ hnw1).trans (hg4.block _ k2 (fun e => by simp [Value.ownBlock] at e; omega))
  have HFIN := Lib.hid HFIN
  clear hJ
  by_cases hjc : cap = j
  · have hij : i ≤ j := by have := HJ.out; omega
    have hiji : (i : Int) ≤ (j : Int) := by omega
    go_region_law (refine step_appendQ rfl _ _ rfl (.slice (some ⟨g, 0, none⟩) i i) L (by simp [Act.eval, Act.put]) HC.out.drew ⟨g, 0, none⟩ (s.way.length - j) (cap - j) NS HNL.out (by simp [Act.eval, Act.put]; try omega) (by rw [show NS = [] from List.length_eq_zero_iff.1 (by have := HNL.out; omega)]; intro j u hu; simp [rV] at hu) HLL.out ?_; intro gb gk w4 ho4 hg4 hat4; have hbb := hg4.block b HS3.out.lt HNG.out; have h19 := (World.cell?_of_block (a := ⟨b, 19, none⟩) hbb).trans HS3.out.fl; have hf19 := (World.frozen?_of_block (a := ⟨b, 19, none⟩) hbb).trans (HS3.out.fr 19))
    all_goals
      obtain ⟨FT, FR, FV⟩ := HFIN.out gb gk w4 ho4 hg4 hat4
      clear ho4 hg4 hat4 hbb h19 hf19
      generalize w4.setCell ⟨b, 19, none⟩ (.slice gb (L.length + NS.length) gk) = w5 at *
      have hrr := FR.put n d
      have z0 := hrr.c0
      have z1 := hrr.c1
      have HFT := Lib.hid FT
      obtain ⟨r0, r1, rf0, rf1⟩ := FR
      obtain ⟨v0, v1, vf0, vf1⟩ := FV
      clear FT hrr f0 f1
      go_wp2_with fail
      refine bodyPost_ret (v := .agg #[.int .i64 n, .string d]) (by simp [results, Try.results24, go_sem, z0, z1]) rfl ⟨rfl, ?_⟩
      exact HFT.out
  · go_region_law (refine step_appendQ rfl _ _ rfl (.slice (some ⟨g, 0, none⟩) i i) L (by simp [Act.eval, Act.put]) HC.out.drew ⟨g, j * 2, none⟩ (s.way.length - j) (cap - j) NS HNL.out (by simp [Act.eval, Act.put]; try omega) HT.out HLL.out ?_; intro gb gk w4 ho4 hg4 hat4; have hbb := hg4.block b HS3.out.lt HNG.out; have h19 := (World.cell?_of_block (a := ⟨b, 19, none⟩) hbb).trans HS3.out.fl; have hf19 := (World.frozen?_of_block (a := ⟨b, 19, none⟩) hbb).trans (HS3.out.fr 19))
    all_goals
      obtain ⟨FT, FR, FV⟩ := HFIN.out gb gk w4 ho4 hg4 hat4
      clear ho4 hg4 hat4 hbb h19 hf19
      generalize w4.setCell ⟨b, 19, none⟩ (.slice gb (L.length + NS.length) gk) = w5 at *
      have hrr := FR.put n d
      have z0 := hrr.c0
      have z1 := hrr.c1
      have HFT := Lib.hid FT
      obtain ⟨r0, r1, rf0, rf1⟩ := FR
      obtain ⟨v0, v1, vf0, vf1⟩ := FV
      clear FT hrr f0 f1
      go_wp2_with fail
      refine bodyPost_ret (v := .agg #[.int .i64 n, .string d]) (by simp [results, Try.results24, go_sem, z0, z1]) rfl ⟨rfl, ?_⟩
      exact HFT.out
end Go.Proofs.Ytgaghlofcokijaa
