/- What a net's Send does. -/
import Derived.Test.YtgaghlofcokijaaNetNet
import Derived.Test.YtgaghlofcokijaaNetSend
namespace Go.Proofs.Ytgaghlofcokijaa
open Go.RowKit
set_option linter.unusedVariables false
set_option linter.unusedSimpArgs false

theorem SesAt.sender {w w1 : World} {b : Nat} {s : Ses} {v : Value} (h : SesAt w b s v) (hlo : s.m ≤ s.all.length) (d : ByteArray) (hs : SnAt w1 b s.m (s.all.drop s.m ++ [d])) (hm : MvS b w w1) : SesAt w1 b ⟨s.all ++ [d], s.m, s.way⟩ v ∧ Mv (SesP b v) w w1 := by
  have hlt : b < w.heap.size := h.lt
  refine ⟨⟨?_, (hm.hi 18 (Nat.le_refl _) hlt).trans h.rc, (hm.hi 19 (by omega) hlt).trans h.fl, h.row.mv hm.toMv (fun g e e' => h.ne (by rw [e, e'])), h.ne⟩, hm.toMv.mono (fun k e => .inl e)⟩
  show SnAt w1 b s.m ((s.all ++ [d]).drop s.m)
  rw [List.drop_append_of_le_length hlo]
  exact hs
theorem SesAt.same {w w1 : World} {b : Nat} {s : Ses} {v : Value} (h : SesAt w b s v) (hs : SnAt w1 b s.m (s.all.drop s.m)) (hm : MvS b w w1) : SesTo w b v w1 s := by
  have hlt : b < w.heap.size := h.lt
  exact ⟨v, ⟨hs, (hm.hi 18 (Nat.le_refl _) hlt).trans h.rc, (hm.hi 19 (by omega) hlt).trans h.fl, h.row.mv hm.toMv (fun g e e' => h.ne (by rw [e, e'])), h.ne⟩, hm.toMv.mono (fun k e => .inl e), fun g e => .inl e⟩

set_option maxRecDepth 100000 in
set_option maxHeartbeats 3200000 in
theorem nsend_ses {w : World} (nv : Value) (a b : Int) (d : ByteArray) (B : Nat) (s : Ses) (v : Value) (hs : Calls Try.prog 19 #[nv, .int .i64 a, .int .i64 b] w fun e w' => e = .returned (.pointer (some ⟨B, 0, none⟩)) ∧ w' = w)
    (h : SesAt w B s v) (hok : s.Ok) (hn : s.all.length ≤ 900000) :
    Calls Try.prog 11 #[nv, .int .i64 a, .int .i64 b, .string d] w fun e w' => e = .returned (.int .i64 s.sentE) ∧ SesTo w B v w' (s.sent d) := by
  have hdl : (s.all.drop s.m).length = s.opn := by rw [List.length_drop]; rfl
  have hlo := hok.lo
  have h8 := hok.opn8
  have hln := hok.ln40
  unfold Ses.sentE Ses.sent
  by_cases ho : s.opn < 8
  · rw [if_pos ho, if_pos ho]
    have hsd := send_ok B s.m (s.all.drop s.m) d w h.sn (by omega) (by omega)
    have hlen : s.m + (s.all.drop s.m).length = s.all.length := by rw [List.length_drop]; omega
    unfold SentAt at hsd
    rw [hlen] at hsd
    have HH := Lib.hid h
    have HLO := Lib.hid hlo
    have HLN := Lib.hid hln
    have HBL : Hid (B < w.heap.size) := Lib.hid h.lt
    clear h hok hdl hlo h8 hln ho hlen
    go_enter Try.func11, Try.ntmps11
    go_wp2_with fail
    refine hs.mono ?_
    rintro e w2 ⟨rfl, rfl⟩
    clear hs
    go_wp2_with fail
    refine hsd.mono ?_
    rintro e w3 ⟨rfl, hs3, hm3⟩
    obtain ⟨s3, m3⟩ := HH.out.sender HLO.out d hs3 hm3
    have HM3 := Lib.hid m3
    have HS3 := Lib.hid s3
    clear hs3 hm3 s3 m3 hsd
    have ha := balloc (Below.refl _ w3) (.cells #[.int .i64 (s.all.length : Int), .string d] 53)
    have HS4 := Lib.hid (HS3.out.below ha)
    have HB4 := Lib.hid ha
    have HV := Lib.hid (PkV.new w3 (s.all.length : Int) d 53)
    clear ha
    go_upto_region 7 with fail
    generalize w3.alloc (.cells #[.int .i64 (s.all.length : Int), .string d] 53) = w4 at *
    have hba := balloc (Below.refl _ w4) (.cells #[.int .i64 (s.all.length : Int), .string d] 53)
    obtain ⟨v0, v1, _, _⟩ := HV.out
    have v0' := kc hba v0
    have v1' := kc hba v1
    have H3 := Lib.hid (HS4.out.below hba)
    have HB3 := Lib.hid hba
    have hf := HS4.out.fl
    have hf3 := H3.out.fl
    have hfr3 := H3.out.fr 19
    have HQ := Lib.hid HS4.out.row
    obtain ⟨p, c, hv⟩ := HS4.out.row.shape
    have HL : Hid (s.way.length + [((s.all.length : Int), d)].length ≤ 1000000) := Lib.hid (by have := HLN.out; simp; omega)
    have HNE : Hid (some B ≠ v.ownBlock) := Lib.hid (fun e => HS4.out.ne e.symm)
    clear hba
    dsimp only at hv
    subst hv
    go_region_law (refine step_appendQ rfl _ _ rfl (.slice p s.way.length c) s.way (by simp [Act.eval, Act.put]) (HQ.out.alloc _).drew ⟨w4.heap.size, 0, none⟩ 1 1 [((s.all.length : Int), d)] rfl (by simp [Act.eval, Act.put]) (World.news_of_block (heap_alloc_new w4 _)) HL.out ?_; intro gb gk w5 ho5 hg5 hat5; have hbb := hg5.block B H3.out.lt HNE.out; have h19 := (World.cell?_of_block (a := ⟨B, 19, none⟩) hbb).trans H3.out.fl; have hf19 := (World.frozen?_of_block (a := ⟨B, 19, none⟩) hbb).trans (H3.out.fr 19))
    all_goals
      have HE := SesAt.stored H3.out (w1 := w5) ho5 ⟨hg5.os, hg5.tape, hg5.output, hg5.size, hg5.block⟩ (hat5.imp id (fun e => ⟨_, e, Nat.le_refl _⟩))
      go_wp2
      go_ret
      rw [List.length_append] at HE
      exact ⟨rfl, SesTo.trans ((HM3.out.step HB4.out).step HB3.out) (fun g e => .inl e) HE⟩
  · rw [if_neg ho, if_neg ho]
    have hsd := send_full B s.m (s.all.drop s.m) d w h.sn (by omega)
    have HH := Lib.hid h
    unfold FullAt at hsd
    clear h hok hdl hlo h8 hln ho
    go_enter Try.func11, Try.ntmps11
    go_wp2_with fail
    refine hs.mono ?_
    rintro e w2 ⟨rfl, rfl⟩
    clear hs
    go_wp2_with fail
    refine hsd.mono ?_
    rintro e w3 ⟨rfl, hs3, hm3⟩
    have HT := Lib.hid ((HH.out.same hs3 hm3).below (balloc (Below.refl _ w3) (.cells #[.int .i64 0, .string ⟨#[]⟩] 53)))
    clear hs3 hm3 hsd
    go_wp2
    go_ret
    exact ⟨rfl, HT.out⟩
theorem nsend_net {w : World} {far : Nat → Prop} {n N : Nat} {st : Nat → Nat → Ses} (h : NetAt w far n N st) (a b : Nat) (ha : a < N) (hb : b < N) (hab : a ≠ b) (d : ByteArray) (hn : (st a b).all.length ≤ 900000) :
    Calls Try.prog 11 #[.pointer (some ⟨n, 0, none⟩), .int .i64 (a : Int), .int .i64 (b : Int), .string d] w fun e w' => e = .returned (.int .i64 (st a b).sentE) ∧ NetAt w' far n N (upd st a b ((st a b).sent d)) ∧ Mv (fun k => ¬ far k) w w' := by
  obtain ⟨h6, mb, cnt, blk, vs, tg, h⟩ := h
  refine (nsend_ses _ _ _ d (blk a b) (st a b) (vs a b) (sess_ok h h6 ha hb hab) (h.se a b ha hb hab) (h.ok a b ha hb hab) hn).mono ?_
  rintro e w' ⟨rfl, ht⟩
  exact ⟨rfl, h.step h6 ha hb hab ht ((h.ok a b ha hb hab).sent d)⟩
end Go.Proofs.Ytgaghlofcokijaa
