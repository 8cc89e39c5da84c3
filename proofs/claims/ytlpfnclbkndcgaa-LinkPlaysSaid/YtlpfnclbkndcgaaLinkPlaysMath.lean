/- What the law LinkPlays keeps from step to step: both ends, the code's and the document's. -/
import Derived.Test.YtlpfnclbkndcgaaLinkAwake
import Derived.Test.YtlpfnclbkndcgaaLinkRef2
import Derived.Test.YtlpfnclbkndcgaaLinkSame
import Derived.Test.YtlpfnclbkndcgaaOpen10
namespace Go.Proofs.Ytlpfnclbkndcgaa
open Go.RowKit
set_option linter.unusedVariables false
set_option linter.unusedSimpArgs false

/-- The code's sender and receiver, the document's sender and receiver. -/
structure Q4 (W w : World) (B R C D : Nat) (v : Value) (aS : Nat) (op : List ByteArray) (k : Nat) (all : List ByteArray) (at' : Nat) (k' : Nat) : Prop where
  sn : SnAt w B aS op
  rc : RcAt w R k
  rf : RfAt w C W.heap.size v all at'
  ru : RcAt w D k'
  br : B ≠ R
  bc : B ≠ C
  bd : B ≠ D
  rcn : R ≠ C
  rd : R ≠ D
  cd : C ≠ D
  vb : v.ownBlock ≠ some B
  vr : v.ownBlock ≠ some R
  vd : v.ownBlock ≠ some D
  lb : W.heap.size ≤ B
  lr : W.heap.size ≤ R
  lc : W.heap.size ≤ C
  ld : W.heap.size ≤ D
  bl : Below W.heap.size W w
section
variable {W w w' : World} {B R C D : Nat} {v v' : Value} {aS aS2 k k' at' at2 kn : Nat} {op op' all all' : List ByteArray}
theorem Q4.keep (h : Q4 W w B R C D v aS op k all at' k') (hb : Below w.heap.size w w') : Q4 W w' B R C D v aS op k all at' k' :=
  ⟨h.sn.keep hb, h.rc.keep hb, h.rf.keep hb, h.ru.keep hb, h.br, h.bc, h.bd, h.rcn, h.rd, h.cd, h.vb, h.vr, h.vd, h.lb, h.lr, h.lc, h.ld, bstep h.bl hb⟩
theorem Q4.s (h : Q4 W w B R C D v aS op k all at' k') (hs : SnAt w' B aS2 op') (hm : Mv (fun j => j = B) w w') : Q4 W w' B R C D v aS2 op' k all at' k' :=
  ⟨hs, h.rc.mv hm h.br.symm, h.rf.mv hm h.bc.symm (fun g e e2 => h.vb (by rw [e, e2])), h.ru.mv hm h.bd.symm, h.br, h.bc, h.bd, h.rcn, h.rd, h.cd, h.vb, h.vr, h.vd, h.lb, h.lr, h.lc, h.ld, mv_below10 h.bl hm h.lb⟩
theorem Q4.r (h : Q4 W w B R C D v aS op k all at' k') (hr : RcAt w' R kn) (hm : Mv (fun j => j = R) w w') : Q4 W w' B R C D v aS op kn all at' k' :=
  ⟨h.sn.mv hm h.br, hr, h.rf.mv hm h.rcn.symm (fun g e e2 => h.vr (by rw [e, e2])), h.ru.mv hm h.rd.symm, h.br, h.bc, h.bd, h.rcn, h.rd, h.cd, h.vb, h.vr, h.vd, h.lb, h.lr, h.lc, h.ld, mv_below10 h.bl hm h.lr⟩
theorem Q4.u (h : Q4 W w B R C D v aS op k all at' k') (hr : RcAt w' D kn) (hm : Mv (fun j => j = D) w w') : Q4 W w' B R C D v aS op k all at' kn :=
  ⟨h.sn.mv hm h.bd, h.rc.mv hm h.rd, h.rf.mv hm h.cd (fun g e e2 => h.vd (by rw [e, e2])), hr, h.br, h.bc, h.bd, h.rcn, h.rd, h.cd, h.vb, h.vr, h.vd, h.lb, h.lr, h.lc, h.ld, mv_below10 h.bl hm h.ld⟩
theorem Q4.ta (h : Q4 W w B R C D v aS op k all at' k') (hr : RfAt w' C W.heap.size v all at2) (hm : Mv (fun j => j = C) w w') : Q4 W w' B R C D v aS op k all at2 k' :=
  ⟨h.sn.mv hm h.bc, h.rc.mv hm h.rcn, hr, h.ru.mv hm h.cd.symm, h.br, h.bc, h.bd, h.rcn, h.rd, h.cd, h.vb, h.vr, h.vd, h.lb, h.lr, h.lc, h.ld, mv_below10 h.bl hm h.lc⟩
theorem Q4.t (h : Q4 W w B R C D v aS op k all at' k') (hr : RfAt w' C W.heap.size v' all' at') (hm : Mv (RfB C v) w w') (hv : ∀ j, j < w.heap.size → v.ownBlock ≠ some j → v'.ownBlock ≠ some j) : Q4 W w' B R C D v' aS op k all' at' k' := by
  have nb : ¬ RfB C v B := fun e => e.elim h.bc h.vb
  have nr : ¬ RfB C v R := fun e => e.elim h.rcn h.vr
  have nd : ¬ RfB C v D := fun e => e.elim h.cd.symm h.vd
  refine ⟨h.sn.mv hm nb, h.rc.mv hm nr, hr, h.ru.mv hm nd, h.br, h.bc, h.bd, h.rcn, h.rd, h.cd, hv B h.sn.lt h.vb, hv R h.rc.lt h.vr, hv D h.ru.lt h.vd, h.lb, h.lr, h.lc, h.ld, h.bl.trans (hm.below (fun j hj e => ?_) h.bl.size)⟩
  rcases e with e | e
  · have := h.lc; omega
  · exact h.rf.row.lo hj e
theorem Q4.new {w1 w2 w3 w4 : World} (hb : Below W.heap.size W w) (hs : SnAt w1 w.heap.size 0 []) (hb1 : Below w.heap.size w w1) (hr : RcAt w2 w1.heap.size 0) (hb2 : Below w1.heap.size w1 w2)
    (hf : RfAt w3 w2.heap.size W.heap.size (.slice none 0 0) [] 0) (hb3 : Below w2.heap.size w2 w3) (hu : RcAt w4 w3.heap.size 0) (hb4 : Below w3.heap.size w3 w4) :
    Q4 W w4 w.heap.size w1.heap.size w2.heap.size w3.heap.size (.slice none 0 0) 0 [] 0 [] 0 0 := by
  have h0 := hb.size
  have h1 := hs.lt
  have h2 := hr.lt
  have h3 := hf.lt
  exact ⟨(hs.keep hb2).keep hb3 |>.keep hb4, (hr.keep hb3).keep hb4, hf.keep hb4, hu, by omega, by omega, by omega, by omega, by omega, by omega, by simp [Value.ownBlock], by simp [Value.ownBlock], by simp [Value.ownBlock], by omega, by omega, by omega, by omega, bstep (bstep (bstep (bstep hb hb1) hb2) hb3) hb4⟩
theorem Q4.fresh (h : Q4 W w B R C D v aS op k all at' k') : B ≠ w.heap.size ∧ R ≠ w.heap.size ∧ C ≠ w.heap.size ∧ D ≠ w.heap.size ∧ v.ownBlock ≠ some w.heap.size ∧ W.heap.size ≤ w.heap.size :=
  ⟨Nat.ne_of_lt h.sn.lt, Nat.ne_of_lt h.rc.lt, Nat.ne_of_lt h.rf.lt, Nat.ne_of_lt h.ru.lt, h.rf.row.lt' (Nat.le_refl _), h.bl.size⟩
theorem Q4.other {P : Nat} (h : Q4 W w B R C D v aS op k all at' k') (hm : Mv (fun j => j = P) w w') (hP : B ≠ P ∧ R ≠ P ∧ C ≠ P ∧ D ≠ P ∧ v.ownBlock ≠ some P ∧ W.heap.size ≤ P) : Q4 W w' B R C D v aS op k all at' k' :=
  ⟨h.sn.mv hm hP.1, h.rc.mv hm hP.2.1, h.rf.mv hm hP.2.2.1 (fun g e e2 => hP.2.2.2.2.1 (by rw [e, e2])), h.ru.mv hm hP.2.2.2.1, h.br, h.bc, h.bd, h.rcn, h.rd, h.cd, h.vb, h.vr, h.vd, h.lb, h.lr, h.lc, h.ld, mv_below10 h.bl hm hP.2.2.2.2.2⟩
/-- The state, where both agree. -/
abbrev Pl (W w : World) (B R C D : Nat) (v : Value) (all : List ByteArray) (a k : Nat) : Prop := Q4 W w B R C D v a (all.drop a) k all a k
theorem Q4.text {n cap : Nat} {sa : Option Addr} (h : Q4 W w B R C D (.slice sa n cap) aS op k all at' k') {q : Nat} (hq : q < all.length) :
    ∃ b off, sa = some ⟨b, off, none⟩ ∧ w.cell? ⟨b, off + q, none⟩ = some (.string all[q]) := by
  obtain ⟨b, off, e, _, hc⟩ := (RowIn.of_own ks_ok h.rf.row).str q hq
  exact ⟨b, off, e, hc⟩
theorem Pl.answers (h : Pl W w B R C D v all at' k) (x : Int) :
    Calls Try.prog 13 #[.pointer (some ⟨B, 0, none⟩), .int .i64 x] w fun e w' => e = .returned (.int .i64 (Lk.ak at' (all.length - at') x : Int)) ∧ Q4 W w' B R C D v (at' + Lk.ak at' (all.length - at') x) (all.drop (at' + Lk.ak at' (all.length - at') x)) k all at' k := by
  refine (answer_at B at' _ x w h.sn).mono ?_
  rintro e w' ⟨rfl, hs, hm⟩
  rw [List.length_drop, List.drop_drop] at hs
  exact ⟨by rw [List.length_drop], h.s hs hm⟩
theorem Q4.refAnswers (h : Q4 W w B R C D v aS op k all at' k') (x : Int) (hl : all.length ≤ 100000) (ha : at' ≤ all.length) (hx : -9223372036854775808 ≤ x) :
    Calls Try.prog 14 #[.pointer (some ⟨C, 0, none⟩), .int .i64 x] w fun e w' => e = .returned (.int .i64 (Lk.ak at' (all.length - at') x : Int)) ∧ Q4 W w' B R C D v aS op k all (at' + Lk.ak at' (all.length - at') x) k' := by
  refine (refAnswer_at C W.heap.size v all at' x w h.rf hl ha hx).mono ?_
  rintro e w' ⟨rfl, hs, hm⟩
  exact ⟨rfl, h.ta hs hm⟩
theorem Pl.sends (h : Pl W w B R C D v all at' k) (d : ByteArray) (hl : all.length ≤ 1000) (ha : at' ≤ all.length) (h8 : all.length < at' + 8) :
    Calls Try.prog 17 #[.pointer (some ⟨B, 0, none⟩), .string d] w fun e w' => e = .returned (.tuple #[.agg #[.int .i64 (all.length : Int), .string d], .int .i64 0]) ∧ Q4 W w' B R C D v at' ((all ++ [d]).drop at') k all at' k ∧ Mv (fun j => j = B) w w' := by
  refine (send_ok B at' _ d w h.sn (by rw [List.length_drop]; omega) (by omega)).mono ?_
  rintro e w' ⟨rfl, hs, hm⟩
  rw [← List.drop_append_of_le_length ha] at hs
  exact ⟨by rw [List.length_drop, show at' + (all.length - at') = all.length by omega], h.s hs hm, hm⟩
theorem Pl.sendsFull (h : Pl W w B R C D v all at' k) (d : ByteArray) (h8 : ¬ all.length < at' + 8) :
    Calls Try.prog 17 #[.pointer (some ⟨B, 0, none⟩), .string d] w fun e w' => e = .returned (.tuple #[.agg #[.int .i64 0, .string ⟨#[]⟩], .int .i64 15]) ∧ Pl W w' B R C D v all at' k ∧ Mv (fun j => j = B) w w' := by
  refine (send_full B at' _ d w h.sn (by have := h.sn.1; rw [List.length_drop] at this ⊢; omega)).mono ?_
  rintro e w' ⟨rfl, hs, hm⟩
  exact ⟨rfl, h.s hs hm, hm⟩
theorem Q4.refSends (h : Q4 W w B R C D v aS op k all at' k') (d : ByteArray) (hl : all.length ≤ 1000) (ha : at' ≤ all.length) (h8 : all.length < at' + 8) :
    Calls Try.prog 18 #[.pointer (some ⟨C, 0, none⟩), .string d] w fun e w' => e = .returned (.tuple #[.agg #[.int .i64 (all.length : Int), .string d], .int .i64 0]) ∧ (∃ v', Q4 W w' B R C D v' aS op k (all ++ [d]) at' k') ∧ Mv (RfB C v) w w' := by
  refine (refSend_ok C W.heap.size v all at' d w h.rf h.bl.size (by omega) ha h8).mono ?_
  rintro e w' ⟨rfl, v', hr, hm, hv⟩
  exact ⟨rfl, ⟨v', h.t hr hm hv⟩, hm⟩
theorem Q4.takes (h : Q4 W w B R C D v aS op k all at' k') (n : Int) (d : ByteArray) (hk : k ≤ 1000) :
    Calls Try.prog 15 #[.pointer (some ⟨R, 0, none⟩), .agg #[.int .i64 n, .string d]] w fun e w' => e = .returned (.tuple #[.string (Lk.tk k n d).1, .bool (Lk.tk k n d).2]) ∧ Q4 W w' B R C D v aS op (Lk.tn k n) all at' k' ∧ Mv (fun j => j = R) w w' := by
  refine (take_at R k n d w h.rc (by omega)).mono ?_
  rintro e w' ⟨rfl, hr, hm⟩
  exact ⟨rfl, h.r hr hm, hm⟩
theorem Q4.refTakes (h : Q4 W w B R C D v aS op k all at' k') (n : Int) (d : ByteArray) (hk : k' ≤ 1000) :
    Calls Try.prog 16 #[.pointer (some ⟨D, 0, none⟩), .agg #[.int .i64 n, .string d]] w fun e w' => e = .returned (.tuple #[.string (Lk.tk k' n d).1, .bool (Lk.tk k' n d).2]) ∧ Q4 W w' B R C D v aS op k all at' (Lk.tn k' n) := by
  refine (refTake_at D k' n d w h.ru (by omega)).mono ?_
  rintro e w' ⟨rfl, hr, hm⟩
  exact ⟨rfl, h.u hr hm⟩
theorem Q4.open1 (h : Q4 W w B R C D v aS op k all at' k') :
    Calls Try.prog 20 #[.pointer (some ⟨B, 0, none⟩)] w fun e w' => ∃ g cap, e = .returned (.slice (some ⟨g, 0, none⟩) (Lk.pk aS op).length cap) ∧ RowIn KPk w' (some ⟨g, 0, none⟩) (Lk.pk aS op) ∧ Below w.heap.size w w' := by
  refine (open_at B aS op w h.sn).mono ?_
  rintro e w' ⟨g, rfl, _, hri, hb⟩
  exact ⟨g, _, by rw [Lk.pk_len], hri, hb⟩
theorem Q4.open2 (h : Q4 W w B R C D v aS op k all at' k') (hl : all.length ≤ 1000) (ha : at' ≤ all.length) :
    Calls Try.prog 21 #[.pointer (some ⟨C, 0, none⟩)] w fun e w' => ∃ g cap, e = .returned (.slice g (Lk.pk at' (all.drop at')).length cap) ∧ RowIn KPk w' g (Lk.pk at' (all.drop at')) ∧ Below w.heap.size w w' := by
  refine (refOpen_at C W.heap.size v all at' w h.rf (by omega) ha).mono ?_
  rintro e w' ⟨g, n, cap, rfl, rfl, hri, hb⟩
  exact ⟨g, _, by rw [Lk.pk_len], hri, hb⟩
theorem Pl.nexts (h : Pl W w B R C D v all at' k) (ha : at' ≤ all.length) :
    Calls Try.prog 22 #[.pointer (some ⟨B, 0, none⟩)] w fun e w' => e = .returned (.int .i64 (all.length : Int)) ∧ w' = w := by
  have := next_at B at' _ w h.sn
  rw [List.length_drop, show at' + (all.length - at') = all.length by omega] at this
  exact this
end
end Go.Proofs.Ytlpfnclbkndcgaa
