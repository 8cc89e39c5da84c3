/- What a net's Again does. -/
import Derived.Test.YtgaghlofcokijaaNetNet
import Derived.Test.YtgaghlofcokijaaLinkOpen
namespace Go.Proofs.Ytgaghlofcokijaa
open Go.RowKit
set_option linter.unusedVariables false
set_option linter.unusedSimpArgs false

/-- So many of the open packets sent again. -/
def Ses.agn (s : Ses) (k : Nat) : Ses := ⟨s.all, s.m, s.way ++ ((Lk.pk s.m (s.all.drop s.m)).take k).take (32 - s.way.length)⟩
theorem Ses.agn_zero (s : Ses) : s.agn 0 = s := by simp [Ses.agn]
theorem Ses.agn_all (s : Ses) : s.agn s.opn = s.again := by
  unfold Ses.agn Ses.again
  rw [List.take_of_length_le (l := Lk.pk s.m (s.all.drop s.m)) (by rw [Lk.pk_len, List.length_drop]; exact Nat.le_refl _)]
theorem Ses.agn_len (s : Ses) (k : Nat) (hk : k ≤ s.opn) : (s.agn k).way.length = s.way.length + min k (32 - s.way.length) := by
  have : (Lk.pk s.m (s.all.drop s.m)).length = s.opn := by rw [Lk.pk_len, List.length_drop]; rfl
  simp only [Ses.agn, List.length_append, List.length_take, this]
  omega
theorem Ses.agn_succ (s : Ses) (k : Nat) (hk : k < s.opn) : (s.agn k).rep ((Lk.pk s.m (s.all.drop s.m))[k]'(by rw [Lk.pk_len, List.length_drop]; exact hk)) = s.agn (k + 1) ∧ (if 32 ≤ (s.agn k).way.length then min k (32 - s.way.length) else min k (32 - s.way.length) + 1) = min (k + 1) (32 - s.way.length) := by
  have hlen := s.agn_len k (Nat.le_of_lt hk)
  have hps : (Lk.pk s.m (s.all.drop s.m)).length = s.opn := by rw [Lk.pk_len, List.length_drop]; rfl
  unfold Ses.rep
  by_cases h : 32 ≤ (s.agn k).way.length
  · rw [if_pos h, if_pos h]
    rw [hlen] at h
    refine ⟨?_, by omega⟩
    unfold Ses.agn
    rw [List.take_take, List.take_take, Nat.min_eq_left (by omega), Nat.min_eq_left (by omega)]
  · rw [if_neg h, if_neg h]
    rw [hlen] at h
    refine ⟨?_, by omega⟩
    unfold Ses.agn
    rw [List.take_take, List.take_take, Nat.min_eq_right (by omega), Nat.min_eq_right (by omega), List.append_assoc]
    rw [List.take_succ_eq_append_getElem (by omega)]
theorem RowIn.mvg {α : Type} {K : RK α} {P : Nat → Prop} {w w' : World} {g : Nat} {l : List α} (h : RowIn K w (some ⟨g, 0, none⟩) l) (hm : Mv P w w') (hp : ¬ P g) : RowIn K w' (some ⟨g, 0, none⟩) l := by
  intro i hi
  obtain ⟨b, off, e, hl, hc⟩ := h i hi
  cases e
  exact ⟨g, 0, rfl, Nat.lt_of_lt_of_le hl hm.size, fun j u hu => by rw [World.cell?_of_block (hm.block g hl hp)]; exact hc j u hu⟩

/-- The state of Again's loop. -/
def AgnI (w : World) (B : Nat) (v : Value) (s : Ses) (g : Nat) (k : Nat) (wr : World) : Prop :=
  ∃ v', SesAt wr B (s.agn k) v' ∧ Mv (SesP B v) w wr ∧ (∀ j, v'.ownBlock = some j → (v.ownBlock = some j ∨ w.heap.size ≤ j) ∧ j ≠ g) ∧ RowIn KPk wr (some ⟨g, 0, none⟩) (Lk.pk s.m (s.all.drop s.m)) ∧ (0 < s.opn → g < wr.heap.size)
theorem AgnI.step {w wr w2 : World} {B : Nat} {v : Value} {s : Ses} {g : Nat} {v' : Value} {s' : Ses} {k' : Nat} (hBg : B < g) (h1 : Mv (SesP B v) w wr) (h2 : ∀ j, v'.ownBlock = some j → (v.ownBlock = some j ∨ w.heap.size ≤ j) ∧ j ≠ g) (h3 : RowIn KPk wr (some ⟨g, 0, none⟩) (Lk.pk s.m (s.all.drop s.m))) (h4 : g < wr.heap.size) (ht : SesTo wr B v' w2 s') (hs : s' = s.agn k') : AgnI w B v s g k' w2 := by
  subst hs
  obtain ⟨v2, k1, k2, k3⟩ := ht
  have hgP : ¬ SesP B v' g := by
    rintro (e | e)
    · omega
    · exact (h2 g e).2 rfl
  refine ⟨v2, k1, ⟨k2.os.trans h1.os, k2.tape.trans h1.tape, k2.output.trans h1.output, Nat.le_trans h1.size k2.size, fun i hi hp => ?_⟩, fun j e => ?_, h3.mvg k2 hgP, fun _ => Nat.lt_of_lt_of_le h4 k2.size⟩
  · refine (k2.block i (Nat.lt_of_lt_of_le hi h1.size) ?_).trans (h1.block i hi hp)
    rintro (e | e)
    · exact hp (.inl e)
    · rcases (h2 i e).1 with e | e
      · exact hp (.inr e)
      · omega
  · rcases k3 j e with e | e
    · exact h2 j e
    · exact ⟨.inr (Nat.le_trans h1.size e), by omega⟩

set_option maxRecDepth 100000 in
set_option maxHeartbeats 3200000 in
theorem nagain_ses {w : World} (nv : Value) (a b : Int) (B : Nat) (s : Ses) (v : Value) (hs : Calls Try.prog 19 #[nv, .int .i64 a, .int .i64 b] w fun e w' => e = .returned (.pointer (some ⟨B, 0, none⟩)) ∧ w' = w)
    (h : SesAt w B s v) (hok : s.Ok) :
    Calls Try.prog 12 #[nv, .int .i64 a, .int .i64 b] w fun e w' => e = .returned (.int .i64 (s.againN : Int)) ∧ SesTo w B v w' s.again := by
  have hop := open_at B s.m (s.all.drop s.m) w h.sn
  unfold OpenedAt at hop
  rw [List.length_drop] at hop
  change Calls _ _ _ _ (fun e w' => ∃ g, e = .returned (.slice (some ⟨g, 0, none⟩) s.opn s.opn) ∧ _) at hop
  have HH := Lib.hid h
  have HOK := Lib.hid hok
  have HBL : Hid (B < w.heap.size) := Lib.hid h.lt
  have HO8 := Lib.hid hok.opn8
  have HCN : Hid (∀ k, k ≤ s.opn → min k (32 - s.way.length) ≤ 8) := Lib.hid (fun k hk => by have := hok.opn8; omega)
  have HPL : Hid ((Lk.pk s.m (s.all.drop s.m)).length = s.opn) := Lib.hid (by rw [Lk.pk_len, List.length_drop]; rfl)
  have HAN : Hid (s.againN = min s.opn (32 - s.way.length)) := Lib.hid (by unfold Ses.againN; omega)
  clear h hok
  go_enter Try.func12, Try.ntmps12
  go_wp2_with fail
  refine hs.mono ?_
  rintro e w2 ⟨rfl, rfl⟩
  clear hs
  go_wp2_with fail
  refine hop.mono ?_
  rintro e w3 ⟨g, rfl, hge, hrow, hb⟩
  have HBG : Hid (B < g) := Lib.hid (by have := HBL.out; omega)
  have HI : Hid (AgnI w2 B v s g 0 w3) := Lib.hid ⟨v, by rw [Ses.agn_zero]; exact HH.out.below hb, Mv.of_below hb, fun j e => ⟨.inl e, by have := HH.out.row.lt j e; omega⟩, hrow, fun h0 => by
      obtain ⟨b', off, e, hl, _⟩ := hrow 0 (by rw [HPL.out]; exact h0)
      cases e
      exact hl⟩
  clear hb hrow hge
  generalize hO : s.opn = ops at *
  have HO := Lib.hid hO
  clear hO
  go_wp2_with fail
  go_loopw [8, 22] (fun c i wr => ∃ k : Nat, k ≤ ops ∧ i = .int .i64 k ∧ c = .int .i64 (min k (32 - s.way.length) : Nat) ∧ AgnI w2 B v s g k wr) (fun _ i _ => ops - (intOf i).toNat)
  case atStart => exact ⟨0, by omega, rfl, by simp, HI.out⟩
  case round =>
    obtain ⟨k, hk, rfl, rfl, v', q1, q2, q3, q4, q5⟩ := hrel
    by_cases hlt : k < ops
    · have hki : (k : Int) < (ops : Int) := by omega
      obtain ⟨e1, e2⟩ := s.agn_succ k (by rw [HO.out]; exact hlt)
      obtain ⟨b', off, eb, hg, p0, p1⟩ := q4.pk k (by rw [HPL.out]; exact hlt)
      cases eb
      rw [Nat.zero_add] at p0 p1
      have HK := Lib.hid hk
      have hln : (s.agn k).way.length ≤ 1000 := by
        rw [s.agn_len k (by rw [HO.out]; exact hk)]
        have := HOK.out.ln
        have := HO8.out
        rw [HO.out] at *
        omega
      have HLT := Lib.hid hlt
      have hc8 := HCN.out k hk
      generalize (Lk.pk s.m (s.all.drop s.m))[k]'_ = pk at *
      obtain ⟨n, d⟩ := pk
      dsimp only at p0 p1
      have hba := balloc (Below.refl _ wr) (.cells #[.int .i64 n, .string d] 53)
      have hrp := repeat_at B (s.agn k) v' n d _ (q1.below hba) hln
      rw [e1] at hrp
      have HQ2 := Lib.hid (q2.step hba)
      have HQ3 := Lib.hid q3
      have HQ4 := Lib.hid (q4.below hba)
      have HQ5 := Lib.hid (Nat.lt_of_lt_of_le hg hba.size)
      have hV := PkV.new wr n d 53
      obtain ⟨z0, z1, _, _⟩ := hV
      clear q1 q2 q3 q4 q5 hba e1 hk hln hlt
      generalize min k (32 - s.way.length) = c at *
      have hk8 := HO8.out
      by_cases h32 : 32 ≤ (s.agn k).way.length
      · rw [if_pos h32] at e2
        rw [decide_eq_true h32] at hrp
        have HC := Lib.hid e2
        clear e2 h32
        go_wp2_with fail
        refine hrp.mono ?_
        rintro e w4 ⟨rfl, ht⟩
        have HE := Lib.hid (AgnI.step HBG.out HQ2.out HQ3.out HQ4.out HQ5.out ht rfl)
        clear ht hrp
        go_wp2
        go_roundw
        case rel => exact ⟨k + 1, HLT.out, by go_num, by rw [HC.out], HE.out⟩
        case measure => have := HLT.out; simp [intOf]; omega
      · rw [if_neg h32] at e2
        rw [decide_eq_false h32] at hrp
        have HC := Lib.hid e2
        clear e2 h32
        go_wp2_with fail
        refine hrp.mono ?_
        rintro e w4 ⟨rfl, ht⟩
        have HE := Lib.hid (AgnI.step HBG.out HQ2.out HQ3.out HQ4.out HQ5.out ht rfl)
        clear ht hrp
        go_wp2
        go_roundw
        case rel => exact ⟨k + 1, HLT.out, by go_num, by rw [← HC.out]; rfl, HE.out⟩
        case measure => have := HLT.out; simp [intOf]; omega
    · obtain rfl : k = ops := by omega
      have HT : Hid (SesTo w2 B v wr s.again) := Lib.hid ⟨v', by rw [← s.agn_all, HO.out]; exact q1, q2, fun j e => (q3 j e).1⟩
      clear q1 q2 q3 q4 q5 hlt hk
      go_wp2
      go_ret
      exact ⟨by rw [HAN.out]; rfl, HT.out⟩

theorem nagain_net {w : World} {far : Nat → Prop} {n N : Nat} {st : Nat → Nat → Ses} (h : NetAt w far n N st) (a b : Nat) (ha : a < N) (hb : b < N) (hab : a ≠ b) :
    Calls Try.prog 12 #[.pointer (some ⟨n, 0, none⟩), .int .i64 (a : Int), .int .i64 (b : Int)] w fun e w' => e = .returned (.int .i64 ((st a b).againN : Int)) ∧ NetAt w' far n N (upd st a b (st a b).again) ∧ Mv (fun k => ¬ far k) w w' := by
  obtain ⟨h6, mb, cnt, blk, vs, tg, h⟩ := h
  refine (nagain_ses _ _ _ (blk a b) (st a b) (vs a b) (sess_ok h h6 ha hb hab) (h.se a b ha hb hab) (h.ok a b ha hb hab)).mono ?_
  rintro e w' ⟨rfl, ht⟩
  exact ⟨rfl, h.step h6 ha hb hab ht (h.ok a b ha hb hab).again⟩
end Go.Proofs.Ytgaghlofcokijaa
