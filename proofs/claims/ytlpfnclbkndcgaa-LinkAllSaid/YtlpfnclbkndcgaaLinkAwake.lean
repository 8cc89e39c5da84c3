/- Both ends together; what the laws' own awake answers. -/
import Derived.Test.YtlpfnclbkndcgaaLinkSend
import Derived.Test.YtlpfnclbkndcgaaLinkOpen
import Derived.Test.YtlpfnclbkndcgaaLinkAnswer
namespace Go.Proofs.Ytlpfnclbkndcgaa
open Go.RowKit
set_option linter.unusedVariables false
set_option linter.unusedSimpArgs false

/-- A sender and a receiver, made since W. -/
structure Ed (W w : World) (b r ans : Nat) (op : List ByteArray) (k : Nat) : Prop where
  sn : SnAt w b ans op
  rc : RcAt w r k
  ne : b ≠ r
  lb : W.heap.size ≤ b
  lr : W.heap.size ≤ r
  bl : Below W.heap.size W w
theorem Ed.keep {W w w' : World} {b r ans k : Nat} {op : List ByteArray} (h : Ed W w b r ans op k) (hb : Below w.heap.size w w') : Ed W w' b r ans op k :=
  ⟨h.sn.keep hb, h.rc.keep hb, h.ne, h.lb, h.lr, bstep h.bl hb⟩
theorem mv_below10 {W w w' : World} {b : Nat} (h : Below W.heap.size W w) (hm : Mv (fun j => j = b) w w') (hb : W.heap.size ≤ b) : Below W.heap.size W w' :=
  h.trans (hm.below (fun k hk e => by omega) h.size)
theorem Ed.s {W w w' : World} {b r ans k ans' : Nat} {op op' : List ByteArray} (h : Ed W w b r ans op k) (hs : SnAt w' b ans' op') (hm : Mv (fun j => j = b) w w') : Ed W w' b r ans' op' k :=
  ⟨hs, h.rc.mv hm (fun e => h.ne e.symm), h.ne, h.lb, h.lr, mv_below10 h.bl hm h.lb⟩
theorem Ed.r {W w w' : World} {b r ans k k' : Nat} {op : List ByteArray} (h : Ed W w b r ans op k) (hr : RcAt w' r k') (hm : Mv (fun j => j = r) w w') : Ed W w' b r ans op k' :=
  ⟨h.sn.mv hm h.ne, hr, h.ne, h.lb, h.lr, mv_below10 h.bl hm h.lr⟩
theorem Ed.new {W w w1 w2 : World} (hb : Below W.heap.size W w) (hs : SnAt w1 w.heap.size 0 []) (hb1 : Below w.heap.size w w1) (hr : RcAt w2 w1.heap.size 0) (hb2 : Below w1.heap.size w1 w2) : Ed W w2 w.heap.size w1.heap.size 0 [] 0 := by
  have h1 := hs.lt
  have h2 := hb.size
  exact ⟨hs.keep hb2, hr, by omega, by omega, by omega, bstep (bstep hb hb1) hb2⟩

theorem take_hit (b k : Nat) (d : ByteArray) (w : World) (h : RcAt w b k) (hk : k ≤ 1000000) :
    Calls Try.prog 15 #[.pointer (some ⟨b, 0, none⟩), .agg #[.int .i64 (k : Int), .string d]] w fun e w' => e = .returned (.tuple #[.string d, .bool true]) ∧ RcAt w' b (k + 1) ∧ Mv (fun j => j = b) w w' := by
  have := take_at b k (k : Int) d w h hk
  unfold TookAt Lk.tk Lk.tn at this
  rw [if_pos rfl, if_pos rfl] at this
  exact this
theorem take_miss (b k : Nat) (n : Int) (d : ByteArray) (w : World) (h : RcAt w b k) (hk : k ≤ 1000000) (hn : n ≠ (k : Int)) :
    Calls Try.prog 15 #[.pointer (some ⟨b, 0, none⟩), .agg #[.int .i64 n, .string d]] w fun e w' => e = .returned (.tuple #[.string ⟨#[]⟩, .bool false]) ∧ RcAt w' b k ∧ Mv (fun j => j = b) w w' := by
  have := take_at b k n d w h hk
  unfold TookAt Lk.tk Lk.tn at this
  rw [if_neg hn, if_neg hn] at this
  exact this
theorem send_rep (b k : Nat) (w : World) (h : SnAt w b 0 (List.replicate k (⟨#[120]⟩ : ByteArray))) (h8 : k < 8) :
    Calls Try.prog 17 #[.pointer (some ⟨b, 0, none⟩), .string ⟨#[120]⟩] w fun e w' => e = .returned (.tuple #[.agg #[.int .i64 (k : Int), .string ⟨#[120]⟩], .int .i64 0]) ∧ SnAt w' b 0 (List.replicate (k + 1) (⟨#[120]⟩ : ByteArray)) ∧ Mv (fun j => j = b) w w' := by
  have := send_ok b 0 _ ⟨#[120]⟩ w h (by rw [List.length_replicate]; exact h8) (by decide)
  unfold SentAt at this
  rw [List.length_replicate, Nat.zero_add, ← List.replicate_succ'] at this
  exact this
theorem answer_rep (b a x : Nat) (s : Int) (w : World) (h : SnAt w b a (List.replicate (x - a) (⟨#[120]⟩ : ByteArray))) :
    Calls Try.prog 13 #[.pointer (some ⟨b, 0, none⟩), .int .i64 s] w fun e w' => e = .returned (.int .i64 (Lk.ak a (x - a) s : Int)) ∧ SnAt w' b (a + Lk.ak a (x - a) s) (List.replicate (x - (a + Lk.ak a (x - a) s)) (⟨#[120]⟩ : ByteArray)) ∧ Mv (fun j => j = b) w w' := by
  have := answer_at b a _ s w h
  unfold AnsAt at this
  rw [List.length_replicate, List.drop_replicate, Nat.sub_sub] at this
  exact this
theorem open_rep (b a x : Nat) (w : World) (h : SnAt w b a (List.replicate (x - a) (⟨#[120]⟩ : ByteArray))) :
    Calls Try.prog 20 #[.pointer (some ⟨b, 0, none⟩)] w fun e w' => ∃ g, e = .returned (.slice (some ⟨g, 0, none⟩) (x - a) (x - a)) ∧ (0 < x - a → w'.cell? ⟨g, 0, none⟩ = some (.int .i64 (a : Int))) ∧ Below w.heap.size w w' := by
  refine (open_at b a _ w h).mono ?_
  rintro e w' ⟨g, rfl, _, hri, hb⟩
  refine ⟨g, by rw [List.length_replicate], fun hh => hri.pk0 (by rw [List.length_replicate]; exact hh), hb⟩
theorem next_rep (b a x : Nat) (hax : a ≤ x) (w : World) (h : SnAt w b a (List.replicate (x - a) (⟨#[120]⟩ : ByteArray))) :
    Calls Try.prog 22 #[.pointer (some ⟨b, 0, none⟩)] w fun e w' => e = .returned (.int .i64 (x : Int)) ∧ w' = w := by
  have := next_at b a _ w h
  rw [List.length_replicate, show a + (x - a) = x by omega] at this
  exact this
/-- Packets of a row in a block: numbered from a on. -/
def LRow (w : World) (g a : Nat) (op : List ByteArray) : Prop := ∀ i (h : i < op.length), w.cell? ⟨g, i * 2, none⟩ = some (.int .i64 ((a + i : Nat) : Int)) ∧ w.cell? ⟨g, i * 2 + 1, none⟩ = some (.string op[i])
theorem LRow.of {w : World} {g a : Nat} {op : List ByteArray} (h : RowIn KPk w (some ⟨g, 0, none⟩) (Lk.pk a op)) : LRow w g a op := fun i hi => by
  obtain ⟨b, off, e, _, h0, h1⟩ := h.pkN i hi
  cases e
  rw [Nat.zero_add] at h0 h1
  exact ⟨h0, h1⟩
theorem LRow.keep {w w' : World} {g a : Nat} {op : List ByteArray} (h : LRow w g a op) (hb : Below w.heap.size w w') : LRow w' g a op := fun i hi => ⟨kc hb (h i hi).1, kc hb (h i hi).2⟩
theorem LRow.mv {P : Nat → Prop} {w w' : World} {g a : Nat} {op : List ByteArray} (h : LRow w g a op) (hb : Mv P w w') (hp : ¬ P g) : LRow w' g a op := fun i hi => ⟨hb.cell hp (h i hi).1, hb.cell hp (h i hi).2⟩
theorem lt_a : ∀ b w, SnAt w b 0 [] → Calls Try.prog 17 #[.pointer (some ⟨b, 0, none⟩), .string ⟨#[97]⟩] w fun e w' => e = .returned (.tuple #[.agg #[.int .i64 0, .string ⟨#[97]⟩], .int .i64 0]) ∧ SnAt w' b 0 [⟨#[97]⟩] ∧ Mv (fun j => j = b) w w' :=
  fun b w h => send_ok b 0 [] ⟨#[97]⟩ w h (by decide) (by decide)
theorem lt_b : ∀ b w, SnAt w b 0 [⟨#[97]⟩] → Calls Try.prog 17 #[.pointer (some ⟨b, 0, none⟩), .string ⟨#[98]⟩] w fun e w' => e = .returned (.tuple #[.agg #[.int .i64 1, .string ⟨#[98]⟩], .int .i64 0]) ∧ SnAt w' b 0 [⟨#[97]⟩, ⟨#[98]⟩] ∧ Mv (fun j => j = b) w w' :=
  fun b w h => send_ok b 0 [⟨#[97]⟩] ⟨#[98]⟩ w h (by decide) (by decide)
theorem tk_1 : ∀ r w, RcAt w r 0 → Calls Try.prog 15 #[.pointer (some ⟨r, 0, none⟩), .agg #[.int .i64 1, .string ⟨#[98]⟩]] w fun e w' => e = .returned (.tuple #[.string ⟨#[]⟩, .bool false]) ∧ RcAt w' r 0 ∧ Mv (fun j => j = r) w w' :=
  fun r w h => take_at r 0 1 ⟨#[98]⟩ w h (by decide)
theorem tk_2 : ∀ r w, RcAt w r 0 → Calls Try.prog 15 #[.pointer (some ⟨r, 0, none⟩), .agg #[.int .i64 0, .string ⟨#[97]⟩]] w fun e w' => e = .returned (.tuple #[.string ⟨#[97]⟩, .bool true]) ∧ RcAt w' r 1 ∧ Mv (fun j => j = r) w w' :=
  fun r w h => take_at r 0 0 ⟨#[97]⟩ w h (by decide)
theorem tk_3 : ∀ r w, RcAt w r 1 → Calls Try.prog 15 #[.pointer (some ⟨r, 0, none⟩), .agg #[.int .i64 1, .string ⟨#[98]⟩]] w fun e w' => e = .returned (.tuple #[.string ⟨#[98]⟩, .bool true]) ∧ RcAt w' r 2 ∧ Mv (fun j => j = r) w w' :=
  fun r w h => take_at r 1 1 ⟨#[98]⟩ w h (by decide)
theorem an_2 : ∀ b w, SnAt w b 0 [⟨#[97]⟩, ⟨#[98]⟩] → Calls Try.prog 13 #[.pointer (some ⟨b, 0, none⟩), .int .i64 2] w fun e w' => e = .returned (.int .i64 2) ∧ SnAt w' b 2 [] ∧ Mv (fun j => j = b) w w' :=
  fun b w h => answer_at b 0 [⟨#[97]⟩, ⟨#[98]⟩] 2 w h

set_option maxRecDepth 100000 in
set_option maxHeartbeats 1600000 in
theorem awake10_any (w : World) : Calls Try.prog 10 #[] w fun e w' => e = .returned (.bool true) ∧ Below w.heap.size w w' := by
  go_enter Try.func10, Try.ntmps10
  go_wp2_with fail
  refine (newSender_any _).mono ?_
  rintro e w1 ⟨rfl, hs1, hb1⟩
  go_wp2_with fail
  refine (newReceiver_any _).mono ?_
  rintro e w2 ⟨rfl, hr2, hb2⟩
  have HE := Lib.hid (Ed.new (Below.refl _ w) hs1 hb1 hr2 hb2)
  clear hs1 hb1 hr2 hb2
  have hcall := lt_a _ _ HE.out.sn
  generalize w.heap.size = B at *
  generalize w1.heap.size = R at *
  go_wp2_with fail
  refine hcall.mono ?_
  rintro e w3 ⟨rfl, hs3, hm3⟩
  have HE3 := Lib.hid (HE.out.s hs3 hm3)
  clear hcall hs3 hm3 HE
  have hba := balloc (Below.refl _ w3) (.cells #[.int .i64 0, .string ⟨#[97]⟩] 39)
  have HE4 := Lib.hid (HE3.out.keep hba)
  have HA := Lib.hid (PkV.new w3 0 ⟨#[97]⟩ 39)
  have HN : Hid (w3.heap.size ≠ B ∧ w3.heap.size ≠ R) := Lib.hid ⟨by have := HE3.out.sn.lt; omega, by have := HE3.out.rc.lt; omega⟩
  have hcall := lt_b _ _ HE4.out.sn
  clear hba HE3
  go_upto_region 6 with fail
  generalize w3.alloc (.cells #[.int .i64 0, .string ⟨#[97]⟩] 39) = w4 at *
  generalize w3.heap.size = A at *
  go_wp2_with fail
  refine hcall.mono ?_
  rintro e w5 ⟨rfl, hs5, hm5⟩
  have HE5 := Lib.hid (HE4.out.s hs5 hm5)
  have hba := balloc (Below.refl _ w5) (.cells #[.int .i64 1, .string ⟨#[98]⟩] 39)
  have HE6 := Lib.hid (HE5.out.keep hba)
  have HA6 := Lib.hid ((HA.out.mv hm5 HN.out.1).keep hba)
  have HC6 := Lib.hid (PkV.new w5 1 ⟨#[98]⟩ 39)
  have HN2 : Hid (w5.heap.size ≠ B ∧ w5.heap.size ≠ R) := Lib.hid ⟨by have := HE5.out.sn.lt; omega, by have := HE5.out.rc.lt; omega⟩
  have hcall := tk_1 _ _ HE6.out.rc
  clear hba HE5 hs5 hm5 HE4 HA
  go_upto_region 7 with fail
  generalize w5.alloc (.cells #[.int .i64 1, .string ⟨#[98]⟩] 39) = w6 at *
  generalize w5.heap.size = C at *
  obtain ⟨c0, c1, _, _⟩ := HC6.out
  go_wp2_with fail
  refine hcall.mono ?_
  rintro e w7 ⟨rfl, hs7, hm7⟩
  have HE7 := Lib.hid (HE6.out.r hs7 hm7)
  have HA7 := Lib.hid (HA6.out.mv hm7 HN.out.2)
  have HC7 := Lib.hid (HC6.out.mv hm7 HN2.out.2)
  have hcall := tk_2 _ _ HE7.out.rc
  obtain ⟨a0, a1, _, _⟩ := HA7.out
  clear hs7 hm7 HE6 HA6 HC6 c0 c1
  go_wp2_with fail
  refine hcall.mono ?_
  rintro e w8 ⟨rfl, hs8, hm8⟩
  have HE8 := Lib.hid (HE7.out.r hs8 hm8)
  have HC8 := Lib.hid (HC7.out.mv hm8 HN2.out.2)
  have hcall := tk_3 _ _ HE8.out.rc
  obtain ⟨c0, c1, _, _⟩ := HC8.out
  clear hs8 hm8 HE7 HA7 HC7 a0 a1
  go_wp2_with fail
  refine hcall.mono ?_
  rintro e w9 ⟨rfl, hs9, hm9⟩
  have HE9 := Lib.hid (HE8.out.r hs9 hm9)
  have hcall := an_2 _ _ HE9.out.sn
  clear hs9 hm9 HE8 HC8 c0 c1
  go_wp2_with fail
  refine hcall.mono ?_
  rintro e w10 ⟨rfl, hs10, hm10⟩
  have HE10 := Lib.hid (HE9.out.s hs10 hm10)
  clear hs10 hm10 HE9
  go_wp2
  go_ret
  exact ⟨rfl, HE10.out.bl⟩
end Go.Proofs.Ytlpfnclbkndcgaa
