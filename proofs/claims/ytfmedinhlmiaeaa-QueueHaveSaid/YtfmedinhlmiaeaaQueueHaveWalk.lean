/- QueueHave: the walk. -/
import Derived.Test.YtfmedinhlmiaeaaGQ27
import Derived.Deep.RegionHeld3
import Derived.Deep.RegionWith
import Derived.Deep.DeepCutAuto
import Derived.Deep.CutRange
import Derived.Deep.CutBlock
namespace Go.Proofs.Ytfmedinhlmiaeaa
open Go.RowKit
set_option linter.unusedVariables false
set_option linter.unusedSimpArgs false

theorem keepF {W w1 : World} {b o0 o1 o2 o3 o4 o5 : Nat} {x0 x1 x2 x3 x4 x5 : Value} (hb : Below W.heap.size W w1) (h : W.cell? ⟨b, o0, none⟩ = some x0 ∧ W.cell? ⟨b, o1, none⟩ = some x1 ∧ W.cell? ⟨b, o2, none⟩ = some x2 ∧ W.cell? ⟨b, o3, none⟩ = some x3 ∧ W.cell? ⟨b, o4, none⟩ = some x4 ∧ W.cell? ⟨b, o5, none⟩ = some x5) :
    w1.cell? ⟨b, o0, none⟩ = some x0 ∧ w1.cell? ⟨b, o1, none⟩ = some x1 ∧ w1.cell? ⟨b, o2, none⟩ = some x2 ∧ w1.cell? ⟨b, o3, none⟩ = some x3 ∧ w1.cell? ⟨b, o4, none⟩ = some x4 ∧ w1.cell? ⟨b, o5, none⟩ = some x5 :=
  ⟨kc hb h.1, kc hb h.2.1, kc hb h.2.2.1, kc hb h.2.2.2.1, kc hb h.2.2.2.2.1, kc hb h.2.2.2.2.2⟩

/-! What is missed with more that is there. -/
theorem less_le {a b s : Int × Int} (h : Sm.less b a = false) (hs : Sm.less b s = true) : Sm.less a b = true ∨ a = b ∨ Sm.less a s = true := by
  by_cases e : a = b
  · exact .inr (.inl e)
  · refine .inl ?_
    obtain ⟨a0, a1⟩ := a
    obtain ⟨b0, b1⟩ := b
    rw [Sm.less_iff]
    rw [Sm.less_false] at h
    dsimp only at h ⊢
    rcases h with h | ⟨h1, h2⟩
    · exact .inl h
    · refine .inr ⟨h1.symm, ?_⟩
      rcases Int.lt_or_eq_of_le h2 with h3 | h3
      · exact h3
      · exact absurd (by rw [h1, h3]) e
theorem less_mono {a b s : Int × Int} (h : Sm.less b a = false) (hs : Sm.less b s = true) : Sm.less a s = true := by
  rcases less_le h hs with h | rfl | h
  · exact Sm.less_trans h hs
  · exact hs
  · exact h
theorem gtD_merge {f0 f1 p : List De} (h : IsMerge (f0 ++ f1) p) (h0 : Srt f0) (hok : ∀ d ∈ f0, okD d = true) (k : ByteArray) : Sm.less (gtD p k) (gtD f0 k) = false := by
  rcases kidx_cases f0 k with ⟨_, e⟩ | ⟨i, hi, _, e1, e2⟩
  · rw [e]
    rcases kidx_cases p k with ⟨_, e'⟩ | ⟨j, hj, _, e3, e4⟩
    · rw [e']; exact Sm.less_self _
    · rw [e4]
      have hj := ((h.mem p[j]).1 (List.getElem_mem hj)).2.1
      unfold okD Sm.ok at hj
      simp only [Bool.and_eq_true, decide_eq_true_eq] at hj
      rw [Sm.less_false]
      left
      show (0 : Int) < _
      omega
  · have hm : f0[i] ∈ f0 ++ f1 := List.mem_append_left _ (List.getElem_mem hi)
    have := merge_cov h hm (hok _ (List.getElem_mem hi))
    rw [e1, ← e2] at this
    exact this
theorem miss_more {rs : List (ByteArray × ByteArray)} {hs hb past : List De} (h : ∀ k, Sm.less (gtD hb k) (gtD hs k) = false) : (missD rs hb past).length ≤ (missD rs hs past).length ∧ ((missD rs hs past).isEmpty = true → (missD rs hb past).isEmpty = true) := by
  have hsub : (missD rs hb past).length ≤ (missD rs hs past).length := by
    unfold missD kept
    rw [← List.countP_eq_length_filter, ← List.countP_eq_length_filter]
    refine List.countP_mono_left fun d _ hd => ?_
    simp only [Bool.not_not] at hd ⊢
    exact less_mono (h d.1) hd
  refine ⟨hsub, fun he => ?_⟩
  rw [List.isEmpty_iff] at he ⊢
  rw [he] at hsub
  exact List.length_eq_zero_iff.1 (Nat.le_zero.1 hsub)
theorem miss_none (hs past : List De) : missD [] hs past = [] := by
  rw [missD_nil]
  intro d hd
  exfalso
  have h := (List.mem_filter.1 hd).2
  have e : outD [] d = true := rfl
  rw [e] at h
  cases h
theorem miss_self (rs : List (ByteArray × ByteArray)) {past : List De} (h : Srt past) : missD rs past past = [] := by
  rw [missD_nil]
  intro d hd
  rw [gtD_mem h (onlyD_mem hd)]
  exact Sm.less_self _
theorem fewN_ok (n : Nat) (l : List De) : ∀ d ∈ fewN n l, okD d = true := by
  intro d hd
  exact (((IsMerge.nil.all ((l.take n).map cutN)).mem d).1 hd).2.1

/-! Two rows in an array. -/
theorem DepAt.blkQ {w w' : World} {v : Value} {l : List De} (h : DepAt w v l) (hs : w.heap.size ≤ w'.heap.size) (hb : ∀ b, v.ownBlock = some b → w'.heap[b]? = w.heap[b]?) : DepAt w' v l := by
  obtain ⟨a, cap, rfl, h1, h2, h3, hr⟩ := h
  refine ⟨a, cap, rfl, h1, h2, h3, fun i hi => ?_⟩
  obtain ⟨b, off, rfl, hlt, c0, c1, c2⟩ := hr i hi
  have e := hb b (by simp [Value.ownBlock])
  exact ⟨b, off, rfl, by omega, by rw [World.cell?_of_block e]; exact c0, by rw [World.cell?_of_block e]; exact c1, by rw [World.cell?_of_block e]; exact c2⟩
structure PP (w : World) (PB : Nat) (v : Value) (l : List De) : Prop where
  at_ : DepAt w v l
  off : ∀ b, v.ownBlock = some b → PB < b
theorem PP.below {w w' : World} {PB : Nat} {v : Value} {l : List De} (h : PP w PB v l) (hb : Below w.heap.size w w') : PP w' PB v l := ⟨h.at_.below hb, h.off⟩
theorem PP.set {w : World} {PB : Nat} {v : Value} {l : List De} (h : PP w PB v l) (k : Nat) (x : Value) : PP (w.setCell ⟨PB, k, none⟩ x) PB v l :=
  ⟨h.at_.blkQ (((Below.refl PB w).setCell (Nat.le_refl _) x (p := ⟨PB, k, none⟩)).size) (fun b hb => Below.heap_setCell _ _ _ _ (by have := h.off b hb; show b ≠ PB; omega)), h.off⟩
structure P2 (w : World) (PB : Nat) (v0 v1 : Value) (q0 q1 : List De) : Prop where
  c0 : w.cell? ⟨PB, 0, none⟩ = some v0
  c1 : w.cell? ⟨PB, 1, none⟩ = some v1
  f0 : w.frozen? ⟨PB, 0, none⟩ = false
  f1 : w.frozen? ⟨PB, 1, none⟩ = false
  p0 : PP w PB v0 q0
  p1 : PP w PB v1 q1
theorem P2.lt {w : World} {PB : Nat} {v0 v1 : Value} {q0 q1 : List De} (h : P2 w PB v0 v1 q0 q1) : PB < w.heap.size := lt_of_cellN h.c0
theorem P2.below {w w' : World} {PB : Nat} {v0 v1 : Value} {q0 q1 : List De} (h : P2 w PB v0 v1 q0 q1) (hb : Below w.heap.size w w') : P2 w' PB v0 v1 q0 q1 :=
  ⟨kc hb h.c0, kc hb h.c1, (hb.frozen (p := ⟨PB, 0, none⟩) h.lt).trans h.f0, (hb.frozen (p := ⟨PB, 1, none⟩) h.lt).trans h.f1, h.p0.below hb, h.p1.below hb⟩
theorem P2.set0 {w : World} {PB : Nat} {v0 v1 v : Value} {q0 q1 q : List De} (h : P2 w PB v0 v1 q0 q1) (hp : PP w PB v q) : P2 (w.setCell ⟨PB, 0, none⟩ v) PB v v1 q q1 :=
  ⟨World.cell?_setCell_same _ _ _ h.c0, cell_put (by decide) h.c1, by simp [h.f0], by simp [h.f1], hp.set 0 v, h.p1.set 0 v⟩
theorem P2.set1 {w : World} {PB : Nat} {v0 v1 v : Value} {q0 q1 q : List De} (h : P2 w PB v0 v1 q0 q1) (hp : PP w PB v q) : P2 (w.setCell ⟨PB, 1, none⟩ v) PB v0 v q0 q :=
  ⟨cell_put (by decide) h.c0, World.cell?_setCell_same _ _ _ h.c1, by simp [h.f0], by simp [h.f1], h.p0.set 1 v, hp.set 1 v⟩
structure HvQ (w : World) (b : Nat) (u0 u1 : Value) : Prop where
  c0 : w.cell? ⟨b, 0, none⟩ = some u0
  c1 : w.cell? ⟨b, 1, none⟩ = some u1
theorem HvQ.keep {w w' : World} {b : Nat} {u0 u1 : Value} (h : HvQ w b u0 u1) (hb : Below w.heap.size w w') : HvQ w' b u0 u1 := ⟨kc hb h.c0, kc hb h.c1⟩
theorem rows_lit2 {w : World} {a1 a2 : Option Addr} {n1 n2 c1 c2 : Nat} {l1 l2 : List De} (h1 : DepAt w (.slice a1 n1 c1) l1) (h2 : DepAt w (.slice a2 n2 c2) l2) :
    RowsAt (w.alloc (.cells #[.slice a1 n1 c1, .slice a2 n2 c2] 23)) (some ⟨w.heap.size, 0, none⟩) [l1, l2] := by
  have ho := own_litS kpq_ok w w.heap.size 2 [(a1, n1, c1), (a2, n2, c2)] #[.slice a1 n1 c1, .slice a2 n2 c2] rfl rfl (Nat.le_refl _) (by omega)
  refine rows_own ho rfl (fun i h h' => ?_)
  match i, h with
  | 0, _ => exact h1.alloc _
  | 1, _ => exact h2.alloc _
  | (j + 2), hh => exact absurd hh (by simp)

set_option maxRecDepth 100000 in
set_option maxHeartbeats 12800000 in
theorem walkQueueHave (w : World) (a : Option Addr) (ws : List Wr) (cap : Nat) (hl : ws.length ≤ 9223372036854775807) (hr : WrIn w a ws) (u0 u1 : Value) (l0 l1 : List De) (hr0 : DepAt w u0 l0) (hz0 : Szd l0) (hr1 : DepAt w u1 l1) (hz1 : Szd l1) (n : Int) (hnw : (Lit.int .i64 n).wf = true) :
    Calls Try.prog 6 #[.slice a ws.length cap, .agg #[u0, u1], .int .i64 n] w fun e w' => e = .returned (.bool true) ∧ Below w.heap.size w w' := by
  have hl0 : l0.length ≤ 9223372036854775807 := by obtain ⟨_, _, _, h1, h2, _⟩ := id hr0; unfold maxLen at h2; omega
  have hl1 : l1.length ≤ 9223372036854775807 := by obtain ⟨_, _, _, h1, h2, _⟩ := id hr1; unfold maxLen at h2; omega
  obtain ⟨ua0, uc0, rfl, _, _, _, hd0⟩ := hr0
  obtain ⟨ua1, uc1, rfl, _, _, _, hd1⟩ := hr1
  have hbQ : Below w.heap.size w (w.alloc (.cells #[.slice ua0 l0.length uc0, .slice ua1 l1.length uc1] 60)) := balloc (Below.refl _ w) _
  have hq0 : HvQ (w.alloc (.cells #[.slice ua0 l0.length uc0, .slice ua1 l1.length uc1] 60)) w.heap.size (.slice ua0 l0.length uc0) (.slice ua1 l1.length uc1) := ⟨by simp, by simp⟩
  have HQ0 := Lib.hid hq0
  have HR := Lib.hid (hr.below hbQ)
  have HR0 := Lib.hid (hd0.below hbQ)
  have HR1 := Lib.hid (hd1.below hbQ)
  have HZ0 := Lib.hid hz0
  have HZ1 := Lib.hid hz1
  have HBQ := Lib.hid hbQ
  clear hr hd0 hd1 hz0 hz1 hq0 hbQ
  go_enter Try.func6, Try.ntmps6
  go_wp2_with fail
  generalize w.alloc (.cells #[.slice ua0 l0.length uc0, .slice ua1 l1.length uc1] 60) = w0 at *
  have hw0 := HBQ.out.size
  obtain ⟨bq, hbqe⟩ : ∃ bq, w.heap.size = bq := ⟨_, rfl⟩
  rw [hbqe] at HBQ hw0 HQ0
  rw [hbqe]
  have HBQE := Lib.hid hbqe
  clear hbqe
  have hlq0 : bq < w0.heap.size := lt_of_cellN HQ0.out.c0
  refine (awake14_any _).mono ?_
  rintro e w1 ⟨rfl, hb1⟩
  have HB01 := Lib.hid hb1
  clear hb1
  go_wp2_with fail
  refine (made14_any a cap ws w1 hl (HR.out.below HB01.out)).mono ?_
  rintro e w2 ⟨u, xs, rfl, hmap, hqm, hb2⟩
  have HM2 := Lib.hid (mq_row hmap hqm)
  have HMAP := Lib.hid hmap
  obtain ⟨ua, uc, rfl, _, _, _⟩ := HM2.out.row.shape
  have hxl := mq_len hmap
  have HB02 := Lib.hid (bstep HB01.out hb2)
  clear hb2 hqm hmap
  go_wp2_with fail
  refine (ranges14_any n _).mono ?_
  rintro e w3 ⟨v3, rfl, ho3, hb3⟩
  have hrl := rngsOf_len n
  generalize rngsOf n = rs at ho3 hrl
  obtain ⟨ra, rc, rfl⟩ := ho3.shape
  have HR3 := Lib.hid (RowIn.of_own kr_ok ho3).rng
  have HM3 := Lib.hid (HM2.out.below hb3)
  have HB03 := Lib.hid (bstep HB02.out hb3)
  have HQ3 := Lib.hid (HQ0.out.keep HB03.out)
  have HR03 := Lib.hid (HR0.out.below HB03.out)
  have HR13 := Lib.hid (HR1.out.below HB03.out)
  have HP0 : Hid (P2 (w3.alloc (.cells #[.slice none 0 0, .slice none 0 0] 60)) w3.heap.size (.slice none 0 0) (.slice none 0 0) [] []) := Lib.hid ⟨by simp, by simp, by simp, by simp, ⟨DepAt.nil _, by simp [Value.ownBlock]⟩, ⟨DepAt.nil _, by simp [Value.ownBlock]⟩⟩
  have HBA := Lib.hid (balloc (Below.refl _ w3) (.cells #[.slice none 0 0, .slice none 0 0] 60))
  obtain ⟨PB, hPB⟩ : ∃ PB, w3.heap.size = PB := ⟨_, rfl⟩
  rw [hPB] at HP0
  clear ho3 hb3 HQ0 HM2 HR HR0 HR1 HB01 HB02
  go_upto_block 0 with fail
  try rw [hPB]
  generalize w3.alloc (.cells #[.slice none 0 0, .slice none 0 0] 60) = w4 at *
  have HPB := Lib.hid hPB
  clear hPB
  go_cut [10] (fun s10 wx => ∃ (v0 v1 : Value), s10 = .pointer (some ⟨PB, 0, none⟩) ∧ P2 wx PB v0 v1 (fewN 6 l0) (fewN 6 l1) ∧ Below w3.heap.size w3 wx)
  case first =>
    go_wp2_with fail
    go_loopw [11] (fun kv wr => ∃ (k : Int) (v0 v1 : Value) (q0 q1 : List De), (k = 0 ∧ q0 = [] ∧ q1 = [] ∨ k = 1 ∧ q0 = fewN 6 l0 ∧ q1 = [] ∨ k = 2 ∧ q0 = fewN 6 l0 ∧ q1 = fewN 6 l1) ∧ kv = .int .i64 k ∧ P2 wr PB v0 v1 q0 q1 ∧ Below w3.heap.size w3 wr) (fun kv _ => 2 - (intOf kv).toNat)
    case atStart => exact ⟨0, _, _, [], [], .inl ⟨rfl, rfl, rfl⟩, rfl, HP0.out, HBA.out⟩
    case round =>
      obtain ⟨k, v0, v1, q0, q1, hst, rfl, hP, hbel⟩ := hrel
      have HBEL := Lib.hid hbel
      have HPK := Lib.hid hP
      rcases hst with ⟨rfl, rfl, rfl⟩ | ⟨rfl, rfl, rfl⟩ | ⟨rfl, rfl, rfl⟩
      · obtain ⟨oa, oc, rfl, _, _, _, _⟩ := id hP.p1.at_
        obtain ⟨w5, hw5⟩ : ∃ w5, w5 = wr := ⟨wr, rfl⟩
        subst hw5
        clear hbel
        go_wp2
        go_loopw [12] (fun iv wr => ∃ (i : Nat) (vk : Value), i ≤ l0.length ∧ i ≤ 6 ∧ iv = .int .i64 i ∧ P2 wr PB vk (.slice oa ([] : List De).length oc) (addAll [] ((l0.take i).map cutN)) [] ∧ Below w3.heap.size w3 wr) (fun iv _ => 6 - (intOf iv).toNat)
        case atStart => exact ⟨0, v0, by omega, by omega, rfl, HPK.out, HBEL.out⟩
        case round =>
          obtain ⟨i, vk, hi, hi6, rfl, hP2, hbel2⟩ := hrel
          obtain ⟨ka, kc', rfl, _, _, _, _⟩ := id hP2.p0.at_
          have HP := Lib.hid hP2
          have HBEL2 := Lib.hid hbel2
          have hh := (HQ3.out.keep hbel2).c0
          clear hP2 hP
          by_cases hlt : i < l0.length ∧ i < 6
          · obtain ⟨h1, h2⟩ := hlt
            obtain ⟨b, off, rfl, hbl, c0, c1, c2⟩ := HR03.out.below hbel2 i h1
            have HS := Lib.hid (fwN_step l0 i h1)
            have hsz := HZ0.out l0[i] (List.getElem_mem h1)
            have hal := addAll_len ((l0.take i).map cutN) []
            have htl : ((l0.take i).map cutN).length ≤ 6 := by simp; omega
            generalize l0[i] = d at c0 c1 c2 HS hsz
            obtain ⟨x, y, z⟩ := d
            dsimp only at c0 c1 c2 hsz
            generalize hqq : addAll [] ((l0.take i).map cutN) = q at HP HS hal
            clear hqq
            have hql : q.length ≤ 6 := by simp at hal; omega
            have h1i : (i : Int) < (l0.length : Int) := by omega
            have h2i : (i : Int) < 6 := by omega
            have hd1 : decide (i < l0.length) = true := by simpa using h1
            clear hbel2
            go_upto_if 48 with (fail)
            go_cut [13] from 27 to 59 (fun s13 wx => ∃ x' : ByteArray, s13 = .pointer (some ⟨wr.heap.size, 0, none⟩) ∧ Hid (cutN (x, y, z) = (x', y, z) ∧ x'.size ≤ 9223372036854775807) ∧ Hid (wx.cell? ⟨wr.heap.size, 0, none⟩ = some (.string x') ∧ wx.cell? ⟨wr.heap.size, 1, none⟩ = some (.int .i64 y) ∧ wx.cell? ⟨wr.heap.size, 2, none⟩ = some (.int .i64 z)) ∧ Below wr.heap.size wr wx)
            case first =>
              by_cases H2 : 12 < x.size
              · have H2i : (12 : Int) < (x.size : Int) := by omega
                have H2d : decide ((12 : Int) < (x.size : Int)) = true := decide_eq_true H2i
                have hkh : k12 x = x.extract 0 12 := by simp [k12, H2]
                have hks := k12_size x
                rw [hkh] at hks
                have HC : Hid (cutN (x, y, z) = (x.extract 0 12, y, z) ∧ (x.extract 0 12).size ≤ 9223372036854775807) := Lib.hid ⟨by simp [cutN, hkh], by omega⟩
                clear hkh hks
                go_wp2
                go_meet
                exact ⟨x.extract 0 12, rfl, HC, Lib.hid ⟨by simp, by simp, by simp⟩, balloc (Below.refl _ wr) _⟩
              · have H2i : ¬ (12 : Int) < (x.size : Int) := by omega
                have H2d : decide ((12 : Int) < (x.size : Int)) = false := decide_eq_false H2i
                have HC : Hid (cutN (x, y, z) = (x, y, z) ∧ x.size ≤ 9223372036854775807) := Lib.hid ⟨by simp [cutN, k12, H2], hsz⟩
                go_wp2
                go_meet
                exact ⟨x, rfl, HC, Lib.hid ⟨by simp, by simp, by simp⟩, balloc (Below.refl _ wr) _⟩
            obtain ⟨x', rfl, HC, HD, hb6⟩ := hcut
            obtain ⟨w6, hw6⟩ : ∃ w6, w6 = wc := ⟨wc, rfl⟩
            subst hw6
            obtain ⟨DB, hDB⟩ : ∃ DB, wr.heap.size = DB := ⟨_, rfl⟩
            rw [hDB] at HD ⊢
            clear hDB c0 c1 c2 hh
            have HP6 := Lib.hid (HP.out.below hb6)
            have HB6 := Lib.hid (bstep HBEL2.out hb6)
            have HLT := Lib.hid HP6.out.lt
            have hadd := fun (W : World) (hb : Below w6.heap.size w6 W) => refAddP_new (.slice ka q.length kc') q x' y z W (by omega) HC.out.2 ((HP6.out.below hb).p0.at_)
            obtain ⟨d0, d1, d2⟩ := HD.out
            have pcK := HP6.out.c0
            have pfK := HP6.out.f0
            clear hb6 HD
            go_upto_region 14 with fail
            go_region_with (go_at_call 11; refine (hadd _ (Below.refl _ w6).drew).mono ?_; rintro e w7 ⟨v7, rfl, hd7, hor, hb7⟩; have HP7 := Lib.hid (HP6.out.below (bstep (Below.refl _ w6).drew hb7)); have pc7 := HP7.out.c0; have pf7 := HP7.out.f0; obtain ⟨na, nc, rfl, _, _, _, _⟩ := id hd7)
            all_goals
              have HPP : Hid (PP w7 PB (.slice na (addR q (x', y, z)).length nc) (addR q (x', y, z))) := Lib.hid ⟨hd7, fun bb hbb => by
                rcases hor with e | hor
                · rw [e] at hbb; exact HP6.out.p0.off bb hbb
                · have h1 := hor bb hbb; have h2 := HLT.out; have h3 : w6.drew.heap.size = w6.heap.size := rfl; omega⟩
              have HB7 := Lib.hid (bstep HB6.out (bstep (Below.refl _ w6).drew hb7))
              clear hd7 hor hb7 pc7 pf7 d0 d1 d2 pcK pfK hadd
              go_wp2
              go_roundw
              case rel => exact ⟨i + 1, .slice na (addR q (x', y, z)).length nc, by omega, by omega, by go_num, by rw [HS.out, HC.out.1]; exact HP7.out.set0 HPP.out, HB7.out.setCell (by rw [HPB.out]; exact Nat.le_refl _) _⟩
              case measure => simp [intOf]; omega
          · have HX := Lib.hid (fwN_all 6 l0 i hi hi6 hlt)
            rw [HX.out] at HP
            rcases (show (decide (i < l0.length) = false) ∨ (decide (i < l0.length) = true ∧ decide ((i : Int) < 6) = false) by simp; omega) with hd | ⟨hd, hd2⟩
            all_goals
              go_wp2
              go_roundw
              case rel => exact ⟨1, _, _, _, _, .inr (.inl ⟨rfl, rfl, rfl⟩), by go_num, HP.out, HBEL2.out⟩
              case measure => simp [intOf]
      · obtain ⟨oa, oc, rfl, _, _, _, _⟩ := id hP.p0.at_
        obtain ⟨w5, hw5⟩ : ∃ w5, w5 = wr := ⟨wr, rfl⟩
        subst hw5
        clear hbel
        go_wp2
        go_loopw [12] (fun iv wr => ∃ (i : Nat) (vk : Value), i ≤ l1.length ∧ i ≤ 6 ∧ iv = .int .i64 i ∧ P2 wr PB (.slice oa (fewN 6 l0).length oc) vk (fewN 6 l0) (addAll [] ((l1.take i).map cutN)) ∧ Below w3.heap.size w3 wr) (fun iv _ => 6 - (intOf iv).toNat)
        case atStart => exact ⟨0, v1, by omega, by omega, rfl, HPK.out, HBEL.out⟩
        case round =>
          obtain ⟨i, vk, hi, hi6, rfl, hP2, hbel2⟩ := hrel
          obtain ⟨ka, kc', rfl, _, _, _, _⟩ := id hP2.p1.at_
          have HP := Lib.hid hP2
          have HBEL2 := Lib.hid hbel2
          have hh := (HQ3.out.keep hbel2).c1
          clear hP2 hP
          by_cases hlt : i < l1.length ∧ i < 6
          · obtain ⟨h1, h2⟩ := hlt
            obtain ⟨b, off, rfl, hbl, c0, c1, c2⟩ := HR13.out.below hbel2 i h1
            have HS := Lib.hid (fwN_step l1 i h1)
            have hsz := HZ1.out l1[i] (List.getElem_mem h1)
            have hal := addAll_len ((l1.take i).map cutN) []
            have htl : ((l1.take i).map cutN).length ≤ 6 := by simp; omega
            generalize l1[i] = d at c0 c1 c2 HS hsz
            obtain ⟨x, y, z⟩ := d
            dsimp only at c0 c1 c2 hsz
            generalize hqq : addAll [] ((l1.take i).map cutN) = q at HP HS hal
            clear hqq
            have hql : q.length ≤ 6 := by simp at hal; omega
            have h1i : (i : Int) < (l1.length : Int) := by omega
            have h2i : (i : Int) < 6 := by omega
            have hd1 : decide (i < l1.length) = true := by simpa using h1
            clear hbel2
            go_upto_if 48 with (fail)
            go_cut [13] from 27 to 59 (fun s13 wx => ∃ x' : ByteArray, s13 = .pointer (some ⟨wr.heap.size, 0, none⟩) ∧ Hid (cutN (x, y, z) = (x', y, z) ∧ x'.size ≤ 9223372036854775807) ∧ Hid (wx.cell? ⟨wr.heap.size, 0, none⟩ = some (.string x') ∧ wx.cell? ⟨wr.heap.size, 1, none⟩ = some (.int .i64 y) ∧ wx.cell? ⟨wr.heap.size, 2, none⟩ = some (.int .i64 z)) ∧ Below wr.heap.size wr wx)
            case first =>
              by_cases H2 : 12 < x.size
              · have H2i : (12 : Int) < (x.size : Int) := by omega
                have H2d : decide ((12 : Int) < (x.size : Int)) = true := decide_eq_true H2i
                have hkh : k12 x = x.extract 0 12 := by simp [k12, H2]
                have hks := k12_size x
                rw [hkh] at hks
                have HC : Hid (cutN (x, y, z) = (x.extract 0 12, y, z) ∧ (x.extract 0 12).size ≤ 9223372036854775807) := Lib.hid ⟨by simp [cutN, hkh], by omega⟩
                clear hkh hks
                go_wp2
                go_meet
                exact ⟨x.extract 0 12, rfl, HC, Lib.hid ⟨by simp, by simp, by simp⟩, balloc (Below.refl _ wr) _⟩
              · have H2i : ¬ (12 : Int) < (x.size : Int) := by omega
                have H2d : decide ((12 : Int) < (x.size : Int)) = false := decide_eq_false H2i
                have HC : Hid (cutN (x, y, z) = (x, y, z) ∧ x.size ≤ 9223372036854775807) := Lib.hid ⟨by simp [cutN, k12, H2], hsz⟩
                go_wp2
                go_meet
                exact ⟨x, rfl, HC, Lib.hid ⟨by simp, by simp, by simp⟩, balloc (Below.refl _ wr) _⟩
            obtain ⟨x', rfl, HC, HD, hb6⟩ := hcut
            obtain ⟨w6, hw6⟩ : ∃ w6, w6 = wc := ⟨wc, rfl⟩
            subst hw6
            obtain ⟨DB, hDB⟩ : ∃ DB, wr.heap.size = DB := ⟨_, rfl⟩
            rw [hDB] at HD ⊢
            clear hDB c0 c1 c2 hh
            have HP6 := Lib.hid (HP.out.below hb6)
            have HB6 := Lib.hid (bstep HBEL2.out hb6)
            have HLT := Lib.hid HP6.out.lt
            have hadd := fun (W : World) (hb : Below w6.heap.size w6 W) => refAddP_new (.slice ka q.length kc') q x' y z W (by omega) HC.out.2 ((HP6.out.below hb).p1.at_)
            obtain ⟨d0, d1, d2⟩ := HD.out
            have pcK := HP6.out.c1
            have pfK := HP6.out.f1
            clear hb6 HD
            go_upto_region 14 with fail
            go_region_with (go_at_call 11; refine (hadd _ (Below.refl _ w6).drew).mono ?_; rintro e w7 ⟨v7, rfl, hd7, hor, hb7⟩; have HP7 := Lib.hid (HP6.out.below (bstep (Below.refl _ w6).drew hb7)); have pc7 := HP7.out.c1; have pf7 := HP7.out.f1; obtain ⟨na, nc, rfl, _, _, _, _⟩ := id hd7)
            all_goals
              have HPP : Hid (PP w7 PB (.slice na (addR q (x', y, z)).length nc) (addR q (x', y, z))) := Lib.hid ⟨hd7, fun bb hbb => by
                rcases hor with e | hor
                · rw [e] at hbb; exact HP6.out.p1.off bb hbb
                · have h1 := hor bb hbb; have h2 := HLT.out; have h3 : w6.drew.heap.size = w6.heap.size := rfl; omega⟩
              have HB7 := Lib.hid (bstep HB6.out (bstep (Below.refl _ w6).drew hb7))
              clear hd7 hor hb7 pc7 pf7 d0 d1 d2 pcK pfK hadd
              go_wp2
              go_roundw
              case rel => exact ⟨i + 1, .slice na (addR q (x', y, z)).length nc, by omega, by omega, by go_num, by rw [HS.out, HC.out.1]; exact HP7.out.set1 HPP.out, HB7.out.setCell (by rw [HPB.out]; exact Nat.le_refl _) _⟩
              case measure => simp [intOf]; omega
          · have HX := Lib.hid (fwN_all 6 l1 i hi hi6 hlt)
            rw [HX.out] at HP
            rcases (show (decide (i < l1.length) = false) ∨ (decide (i < l1.length) = true ∧ decide ((i : Int) < 6) = false) by simp; omega) with hd | ⟨hd, hd2⟩
            all_goals
              go_wp2
              go_roundw
              case rel => exact ⟨2, _, _, _, _, .inr (.inr ⟨rfl, rfl, rfl⟩), by go_num, HP.out, HBEL2.out⟩
              case measure => simp [intOf]
      · clear hP hbel
        go_wp2
        go_meet
        exact ⟨v0, v1, rfl, HPK.out, HBEL.out⟩
  obtain ⟨v0, v1, rfl, hP, hb5⟩ := hcut
  obtain ⟨w5, hw5⟩ : ∃ w5, w5 = wc := ⟨wc, rfl⟩
  subst hw5
  have HS0 := Lib.hid (fewN_srt 6 l0)
  have HS1 := Lib.hid (fewN_srt 6 l1)
  have HK0 := Lib.hid (fewN_ok 6 l0)
  have hf0 := fewN_len 6 l0
  have hf1 := fewN_len 6 l1
  generalize fewN 6 l0 = F0 at hP HS0 HK0 hf0
  generalize fewN 6 l1 = F1 at hP HS1 hf1
  obtain ⟨pa, pc, rfl, _, _, _, _⟩ := id hP.p0.at_
  obtain ⟨pa1, pc1, rfl, _, _, _, _⟩ := id hP.p1.at_
  have HP5 := Lib.hid hP
  have HM5 := Lib.hid (HM3.out.below hb5)
  have HR5 := Lib.hid (HR3.out.below hb5)
  have HB05 := Lib.hid (bstep HB03.out hb5)
  have HRW := Lib.hid (rows_lit2 hP.p0.at_ hP.p1.at_)
  have HBR := Lib.hid (balloc (Below.refl _ w5) (.cells #[.slice pa F0.length pc, .slice pa1 F1.length pc1] 23))
  obtain ⟨c0, c1, _, _, _, _⟩ := hP
  clear hb5 HM3 HR3 HB03 HQ3 HR03 HR13 HP0 HBA HPB
  go_wp2_with fail
  refine (refMerge_new (some ⟨w5.heap.size, 0, none⟩) 2 [F0, F1] _ (by simp) (by simp [tot]; omega) (by
    intro l hl
    simp only [List.mem_cons, List.not_mem_nil, or_false] at hl
    rcases hl with rfl | rfl
    · exact HS0.out.szd
    · exact HS1.out.szd) HRW.out).mono ?_
  rintro e w6 ⟨vb, rfl, hdb, _, hb6⟩
  have hmg := mergeR_spec [F0, F1]
  have hml := mergeR_len [F0, F1] 2 (by simp)
  rw [show ([F0, F1] : List (List De)).flatten = F0 ++ F1 from by simp] at hmg
  rw [show ([F0, F1] : List (List De)).take 2 = [F0, F1] from rfl, show tot [F0, F1] = F0.length + F1.length from by simp [tot]] at hml
  generalize mergeR [F0, F1] = FB at hdb hmg hml
  obtain ⟨ba, bc, rfl, _, _, _, _⟩ := id hdb
  have HSB := Lib.hid hmg.srt
  have HMG := Lib.hid (fun k => gtD_merge hmg HS0.out HK0.out k)
  have HB56 := Lib.hid (bstep HBR.out hb6)
  have HP6 := Lib.hid (HP5.out.below HB56.out)
  have HM6 := Lib.hid (HM5.out.below HB56.out)
  have HR6 := Lib.hid (HR5.out.below HB56.out)
  have HB06 := Lib.hid (bstep HB05.out HB56.out)
  have HCA : Hid (Ctx w6 (.slice pa F0.length pc) F0 ra rs) := Lib.hid ⟨by omega, HS0.out.szd, HP6.out.p0.at_, by omega, HR6.out⟩
  have HCB : Hid (Ctx w6 (.slice ba FB.length bc) FB ra rs) := Lib.hid ⟨by omega, HSB.out.szd, hdb, by omega, HR6.out⟩
  clear c0 c1 hdb hmg hb6 HRW HBR HP5 HM5 HR5 HB05 HB56 HK0
  go_wp2
  go_loopw [15] (fun iv wr => ∃ j : Nat, j ≤ xs.length ∧ iv = .int .i64 j ∧ Below w6.heap.size w6 wr) (fun iv _ => xs.length - (intOf iv).toNat)
  case atStart => exact ⟨0, by omega, rfl, Below.refl _ _⟩
  case round =>
    obtain ⟨j, hj, rfl, hbel⟩ := hrel
    have HBEL := Lib.hid hbel
    by_cases hlt : j < xs.length
    · obtain ⟨b, off, rfl, hbl, hq, hvb⟩ := (HM6.out.row.below hbel).at j hlt
      have hxp := wr_past HM6.out _ (List.getElem_mem hlt)
      have hxs := (mq_ok HMAP.out _ (List.getElem_mem hlt)).srt
      generalize xs[j] = x at hq hvb hxp hxs
      obtain ⟨⟨xk, xv, xg, ⟨xn, xs'⟩, xp⟩, xa, xc⟩ := x
      obtain ⟨c0, c1, c2, c3, c4, c5⟩ := hq
      dsimp only [pw, wvs] at c0 c1 c2 c3 c4 c5 hxp hxs
      have HCA' := Lib.hid (HCA.out.below hbel)
      have HCB' := Lib.hid (HCB.out.below hbel)
      have hmi := fun (W : World) (hb : Below wr.heap.size wr W) => misses_any ⟨xk, xv, xg, (xn, xs'), xp⟩ (.slice xa xp.length xc) (.slice pa F0.length pc) F0 ra rc rs W (hvb.1.below hb) hxp (HCA'.out.below hb)
      have hmb := fun (W : World) (hb : Below wr.heap.size wr W) => misses_any ⟨xk, xv, xg, (xn, xs'), xp⟩ (.slice xa xp.length xc) (.slice ba FB.length bc) FB ra rc rs W (hvb.1.below hb) hxp (HCB'.out.below hb)
      have hmn := fun (W : World) (hb : Below wr.heap.size wr W) => misses_any ⟨xk, xv, xg, (xn, xs'), xp⟩ (.slice xa xp.length xc) (.slice pa F0.length pc) F0 none 0 [] W (hvb.1.below hb) hxp ⟨(HCA'.out.below hb).len, (HCA'.out.below hb).szd, (HCA'.out.below hb).at_, by simp, fun i hi => absurd hi (by simp)⟩
      have hqc := fun (W : World) (hb : Below wr.heap.size wr W) => qcheck_any ⟨xk, xv, xg, (xn, xs'), xp⟩ (.slice xa xp.length xc) (.slice pa F0.length pc) F0 ra rc rs W (hvb.1.below hb) hxp (HCA'.out.below hb)
      have hqb := fun (W : World) (hb : Below wr.heap.size wr W) => qcheck_any ⟨xk, xv, xg, (xn, xs'), xp⟩ (.slice xa xp.length xc) (.slice ba FB.length bc) FB ra rc rs W (hvb.1.below hb) hxp (HCB'.out.below hb)
      have hqs := fun (W : World) (hb : Below wr.heap.size wr W) => qcheck_any ⟨xk, xv, xg, (xn, xs'), xp⟩ (.slice xa xp.length xc) (.slice xa xp.length xc) xp ra rc rs W (hvb.1.below hb) hxp ⟨hxp, hxs.szd, (hvb.1.below hb).at_, (HCA'.out.below hb).few, (HCA'.out.below hb).rng⟩
      obtain ⟨hle, himp⟩ := miss_more (rs := rs) (past := xp) HMG.out
      have hml0 := missD_len rs F0 xp
      dsimp only [wvs] at hmi hmb hmn hqc hqb hqs
      rw [miss_none] at hmn
      rw [miss_self rs hxs] at hqs
      dsimp only [List.isEmpty_nil, List.length_nil] at hqs hmn
      generalize missD rs F0 xp = mA at hmi hqc hle himp hml0
      generalize missD rs FB xp = mB at hmb hqb hle himp
      obtain ⟨cA, hcA⟩ : ∃ cA, cA = mA.isEmpty := ⟨_, rfl⟩
      obtain ⟨cB, hcB⟩ : ∃ cB, cB = mB.isEmpty := ⟨_, rfl⟩
      rw [← hcA] at hqc himp
      rw [← hcB] at hqb himp
      clear hcA hcB
      have hji : (j : Int) < (xs.length : Int) := by omega
      have hj0 : (0 : Int) ≤ (j : Int) := by omega
      have hlei : ¬ (mA.length : Int) < (mB.length : Int) := by omega
      have hled : decide ((mA.length : Int) < (mB.length : Int)) = false := decide_eq_false hlei
      have hledn : decide (mA.length < mB.length) = false := decide_eq_false (by omega)
      have g0 : (wr.drew.cell? ⟨b, off + j * 6, none⟩ = some (.string xk) ∧ wr.drew.cell? ⟨b, off + j * 6 + 1, none⟩ = some (.string xv) ∧ wr.drew.cell? ⟨b, off + j * 6 + 2, none⟩ = some (.bool xg) ∧ wr.drew.cell? ⟨b, off + j * 6 + 3, none⟩ = some (.int .i64 xn) ∧ wr.drew.cell? ⟨b, off + j * 6 + 4, none⟩ = some (.int .i64 xs') ∧ wr.drew.cell? ⟨b, off + j * 6 + 5, none⟩ = some (.slice xa xp.length xc)) ∧ wr.drew.cell? ⟨PB, 0, none⟩ = some (.slice pa F0.length pc) := ⟨⟨c0, c1, c2, c3, c4, c5⟩, (HP6.out.below hbel).c0⟩
      have HBD := Lib.hid ((Below.refl wr.heap.size wr).drew)
      have HVB := Lib.hid hvb
      clear hvb c0 c1 c2 c3 c4 c5
      go_wp2_with fail
      refine wp_region_held_drew (S := fun w' => (w'.cell? ⟨b, off + j * 6, none⟩ = some (.string xk) ∧ w'.cell? ⟨b, off + j * 6 + 1, none⟩ = some (.string xv) ∧ w'.cell? ⟨b, off + j * 6 + 2, none⟩ = some (.bool xg) ∧ w'.cell? ⟨b, off + j * 6 + 3, none⟩ = some (.int .i64 xn) ∧ w'.cell? ⟨b, off + j * 6 + 4, none⟩ = some (.int .i64 xs') ∧ w'.cell? ⟨b, off + j * 6 + 5, none⟩ = some (.slice xa xp.length xc)) ∧ w'.cell? ⟨PB, 0, none⟩ = some (.slice pa F0.length pc)) (by kernel_rfl) (g0) (fun hHeld => ?_)
      refine wpAnyH_take (i := 0) (v := ?vm0) rfl (by kernel_rfl) (by kernel_rfl) (by kernel_rfl) (fun _ _ _ h => h) (Or.inl ⟨by rfl, ?ym0⟩) (by assumption) ?rm0
      case ym0 => (intro w hSw; (try dsimp only at hSw); go_simp; try with_reducible rfl)
      try simp only [Act.put, List.setIfInBounds_toArray, List.set_cons_zero, List.set_cons_succ, List.getElem_toArray, List.getElem_cons_zero, List.getElem_cons_succ]
      refine wpAnyH_take (i := 1) (v := ?vm1) rfl (by kernel_rfl) (by kernel_rfl) (by kernel_rfl) (fun _ _ _ h => h) (Or.inl ⟨by rfl, ?ym1⟩) (by assumption) ?rm1
      case ym1 => (intro w hSw; (try dsimp only at hSw); go_simp; try with_reducible rfl)
      try simp only [Act.put, List.setIfInBounds_toArray, List.set_cons_zero, List.set_cons_succ, List.getElem_toArray, List.getElem_cons_zero, List.getElem_cons_succ]
      refine wpAnyH_take (i := 2) (v := ?vm2) rfl (by kernel_rfl) (by kernel_rfl) (by kernel_rfl) (fun _ _ _ h => h) (Or.inl ⟨by rfl, ?ym2⟩) (by assumption) ?rm2
      case ym2 => (intro w hSw; (try dsimp only at hSw); go_simp; try with_reducible rfl)
      try simp only [Act.put, List.setIfInBounds_toArray, List.set_cons_zero, List.set_cons_succ, List.getElem_toArray, List.getElem_cons_zero, List.getElem_cons_succ]
      refine wpAnyH_take (i := 3) (v := ?vm3) rfl (by kernel_rfl) (by kernel_rfl) (by kernel_rfl) (fun _ _ _ h => h) (Or.inl ⟨by rfl, ?ym3⟩) (by assumption) ?rm3
      case ym3 => (intro w hSw; (try dsimp only at hSw); go_simp; try with_reducible rfl)
      try simp only [Act.put, List.setIfInBounds_toArray, List.set_cons_zero, List.set_cons_succ, List.getElem_toArray, List.getElem_cons_zero, List.getElem_cons_succ]
      refine wpAnyH_take (i := 4) (v := ?vm4) rfl (by kernel_rfl) (by kernel_rfl) (by kernel_rfl) (fun _ _ _ h => h) (Or.inl ⟨by rfl, ?ym4⟩) (by assumption) ?rm4
      case ym4 => (intro w hSw; (try dsimp only at hSw); go_simp; try with_reducible rfl)
      try simp only [Act.put, List.setIfInBounds_toArray, List.set_cons_zero, List.set_cons_succ, List.getElem_toArray, List.getElem_cons_zero, List.getElem_cons_succ]
      refine wpAnyH_take (i := 5) (v := ?vm5) rfl (by kernel_rfl) (by kernel_rfl) (by kernel_rfl) (fun _ _ _ h => h) (Or.inl ⟨by rfl, ?ym5⟩) (by assumption) ?rm5
      case ym5 => (intro w hSw; (try dsimp only at hSw); go_simp; try with_reducible rfl)
      try simp only [Act.put, List.setIfInBounds_toArray, List.set_cons_zero, List.set_cons_succ, List.getElem_toArray, List.getElem_cons_zero, List.getElem_cons_succ]
      refine wpAnyH_take (i := 6) (v := ?vm6) rfl (by kernel_rfl) (by kernel_rfl) (by kernel_rfl) (fun _ _ _ h => h) (Or.inl ⟨by rfl, ?ym6⟩) (by assumption) ?rm6
      case ym6 => (intro w hSw; (try dsimp only at hSw); go_simp; try with_reducible rfl)
      try simp only [Act.put, List.setIfInBounds_toArray, List.set_cons_zero, List.set_cons_succ, List.getElem_toArray, List.getElem_cons_zero, List.getElem_cons_succ]
      refine wpAnyH_ready (rs := [7]) (by kernel_rfl) (by simp) ?_
      refine AllReadyH.cons rfl (fun K hK => ?_) AllReadyH.nil
      go_simp
      go_at_call 14
      refine (hmi _ HBD.out).mono ?_
      rintro e w6 ⟨v6, rfl, ho6, hb6⟩
      have g6 := And.intro (keepF hb6 g0.1) (kc hb6 g0.2); obtain ⟨ma, mc, rfl⟩ := ho6.shape; clear ho6
      go_wp2_with fail
      refine hK.out _ _ (g6) (fun hHeld => ?_)
      clear hK K
      try simp only [Act.put, List.setIfInBounds_toArray, List.set_cons_zero, List.set_cons_succ, List.getElem_toArray, List.getElem_cons_zero, List.getElem_cons_succ]
      refine wpAnyH_take (i := 8) (v := ?vm8) rfl (by kernel_rfl) (by kernel_rfl) (by kernel_rfl) (fun _ _ _ h => h) (Or.inl ⟨by rfl, ?ym8⟩) (by assumption) ?rm8
      case ym8 => (intro w hSw; (try dsimp only at hSw); go_simp; try with_reducible rfl)
      try simp only [Act.put, List.setIfInBounds_toArray, List.set_cons_zero, List.set_cons_succ, List.getElem_toArray, List.getElem_cons_zero, List.getElem_cons_succ]
      refine wpAnyH_done (by kernel_rfl) ?_ _
      clear hHeld g0 hmi
      obtain ⟨⟨c0, c1, c2, c3, c4, c5⟩, c6⟩ := id g6
      have HB6 := Lib.hid (bstep HBD.out hb6)
      clear hb6
      go_wp2_with fail
      refine (hmb _ HB6.out).mono ?_
      rintro e w7 ⟨v7, rfl, ho7, hb7⟩
      have g7 := And.intro (keepF hb7 g6.1) (kc hb7 g6.2)
      obtain ⟨mba, mbc, rfl⟩ := ho7.shape
      have HB7 := Lib.hid (bstep HB6.out hb7)
      have HBE := Lib.hid HB7.out.drew
      have h0 : (w7.drew.cell? ⟨b, off + j * 6, none⟩ = some (.string xk) ∧ w7.drew.cell? ⟨b, off + j * 6 + 1, none⟩ = some (.string xv) ∧ w7.drew.cell? ⟨b, off + j * 6 + 2, none⟩ = some (.bool xg) ∧ w7.drew.cell? ⟨b, off + j * 6 + 3, none⟩ = some (.int .i64 xn) ∧ w7.drew.cell? ⟨b, off + j * 6 + 4, none⟩ = some (.int .i64 xs') ∧ w7.drew.cell? ⟨b, off + j * 6 + 5, none⟩ = some (.slice xa xp.length xc)) ∧ w7.drew.cell? ⟨PB, 0, none⟩ = some (.slice pa F0.length pc) := And.intro (keepF ((Below.refl w7.heap.size w7).drew) g7.1) (kc ((Below.refl w7.heap.size w7).drew) g7.2)
      clear c0 c1 c2 c3 c4 c5 c6 g6 g7 ho7 hb7 hmb
      cases cA with
      | false =>
        go_upto_region 21 with fail
        refine wp_region_held_drew (S := fun w' => (w'.cell? ⟨b, off + j * 6, none⟩ = some (.string xk) ∧ w'.cell? ⟨b, off + j * 6 + 1, none⟩ = some (.string xv) ∧ w'.cell? ⟨b, off + j * 6 + 2, none⟩ = some (.bool xg) ∧ w'.cell? ⟨b, off + j * 6 + 3, none⟩ = some (.int .i64 xn) ∧ w'.cell? ⟨b, off + j * 6 + 4, none⟩ = some (.int .i64 xs') ∧ w'.cell? ⟨b, off + j * 6 + 5, none⟩ = some (.slice xa xp.length xc)) ∧ w'.cell? ⟨PB, 0, none⟩ = some (.slice pa F0.length pc)) (by kernel_rfl) (h0) (fun hHeld => ?_)
        refine wpAnyH_take (i := 0) (v := ?vu0) rfl (by kernel_rfl) (by kernel_rfl) (by kernel_rfl) (fun _ _ _ h => h) (Or.inl ⟨by rfl, ?yu0⟩) (by assumption) ?ru0
        case yu0 => (intro w hSw; (try dsimp only at hSw); go_simp; try with_reducible rfl)
        try simp only [Act.put, List.setIfInBounds_toArray, List.set_cons_zero, List.set_cons_succ, List.getElem_toArray, List.getElem_cons_zero, List.getElem_cons_succ]
        refine wpAnyH_take (i := 1) (v := ?vu1) rfl (by kernel_rfl) (by kernel_rfl) (by kernel_rfl) (fun _ _ _ h => h) (Or.inl ⟨by rfl, ?yu1⟩) (by assumption) ?ru1
        case yu1 => (intro w hSw; (try dsimp only at hSw); go_simp; try with_reducible rfl)
        try simp only [Act.put, List.setIfInBounds_toArray, List.set_cons_zero, List.set_cons_succ, List.getElem_toArray, List.getElem_cons_zero, List.getElem_cons_succ]
        refine wpAnyH_take (i := 2) (v := ?vu2) rfl (by kernel_rfl) (by kernel_rfl) (by kernel_rfl) (fun _ _ _ h => h) (Or.inl ⟨by rfl, ?yu2⟩) (by assumption) ?ru2
        case yu2 => (intro w hSw; (try dsimp only at hSw); go_simp; try with_reducible rfl)
        try simp only [Act.put, List.setIfInBounds_toArray, List.set_cons_zero, List.set_cons_succ, List.getElem_toArray, List.getElem_cons_zero, List.getElem_cons_succ]
        refine wpAnyH_take (i := 3) (v := ?vu3) rfl (by kernel_rfl) (by kernel_rfl) (by kernel_rfl) (fun _ _ _ h => h) (Or.inl ⟨by rfl, ?yu3⟩) (by assumption) ?ru3
        case yu3 => (intro w hSw; (try dsimp only at hSw); go_simp; try with_reducible rfl)
        try simp only [Act.put, List.setIfInBounds_toArray, List.set_cons_zero, List.set_cons_succ, List.getElem_toArray, List.getElem_cons_zero, List.getElem_cons_succ]
        refine wpAnyH_take (i := 4) (v := ?vu4) rfl (by kernel_rfl) (by kernel_rfl) (by kernel_rfl) (fun _ _ _ h => h) (Or.inl ⟨by rfl, ?yu4⟩) (by assumption) ?ru4
        case yu4 => (intro w hSw; (try dsimp only at hSw); go_simp; try with_reducible rfl)
        try simp only [Act.put, List.setIfInBounds_toArray, List.set_cons_zero, List.set_cons_succ, List.getElem_toArray, List.getElem_cons_zero, List.getElem_cons_succ]
        refine wpAnyH_take (i := 5) (v := ?vu5) rfl (by kernel_rfl) (by kernel_rfl) (by kernel_rfl) (fun _ _ _ h => h) (Or.inl ⟨by rfl, ?yu5⟩) (by assumption) ?ru5
        case yu5 => (intro w hSw; (try dsimp only at hSw); go_simp; try with_reducible rfl)
        try simp only [Act.put, List.setIfInBounds_toArray, List.set_cons_zero, List.set_cons_succ, List.getElem_toArray, List.getElem_cons_zero, List.getElem_cons_succ]
        refine wpAnyH_take (i := 6) (v := ?vu6) rfl (by kernel_rfl) (by kernel_rfl) (by kernel_rfl) (fun _ _ _ h => h) (Or.inl ⟨by rfl, ?yu6⟩) (by assumption) ?ru6
        case yu6 => (intro w hSw; (try dsimp only at hSw); go_simp; try with_reducible rfl)
        try simp only [Act.put, List.setIfInBounds_toArray, List.set_cons_zero, List.set_cons_succ, List.getElem_toArray, List.getElem_cons_zero, List.getElem_cons_succ]
        refine wpAnyH_take (i := 7) (v := ?vu7) rfl (by kernel_rfl) (by kernel_rfl) (by kernel_rfl) (fun _ _ _ h => h) (Or.inl ⟨by rfl, ?yu7⟩) (by assumption) ?ru7
        case yu7 => (intro w hSw; (try dsimp only at hSw); go_simp; try with_reducible rfl)
        try simp only [Act.put, List.setIfInBounds_toArray, List.set_cons_zero, List.set_cons_succ, List.getElem_toArray, List.getElem_cons_zero, List.getElem_cons_succ]
        refine wpAnyH_take (i := 8) (v := ?vu8) rfl (by kernel_rfl) (by kernel_rfl) (by kernel_rfl) (fun _ _ _ h => h) (Or.inl ⟨by rfl, ?yu8⟩) (by assumption) ?ru8
        case yu8 => (intro w hSw; (try dsimp only at hSw); go_simp; try with_reducible rfl)
        try simp only [Act.put, List.setIfInBounds_toArray, List.set_cons_zero, List.set_cons_succ, List.getElem_toArray, List.getElem_cons_zero, List.getElem_cons_succ]
        refine wpAnyH_take (i := 9) (v := ?vu9) rfl (by kernel_rfl) (by kernel_rfl) (by kernel_rfl) (fun _ _ _ h => h) (Or.inl ⟨by rfl, ?yu9⟩) (by assumption) ?ru9
        case yu9 => (intro w hSw; (try dsimp only at hSw); go_simp; try with_reducible rfl)
        try simp only [Act.put, List.setIfInBounds_toArray, List.set_cons_zero, List.set_cons_succ, List.getElem_toArray, List.getElem_cons_zero, List.getElem_cons_succ]
        refine wpAnyH_take (i := 10) (v := ?vu10) rfl (by kernel_rfl) (by kernel_rfl) (by kernel_rfl) (fun _ _ _ h => h) (Or.inl ⟨by rfl, ?yu10⟩) (by assumption) ?ru10
        case yu10 => (intro w hSw; (try dsimp only at hSw); go_simp; try with_reducible rfl)
        try simp only [Act.put, List.setIfInBounds_toArray, List.set_cons_zero, List.set_cons_succ, List.getElem_toArray, List.getElem_cons_zero, List.getElem_cons_succ]
        refine wpAnyH_take (i := 11) (v := ?vu11) rfl (by kernel_rfl) (by kernel_rfl) (by kernel_rfl) (fun _ _ _ h => h) (Or.inl ⟨by rfl, ?yu11⟩) (by assumption) ?ru11
        case yu11 => (intro w hSw; (try dsimp only at hSw); go_simp; try with_reducible rfl)
        try simp only [Act.put, List.setIfInBounds_toArray, List.set_cons_zero, List.set_cons_succ, List.getElem_toArray, List.getElem_cons_zero, List.getElem_cons_succ]
        refine wpAnyH_take (i := 12) (v := ?vu12) rfl (by kernel_rfl) (by kernel_rfl) (by kernel_rfl) (fun _ _ _ h => h) (Or.inl ⟨by rfl, ?yu12⟩) (by assumption) ?ru12
        case yu12 => (intro w hSw; (try dsimp only at hSw); go_simp; try with_reducible rfl)
        try simp only [Act.put, List.setIfInBounds_toArray, List.set_cons_zero, List.set_cons_succ, List.getElem_toArray, List.getElem_cons_zero, List.getElem_cons_succ]
        refine wpAnyH_ready (rs := [13]) (by kernel_rfl) (by simp) ?_
        refine AllReadyH.cons rfl (fun K hK => ?_) AllReadyH.nil
        go_simp
        go_at_call 16
        refine (hqc _ HBE.out).mono ?_
        rintro e w8 ⟨rfl, hb8⟩
        have h8 := And.intro (keepF hb8 h0.1) (kc hb8 h0.2)
        go_wp2_with fail
        refine hK.out _ _ (h8) (fun hHeld => ?_)
        clear hK K
        try simp only [Act.put, List.setIfInBounds_toArray, List.set_cons_zero, List.set_cons_succ, List.getElem_toArray, List.getElem_cons_zero, List.getElem_cons_succ]
        refine wpAnyH_take (i := 14) (v := ?vu14) rfl (by kernel_rfl) (by kernel_rfl) (by kernel_rfl) (fun _ _ _ h => h) (Or.inl ⟨by rfl, ?yu14⟩) (by assumption) ?ru14
        case yu14 => (intro w hSw; (try dsimp only at hSw); go_simp; try with_reducible rfl)
        try simp only [Act.put, List.setIfInBounds_toArray, List.set_cons_zero, List.set_cons_succ, List.getElem_toArray, List.getElem_cons_zero, List.getElem_cons_succ]
        refine wpAnyH_take (i := 15) (v := undef) rfl (by kernel_rfl) (by kernel_rfl) (by kernel_rfl) (fun _ _ _ h => h) (Or.inr ⟨by rfl, rfl⟩) (by assumption) ?_
        try simp only [Act.put, List.setIfInBounds_toArray, List.set_cons_zero, List.set_cons_succ, List.getElem_toArray, List.getElem_cons_zero, List.getElem_cons_succ]
        refine wpAnyH_take (i := 16) (v := undef) rfl (by kernel_rfl) (by kernel_rfl) (by kernel_rfl) (fun _ _ _ h => h) (Or.inr ⟨by rfl, rfl⟩) (by assumption) ?_
        try simp only [Act.put, List.setIfInBounds_toArray, List.set_cons_zero, List.set_cons_succ, List.getElem_toArray, List.getElem_cons_zero, List.getElem_cons_succ]
        refine wpAnyH_take (i := 17) (v := undef) rfl (by kernel_rfl) (by kernel_rfl) (by kernel_rfl) (fun _ _ _ h => h) (Or.inr ⟨by rfl, rfl⟩) (by assumption) ?_
        try simp only [Act.put, List.setIfInBounds_toArray, List.set_cons_zero, List.set_cons_succ, List.getElem_toArray, List.getElem_cons_zero, List.getElem_cons_succ]
        refine wpAnyH_take (i := 18) (v := undef) rfl (by kernel_rfl) (by kernel_rfl) (by kernel_rfl) (fun _ _ _ h => h) (Or.inr ⟨by rfl, rfl⟩) (by assumption) ?_
        try simp only [Act.put, List.setIfInBounds_toArray, List.set_cons_zero, List.set_cons_succ, List.getElem_toArray, List.getElem_cons_zero, List.getElem_cons_succ]
        refine wpAnyH_take (i := 19) (v := undef) rfl (by kernel_rfl) (by kernel_rfl) (by kernel_rfl) (fun _ _ _ h => h) (Or.inr ⟨by rfl, rfl⟩) (by assumption) ?_
        try simp only [Act.put, List.setIfInBounds_toArray, List.set_cons_zero, List.set_cons_succ, List.getElem_toArray, List.getElem_cons_zero, List.getElem_cons_succ]
        refine wpAnyH_take (i := 20) (v := undef) rfl (by kernel_rfl) (by kernel_rfl) (by kernel_rfl) (fun _ _ _ h => h) (Or.inr ⟨by rfl, rfl⟩) (by assumption) ?_
        try simp only [Act.put, List.setIfInBounds_toArray, List.set_cons_zero, List.set_cons_succ, List.getElem_toArray, List.getElem_cons_zero, List.getElem_cons_succ]
        refine wpAnyH_take (i := 21) (v := undef) rfl (by kernel_rfl) (by kernel_rfl) (by kernel_rfl) (fun _ _ _ h => h) (Or.inr ⟨by rfl, rfl⟩) (by assumption) ?_
        try simp only [Act.put, List.setIfInBounds_toArray, List.set_cons_zero, List.set_cons_succ, List.getElem_toArray, List.getElem_cons_zero, List.getElem_cons_succ]
        refine wpAnyH_take (i := 22) (v := undef) rfl (by kernel_rfl) (by kernel_rfl) (by kernel_rfl) (fun _ _ _ h => h) (Or.inr ⟨by rfl, rfl⟩) (by assumption) ?_
        try simp only [Act.put, List.setIfInBounds_toArray, List.set_cons_zero, List.set_cons_succ, List.getElem_toArray, List.getElem_cons_zero, List.getElem_cons_succ]
        refine wpAnyH_take (i := 23) (v := ?vu23) rfl (by kernel_rfl) (by kernel_rfl) (by kernel_rfl) (fun _ _ _ h => h) (Or.inl ⟨by rfl, ?yu23⟩) (by assumption) ?ru23
        case yu23 => (intro w hSw; (try dsimp only at hSw); go_simp; try with_reducible rfl)
        try simp only [Act.put, List.setIfInBounds_toArray, List.set_cons_zero, List.set_cons_succ, List.getElem_toArray, List.getElem_cons_zero, List.getElem_cons_succ]
        refine wpAnyH_take (i := 24) (v := ?vu24) rfl (by kernel_rfl) (by kernel_rfl) (by kernel_rfl) (fun _ _ _ h => h) (Or.inl ⟨by rfl, ?yu24⟩) (by assumption) ?ru24
        case yu24 => (intro w hSw; (try dsimp only at hSw); go_simp; try with_reducible rfl)
        try simp only [Act.put, List.setIfInBounds_toArray, List.set_cons_zero, List.set_cons_succ, List.getElem_toArray, List.getElem_cons_zero, List.getElem_cons_succ]
        refine wpAnyH_take (i := 25) (v := ?vu25) rfl (by kernel_rfl) (by kernel_rfl) (by kernel_rfl) (fun _ _ _ h => h) (Or.inl ⟨by rfl, ?yu25⟩) (by assumption) ?ru25
        case yu25 => (intro w hSw; (try dsimp only at hSw); go_simp; try with_reducible rfl)
        try simp only [Act.put, List.setIfInBounds_toArray, List.set_cons_zero, List.set_cons_succ, List.getElem_toArray, List.getElem_cons_zero, List.getElem_cons_succ]
        refine wpAnyH_take (i := 26) (v := ?vu26) rfl (by kernel_rfl) (by kernel_rfl) (by kernel_rfl) (fun _ _ _ h => h) (Or.inl ⟨by rfl, ?yu26⟩) (by assumption) ?ru26
        case yu26 => (intro w hSw; (try dsimp only at hSw); go_simp; try with_reducible rfl)
        try simp only [Act.put, List.setIfInBounds_toArray, List.set_cons_zero, List.set_cons_succ, List.getElem_toArray, List.getElem_cons_zero, List.getElem_cons_succ]
        refine wpAnyH_take (i := 27) (v := ?vu27) rfl (by kernel_rfl) (by kernel_rfl) (by kernel_rfl) (fun _ _ _ h => h) (Or.inl ⟨by rfl, ?yu27⟩) (by assumption) ?ru27
        case yu27 => (intro w hSw; (try dsimp only at hSw); go_simp; try with_reducible rfl)
        try simp only [Act.put, List.setIfInBounds_toArray, List.set_cons_zero, List.set_cons_succ, List.getElem_toArray, List.getElem_cons_zero, List.getElem_cons_succ]
        refine wpAnyH_take (i := 28) (v := ?vu28) rfl (by kernel_rfl) (by kernel_rfl) (by kernel_rfl) (fun _ _ _ h => h) (Or.inl ⟨by rfl, ?yu28⟩) (by assumption) ?ru28
        case yu28 => (intro w hSw; (try dsimp only at hSw); go_simp; try with_reducible rfl)
        try simp only [Act.put, List.setIfInBounds_toArray, List.set_cons_zero, List.set_cons_succ, List.getElem_toArray, List.getElem_cons_zero, List.getElem_cons_succ]
        refine wpAnyH_take (i := 29) (v := ?vu29) rfl (by kernel_rfl) (by kernel_rfl) (by kernel_rfl) (fun _ _ _ h => h) (Or.inl ⟨by rfl, ?yu29⟩) (by assumption) ?ru29
        case yu29 => (intro w hSw; (try dsimp only at hSw); go_simp; try with_reducible rfl)
        try simp only [Act.put, List.setIfInBounds_toArray, List.set_cons_zero, List.set_cons_succ, List.getElem_toArray, List.getElem_cons_zero, List.getElem_cons_succ]
        refine wpAnyH_take (i := 30) (v := ?vu30) rfl (by kernel_rfl) (by kernel_rfl) (by kernel_rfl) (fun _ _ _ h => h) (Or.inl ⟨by rfl, ?yu30⟩) (by assumption) ?ru30
        case yu30 => (intro w hSw; (try dsimp only at hSw); go_simp; try with_reducible rfl)
        try simp only [Act.put, List.setIfInBounds_toArray, List.set_cons_zero, List.set_cons_succ, List.getElem_toArray, List.getElem_cons_zero, List.getElem_cons_succ]
        refine wpAnyH_take (i := 31) (v := ?vu31) rfl (by kernel_rfl) (by kernel_rfl) (by kernel_rfl) (fun _ _ _ h => h) (Or.inl ⟨by rfl, ?yu31⟩) (by assumption) ?ru31
        case yu31 => (intro w hSw; (try dsimp only at hSw); go_simp; try with_reducible rfl)
        try simp only [Act.put, List.setIfInBounds_toArray, List.set_cons_zero, List.set_cons_succ, List.getElem_toArray, List.getElem_cons_zero, List.getElem_cons_succ]
        refine wpAnyH_ready (rs := [32]) (by kernel_rfl) (by simp) ?_
        refine AllReadyH.cons rfl (fun K hK => ?_) AllReadyH.nil
        go_simp
        go_at_call 14
        refine (hmn _ (bstep HBE.out hb8)).mono ?_
        rintro e w10 ⟨v10, rfl, ho10, hb10⟩
        have h10 := And.intro (keepF hb10 h8.1) (kc hb10 h8.2); obtain ⟨na, nc, rfl⟩ := ho10.shape; clear ho10
        go_wp2_with fail
        refine hK.out _ _ (h10) (fun hHeld => ?_)
        clear hK K
        try simp only [Act.put, List.setIfInBounds_toArray, List.set_cons_zero, List.set_cons_succ, List.getElem_toArray, List.getElem_cons_zero, List.getElem_cons_succ]
        refine wpAnyH_take (i := 33) (v := ?vu33) rfl (by kernel_rfl) (by kernel_rfl) (by kernel_rfl) (fun _ _ _ h => h) (Or.inl ⟨by rfl, ?yu33⟩) (by assumption) ?ru33
        case yu33 => (intro w hSw; (try dsimp only at hSw); go_simp; try with_reducible rfl)
        try simp only [Act.put, List.setIfInBounds_toArray, List.set_cons_zero, List.set_cons_succ, List.getElem_toArray, List.getElem_cons_zero, List.getElem_cons_succ]
        refine wpAnyH_take (i := 34) (v := ?vu34) rfl (by kernel_rfl) (by kernel_rfl) (by kernel_rfl) (fun _ _ _ h => h) (Or.inl ⟨by rfl, ?yu34⟩) (by assumption) ?ru34
        case yu34 => (intro w hSw; (try dsimp only at hSw); go_simp; try with_reducible rfl)
        try simp only [Act.put, List.setIfInBounds_toArray, List.set_cons_zero, List.set_cons_succ, List.getElem_toArray, List.getElem_cons_zero, List.getElem_cons_succ]
        refine wpAnyH_take (i := 35) (v := ?vu35) rfl (by kernel_rfl) (by kernel_rfl) (by kernel_rfl) (fun _ _ _ h => h) (Or.inl ⟨by rfl, ?yu35⟩) (by assumption) ?ru35
        case yu35 => (intro w hSw; (try dsimp only at hSw); go_simp; try with_reducible rfl)
        try simp only [Act.put, List.setIfInBounds_toArray, List.set_cons_zero, List.set_cons_succ, List.getElem_toArray, List.getElem_cons_zero, List.getElem_cons_succ]
        refine wpAnyH_take (i := 36) (v := ?vu36) rfl (by kernel_rfl) (by kernel_rfl) (by kernel_rfl) (fun _ _ _ h => h) (Or.inl ⟨by rfl, ?yu36⟩) (by assumption) ?ru36
        case yu36 => (intro w hSw; (try dsimp only at hSw); go_simp; try with_reducible rfl)
        try simp only [Act.put, List.setIfInBounds_toArray, List.set_cons_zero, List.set_cons_succ, List.getElem_toArray, List.getElem_cons_zero, List.getElem_cons_succ]
        refine wpAnyH_take (i := 37) (v := ?vu37) rfl (by kernel_rfl) (by kernel_rfl) (by kernel_rfl) (fun _ _ _ h => h) (Or.inl ⟨by rfl, ?yu37⟩) (by assumption) ?ru37
        case yu37 => (intro w hSw; (try dsimp only at hSw); go_simp; try with_reducible rfl)
        try simp only [Act.put, List.setIfInBounds_toArray, List.set_cons_zero, List.set_cons_succ, List.getElem_toArray, List.getElem_cons_zero, List.getElem_cons_succ]
        refine wpAnyH_take (i := 38) (v := ?vu38) rfl (by kernel_rfl) (by kernel_rfl) (by kernel_rfl) (fun _ _ _ h => h) (Or.inl ⟨by rfl, ?yu38⟩) (by assumption) ?ru38
        case yu38 => (intro w hSw; (try dsimp only at hSw); go_simp; try with_reducible rfl)
        try simp only [Act.put, List.setIfInBounds_toArray, List.set_cons_zero, List.set_cons_succ, List.getElem_toArray, List.getElem_cons_zero, List.getElem_cons_succ]
        refine wpAnyH_take (i := 39) (v := ?vu39) rfl (by kernel_rfl) (by kernel_rfl) (by kernel_rfl) (fun _ _ _ h => h) (Or.inl ⟨by rfl, ?yu39⟩) (by assumption) ?ru39
        case yu39 => (intro w hSw; (try dsimp only at hSw); go_simp; try with_reducible rfl)
        try simp only [Act.put, List.setIfInBounds_toArray, List.set_cons_zero, List.set_cons_succ, List.getElem_toArray, List.getElem_cons_zero, List.getElem_cons_succ]
        refine wpAnyH_take (i := 40) (v := ?vu40) rfl (by kernel_rfl) (by kernel_rfl) (by kernel_rfl) (fun _ _ _ h => h) (Or.inl ⟨by rfl, ?yu40⟩) (by assumption) ?ru40
        case yu40 => (intro w hSw; (try dsimp only at hSw); go_simp; try with_reducible rfl)
        try simp only [Act.put, List.setIfInBounds_toArray, List.set_cons_zero, List.set_cons_succ, List.getElem_toArray, List.getElem_cons_zero, List.getElem_cons_succ]
        refine wpAnyH_take (i := 41) (v := ?vu41) rfl (by kernel_rfl) (by kernel_rfl) (by kernel_rfl) (fun _ _ _ h => h) (Or.inl ⟨by rfl, ?yu41⟩) (by assumption) ?ru41
        case yu41 => (intro w hSw; (try dsimp only at hSw); go_simp; try with_reducible rfl)
        try simp only [Act.put, List.setIfInBounds_toArray, List.set_cons_zero, List.set_cons_succ, List.getElem_toArray, List.getElem_cons_zero, List.getElem_cons_succ]
        refine wpAnyH_take (i := 42) (v := ?vu42) rfl (by kernel_rfl) (by kernel_rfl) (by kernel_rfl) (fun _ _ _ h => h) (Or.inl ⟨by rfl, ?yu42⟩) (by assumption) ?ru42
        case yu42 => (intro w hSw; (try dsimp only at hSw); go_simp; try with_reducible rfl)
        try simp only [Act.put, List.setIfInBounds_toArray, List.set_cons_zero, List.set_cons_succ, List.getElem_toArray, List.getElem_cons_zero, List.getElem_cons_succ]
        refine wpAnyH_take (i := 43) (v := ?vu43) rfl (by kernel_rfl) (by kernel_rfl) (by kernel_rfl) (fun _ _ _ h => h) (Or.inl ⟨by rfl, ?yu43⟩) (by assumption) ?ru43
        case yu43 => (intro w hSw; (try dsimp only at hSw); go_simp; try with_reducible rfl)
        try simp only [Act.put, List.setIfInBounds_toArray, List.set_cons_zero, List.set_cons_succ, List.getElem_toArray, List.getElem_cons_zero, List.getElem_cons_succ]
        refine wpAnyH_take (i := 44) (v := ?vu44) rfl (by kernel_rfl) (by kernel_rfl) (by kernel_rfl) (fun _ _ _ h => h) (Or.inl ⟨by rfl, ?yu44⟩) (by assumption) ?ru44
        case yu44 => (intro w hSw; (try dsimp only at hSw); go_simp; try with_reducible rfl)
        try simp only [Act.put, List.setIfInBounds_toArray, List.set_cons_zero, List.set_cons_succ, List.getElem_toArray, List.getElem_cons_zero, List.getElem_cons_succ]
        refine wpAnyH_take (i := 45) (v := ?vu45) rfl (by kernel_rfl) (by kernel_rfl) (by kernel_rfl) (fun _ _ _ h => h) (Or.inl ⟨by rfl, ?yu45⟩) (by assumption) ?ru45
        case yu45 => (intro w hSw; (try dsimp only at hSw); go_simp; try with_reducible rfl)
        try simp only [Act.put, List.setIfInBounds_toArray, List.set_cons_zero, List.set_cons_succ, List.getElem_toArray, List.getElem_cons_zero, List.getElem_cons_succ]
        refine wpAnyH_take (i := 46) (v := ?vu46) rfl (by kernel_rfl) (by kernel_rfl) (by kernel_rfl) (fun _ _ _ h => h) (Or.inl ⟨by rfl, ?yu46⟩) (by assumption) ?ru46
        case yu46 => (intro w hSw; (try dsimp only at hSw); go_simp; try with_reducible rfl)
        try simp only [Act.put, List.setIfInBounds_toArray, List.set_cons_zero, List.set_cons_succ, List.getElem_toArray, List.getElem_cons_zero, List.getElem_cons_succ]
        refine wpAnyH_ready (rs := [47]) (by kernel_rfl) (by simp) ?_
        refine AllReadyH.cons rfl (fun K hK => ?_) AllReadyH.nil
        go_simp
        go_at_call 16
        refine (hqs _ (bstep (bstep HBE.out hb8) hb10)).mono ?_
        rintro e w11 ⟨rfl, hb11⟩
        have h11 := And.intro (keepF hb11 h10.1) (kc hb11 h10.2)
        go_wp2_with fail
        refine hK.out _ _ (h11) (fun hHeld => ?_)
        clear hK K
        try simp only [Act.put, List.setIfInBounds_toArray, List.set_cons_zero, List.set_cons_succ, List.getElem_toArray, List.getElem_cons_zero, List.getElem_cons_succ]
        refine wpAnyH_take (i := 48) (v := ?vu48) rfl (by kernel_rfl) (by kernel_rfl) (by kernel_rfl) (fun _ _ _ h => h) (Or.inl ⟨by rfl, ?yu48⟩) (by assumption) ?ru48
        case yu48 => (intro w hSw; (try dsimp only at hSw); go_simp; try with_reducible rfl)
        try simp only [Act.put, List.setIfInBounds_toArray, List.set_cons_zero, List.set_cons_succ, List.getElem_toArray, List.getElem_cons_zero, List.getElem_cons_succ]
        refine wpAnyH_take (i := 49) (v := ?vu49) rfl (by kernel_rfl) (by kernel_rfl) (by kernel_rfl) (fun _ _ _ h => h) (Or.inl ⟨by rfl, ?yu49⟩) (by assumption) ?ru49
        case yu49 => (intro w hSw; (try dsimp only at hSw); go_simp; try with_reducible rfl)
        try simp only [Act.put, List.setIfInBounds_toArray, List.set_cons_zero, List.set_cons_succ, List.getElem_toArray, List.getElem_cons_zero, List.getElem_cons_succ]
        refine wpAnyH_done (by kernel_rfl) ?_ _
        have HB11 := Lib.hid (bstep (bstep (bstep HBE.out hb8) hb10) hb11)
        clear hHeld h0 h8 h10 h11 hb8 hb10 hb11 hqc hqb hqs hmn
        go_wp2
        go_roundw
        case rel => exact ⟨j + 1, by omega, by go_num, bstep HBEL.out HB11.out⟩
        case measure => simp [intOf]; omega
      | true =>
        obtain rfl : cB = true := himp rfl
        go_upto_region 21 with fail
        refine wp_region_held_drew (S := fun w' => (w'.cell? ⟨b, off + j * 6, none⟩ = some (.string xk) ∧ w'.cell? ⟨b, off + j * 6 + 1, none⟩ = some (.string xv) ∧ w'.cell? ⟨b, off + j * 6 + 2, none⟩ = some (.bool xg) ∧ w'.cell? ⟨b, off + j * 6 + 3, none⟩ = some (.int .i64 xn) ∧ w'.cell? ⟨b, off + j * 6 + 4, none⟩ = some (.int .i64 xs') ∧ w'.cell? ⟨b, off + j * 6 + 5, none⟩ = some (.slice xa xp.length xc)) ∧ w'.cell? ⟨PB, 0, none⟩ = some (.slice pa F0.length pc)) (by kernel_rfl) (h0) (fun hHeld => ?_)
        refine wpAnyH_take (i := 0) (v := ?vt0) rfl (by kernel_rfl) (by kernel_rfl) (by kernel_rfl) (fun _ _ _ h => h) (Or.inl ⟨by rfl, ?yt0⟩) (by assumption) ?rt0
        case yt0 => (intro w hSw; (try dsimp only at hSw); go_simp; try with_reducible rfl)
        try simp only [Act.put, List.setIfInBounds_toArray, List.set_cons_zero, List.set_cons_succ, List.getElem_toArray, List.getElem_cons_zero, List.getElem_cons_succ]
        refine wpAnyH_take (i := 1) (v := ?vt1) rfl (by kernel_rfl) (by kernel_rfl) (by kernel_rfl) (fun _ _ _ h => h) (Or.inl ⟨by rfl, ?yt1⟩) (by assumption) ?rt1
        case yt1 => (intro w hSw; (try dsimp only at hSw); go_simp; try with_reducible rfl)
        try simp only [Act.put, List.setIfInBounds_toArray, List.set_cons_zero, List.set_cons_succ, List.getElem_toArray, List.getElem_cons_zero, List.getElem_cons_succ]
        refine wpAnyH_take (i := 2) (v := ?vt2) rfl (by kernel_rfl) (by kernel_rfl) (by kernel_rfl) (fun _ _ _ h => h) (Or.inl ⟨by rfl, ?yt2⟩) (by assumption) ?rt2
        case yt2 => (intro w hSw; (try dsimp only at hSw); go_simp; try with_reducible rfl)
        try simp only [Act.put, List.setIfInBounds_toArray, List.set_cons_zero, List.set_cons_succ, List.getElem_toArray, List.getElem_cons_zero, List.getElem_cons_succ]
        refine wpAnyH_take (i := 3) (v := ?vt3) rfl (by kernel_rfl) (by kernel_rfl) (by kernel_rfl) (fun _ _ _ h => h) (Or.inl ⟨by rfl, ?yt3⟩) (by assumption) ?rt3
        case yt3 => (intro w hSw; (try dsimp only at hSw); go_simp; try with_reducible rfl)
        try simp only [Act.put, List.setIfInBounds_toArray, List.set_cons_zero, List.set_cons_succ, List.getElem_toArray, List.getElem_cons_zero, List.getElem_cons_succ]
        refine wpAnyH_take (i := 4) (v := ?vt4) rfl (by kernel_rfl) (by kernel_rfl) (by kernel_rfl) (fun _ _ _ h => h) (Or.inl ⟨by rfl, ?yt4⟩) (by assumption) ?rt4
        case yt4 => (intro w hSw; (try dsimp only at hSw); go_simp; try with_reducible rfl)
        try simp only [Act.put, List.setIfInBounds_toArray, List.set_cons_zero, List.set_cons_succ, List.getElem_toArray, List.getElem_cons_zero, List.getElem_cons_succ]
        refine wpAnyH_take (i := 5) (v := ?vt5) rfl (by kernel_rfl) (by kernel_rfl) (by kernel_rfl) (fun _ _ _ h => h) (Or.inl ⟨by rfl, ?yt5⟩) (by assumption) ?rt5
        case yt5 => (intro w hSw; (try dsimp only at hSw); go_simp; try with_reducible rfl)
        try simp only [Act.put, List.setIfInBounds_toArray, List.set_cons_zero, List.set_cons_succ, List.getElem_toArray, List.getElem_cons_zero, List.getElem_cons_succ]
        refine wpAnyH_take (i := 6) (v := ?vt6) rfl (by kernel_rfl) (by kernel_rfl) (by kernel_rfl) (fun _ _ _ h => h) (Or.inl ⟨by rfl, ?yt6⟩) (by assumption) ?rt6
        case yt6 => (intro w hSw; (try dsimp only at hSw); go_simp; try with_reducible rfl)
        try simp only [Act.put, List.setIfInBounds_toArray, List.set_cons_zero, List.set_cons_succ, List.getElem_toArray, List.getElem_cons_zero, List.getElem_cons_succ]
        refine wpAnyH_take (i := 7) (v := ?vt7) rfl (by kernel_rfl) (by kernel_rfl) (by kernel_rfl) (fun _ _ _ h => h) (Or.inl ⟨by rfl, ?yt7⟩) (by assumption) ?rt7
        case yt7 => (intro w hSw; (try dsimp only at hSw); go_simp; try with_reducible rfl)
        try simp only [Act.put, List.setIfInBounds_toArray, List.set_cons_zero, List.set_cons_succ, List.getElem_toArray, List.getElem_cons_zero, List.getElem_cons_succ]
        refine wpAnyH_take (i := 8) (v := ?vt8) rfl (by kernel_rfl) (by kernel_rfl) (by kernel_rfl) (fun _ _ _ h => h) (Or.inl ⟨by rfl, ?yt8⟩) (by assumption) ?rt8
        case yt8 => (intro w hSw; (try dsimp only at hSw); go_simp; try with_reducible rfl)
        try simp only [Act.put, List.setIfInBounds_toArray, List.set_cons_zero, List.set_cons_succ, List.getElem_toArray, List.getElem_cons_zero, List.getElem_cons_succ]
        refine wpAnyH_take (i := 9) (v := ?vt9) rfl (by kernel_rfl) (by kernel_rfl) (by kernel_rfl) (fun _ _ _ h => h) (Or.inl ⟨by rfl, ?yt9⟩) (by assumption) ?rt9
        case yt9 => (intro w hSw; (try dsimp only at hSw); go_simp; try with_reducible rfl)
        try simp only [Act.put, List.setIfInBounds_toArray, List.set_cons_zero, List.set_cons_succ, List.getElem_toArray, List.getElem_cons_zero, List.getElem_cons_succ]
        refine wpAnyH_take (i := 10) (v := ?vt10) rfl (by kernel_rfl) (by kernel_rfl) (by kernel_rfl) (fun _ _ _ h => h) (Or.inl ⟨by rfl, ?yt10⟩) (by assumption) ?rt10
        case yt10 => (intro w hSw; (try dsimp only at hSw); go_simp; try with_reducible rfl)
        try simp only [Act.put, List.setIfInBounds_toArray, List.set_cons_zero, List.set_cons_succ, List.getElem_toArray, List.getElem_cons_zero, List.getElem_cons_succ]
        refine wpAnyH_take (i := 11) (v := ?vt11) rfl (by kernel_rfl) (by kernel_rfl) (by kernel_rfl) (fun _ _ _ h => h) (Or.inl ⟨by rfl, ?yt11⟩) (by assumption) ?rt11
        case yt11 => (intro w hSw; (try dsimp only at hSw); go_simp; try with_reducible rfl)
        try simp only [Act.put, List.setIfInBounds_toArray, List.set_cons_zero, List.set_cons_succ, List.getElem_toArray, List.getElem_cons_zero, List.getElem_cons_succ]
        refine wpAnyH_take (i := 12) (v := ?vt12) rfl (by kernel_rfl) (by kernel_rfl) (by kernel_rfl) (fun _ _ _ h => h) (Or.inl ⟨by rfl, ?yt12⟩) (by assumption) ?rt12
        case yt12 => (intro w hSw; (try dsimp only at hSw); go_simp; try with_reducible rfl)
        try simp only [Act.put, List.setIfInBounds_toArray, List.set_cons_zero, List.set_cons_succ, List.getElem_toArray, List.getElem_cons_zero, List.getElem_cons_succ]
        refine wpAnyH_ready (rs := [13]) (by kernel_rfl) (by simp) ?_
        refine AllReadyH.cons rfl (fun K hK => ?_) AllReadyH.nil
        go_simp
        go_at_call 16
        refine (hqc _ HBE.out).mono ?_
        rintro e w8 ⟨rfl, hb8⟩
        have h8 := And.intro (keepF hb8 h0.1) (kc hb8 h0.2)
        go_wp2_with fail
        refine hK.out _ _ (h8) (fun hHeld => ?_)
        clear hK K
        try simp only [Act.put, List.setIfInBounds_toArray, List.set_cons_zero, List.set_cons_succ, List.getElem_toArray, List.getElem_cons_zero, List.getElem_cons_succ]
        refine wpAnyH_take (i := 14) (v := ?vt14) rfl (by kernel_rfl) (by kernel_rfl) (by kernel_rfl) (fun _ _ _ h => h) (Or.inl ⟨by rfl, ?yt14⟩) (by assumption) ?rt14
        case yt14 => (intro w hSw; (try dsimp only at hSw); go_simp; try with_reducible rfl)
        try simp only [Act.put, List.setIfInBounds_toArray, List.set_cons_zero, List.set_cons_succ, List.getElem_toArray, List.getElem_cons_zero, List.getElem_cons_succ]
        refine wpAnyH_take (i := 15) (v := ?vt15) rfl (by kernel_rfl) (by kernel_rfl) (by kernel_rfl) (fun _ _ _ h => h) (Or.inl ⟨by rfl, ?yt15⟩) (by assumption) ?rt15
        case yt15 => (intro w hSw; (try dsimp only at hSw); go_simp; try with_reducible rfl)
        try simp only [Act.put, List.setIfInBounds_toArray, List.set_cons_zero, List.set_cons_succ, List.getElem_toArray, List.getElem_cons_zero, List.getElem_cons_succ]
        refine wpAnyH_take (i := 16) (v := ?vt16) rfl (by kernel_rfl) (by kernel_rfl) (by kernel_rfl) (fun _ _ _ h => h) (Or.inl ⟨by rfl, ?yt16⟩) (by assumption) ?rt16
        case yt16 => (intro w hSw; (try dsimp only at hSw); go_simp; try with_reducible rfl)
        try simp only [Act.put, List.setIfInBounds_toArray, List.set_cons_zero, List.set_cons_succ, List.getElem_toArray, List.getElem_cons_zero, List.getElem_cons_succ]
        refine wpAnyH_take (i := 17) (v := ?vt17) rfl (by kernel_rfl) (by kernel_rfl) (by kernel_rfl) (fun _ _ _ h => h) (Or.inl ⟨by rfl, ?yt17⟩) (by assumption) ?rt17
        case yt17 => (intro w hSw; (try dsimp only at hSw); go_simp; try with_reducible rfl)
        try simp only [Act.put, List.setIfInBounds_toArray, List.set_cons_zero, List.set_cons_succ, List.getElem_toArray, List.getElem_cons_zero, List.getElem_cons_succ]
        refine wpAnyH_take (i := 18) (v := ?vt18) rfl (by kernel_rfl) (by kernel_rfl) (by kernel_rfl) (fun _ _ _ h => h) (Or.inl ⟨by rfl, ?yt18⟩) (by assumption) ?rt18
        case yt18 => (intro w hSw; (try dsimp only at hSw); go_simp; try with_reducible rfl)
        try simp only [Act.put, List.setIfInBounds_toArray, List.set_cons_zero, List.set_cons_succ, List.getElem_toArray, List.getElem_cons_zero, List.getElem_cons_succ]
        refine wpAnyH_take (i := 19) (v := ?vt19) rfl (by kernel_rfl) (by kernel_rfl) (by kernel_rfl) (fun _ _ _ h => h) (Or.inl ⟨by rfl, ?yt19⟩) (by assumption) ?rt19
        case yt19 => (intro w hSw; (try dsimp only at hSw); go_simp; try with_reducible rfl)
        try simp only [Act.put, List.setIfInBounds_toArray, List.set_cons_zero, List.set_cons_succ, List.getElem_toArray, List.getElem_cons_zero, List.getElem_cons_succ]
        refine wpAnyH_take (i := 20) (v := ?vt20) rfl (by kernel_rfl) (by kernel_rfl) (by kernel_rfl) (fun _ _ _ h => h) (Or.inl ⟨by rfl, ?yt20⟩) (by assumption) ?rt20
        case yt20 => (intro w hSw; (try dsimp only at hSw); go_simp; try with_reducible rfl)
        try simp only [Act.put, List.setIfInBounds_toArray, List.set_cons_zero, List.set_cons_succ, List.getElem_toArray, List.getElem_cons_zero, List.getElem_cons_succ]
        refine wpAnyH_ready (rs := [21]) (by kernel_rfl) (by simp) ?_
        refine AllReadyH.cons rfl (fun K hK => ?_) AllReadyH.nil
        go_simp
        go_at_call 16
        refine (hqb _ (bstep HBE.out hb8)).mono ?_
        rintro e w9 ⟨rfl, hb9⟩
        have h9 := And.intro (keepF hb9 h8.1) (kc hb9 h8.2)
        go_wp2_with fail
        refine hK.out _ _ (h9) (fun hHeld => ?_)
        clear hK K
        try simp only [Act.put, List.setIfInBounds_toArray, List.set_cons_zero, List.set_cons_succ, List.getElem_toArray, List.getElem_cons_zero, List.getElem_cons_succ]
        refine wpAnyH_take (i := 22) (v := ?vt22) rfl (by kernel_rfl) (by kernel_rfl) (by kernel_rfl) (fun _ _ _ h => h) (Or.inl ⟨by rfl, ?yt22⟩) (by assumption) ?rt22
        case yt22 => (intro w hSw; (try dsimp only at hSw); go_simp; try with_reducible rfl)
        try simp only [Act.put, List.setIfInBounds_toArray, List.set_cons_zero, List.set_cons_succ, List.getElem_toArray, List.getElem_cons_zero, List.getElem_cons_succ]
        refine wpAnyH_take (i := 23) (v := ?vt23) rfl (by kernel_rfl) (by kernel_rfl) (by kernel_rfl) (fun _ _ _ h => h) (Or.inl ⟨by rfl, ?yt23⟩) (by assumption) ?rt23
        case yt23 => (intro w hSw; (try dsimp only at hSw); go_simp; try with_reducible rfl)
        try simp only [Act.put, List.setIfInBounds_toArray, List.set_cons_zero, List.set_cons_succ, List.getElem_toArray, List.getElem_cons_zero, List.getElem_cons_succ]
        refine wpAnyH_take (i := 24) (v := ?vt24) rfl (by kernel_rfl) (by kernel_rfl) (by kernel_rfl) (fun _ _ _ h => h) (Or.inl ⟨by rfl, ?yt24⟩) (by assumption) ?rt24
        case yt24 => (intro w hSw; (try dsimp only at hSw); go_simp; try with_reducible rfl)
        try simp only [Act.put, List.setIfInBounds_toArray, List.set_cons_zero, List.set_cons_succ, List.getElem_toArray, List.getElem_cons_zero, List.getElem_cons_succ]
        refine wpAnyH_take (i := 25) (v := ?vt25) rfl (by kernel_rfl) (by kernel_rfl) (by kernel_rfl) (fun _ _ _ h => h) (Or.inl ⟨by rfl, ?yt25⟩) (by assumption) ?rt25
        case yt25 => (intro w hSw; (try dsimp only at hSw); go_simp; try with_reducible rfl)
        try simp only [Act.put, List.setIfInBounds_toArray, List.set_cons_zero, List.set_cons_succ, List.getElem_toArray, List.getElem_cons_zero, List.getElem_cons_succ]
        refine wpAnyH_take (i := 26) (v := ?vt26) rfl (by kernel_rfl) (by kernel_rfl) (by kernel_rfl) (fun _ _ _ h => h) (Or.inl ⟨by rfl, ?yt26⟩) (by assumption) ?rt26
        case yt26 => (intro w hSw; (try dsimp only at hSw); go_simp; try with_reducible rfl)
        try simp only [Act.put, List.setIfInBounds_toArray, List.set_cons_zero, List.set_cons_succ, List.getElem_toArray, List.getElem_cons_zero, List.getElem_cons_succ]
        refine wpAnyH_take (i := 27) (v := ?vt27) rfl (by kernel_rfl) (by kernel_rfl) (by kernel_rfl) (fun _ _ _ h => h) (Or.inl ⟨by rfl, ?yt27⟩) (by assumption) ?rt27
        case yt27 => (intro w hSw; (try dsimp only at hSw); go_simp; try with_reducible rfl)
        try simp only [Act.put, List.setIfInBounds_toArray, List.set_cons_zero, List.set_cons_succ, List.getElem_toArray, List.getElem_cons_zero, List.getElem_cons_succ]
        refine wpAnyH_take (i := 28) (v := ?vt28) rfl (by kernel_rfl) (by kernel_rfl) (by kernel_rfl) (fun _ _ _ h => h) (Or.inl ⟨by rfl, ?yt28⟩) (by assumption) ?rt28
        case yt28 => (intro w hSw; (try dsimp only at hSw); go_simp; try with_reducible rfl)
        try simp only [Act.put, List.setIfInBounds_toArray, List.set_cons_zero, List.set_cons_succ, List.getElem_toArray, List.getElem_cons_zero, List.getElem_cons_succ]
        refine wpAnyH_take (i := 29) (v := ?vt29) rfl (by kernel_rfl) (by kernel_rfl) (by kernel_rfl) (fun _ _ _ h => h) (Or.inl ⟨by rfl, ?yt29⟩) (by assumption) ?rt29
        case yt29 => (intro w hSw; (try dsimp only at hSw); go_simp; try with_reducible rfl)
        try simp only [Act.put, List.setIfInBounds_toArray, List.set_cons_zero, List.set_cons_succ, List.getElem_toArray, List.getElem_cons_zero, List.getElem_cons_succ]
        refine wpAnyH_take (i := 30) (v := ?vt30) rfl (by kernel_rfl) (by kernel_rfl) (by kernel_rfl) (fun _ _ _ h => h) (Or.inl ⟨by rfl, ?yt30⟩) (by assumption) ?rt30
        case yt30 => (intro w hSw; (try dsimp only at hSw); go_simp; try with_reducible rfl)
        try simp only [Act.put, List.setIfInBounds_toArray, List.set_cons_zero, List.set_cons_succ, List.getElem_toArray, List.getElem_cons_zero, List.getElem_cons_succ]
        refine wpAnyH_take (i := 31) (v := ?vt31) rfl (by kernel_rfl) (by kernel_rfl) (by kernel_rfl) (fun _ _ _ h => h) (Or.inl ⟨by rfl, ?yt31⟩) (by assumption) ?rt31
        case yt31 => (intro w hSw; (try dsimp only at hSw); go_simp; try with_reducible rfl)
        try simp only [Act.put, List.setIfInBounds_toArray, List.set_cons_zero, List.set_cons_succ, List.getElem_toArray, List.getElem_cons_zero, List.getElem_cons_succ]
        refine wpAnyH_ready (rs := [32]) (by kernel_rfl) (by simp) ?_
        refine AllReadyH.cons rfl (fun K hK => ?_) AllReadyH.nil
        go_simp
        go_at_call 14
        refine (hmn _ (bstep (bstep HBE.out hb8) hb9)).mono ?_
        rintro e w10 ⟨v10, rfl, ho10, hb10⟩
        have h10 := And.intro (keepF hb10 h9.1) (kc hb10 h9.2); obtain ⟨na, nc, rfl⟩ := ho10.shape; clear ho10
        go_wp2_with fail
        refine hK.out _ _ (h10) (fun hHeld => ?_)
        clear hK K
        try simp only [Act.put, List.setIfInBounds_toArray, List.set_cons_zero, List.set_cons_succ, List.getElem_toArray, List.getElem_cons_zero, List.getElem_cons_succ]
        refine wpAnyH_take (i := 33) (v := ?vt33) rfl (by kernel_rfl) (by kernel_rfl) (by kernel_rfl) (fun _ _ _ h => h) (Or.inl ⟨by rfl, ?yt33⟩) (by assumption) ?rt33
        case yt33 => (intro w hSw; (try dsimp only at hSw); go_simp; try with_reducible rfl)
        try simp only [Act.put, List.setIfInBounds_toArray, List.set_cons_zero, List.set_cons_succ, List.getElem_toArray, List.getElem_cons_zero, List.getElem_cons_succ]
        refine wpAnyH_take (i := 34) (v := ?vt34) rfl (by kernel_rfl) (by kernel_rfl) (by kernel_rfl) (fun _ _ _ h => h) (Or.inl ⟨by rfl, ?yt34⟩) (by assumption) ?rt34
        case yt34 => (intro w hSw; (try dsimp only at hSw); go_simp; try with_reducible rfl)
        try simp only [Act.put, List.setIfInBounds_toArray, List.set_cons_zero, List.set_cons_succ, List.getElem_toArray, List.getElem_cons_zero, List.getElem_cons_succ]
        refine wpAnyH_take (i := 35) (v := ?vt35) rfl (by kernel_rfl) (by kernel_rfl) (by kernel_rfl) (fun _ _ _ h => h) (Or.inl ⟨by rfl, ?yt35⟩) (by assumption) ?rt35
        case yt35 => (intro w hSw; (try dsimp only at hSw); go_simp; try with_reducible rfl)
        try simp only [Act.put, List.setIfInBounds_toArray, List.set_cons_zero, List.set_cons_succ, List.getElem_toArray, List.getElem_cons_zero, List.getElem_cons_succ]
        refine wpAnyH_take (i := 36) (v := ?vt36) rfl (by kernel_rfl) (by kernel_rfl) (by kernel_rfl) (fun _ _ _ h => h) (Or.inl ⟨by rfl, ?yt36⟩) (by assumption) ?rt36
        case yt36 => (intro w hSw; (try dsimp only at hSw); go_simp; try with_reducible rfl)
        try simp only [Act.put, List.setIfInBounds_toArray, List.set_cons_zero, List.set_cons_succ, List.getElem_toArray, List.getElem_cons_zero, List.getElem_cons_succ]
        refine wpAnyH_take (i := 37) (v := ?vt37) rfl (by kernel_rfl) (by kernel_rfl) (by kernel_rfl) (fun _ _ _ h => h) (Or.inl ⟨by rfl, ?yt37⟩) (by assumption) ?rt37
        case yt37 => (intro w hSw; (try dsimp only at hSw); go_simp; try with_reducible rfl)
        try simp only [Act.put, List.setIfInBounds_toArray, List.set_cons_zero, List.set_cons_succ, List.getElem_toArray, List.getElem_cons_zero, List.getElem_cons_succ]
        refine wpAnyH_take (i := 38) (v := ?vt38) rfl (by kernel_rfl) (by kernel_rfl) (by kernel_rfl) (fun _ _ _ h => h) (Or.inl ⟨by rfl, ?yt38⟩) (by assumption) ?rt38
        case yt38 => (intro w hSw; (try dsimp only at hSw); go_simp; try with_reducible rfl)
        try simp only [Act.put, List.setIfInBounds_toArray, List.set_cons_zero, List.set_cons_succ, List.getElem_toArray, List.getElem_cons_zero, List.getElem_cons_succ]
        refine wpAnyH_take (i := 39) (v := ?vt39) rfl (by kernel_rfl) (by kernel_rfl) (by kernel_rfl) (fun _ _ _ h => h) (Or.inl ⟨by rfl, ?yt39⟩) (by assumption) ?rt39
        case yt39 => (intro w hSw; (try dsimp only at hSw); go_simp; try with_reducible rfl)
        try simp only [Act.put, List.setIfInBounds_toArray, List.set_cons_zero, List.set_cons_succ, List.getElem_toArray, List.getElem_cons_zero, List.getElem_cons_succ]
        refine wpAnyH_take (i := 40) (v := ?vt40) rfl (by kernel_rfl) (by kernel_rfl) (by kernel_rfl) (fun _ _ _ h => h) (Or.inl ⟨by rfl, ?yt40⟩) (by assumption) ?rt40
        case yt40 => (intro w hSw; (try dsimp only at hSw); go_simp; try with_reducible rfl)
        try simp only [Act.put, List.setIfInBounds_toArray, List.set_cons_zero, List.set_cons_succ, List.getElem_toArray, List.getElem_cons_zero, List.getElem_cons_succ]
        refine wpAnyH_take (i := 41) (v := ?vt41) rfl (by kernel_rfl) (by kernel_rfl) (by kernel_rfl) (fun _ _ _ h => h) (Or.inl ⟨by rfl, ?yt41⟩) (by assumption) ?rt41
        case yt41 => (intro w hSw; (try dsimp only at hSw); go_simp; try with_reducible rfl)
        try simp only [Act.put, List.setIfInBounds_toArray, List.set_cons_zero, List.set_cons_succ, List.getElem_toArray, List.getElem_cons_zero, List.getElem_cons_succ]
        refine wpAnyH_take (i := 42) (v := ?vt42) rfl (by kernel_rfl) (by kernel_rfl) (by kernel_rfl) (fun _ _ _ h => h) (Or.inl ⟨by rfl, ?yt42⟩) (by assumption) ?rt42
        case yt42 => (intro w hSw; (try dsimp only at hSw); go_simp; try with_reducible rfl)
        try simp only [Act.put, List.setIfInBounds_toArray, List.set_cons_zero, List.set_cons_succ, List.getElem_toArray, List.getElem_cons_zero, List.getElem_cons_succ]
        refine wpAnyH_take (i := 43) (v := ?vt43) rfl (by kernel_rfl) (by kernel_rfl) (by kernel_rfl) (fun _ _ _ h => h) (Or.inl ⟨by rfl, ?yt43⟩) (by assumption) ?rt43
        case yt43 => (intro w hSw; (try dsimp only at hSw); go_simp; try with_reducible rfl)
        try simp only [Act.put, List.setIfInBounds_toArray, List.set_cons_zero, List.set_cons_succ, List.getElem_toArray, List.getElem_cons_zero, List.getElem_cons_succ]
        refine wpAnyH_take (i := 44) (v := ?vt44) rfl (by kernel_rfl) (by kernel_rfl) (by kernel_rfl) (fun _ _ _ h => h) (Or.inl ⟨by rfl, ?yt44⟩) (by assumption) ?rt44
        case yt44 => (intro w hSw; (try dsimp only at hSw); go_simp; try with_reducible rfl)
        try simp only [Act.put, List.setIfInBounds_toArray, List.set_cons_zero, List.set_cons_succ, List.getElem_toArray, List.getElem_cons_zero, List.getElem_cons_succ]
        refine wpAnyH_take (i := 45) (v := ?vt45) rfl (by kernel_rfl) (by kernel_rfl) (by kernel_rfl) (fun _ _ _ h => h) (Or.inl ⟨by rfl, ?yt45⟩) (by assumption) ?rt45
        case yt45 => (intro w hSw; (try dsimp only at hSw); go_simp; try with_reducible rfl)
        try simp only [Act.put, List.setIfInBounds_toArray, List.set_cons_zero, List.set_cons_succ, List.getElem_toArray, List.getElem_cons_zero, List.getElem_cons_succ]
        refine wpAnyH_take (i := 46) (v := ?vt46) rfl (by kernel_rfl) (by kernel_rfl) (by kernel_rfl) (fun _ _ _ h => h) (Or.inl ⟨by rfl, ?yt46⟩) (by assumption) ?rt46
        case yt46 => (intro w hSw; (try dsimp only at hSw); go_simp; try with_reducible rfl)
        try simp only [Act.put, List.setIfInBounds_toArray, List.set_cons_zero, List.set_cons_succ, List.getElem_toArray, List.getElem_cons_zero, List.getElem_cons_succ]
        refine wpAnyH_ready (rs := [47]) (by kernel_rfl) (by simp) ?_
        refine AllReadyH.cons rfl (fun K hK => ?_) AllReadyH.nil
        go_simp
        go_at_call 16
        refine (hqs _ (bstep (bstep (bstep HBE.out hb8) hb9) hb10)).mono ?_
        rintro e w11 ⟨rfl, hb11⟩
        have h11 := And.intro (keepF hb11 h10.1) (kc hb11 h10.2)
        go_wp2_with fail
        refine hK.out _ _ (h11) (fun hHeld => ?_)
        clear hK K
        try simp only [Act.put, List.setIfInBounds_toArray, List.set_cons_zero, List.set_cons_succ, List.getElem_toArray, List.getElem_cons_zero, List.getElem_cons_succ]
        refine wpAnyH_take (i := 48) (v := ?vt48) rfl (by kernel_rfl) (by kernel_rfl) (by kernel_rfl) (fun _ _ _ h => h) (Or.inl ⟨by rfl, ?yt48⟩) (by assumption) ?rt48
        case yt48 => (intro w hSw; (try dsimp only at hSw); go_simp; try with_reducible rfl)
        try simp only [Act.put, List.setIfInBounds_toArray, List.set_cons_zero, List.set_cons_succ, List.getElem_toArray, List.getElem_cons_zero, List.getElem_cons_succ]
        refine wpAnyH_take (i := 49) (v := ?vt49) rfl (by kernel_rfl) (by kernel_rfl) (by kernel_rfl) (fun _ _ _ h => h) (Or.inl ⟨by rfl, ?yt49⟩) (by assumption) ?rt49
        case yt49 => (intro w hSw; (try dsimp only at hSw); go_simp; try with_reducible rfl)
        try simp only [Act.put, List.setIfInBounds_toArray, List.set_cons_zero, List.set_cons_succ, List.getElem_toArray, List.getElem_cons_zero, List.getElem_cons_succ]
        refine wpAnyH_done (by kernel_rfl) ?_ _
        have HB11 := Lib.hid (bstep (bstep (bstep (bstep HBE.out hb8) hb9) hb10) hb11)
        clear hHeld h0 h8 h9 h10 h11 hb8 hb9 hb10 hb11 hqc hqb hqs hmn
        go_wp2
        go_roundw
        case rel => exact ⟨j + 1, by omega, by go_num, bstep HBEL.out HB11.out⟩
        case measure => simp [intOf]; omega
    · obtain rfl : j = xs.length := by omega
      go_wp2
      go_ret
      exact ⟨rfl, by rw [HBQE.out]; exact HBQ.out.trans ((bstep HB06.out hbel).mono (Nat.le_of_lt hlq0))⟩
end Go.Proofs.Ytfmedinhlmiaeaa
