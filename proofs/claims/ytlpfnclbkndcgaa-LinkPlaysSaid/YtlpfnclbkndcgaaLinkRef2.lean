/- The document's own sender and receiver: what their other methods do. -/
import Derived.Test.YtlpfnclbkndcgaaLinkRef
namespace Go.Proofs.Ytlpfnclbkndcgaa
open Go.RowKit
set_option linter.unusedVariables false
set_option linter.unusedSimpArgs false

set_option maxRecDepth 100000 in
set_option maxHeartbeats 1600000 in
theorem refSend_full (c B : Nat) (v : Value) (all : List ByteArray) (ans : Nat) (d : ByteArray) (w : World) (h : RfAt w c B v all ans) (hl : all.length ≤ 100000) (ha : ans ≤ all.length) (h8 : ans + 8 ≤ all.length) :
    Calls Try.prog 18 #[.pointer (some ⟨c, 0, none⟩), .string d] w fun e w' => e = .returned (.tuple #[.agg #[.int .i64 0, .string ⟨#[]⟩], .int .i64 15]) ∧ Below w.heap.size w w' := by
  obtain ⟨a, cap, rfl⟩ := h.row.shape
  have hb := balloc (Below.refl _ w) (.cells #[.int .i64 0, .string ⟨#[]⟩] 39)
  have hp := h.keep hb
  have hc0 := hp.c0
  have hc1 := hp.c1
  have HR := Lib.hid (PkV.new w 0 ⟨#[]⟩ 39)
  have HB := Lib.hid hb
  have q8 : decide ((8 : Int) ≤ (all.length : Int) - (ans : Int)) = true := by simp; omega
  clear h hb hp
  go_enter Try.func18, Try.ntmps18
  go_upto_region 1 with fail
  generalize w.alloc (.cells #[.int .i64 0, .string ⟨#[]⟩] 39) = w1 at *
  go_quiet (fail)
  have hbd := bdrew10 w1 nq
  have HB2 := Lib.hid (bstep HB.out hbd)
  have HR2 := Lib.hid (HR.out.keep hbd)
  clear hbd HB HR q8 hc0 hc1
  generalize w1.drewN nq = w2 at *
  obtain ⟨r0, r1, rf0, rf1⟩ := HR2.out
  have hrr := HR2.out.put 0 ⟨#[]⟩
  have z0 := hrr.c0
  have z1 := hrr.c1
  have HBE := Lib.hid (below_put HB2.out (Nat.le_refl w.heap.size) (.int .i64 0) (.string ⟨#[]⟩))
  clear HR2 hrr HB2
  go_wp2_with fail
  refine bodyPost_ret (v := .tuple #[.agg #[.int .i64 0, .string ⟨#[]⟩], .int .i64 15]) (by simp [results, Try.results18, go_sem, z0, z1]) rfl ⟨rfl, HBE.out⟩

theorem RfAt.setA {w : World} {c B : Nat} {v : Value} {all : List ByteArray} {ans : Nat} (h : RfAt w c B v all ans) (m : Nat) (x : Int) (e : x = (m : Int)) : RfAt (w.setCell ⟨c, 1, none⟩ (.int .i64 x)) c B v all m := by
  subst e
  refine ⟨h.row.block (fun g hg => Below.heap_setCell _ _ _ _ (fun e => h.ne (by rw [hg]; exact congrArg some e))), ?_, World.cell?_setCell_same _ _ _ h.c1, by simpa using h.f0, by simpa using h.f1, h.ne⟩
  rw [World.cell?_setCell_other _ _ _ _ (by simp)]
  exact h.c0

set_option maxRecDepth 100000 in
set_option maxHeartbeats 1600000 in
theorem refAnswer_at (c B : Nat) (v : Value) (all : List ByteArray) (ans : Nat) (seq : Int) (w : World) (h : RfAt w c B v all ans) (hl : all.length ≤ 100000) (ha : ans ≤ all.length) (hs1 : -9223372036854775808 ≤ seq) :
    Calls Try.prog 14 #[.pointer (some ⟨c, 0, none⟩), .int .i64 seq] w fun e w' => e = .returned (.int .i64 (Lk.ak ans (all.length - ans) seq : Int)) ∧ RfAt w' c B v all (ans + Lk.ak ans (all.length - ans) seq) ∧ Mv (fun j => j = c) w w' := by
  obtain ⟨a, cap, rfl⟩ := h.row.shape
  have hc0 := h.c0
  have hc1 := h.c1
  have hf1 := h.f1
  have HP := Lib.hid h
  clear h
  by_cases h1 : (all.length : Int) < seq
  · have hk : Lk.ak ans (all.length - ans) seq = 0 := Lk.ak_no (by omega)
    have q1 : decide ((all.length : Int) < seq) = true := by simpa using h1
    rw [hk]
    clear h1 hk
    go_enter Try.func14, Try.ntmps14
    go_wp2
    go_ret
    exact ⟨rfl, HP.out, Mv.refl _ _⟩
  · have q1 : decide ((all.length : Int) < seq) = false := by simpa using h1
    by_cases h2 : seq ≤ (ans : Int)
    · have hk : Lk.ak ans (all.length - ans) seq = 0 := Lk.ak_old h2
      have q2 : decide (seq ≤ (ans : Int)) = true := by simpa using h2
      rw [hk]
      clear h1 h2 hk
      go_enter Try.func14, Try.ntmps14
      go_wp2
      go_ret
      exact ⟨rfl, HP.out, Mv.refl _ _⟩
    · have q2 : decide (seq ≤ (ans : Int)) = false := by simpa using h2
      have hk : ((Lk.ak ans (all.length - ans) seq : Nat) : Int) = seq - (ans : Int) := Lk.ak_yes (by omega) (by omega)
      have HK := Lib.hid hk
      obtain ⟨s, rfl⟩ : ∃ s : Nat, seq = (s : Int) := ⟨seq.toNat, by omega⟩
      have hs1 : s ≤ all.length := by omega
      have hs2 : ans < s := by omega
      generalize Lk.ak ans (all.length - ans) (s : Int) = K at *
      clear h1 h2 hk
      go_enter Try.func14, Try.ntmps14
      go_wp2
      go_ret
      exact ⟨ret_int (by rw [HK.out]), HP.out.setA _ _ (by have := HK.out; omega), (Mv.refl (fun j => j = c) w).set (o := 1) rfl _⟩

set_option maxRecDepth 100000 in
set_option maxHeartbeats 1600000 in
theorem refOpen_at (c B : Nat) (v : Value) (all : List ByteArray) (ans : Nat) (w : World) (h : RfAt w c B v all ans) (hl : all.length ≤ 100000) (ha : ans ≤ all.length) :
    Calls Try.prog 21 #[.pointer (some ⟨c, 0, none⟩)] w fun e w' => ∃ a n cap, e = .returned (.slice a n cap) ∧ n = (all.drop ans).length ∧ RowIn KPk w' a (Lk.pk ans (all.drop ans)) ∧ Below w.heap.size w w' := by
  obtain ⟨a, cap, rfl⟩ := h.row.shape
  have HP := Lib.hid h
  have HRI : Hid (RowIn KS w a all) := Lib.hid (RowIn.of_own ks_ok h.row)
  have hc1 := h.c1
  clear h
  go_enter Try.func21, Try.ntmps21
  go_wp2
  go_loopw [3, 4] (fun p i wr => ∃ k : Nat, ans ≤ k ∧ k ≤ all.length ∧ i = .int .i64 k ∧ OwnR KPk wr w.heap.size p (Lk.pk ans ((all.take k).drop ans)) ∧ Below w.heap.size w wr) (fun _ i _ => all.length - (intOf i).toNat)
  case atStart => exact ⟨ans, Nat.le_refl _, ha, rfl, by rw [List.drop_take_self]; exact OwnR.nil _ _ _, Below.refl _ _⟩
  case round =>
    obtain ⟨k, hk1, hk, rfl, ho, hbel⟩ := hrel
    have hol : (Lk.pk ans ((all.take k).drop ans)).length ≤ 100000 := by rw [Lk.pk_len]; simp; omega
    have HO := Lib.hid ho
    obtain ⟨sa, sc, rfl⟩ := ho.shape
    have hbs := hbel.size
    have hc0 := kc hbel HP.out.c0
    clear ho
    by_cases hlt : k < all.length
    · obtain ⟨b, off, rfl, hbl, x0⟩ := (HRI.out.below hbel).str k hlt
      have HT : Hid (Lk.pk ans ((all.take (k + 1)).drop ans) = Lk.pk ans ((all.take k).drop ans) ++ [((k : Int), all[k])]) := Lib.hid (by
        rw [List.take_succ_eq_append_getElem hlt, List.drop_append_of_le_length (by simp; omega), Lk.pk_snoc]
        congr 3
        simp
        omega)
      generalize all[k] = x at x0 HT
      generalize Lk.pk ans ((all.take k).drop ans) = acc at hol HO HT
      have hki : (k : Int) < (all.length : Int) := by omega
      go_wp2_with (at_builtin; refine wp_pushR kpk_ok (wr := wr) rfl _ _ rfl w.heap.size (.slice sa acc.length sc) acc ((k : Int), x) #[.int .i64 (k : Int), .string x] rfl rfl HO.out rfl (by omega) hbs ?_; intro g2 cap2 w2 ho2 hb2 hk2 hat2 hlt2)
      go_roundw
      case rel => exact ⟨k + 1, by omega, by omega, by go_num, by rw [HT.out]; simpa using ho2, hbel.trans hb2⟩
      case measure => simp [intOf]; omega
    · obtain rfl : k = all.length := by omega
      have HBL := Lib.hid hbel
      have HA : Hid ((all.take all.length).drop ans = all.drop ans) := Lib.hid (by rw [List.take_length])
      rw [HA.out] at HO hol
      clear hbel
      have HLN : Hid ((Lk.pk ans (all.drop ans)).length = (all.drop ans).length) := Lib.hid (Lk.pk_len _ _)
      go_wp2
      go_ret
      exact ⟨_, _, _, rfl, by rw [← HLN.out, ← HA.out], RowIn.of_own kpk_ok HO.out, HBL.out⟩

set_option maxRecDepth 100000 in
set_option maxHeartbeats 1000000 in
theorem refTake_at (b k : Nat) (n : Int) (d : ByteArray) (w : World) (h : RcAt w b k) (hk : k ≤ 1000000) :
    Calls Try.prog 16 #[.pointer (some ⟨b, 0, none⟩), .agg #[.int .i64 n, .string d]] w (TookAt w b k n d) := by
  have hlt := h.lt
  have hba := balloc (Below.refl _ w) (.cells #[.int .i64 n, .string d] 39)
  have H2 := Lib.hid (h.keep hba)
  have hp := PkV.new w n d 39
  obtain ⟨p0, p1, _, _⟩ := hp
  have hc2 := H2.out.c
  have HM := Lib.hid (Mv.of_below (P := fun j => j = b) hba)
  unfold TookAt
  clear h hba
  by_cases e : n = (k : Int)
  · subst e
    have e1 : Lk.tk k (k : Int) d = (d, true) := by unfold Lk.tk; rw [if_pos rfl]
    have e2 : Lk.tn k (k : Int) = k + 1 := by unfold Lk.tn; rw [if_pos rfl]
    rw [e1, e2]
    clear e1 e2
    go_enter Try.func16, Try.ntmps16
    go_upto_region 1 with fail
    generalize w.alloc (.cells #[.int .i64 (k : Int), .string d] 39) = w1 at *
    go_quiet (fail)
    have hbd := bdrew10 w1 nq
    have H3 := Lib.hid (H2.out.keep hbd)
    have HM3 := Lib.hid (HM.out.step hbd)
    have hc3 := H3.out.c
    have hf3 := H3.out.f
    have p13 := kc hbd p1
    clear hbd hc2 p0 p1 H2 HM
    generalize w1.drewN nq = w2 at *
    have p1' : (w2.setCell ⟨b, 0, none⟩ (.int .i64 ((k : Int) + 1))).cell? ⟨w.heap.size, 1, none⟩ = some (.string d) := by
      rw [World.cell?_setCell_other _ _ _ _ (by simp <;> omega)]
      exact p13
    go_wp2
    go_ret2
    exact ⟨rfl, H3.out.set (k + 1) _ (by omega), HM3.out.set rfl _⟩
  · have e1 : Lk.tk k n d = (⟨#[]⟩, false) := by unfold Lk.tk; rw [if_neg e]
    have e2 : Lk.tn k n = k := by unfold Lk.tn; rw [if_neg e]
    rw [e1, e2]
    clear e1 e2
    go_enter Try.func16, Try.ntmps16
    go_upto_region 1 with fail
    generalize w.alloc (.cells #[.int .i64 n, .string d] 39) = w1 at *
    go_quiet (fail)
    have hbd := bdrew10 w1 nq
    have H3 := Lib.hid (H2.out.keep hbd)
    have HM3 := Lib.hid (HM.out.step hbd)
    clear hbd hc2 p0 p1 H2 HM
    generalize w1.drewN nq = w2 at *
    go_wp2
    go_ret2
    exact ⟨rfl, H3.out, HM3.out⟩
end Go.Proofs.Ytlpfnclbkndcgaa
