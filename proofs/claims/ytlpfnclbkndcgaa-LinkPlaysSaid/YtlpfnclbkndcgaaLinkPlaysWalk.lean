/- The walk of the law LinkPlays. -/
import Derived.Test.YtlpfnclbkndcgaaLinkPlaysMath
import Derived.Deep.DeepCutAuto
import Derived.Deep.CutRange
import Derived.Deep.CutBlock
import Derived.Deep.QuietTactic
import Derived.BigQuiet
namespace Go.Proofs.Ytlpfnclbkndcgaa
open Go.RowKit
set_option linter.unusedVariables false
set_option linter.unusedSimpArgs false

set_option maxRecDepth 100000 in
set_option maxHeartbeats 6400000 in
theorem walkLinkPlays (w : World) (sa : Option Addr) (sc : Nat) (S : List (Int × Int × Bool × ByteArray)) (hS : S.length ≤ 9223372036854775807) (hSb : ∀ o ∈ S, (-9223372036854775808 ≤ o.1 ∧ o.1 ≤ 9223372036854775807) ∧ (-9223372036854775808 ≤ o.2.1 ∧ o.2.1 ≤ 9223372036854775807)) (hSr : RowIn KOp w sa S) :
    Calls Try.prog 3 #[.slice sa S.length sc] w fun e w' => e = .returned (.bool true) ∧ Below w.heap.size w w' := by
  have HSR := Lib.hid hSr
  have HSB := Lib.hid hSb
  clear hSr hSb
  go_enter Try.func3, Try.ntmps3
  go_wp2_with fail
  refine (awake10_any w).mono ?_
  rintro e w2 ⟨rfl, hb2⟩
  go_wp2_with fail
  refine (newSender_any w2).mono ?_
  rintro e w3 ⟨rfl, hs3, hb3⟩
  go_wp2_with fail
  refine (newReceiver_any w3).mono ?_
  rintro e w4 ⟨rfl, hr4, hb4⟩
  have hf5 := RfAt.new w4 w.heap.size 31
  have hb5 := balloc (Below.refl _ w4) (.cells #[.slice none 0 0, .int .i64 0] 31)
  go_upto_region 7 with fail
  generalize w4.alloc (.cells #[.slice none 0 0, .int .i64 0] 31) = w5 at *
  have hu6 := RcAt.new w5 34
  have hb6 := balloc (Below.refl _ w5) (.cells #[.int .i64 0] 34)
  have HQ := Lib.hid (Q4.new hb2 hs3 hb3 hr4 hb4 hf5 hb5 hu6 hb6)
  clear hb2 hs3 hb3 hr4 hb4 hf5 hb5 hu6 hb6
  go_upto_region 8 with fail
  generalize w5.alloc (.cells #[.int .i64 0] 34) = w6 at *
  generalize w2.heap.size = B at *
  generalize w3.heap.size = R at *
  generalize w4.heap.size = C at *
  generalize w5.heap.size = D at *
  go_wp2_with fail
  go_loopw [8] (fun i wr => ∃ (j : Nat) (v : Value) (all : List ByteArray) (a k : Nat), j ≤ S.length ∧ j ≤ 60 ∧ i = .int .i64 j ∧ all.length ≤ j ∧ a ≤ all.length ∧ k ≤ j ∧ Hid (Pl w wr B R C D v all a k)) (fun i _ => S.length - (intOf i).toNat)
  case atStart => exact ⟨0, _, [], 0, 0, by omega, by omega, rfl, by simp, by simp, by omega, HQ⟩
  case round =>
    clear HQ
    obtain ⟨j, v, all, a, k, hj, hj60, rfl, hal, haa, hkj, HQ⟩ := hrel
    by_cases hgo : j < S.length ∧ j < 60
    · obtain ⟨h1, h2⟩ := hgo
      have h1i : (j : Int) < (S.length : Int) := by omega
      have h2i : (j : Int) < 60 := by omega
      obtain ⟨b, off, rfl, hbl, x0, x1, x2, x3⟩ := (HSR.out.below HQ.out.bl).op j h1
      have hbd := HSB.out S[j] (List.getElem_mem h1)
      generalize S[j] = o at *
      obtain ⟨kd, nn, nr, tx⟩ := o
      simp only at x0 x1 x2 x3 hbd
      obtain ⟨hkd, hnn⟩ := hbd
      have hand := and7T kd
      obtain ⟨c, hc⟩ : ∃ c : Nat, kd % 8 = (c : Int) := ⟨(kd % 8).toNat, by omega⟩
      have hc8 : c < 8 := by omega
      rw [hc] at hand
      have HQ2 := Lib.hid (HQ.out.keep (balloc (Below.refl _ wr) (.cells #[.int .i64 kd, .int .i64 nn, .bool nr, .string tx] 36)))
      have HO : Hid (wr.heap.size < (wr.alloc (.cells #[.int .i64 kd, .int .i64 nn, .bool nr, .string tx] 36)).heap.size) := Lib.hid (by simp)
      go_upto_region 12 with fail
      have y0 : (wr.alloc (.cells #[.int .i64 kd, .int .i64 nn, .bool nr, .string tx] 36)).cell? ⟨wr.heap.size, 0, none⟩ = some (.int .i64 kd) := by simp
      have y1 : (wr.alloc (.cells #[.int .i64 kd, .int .i64 nn, .bool nr, .string tx] 36)).cell? ⟨wr.heap.size, 1, none⟩ = some (.int .i64 nn) := by simp
      have y2 : (wr.alloc (.cells #[.int .i64 kd, .int .i64 nn, .bool nr, .string tx] 36)).cell? ⟨wr.heap.size, 2, none⟩ = some (.bool nr) := by simp
      have y3 : (wr.alloc (.cells #[.int .i64 kd, .int .i64 nn, .bool nr, .string tx] 36)).cell? ⟨wr.heap.size, 3, none⟩ = some (.string tx) := by simp
      generalize wr.alloc (.cells #[.int .i64 kd, .int .i64 nn, .bool nr, .string tx] 36) = w7 at *
      have HON := Lib.hid HQ.out.fresh
      clear HQ hbl x0 x1 x2 x3 hc hkd
      generalize wr.heap.size = O at *
      go_upto_block 2 with fail
      go_cut [10] (fun s10 wx => s10 = .bool true ∧ ∃ (v' : Value) (all' : List ByteArray) (a' k' : Nat), all'.length ≤ j + 1 ∧ a' ≤ all'.length ∧ k' ≤ j + 1 ∧ Hid (Pl w wx B R C D v' all' a' k'))
      case first =>
        by_cases h3 : c = 3
        · subst h3
          have hsh := HQ2.out.rf.row.shape
          obtain ⟨va, vc, rfl⟩ := hsh
          have hc0 := HQ2.out.rf.c0
          have HF : Hid (∀ (x : Int) (K : Nat), K = Lk.ak a (all.length - a) x → a + K ≤ all.length) := Lib.hid (fun x K e => by have := Lk.ak_le a (all.length - a) x; omega)
          cases nr with
          | false =>
            as_aux_lemma =>
              have hcall := Pl.answers HQ2.out nn
              obtain ⟨K, hK⟩ : ∃ K, K = Lk.ak a (all.length - a) nn := ⟨_, rfl⟩
              have HKK := Lib.hid (HF.out nn K hK)
              have HREF := Lib.hid (fun (W : World) (h : Q4 w W B R C D (.slice va all.length vc) (a + Lk.ak a (all.length - a) nn) (all.drop (a + Lk.ak a (all.length - a) nn)) k all a k) => h.refAnswers nn (by omega) haa hnn.1)
              rw [← hK] at hcall HREF
              clear hK HF
              go_wp2_with fail
              refine hcall.mono ?_
              rintro e w8 ⟨rfl, hq8⟩
              have hcall := HREF.out w8 hq8
              clear hq8 HREF
              go_wp2_with fail
              refine hcall.mono ?_
              rintro e w9 ⟨rfl, hq9⟩
              have HQ9 := Lib.hid hq9
              clear hcall hq9 hc0 y0 y1 y2 y3
              go_wp2
              go_meet
              exact ⟨by first | rfl | simp, _, all, a + K, k, by omega, HKK.out, by omega, HQ9⟩
          | true =>
            as_aux_lemma =>
              obtain ⟨z1, z2⟩ := tmod_bdT nn 70 (by decide)
              generalize hz : nn.tmod 70 = z at z1 z2
              go_upto_region 20 with fail
              go_quiet (fail)
              have hbd := bdrew10 w7 nq
              have HQ3 := Lib.hid (HQ2.out.keep hbd)
              clear hbd hc0 y0 y1 y2 y3 HQ2 HO
              generalize w7.drewN nq = w8 at *
              obtain ⟨x, hx⟩ : ∃ x, z + (all.length : Int) - 5 = x := ⟨_, rfl⟩
              have hx1 : -9223372036854775808 ≤ x := by omega
              rw [hx]
              clear hx hz z1 z2
              have hcall := Pl.answers HQ3.out x
              obtain ⟨K, hK⟩ : ∃ K, K = Lk.ak a (all.length - a) x := ⟨_, rfl⟩
              have HKK := Lib.hid (HF.out x K hK)
              have HREF := Lib.hid (fun (W : World) (h : Q4 w W B R C D (.slice va all.length vc) (a + Lk.ak a (all.length - a) x) (all.drop (a + Lk.ak a (all.length - a) x)) k all a k) => h.refAnswers x (by omega) haa hx1)
              rw [← hK] at hcall HREF
              clear hK HF hx1
              go_wp2_with fail
              refine hcall.mono ?_
              rintro e wA ⟨rfl, hqA⟩
              have hcall := HREF.out wA hqA
              clear hqA HREF
              go_wp2_with fail
              refine hcall.mono ?_
              rintro e w9 ⟨rfl, hq9⟩
              have HQ9 := Lib.hid hq9
              clear hcall hq9
              go_wp2
              go_meet
              exact ⟨by first | rfl | simp, _, all, a + K, k, by omega, HKK.out, by omega, HQ9⟩
        · have d3 : decide ((c : Int) = 3) = false := by simp; omega
          have e3 : ((c : Int) == 3) = false := by simp; omega
          by_cases h456 : c = 4 ∨ c = 5 ∨ c = 6
          · clear d3 e3 h3
            have hsh := HQ2.out.rf.row.shape
            obtain ⟨va, vc, rfl⟩ := hsh
            have hba := balloc (Below.refl _ w7) (.cells #[.int .i64 nn, .string tx] 39)
            have z1 := kc hba y1
            have z2 := kc hba y2
            have HPN := Lib.hid HQ2.out.fresh
            have HQ3 := Lib.hid (HQ2.out.keep hba)
            have HP := Lib.hid (PkV.new w7 nn tx 39)
            have hc0 := HQ3.out.rf.c0
            clear hba HQ2
            go_upto_if 98 with (fail)
            go_cut [98] (fun s wx => s = .bool true ∧ wx = w7)
            case first =>
              rcases h456 with rfl | rfl | rfl
              all_goals
                go_wp2
                go_meet
                exact ⟨by first | rfl | simp, rfl⟩
            case rest =>
              obtain ⟨rfl, rfl⟩ := hcut
              clear h456
              go_upto_region 26 with fail
              generalize wc.alloc (.cells #[.int .i64 nn, .string tx] 39) = w8 at *
              generalize wc.heap.size = P at *
              clear y0 y1 y2 y3
              by_cases hgo : nr = true ∧ 0 < all.length
              · as_aux_lemma =>
                  obtain ⟨rfl, hal0⟩ := hgo
                  have hal0i : (0 : Int) < (all.length : Int) := by omega
                  obtain ⟨u1, u2⟩ := tmod_bdT nn (all.length : Int) (by omega)
                  generalize hy : nn.tmod (all.length : Int) = y at u1 u2
                  have ho1 := Int.emod_nonneg (y + (all.length : Int)) (b := (all.length : Int)) (by omega)
                  have ho2 := Int.emod_lt_of_pos (y + (all.length : Int)) (b := (all.length : Int)) (by omega)
                  have hot : (y + (all.length : Int)).tmod (all.length : Int) = (y + (all.length : Int)) % (all.length : Int) := Int.tmod_eq_emod_of_nonneg (by omega)
                  generalize hoe : (y + (all.length : Int)) % (all.length : Int) = o at *
                  obtain ⟨q, rfl⟩ : ∃ q : Nat, o = (q : Int) := ⟨o.toNat, by omega⟩
                  have hq : q < all.length := by omega
                  clear ho1 ho2
                  go_upto_region 27 with fail
                  go_quiet (fail)
                  have hbd := bdrew10 w8 nq
                  have HQ4 := Lib.hid (HQ3.out.keep hbd)
                  have HP4 := Lib.hid (HP.out.keep hbd)
                  clear hbd HQ3 HP z1 z2 hc0 hy hot hoe u1 u2
                  generalize w8.drewN nq = w9 at *
                  have hc0 := HQ4.out.rf.c0
                  obtain ⟨tb, tf, rfl, t0⟩ := HQ4.out.text hq
                  generalize all[q] = tq at t0
                  obtain ⟨p0, p1, pf0, pf1⟩ := HP4.out
                  have HP5 := Lib.hid (HP4.out.put (q : Int) tq)
                  have HQ5 := Lib.hid (HQ4.out.other (((Mv.refl (fun j => j = P) w9).set (o := 0) rfl (.int .i64 (q : Int))).set (o := 1) rfl (.string tq)) HPN.out)
                  clear HP4 HQ4
                  go_upto_region 29 with fail
                  generalize (w9.setCell ⟨P, 0, none⟩ (.int .i64 (q : Int))).setCell ⟨P, 1, none⟩ (.string tq) = wq at *
                  clear p0 p1 pf0 pf1 t0 hc0
                  obtain ⟨p0, p1, _, _⟩ := HP5.out
                  have hcall := HQ5.out.takes (q : Int) tq (by omega)
                  clear HQ5
                  go_wp2_with fail
                  refine hcall.mono ?_
                  rintro e wA ⟨rfl, hqA, hmA⟩
                  have HPA := Lib.hid (HP5.out.mv hmA HPN.out.2.1.symm)
                  have hcall := hqA.refTakes (q : Int) tq (by omega)
                  clear hmA hqA HP5
                  obtain ⟨p0, p1, _, _⟩ := HPA.out
                  have HTN := Lib.hid (Lk.tn_le k (q : Int))
                  generalize Lk.tn k (q : Int) = kn at *
                  generalize Lk.tk k (q : Int) tq = r at *
                  obtain ⟨r1, r2⟩ := r
                  go_wp2_with fail
                  refine hcall.mono ?_
                  rintro e wB ⟨rfl, hqB⟩
                  have HQB := Lib.hid hqB
                  clear hcall hqB p0 p1 HPA
                  go_wp2
                  go_meet
                  exact ⟨by first | rfl | simp, _, all, a, kn, by omega, haa, by have := HTN.out; omega, HQB⟩
              · rcases (show nr = false ∨ (nr = true ∧ all.length = 0) by cases nr <;> simp at hgo ⊢; exact hgo) with rfl | ⟨rfl, hal0⟩
                · as_aux_lemma =>
                    obtain ⟨p0, p1, _, _⟩ := HP.out
                    have hcall := HQ3.out.takes nn tx (by omega)
                    clear hgo HQ3 z1 hc0
                    go_wp2_with fail
                    refine hcall.mono ?_
                    rintro e wA ⟨rfl, hqA, hmA⟩
                    have HPA := Lib.hid (HP.out.mv hmA HPN.out.2.1.symm)
                    have hcall := hqA.refTakes nn tx (by omega)
                    clear hmA hqA HP
                    obtain ⟨p0, p1, _, _⟩ := HPA.out
                    have HTN := Lib.hid (Lk.tn_le k nn)
                    generalize Lk.tn k nn = kn at *
                    generalize Lk.tk k nn tx = r at *
                    obtain ⟨r1, r2⟩ := r
                    go_wp2_with fail
                    refine hcall.mono ?_
                    rintro e wB ⟨rfl, hqB⟩
                    have HQB := Lib.hid hqB
                    clear hcall hqB p0 p1 HPA
                    go_wp2
                    go_meet
                    exact ⟨by first | rfl | simp, _, all, a, kn, by omega, haa, by have := HTN.out; omega, HQB⟩
                · as_aux_lemma =>
                    obtain ⟨p0, p1, _, _⟩ := HP.out
                    have hcall := HQ3.out.takes nn tx (by omega)
                    rw [hal0] at hc0
                    clear hgo HQ3 z1
                    go_wp2_with fail
                    refine hcall.mono ?_
                    rintro e wA ⟨rfl, hqA, hmA⟩
                    have HPA := Lib.hid (HP.out.mv hmA HPN.out.2.1.symm)
                    have hcall := hqA.refTakes nn tx (by omega)
                    clear hmA hqA HP
                    obtain ⟨p0, p1, _, _⟩ := HPA.out
                    have HTN := Lib.hid (Lk.tn_le k nn)
                    generalize Lk.tn k nn = kn at *
                    generalize Lk.tk k nn tx = r at *
                    obtain ⟨r1, r2⟩ := r
                    go_wp2_with fail
                    refine hcall.mono ?_
                    rintro e wB ⟨rfl, hqB⟩
                    have HQB := Lib.hid hqB
                    clear hcall hqB p0 p1 HPA
                    go_wp2
                    go_meet
                    exact ⟨by first | rfl | simp, _, all, a, kn, by omega, haa, by have := HTN.out; omega, HQB⟩
          · have d4 : decide ((c : Int) = 4) = false := by simp; omega
            have e4 : ((c : Int) == 4) = false := by simp; omega
            have d5 : decide ((c : Int) = 5) = false := by simp; omega
            have e5 : ((c : Int) == 5) = false := by simp; omega
            have d6 : decide ((c : Int) = 6) = false := by simp; omega
            have e6 : ((c : Int) == 6) = false := by simp; omega
            clear h456 h3
            by_cases h8 : all.length < a + 8
            · as_aux_lemma =>
                have hcall := Pl.sends HQ2.out tx (by omega) haa h8
                have H8 := Lib.hid h8
                clear h8
                go_wp2_with fail
                refine hcall.mono ?_
                rintro e wA ⟨rfl, hqA, hmA⟩
                have hba := balloc (Below.refl _ wA) (.cells #[.int .i64 (all.length : Int), .string tx] 39)
                have HQB := Lib.hid (hqA.keep hba)
                have HA := Lib.hid (PkV.new wA (all.length : Int) tx 39)
                have HAN := Lib.hid hqA.fresh
                have t3 := kc hba (hmA.cell HON.out.1.symm y3)
                clear hcall hqA hmA hba y0 y1 y2 y3 HQ2
                go_upto_region 15 with fail
                generalize wA.alloc (.cells #[.int .i64 (all.length : Int), .string tx] 39) = wB at *
                generalize wA.heap.size = A at *
                have hcall := HQB.out.refSends tx (by omega) haa H8.out
                clear HQB
                go_wp2_with fail
                refine hcall.mono ?_
                rintro e wC ⟨rfl, ⟨v2, hqC⟩, hmC⟩
                have hba := balloc (Below.refl _ wC) (.cells #[.int .i64 (all.length : Int), .string tx] 39)
                have HQD := Lib.hid (hqC.keep hba)
                have HAD := Lib.hid ((HA.out.mv hmC (fun e => e.elim HAN.out.2.2.1.symm HAN.out.2.2.2.2.1)).keep hba)
                have HBD := Lib.hid (PkV.new wC (all.length : Int) tx 39)
                clear hcall hqC hmC hba HA t3
                go_upto_region 16 with fail
                generalize wC.alloc (.cells #[.int .i64 (all.length : Int), .string tx] 39) = wD at *
                obtain ⟨p0, p1, _, _⟩ := HAD.out
                obtain ⟨s0, s1, _, _⟩ := HBD.out
                have heq := fun w' => eq_pk w' (all.length : Int) (all.length : Int) tx tx
                rw [decide_eq_true rfl] at heq
                go_wp2
                go_meet
                exact ⟨by first | rfl | simp, v2, all ++ [tx], a, k, by simp; omega, by simp; omega, by omega, HQD⟩
            · as_aux_lemma =>
                have hcall := Pl.sendsFull HQ2.out tx h8
                have H8 := Lib.hid h8
                clear h8
                go_wp2_with fail
                refine hcall.mono ?_
                rintro e wA ⟨rfl, hqA, hmA⟩
                have hba := balloc (Below.refl _ wA) (.cells #[.int .i64 0, .string ⟨#[]⟩] 39)
                have HQB := Lib.hid (hqA.keep hba)
                have HA := Lib.hid (PkV.new wA 0 ⟨#[]⟩ 39)
                have t3 := kc hba (hmA.cell HON.out.1.symm y3)
                clear hcall hqA hmA hba y0 y1 y2 y3 HQ2
                go_upto_region 15 with fail
                generalize wA.alloc (.cells #[.int .i64 0, .string ⟨#[]⟩] 39) = wB at *
                generalize wA.heap.size = A at *
                have hcall := refSend_full C w.heap.size v all a tx wB HQB.out.rf (by omega) haa (by have := H8.out; omega)
                go_wp2_with fail
                refine hcall.mono ?_
                rintro e wC ⟨rfl, hbC⟩
                have hba := balloc (Below.refl _ wC) (.cells #[.int .i64 0, .string ⟨#[]⟩] 39)
                have HQD := Lib.hid ((HQB.out.keep hbC).keep hba)
                have HAD := Lib.hid ((HA.out.keep hbC).keep hba)
                have HBD := Lib.hid (PkV.new wC 0 ⟨#[]⟩ 39)
                clear hcall hbC hba HA HQB t3
                go_upto_region 16 with fail
                generalize wC.alloc (.cells #[.int .i64 0, .string ⟨#[]⟩] 39) = wD at *
                obtain ⟨p0, p1, _, _⟩ := HAD.out
                obtain ⟨s0, s1, _, _⟩ := HBD.out
                have heq := fun w' => eq_pk w' 0 0 (⟨#[]⟩ : ByteArray) (⟨#[]⟩ : ByteArray)
                rw [decide_eq_true rfl] at heq
                go_wp2
                go_meet
                exact ⟨by first | rfl | simp, v, all, a, k, by omega, haa, by omega, HQD⟩
      case rest =>
        obtain ⟨rfl, v2, all2, a2, k2, hl2, ha2, hk2, HQ⟩ := hcut
        clear HQ2 HO HON y0 y1 y2 y3 hand hal haa hkj
        have hcall := HQ.out.open1
        have HLL : Hid ((Lk.pk a2 (all2.drop a2)).length ≤ 1000000) := Lib.hid (by rw [Lk.pk_len, List.length_drop]; omega)
        have HOP := Lib.hid (fun (W : World) (h : Pl w W B R C D v2 all2 a2 k2) => Q4.open2 h (by omega) ha2)
        generalize Lk.pk a2 (all2.drop a2) = L at hcall HLL HOP
        go_wp2_with fail
        refine hcall.mono ?_
        rintro e wA ⟨g, cp, rfl, hri, hbA⟩
        have HQA := Lib.hid (HQ.out.keep hbA)
        have HRA := Lib.hid hri
        have hcall := HOP.out wA HQA.out
        clear hri hbA HQ HOP
        go_wp2_with fail
        refine hcall.mono ?_
        rintro e wB ⟨g2, cp2, rfl, hri, hbB⟩
        have HQB := Lib.hid (HQA.out.keep hbB)
        have hcall := same10_any (some ⟨g, 0, none⟩) g2 cp cp2 L L wB HLL.out (HRA.out.below hbB) hri
        rw [decide_eq_true rfl] at hcall
        clear hri hbB HQA HRA HLL
        go_wp2_with fail
        refine hcall.mono ?_
        rintro e wC ⟨rfl, hbC⟩
        have HQC := Lib.hid (HQB.out.keep hbC)
        clear hcall hbC HQB
        have hnx := fun (m : Nat) => Pl.nexts (HQC.out.keep (bdrew10 wC m)) ha2
        have hwt := fun (m : Nat) => waits_at R k2 (wC.drewN m) (HQC.out.rc.keep (bdrew10 wC m))
        obtain ⟨sa2, sc2, rfl⟩ := HQC.out.rf.row.shape
        have hc0 := HQC.out.rf.c0
        have hd0 := HQC.out.ru.c
        go_upto_region 33 with fail
        go_quiet ((first | (go_at_call 22; exact Calls.quiet_of_same (hnx _)) | (go_at_call 23; exact Calls.quiet_of_same (hwt _))))
        have HQE := Lib.hid (HQC.out.keep (bdrew10 wC nq))
        clear hnx hwt hc0 hd0 HQC
        go_wp2
        go_roundw
        case rel => exact ⟨j + 1, _, all2, a2, k2, by omega, by omega, by go_num, hl2, ha2, hk2, HQE⟩
        case measure => simp [intOf]; omega
    · rcases (show (decide (j < S.length) = false ∧ decide ((j : Int) < (S.length : Int)) = false) ∨ (decide (j < S.length) = true ∧ decide ((j : Int) < (S.length : Int)) = true ∧ decide ((j : Int) < 60) = false) by simp; omega) with ⟨q1, q2⟩ | ⟨q1, q2, q3⟩
      all_goals
        clear hgo
        go_wp2
        go_ret
        exact ⟨rfl, HQ.out.bl⟩
end Go.Proofs.Ytlpfnclbkndcgaa
