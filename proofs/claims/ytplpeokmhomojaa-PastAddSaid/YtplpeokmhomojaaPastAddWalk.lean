/- PastAdd, walked: a dependency that is added is got, if it is not below what was there; all others stay. -/
import Derived.Test.YtplpeokmhomojaaPastAwake
import Derived.Test.YtplpeokmhomojaaPastMade
import Derived.Test.YtplpeokmhomojaaPastAdd
import Derived.Test.YtplpeokmhomojaaPastLawMath
import Derived.Test.YtplpeokmhomojaaStampLess
import Derived.Test.YtplpeokmhomojaaOpen4
namespace Go.Proofs.Ytplpeokmhomojaa
open Go.RowKit
set_option linter.unusedVariables false
set_option linter.unusedSimpArgs false

theorem DepAt.len {w : World} {v : Value} {l : List De} (h : DepAt w v l) : l.length ≤ 9223372036854775807 := by
  obtain ⟨_, _, _, h1, h2, _⟩ := h
  unfold maxLen at h2
  omega

set_option maxRecDepth 100000 in
set_option maxHeartbeats 6400000 in
theorem walkPastAdd (w : World) (v : Value) (l : List De) (hr : DepAt w v l) (hz : Szd l) (hi64 : ∀ d ∈ l, In64 d.2) (k : ByteArray) (n s : Int) (hk : k.size ≤ maxLen) (hns : In64 (n, s)) (o : ByteArray) (ho : o.size ≤ maxLen) :
    Calls Try.prog 8 #[v, .agg #[.string k, .int .i64 n, .int .i64 s], .string o] w fun e w' => e = .returned (.bool true) ∧ Below w.heap.size w w' := by
  have heq : ∀ (w' : World) (n s m t : Int), (binOp .eql 24 (.agg #[.int .i64 n, .int .i64 s]) (.agg #[.int .i64 m, .int .i64 t])).run Try.prog w' = .ok (.bool (decide ((n, s) = (m, t)))) w' := eq_stamp
  unfold maxLen at hk ho
  have hb0 : Below w.heap.size w (w.alloc (.cells #[.string k, .int .i64 n, .int .i64 s] 26)) := balloc (Below.refl _ _) _
  have hD0 := VarD.new w k n s 26
  have HV := Lib.hid hr
  obtain ⟨a, cap, rfl, hcap, hmx, _, _⟩ := hr
  have HZ := Lib.hid hz
  clear hz hi64 hns
  have hml := mdD_len l
  have HS := Lib.hid (mdD_srt l)
  have hlen := HV.out.len
  go_enter Try.func8, Try.ntmps8
  go_wp2_with fail
  refine (pawake_any _).mono ?_
  rintro e w1 ⟨rfl, hb1⟩
  have hD1 := hD0.keep hb1
  have hbel1 := bstep hb0 hb1
  clear hD0 hb0 hb1
  go_wp2_with fail
  refine (made_any _ l w1 hlen HZ.out (HV.out.below hbel1)).mono ?_
  rintro e w2 ⟨u, rfl, hp2, hb2⟩
  have hD2 := hD1.keep hb2
  have hbel2 := bstep hbel1 hb2
  clear hD1 hbel1 hb2 HV HZ
  generalize mdD l = p at hml HS hp2
  have HP2 := Lib.hid hp2
  obtain ⟨pa, pc, rfl, _, _, _, _⟩ := hp2
  obtain ⟨p0, p1, p2, _, _, _⟩ := id hD2
  go_wp2_with fail
  refine (padd_any _ p k n s w2 (by omega) HS.out hk HP2.out).mono ?_
  rintro e w3 ⟨u3, rfl, hq3, hb3⟩
  have hD3 := hD2.keep hb3
  have hbel3 := bstep hbel2 hb3
  have HP3 := Lib.hid (HP2.out.below hb3)
  clear hD2 hbel2 hb3 HP2 p0 p1 p2
  have hql := addR_len p (k, n, s)
  have HQS := Lib.hid (addR_srt HS.out (k, n, s))
  have HSAME : Hid (okD (k, n, s) = false → p = addR p (k, n, s)) := Lib.hid (fun h => by simp [addR, h])
  have HGET : Hid (okD (k, n, s) = true → gtD (addR p (k, n, s)) k = if Sm.less (gtD p k) (n, s) = true then (n, s) else gtD p k) := Lib.hid (fun h => gtD_add (d := (k, n, s)) h HS.out)
  have HOTH : Hid (okD (k, n, s) = true → o ≠ k → gtD (addR p (k, n, s)) o = gtD p o) := Lib.hid (fun h h2 => gtD_add_other (d := (k, n, s)) h HS.out h2)
  have HCOV : Hid (okD (k, n, s) = true → (!(p.any fun x => Sm.less (gtD (addR p (k, n, s)) x.1) x.2)) = true) := Lib.hid (fun h => add_covers (d := (k, n, s)) h HS.out)
  have HAGN : Hid (okD (k, n, s) = true → addR (addR p (k, n, s)) (k, n, s) = addR p (k, n, s)) := Lib.hid (fun h => addR_again (d := (k, n, s)) h HS.out)
  generalize hqq : addR p (k, n, s) = q at hq3 hql HQS HSAME HGET HOTH HCOV HAGN
  have HQQ := Lib.hid hqq
  clear hqq
  have HQ3 := Lib.hid hq3
  obtain ⟨qa, qc, rfl, _, _, _, _⟩ := hq3
  obtain ⟨p0, p1, p2, _, _, _⟩ := id hD3
  have hg1 := pget_any _ p k w3 (by omega) HP3.out
  generalize hgp : gtD p k = had at hg1 HGET
  obtain ⟨h0, h1⟩ := had
  have HGP := Lib.hid hgp
  clear hgp
  go_wp2_with fail
  refine hg1.mono ?_
  rintro e w4 ⟨rfl, hb4⟩
  have hD4 := hD3.keep hb4
  have hbel4 := bstep hbel3 hb4
  have HP4 := Lib.hid (HP3.out.below hb4)
  have HQ4 := Lib.hid (HQ3.out.below hb4)
  clear hD3 hbel3 hb4 HP3 HQ3 p0 p1 p2 hg1
  have hb5 : Below w4.heap.size w4 (w4.alloc (.cells #[.int .i64 h0, .int .i64 h1] 24)) := balloc (Below.refl _ _) _
  have hD5 := hD4.keep hb5
  have hH5 : Var2 (w4.alloc (.cells #[.int .i64 h0, .int .i64 h1] 24)) w4.heap.size (h0, h1) := ⟨by simp, by simp, by simp, by simp⟩
  have hbel5 := bstep hbel4 hb5
  have HP5 := Lib.hid (HP4.out.below hb5)
  have HQ5 := Lib.hid (HQ4.out.below hb5)
  have hlt4 := hD4.lt
  clear hb5 hD4 HP4 HQ4 hbel4
  have hg2 := pget_any _ q k (w4.alloc (.cells #[.int .i64 h0, .int .i64 h1] 24)) (by omega) HQ5.out
  generalize hgq : gtD q k = now at hg2 HGET
  obtain ⟨n0, n1⟩ := now
  have HGQ := Lib.hid hgq
  clear hgq
  obtain ⟨p0, p1, p2, _, _, _⟩ := id hD5
  go_wp2_with fail
  refine hg2.mono ?_
  rintro e w6 ⟨rfl, hb6⟩
  have hD6 := hD5.keep hb6
  have hH6 := Var2.keep hb6 hH5
  have hbel6 := bstep hbel5 hb6
  have HP6 := Lib.hid (HP5.out.below hb6)
  have HQ6 := Lib.hid (HQ5.out.below hb6)
  clear hD5 hH5 hbel5 hb6 HP5 HQ5 p0 p1 p2 hg2
  have hb7 : Below w6.heap.size w6 ((w6.alloc (.cells #[.int .i64 n0, .int .i64 n1] 24)).alloc (.cells #[.string k, .int .i64 n, .int .i64 s] 26)) := balloc (balloc (Below.refl _ _) _) _
  have hN7 : Var2 ((w6.alloc (.cells #[.int .i64 n0, .int .i64 n1] 24)).alloc (.cells #[.string k, .int .i64 n, .int .i64 s] 26)) w6.heap.size (n0, n1) := ⟨by simp, by simp, by simp, by simp⟩
  have hO7 := DepAt.one (w6.alloc (.cells #[.int .i64 n0, .int .i64 n1] 24)) k n s 26
  rw [show (w6.alloc (.cells #[.int .i64 n0, .int .i64 n1] 24)).heap.size = w6.heap.size + 1 by simp] at hO7
  have hD7 := hD6.keep hb7
  have hH7 := Var2.keep hb7 hH6
  have hbel7 := bstep hbel6 hb7
  have HP7 := Lib.hid (HP6.out.below hb7)
  have HQ7 := Lib.hid (HQ6.out.below hb7)
  have hlt6 := lt_of_cellN hH6.c0
  have hchk := pcheck_any _ [(k, n, s)] _ (by simp) (by intro d hd; simp at hd; subst hd; exact hk) hO7
  rw [chkD_one] at hchk
  obtain ⟨p0, p1, p2, _, _, _⟩ := hD6.keep (balloc (Below.refl _ w6) (.cells #[.int .i64 n0, .int .i64 n1] 24))
  clear hD6 hH6 hbel6 hb7 HP6 HQ6
  go_wp2_with fail
  refine hchk.mono ?_
  rintro e w8 ⟨rfl, hb8⟩
  have hD8 := hD7.keep hb8
  have hH8 := Var2.keep hb8 hH7
  have hN8 := Var2.keep hb8 hN7
  have hbel8 := bstep hbel7 hb8
  have HP8 := Lib.hid (HP7.out.below hb8)
  have HQ8 := Lib.hid (HQ7.out.below hb8)
  clear hD7 hH7 hN7 hbel7 hb8 HP7 HQ7 p0 p1 p2 hchk hO7
  cases hok : okD (k, n, s) with
  | false =>
    have HSM := Lib.hid (HSAME.out hok)
    clear hok
    go_wp2_with fail
    refine (same_any _ _ p q w8 (by omega) HP8.out HQ8.out).mono ?_
    rintro e w9 ⟨rfl, hb9⟩
    rw [show decide (p = q) = true from decide_eq_true HSM.out]
    go_wp2
    go_ret
    exact ⟨rfl, bstep hbel8 hb9⟩
  | true =>
    have HG := Lib.hid (HGET.out hok)
    have HO := Lib.hid (HOTH.out hok)
    have HC := Lib.hid (HCOV.out hok)
    have HA := Lib.hid (HAGN.out hok)
    clear hok HSAME HGET HOTH HCOV HAGN
    obtain ⟨p0, p1, p2, _, _, _⟩ := id hD8
    obtain ⟨a0, a1, a2, a3⟩ := id hH8
    have hb9 : Below w8.heap.size w8 (w8.alloc (.cells #[.int .i64 h0, .int .i64 h1] 24)) := balloc (Below.refl _ _) _
    have hD9 := hD8.keep hb9
    have hH9 := Var2.keep hb9 hH8
    have hN9 := Var2.keep hb9 hN8
    have hW9 : Var2 (w8.alloc (.cells #[.int .i64 h0, .int .i64 h1] 24)) w8.heap.size (h0, h1) := ⟨by simp, by simp, by simp, by simp⟩
    have hlt8 := lt_of_cellN hN8.c0
    have hlt8d := hD8.lt
    have hlt8h := lt_of_cellN hH8.c0
    obtain ⟨d0, d1, d2, _, _, _⟩ := id hD9
    obtain ⟨e0, e1, _, _⟩ := id hH9
    obtain ⟨f0, f1, _, _⟩ := id hN9
    obtain ⟨x0, x1, x2, x3⟩ := id hW9
    have hb10 : Below w8.heap.size w8 (w8.alloc (.cells #[.int .i64 n0, .int .i64 n1] 24)) := balloc (Below.refl _ _) _
    have hD10 := hD8.keep hb10
    have hN10 := Var2.keep hb10 hN8
    have hW10 : Var2 (w8.alloc (.cells #[.int .i64 n0, .int .i64 n1] 24)) w8.heap.size (n0, n1) := ⟨by simp, by simp, by simp, by simp⟩
    have HP10 := Lib.hid (HP8.out.below hb10)
    have HQ10 := Lib.hid (HQ8.out.below hb10)
    have hbel10 := bstep hbel8 hb10
    have HD10 := Lib.hid hD10
    obtain ⟨y0, y1, y2, _, _, _⟩ := hD10
    obtain ⟨z0, z1, _, _⟩ := hN10
    obtain ⟨u0, u1, _, _⟩ := hW10
    have HSZP : Hid (Szd p) := Lib.hid HS.out.szd
    have HSZQ : Hid (Szd q) := Lib.hid HQS.out.szd
    clear hD8 hH8 hN8 hbel8 hb9 hb10 hD9 hH9 hN9 hW9 HP8 HQ8
    rcases (show h0 < n ∨ (h0 = n ∧ h1 < s) ∨ (h0 = n ∧ ¬ h1 < s) ∨ n < h0 by omega) with hA | ⟨rfl, hA⟩ | ⟨rfl, hA⟩ | hA
    · have hE : n0 = n ∧ n1 = s := by
        have h := HG.out
        rw [if_pos (by rw [Sm.less_iff]; left; exact hA)] at h
        simpa using h
      obtain ⟨rfl, rfl⟩ := hE
      by_cases hko : o = k
      · obtain rfl := hko.symm
        go_wp2_with fail
        refine (covers_any _ _ q p _ (by omega) (by omega) HSZQ.out HSZP.out HQ10.out HP10.out).mono ?_
        rintro e w12 ⟨rfl, hb12⟩
        rw [HC.out]
        have hD12 := HD10.out.keep hb12
        have HQ12 := Lib.hid (HQ10.out.below hb12)
        have hbel12 := bstep hbel10 hb12
        clear hb12
        obtain ⟨r0, r1, r2, _, _, _⟩ := hD12
        have hadd := padd_any _ q k n0 n1 w12 (by omega) HQS.out hk HQ12.out
        rw [HA.out] at hadd
        go_wp2_with fail
        refine hadd.mono ?_
        rintro e w13 ⟨u13, rfl, hd13, hb13⟩
        have HQ13 := Lib.hid (HQ12.out.below hb13)
        have HD13 := Lib.hid hd13
        obtain ⟨ua, uc, rfl, _, _, _, _⟩ := hd13
        go_wp2_with fail
        refine (same_any _ _ q q w13 (by omega) HD13.out HQ13.out).mono ?_
        rintro e w14 ⟨rfl, hb14⟩
        rw [show decide (q = q) = true from decide_eq_true rfl]
        go_wp2
        go_ret
        exact ⟨rfl, bstep (bstep hbel12 hb13) hb14⟩
      · have hne : (o.toList == k.toList) = false := by
          cases h : (o.toList == k.toList) with
          | false => rfl
          | true => exact absurd ((keyeq o k).2 h) hko
        have HOK2 := Lib.hid (HO.out hko)
        clear hko
        have hg3 := pget_any _ q o _ (by omega) HQ10.out
        generalize hgo : gtD q o = go at hg3 HOK2
        obtain ⟨g0, g1⟩ := go
        clear hgo
        go_wp2_with fail
        refine hg3.mono ?_
        rintro e wa ⟨rfl, hba⟩
        have hg4 := pget_any _ p o wa (by omega) (HP10.out.below hba)
        rw [← HOK2.out] at hg4
        go_wp2_with fail
        refine hg4.mono ?_
        rintro e wb ⟨rfl, hbb⟩
        have HQ11 := Lib.hid ((HQ10.out.below hba).below hbb)
        have HP11 := Lib.hid ((HP10.out.below hba).below hbb)
        have HD11 := Lib.hid ((HD10.out.keep hba).keep hbb)
        have hbel11 := bstep (bstep hbel10 hba) hbb
        clear hba hbb hg3 hg4
        go_wp2_with fail
        refine (covers_any _ _ q p _ (by omega) (by omega) HSZQ.out HSZP.out HQ11.out HP11.out).mono ?_
        rintro e w12 ⟨rfl, hb12⟩
        rw [HC.out]
        have hD12 := HD11.out.keep hb12
        have HQ12 := Lib.hid (HQ11.out.below hb12)
        have hbel12 := bstep hbel11 hb12
        clear hb12
        obtain ⟨r0, r1, r2, _, _, _⟩ := hD12
        have hadd := padd_any _ q k n0 n1 w12 (by omega) HQS.out hk HQ12.out
        rw [HA.out] at hadd
        go_wp2_with fail
        refine hadd.mono ?_
        rintro e w13 ⟨u13, rfl, hd13, hb13⟩
        have HQ13 := Lib.hid (HQ12.out.below hb13)
        have HD13 := Lib.hid hd13
        obtain ⟨ua, uc, rfl, _, _, _, _⟩ := hd13
        go_wp2_with fail
        refine (same_any _ _ q q w13 (by omega) HD13.out HQ13.out).mono ?_
        rintro e w14 ⟨rfl, hb14⟩
        rw [show decide (q = q) = true from decide_eq_true rfl]
        go_wp2
        go_ret
        exact ⟨rfl, bstep (bstep hbel12 hb13) hb14⟩
    · have hE : n0 = h0 ∧ n1 = s := by
        have h := HG.out
        rw [if_pos (by rw [Sm.less_iff]; right; exact ⟨rfl, hA⟩)] at h
        simpa using h
      obtain ⟨rfl, rfl⟩ := hE
      by_cases hko : o = k
      · obtain rfl := hko.symm
        go_wp2_with fail
        refine (covers_any _ _ q p _ (by omega) (by omega) HSZQ.out HSZP.out HQ10.out HP10.out).mono ?_
        rintro e w12 ⟨rfl, hb12⟩
        rw [HC.out]
        have hD12 := HD10.out.keep hb12
        have HQ12 := Lib.hid (HQ10.out.below hb12)
        have hbel12 := bstep hbel10 hb12
        clear hb12
        obtain ⟨r0, r1, r2, _, _, _⟩ := hD12
        have hadd := padd_any _ q k n0 n1 w12 (by omega) HQS.out hk HQ12.out
        rw [HA.out] at hadd
        go_wp2_with fail
        refine hadd.mono ?_
        rintro e w13 ⟨u13, rfl, hd13, hb13⟩
        have HQ13 := Lib.hid (HQ12.out.below hb13)
        have HD13 := Lib.hid hd13
        obtain ⟨ua, uc, rfl, _, _, _, _⟩ := hd13
        go_wp2_with fail
        refine (same_any _ _ q q w13 (by omega) HD13.out HQ13.out).mono ?_
        rintro e w14 ⟨rfl, hb14⟩
        rw [show decide (q = q) = true from decide_eq_true rfl]
        go_wp2
        go_ret
        exact ⟨rfl, bstep (bstep hbel12 hb13) hb14⟩
      · have hne : (o.toList == k.toList) = false := by
          cases h : (o.toList == k.toList) with
          | false => rfl
          | true => exact absurd ((keyeq o k).2 h) hko
        have HOK2 := Lib.hid (HO.out hko)
        clear hko
        have hg3 := pget_any _ q o _ (by omega) HQ10.out
        generalize hgo : gtD q o = go at hg3 HOK2
        obtain ⟨g0, g1⟩ := go
        clear hgo
        go_wp2_with fail
        refine hg3.mono ?_
        rintro e wa ⟨rfl, hba⟩
        have hg4 := pget_any _ p o wa (by omega) (HP10.out.below hba)
        rw [← HOK2.out] at hg4
        go_wp2_with fail
        refine hg4.mono ?_
        rintro e wb ⟨rfl, hbb⟩
        have HQ11 := Lib.hid ((HQ10.out.below hba).below hbb)
        have HP11 := Lib.hid ((HP10.out.below hba).below hbb)
        have HD11 := Lib.hid ((HD10.out.keep hba).keep hbb)
        have hbel11 := bstep (bstep hbel10 hba) hbb
        clear hba hbb hg3 hg4
        go_wp2_with fail
        refine (covers_any _ _ q p _ (by omega) (by omega) HSZQ.out HSZP.out HQ11.out HP11.out).mono ?_
        rintro e w12 ⟨rfl, hb12⟩
        rw [HC.out]
        have hD12 := HD11.out.keep hb12
        have HQ12 := Lib.hid (HQ11.out.below hb12)
        have hbel12 := bstep hbel11 hb12
        clear hb12
        obtain ⟨r0, r1, r2, _, _, _⟩ := hD12
        have hadd := padd_any _ q k n0 n1 w12 (by omega) HQS.out hk HQ12.out
        rw [HA.out] at hadd
        go_wp2_with fail
        refine hadd.mono ?_
        rintro e w13 ⟨u13, rfl, hd13, hb13⟩
        have HQ13 := Lib.hid (HQ12.out.below hb13)
        have HD13 := Lib.hid hd13
        obtain ⟨ua, uc, rfl, _, _, _, _⟩ := hd13
        go_wp2_with fail
        refine (same_any _ _ q q w13 (by omega) HD13.out HQ13.out).mono ?_
        rintro e w14 ⟨rfl, hb14⟩
        rw [show decide (q = q) = true from decide_eq_true rfl]
        go_wp2
        go_ret
        exact ⟨rfl, bstep (bstep hbel12 hb13) hb14⟩
    · have hE : n0 = h0 ∧ n1 = h1 := by
        have h := HG.out
        rw [if_neg (by rw [Sm.less_iff]; simp; omega)] at h
        simpa using h
      obtain ⟨rfl, rfl⟩ := hE
      by_cases hko : o = k
      · obtain rfl := hko.symm
        go_wp2_with fail
        refine (covers_any _ _ q p _ (by omega) (by omega) HSZQ.out HSZP.out HQ10.out HP10.out).mono ?_
        rintro e w12 ⟨rfl, hb12⟩
        rw [HC.out]
        have hD12 := HD10.out.keep hb12
        have HQ12 := Lib.hid (HQ10.out.below hb12)
        have hbel12 := bstep hbel10 hb12
        clear hb12
        obtain ⟨r0, r1, r2, _, _, _⟩ := hD12
        have hadd := padd_any _ q k n0 s w12 (by omega) HQS.out hk HQ12.out
        rw [HA.out] at hadd
        go_wp2_with fail
        refine hadd.mono ?_
        rintro e w13 ⟨u13, rfl, hd13, hb13⟩
        have HQ13 := Lib.hid (HQ12.out.below hb13)
        have HD13 := Lib.hid hd13
        obtain ⟨ua, uc, rfl, _, _, _, _⟩ := hd13
        go_wp2_with fail
        refine (same_any _ _ q q w13 (by omega) HD13.out HQ13.out).mono ?_
        rintro e w14 ⟨rfl, hb14⟩
        rw [show decide (q = q) = true from decide_eq_true rfl]
        go_wp2
        go_ret
        exact ⟨rfl, bstep (bstep hbel12 hb13) hb14⟩
      · have hne : (o.toList == k.toList) = false := by
          cases h : (o.toList == k.toList) with
          | false => rfl
          | true => exact absurd ((keyeq o k).2 h) hko
        have HOK2 := Lib.hid (HO.out hko)
        clear hko
        have hg3 := pget_any _ q o _ (by omega) HQ10.out
        generalize hgo : gtD q o = go at hg3 HOK2
        obtain ⟨g0, g1⟩ := go
        clear hgo
        go_wp2_with fail
        refine hg3.mono ?_
        rintro e wa ⟨rfl, hba⟩
        have hg4 := pget_any _ p o wa (by omega) (HP10.out.below hba)
        rw [← HOK2.out] at hg4
        go_wp2_with fail
        refine hg4.mono ?_
        rintro e wb ⟨rfl, hbb⟩
        have HQ11 := Lib.hid ((HQ10.out.below hba).below hbb)
        have HP11 := Lib.hid ((HP10.out.below hba).below hbb)
        have HD11 := Lib.hid ((HD10.out.keep hba).keep hbb)
        have hbel11 := bstep (bstep hbel10 hba) hbb
        clear hba hbb hg3 hg4
        go_wp2_with fail
        refine (covers_any _ _ q p _ (by omega) (by omega) HSZQ.out HSZP.out HQ11.out HP11.out).mono ?_
        rintro e w12 ⟨rfl, hb12⟩
        rw [HC.out]
        have hD12 := HD11.out.keep hb12
        have HQ12 := Lib.hid (HQ11.out.below hb12)
        have hbel12 := bstep hbel11 hb12
        clear hb12
        obtain ⟨r0, r1, r2, _, _, _⟩ := hD12
        have hadd := padd_any _ q k n0 s w12 (by omega) HQS.out hk HQ12.out
        rw [HA.out] at hadd
        go_wp2_with fail
        refine hadd.mono ?_
        rintro e w13 ⟨u13, rfl, hd13, hb13⟩
        have HQ13 := Lib.hid (HQ12.out.below hb13)
        have HD13 := Lib.hid hd13
        obtain ⟨ua, uc, rfl, _, _, _, _⟩ := hd13
        go_wp2_with fail
        refine (same_any _ _ q q w13 (by omega) HD13.out HQ13.out).mono ?_
        rintro e w14 ⟨rfl, hb14⟩
        rw [show decide (q = q) = true from decide_eq_true rfl]
        go_wp2
        go_ret
        exact ⟨rfl, bstep (bstep hbel12 hb13) hb14⟩
    · have hE : n0 = h0 ∧ n1 = h1 := by
        have h := HG.out
        rw [if_neg (by rw [Sm.less_iff]; simp; omega)] at h
        simpa using h
      obtain ⟨rfl, rfl⟩ := hE
      have hA1 : ¬ n0 < n := by omega
      have hA2 : ¬ n0 = n := by omega
      by_cases hko : o = k
      · obtain rfl := hko.symm
        go_wp2_with fail
        refine (covers_any _ _ q p _ (by omega) (by omega) HSZQ.out HSZP.out HQ10.out HP10.out).mono ?_
        rintro e w12 ⟨rfl, hb12⟩
        rw [HC.out]
        have hD12 := HD10.out.keep hb12
        have HQ12 := Lib.hid (HQ10.out.below hb12)
        have hbel12 := bstep hbel10 hb12
        clear hb12
        obtain ⟨r0, r1, r2, _, _, _⟩ := hD12
        have hadd := padd_any _ q k n s w12 (by omega) HQS.out hk HQ12.out
        rw [HA.out] at hadd
        go_wp2_with fail
        refine hadd.mono ?_
        rintro e w13 ⟨u13, rfl, hd13, hb13⟩
        have HQ13 := Lib.hid (HQ12.out.below hb13)
        have HD13 := Lib.hid hd13
        obtain ⟨ua, uc, rfl, _, _, _, _⟩ := hd13
        go_wp2_with fail
        refine (same_any _ _ q q w13 (by omega) HD13.out HQ13.out).mono ?_
        rintro e w14 ⟨rfl, hb14⟩
        rw [show decide (q = q) = true from decide_eq_true rfl]
        go_wp2
        go_ret
        exact ⟨rfl, bstep (bstep hbel12 hb13) hb14⟩
      · have hne : (o.toList == k.toList) = false := by
          cases h : (o.toList == k.toList) with
          | false => rfl
          | true => exact absurd ((keyeq o k).2 h) hko
        have HOK2 := Lib.hid (HO.out hko)
        clear hko
        have hg3 := pget_any _ q o _ (by omega) HQ10.out
        generalize hgo : gtD q o = go at hg3 HOK2
        obtain ⟨g0, g1⟩ := go
        clear hgo
        go_wp2_with fail
        refine hg3.mono ?_
        rintro e wa ⟨rfl, hba⟩
        have hg4 := pget_any _ p o wa (by omega) (HP10.out.below hba)
        rw [← HOK2.out] at hg4
        go_wp2_with fail
        refine hg4.mono ?_
        rintro e wb ⟨rfl, hbb⟩
        have HQ11 := Lib.hid ((HQ10.out.below hba).below hbb)
        have HP11 := Lib.hid ((HP10.out.below hba).below hbb)
        have HD11 := Lib.hid ((HD10.out.keep hba).keep hbb)
        have hbel11 := bstep (bstep hbel10 hba) hbb
        clear hba hbb hg3 hg4
        go_wp2_with fail
        refine (covers_any _ _ q p _ (by omega) (by omega) HSZQ.out HSZP.out HQ11.out HP11.out).mono ?_
        rintro e w12 ⟨rfl, hb12⟩
        rw [HC.out]
        have hD12 := HD11.out.keep hb12
        have HQ12 := Lib.hid (HQ11.out.below hb12)
        have hbel12 := bstep hbel11 hb12
        clear hb12
        obtain ⟨r0, r1, r2, _, _, _⟩ := hD12
        have hadd := padd_any _ q k n s w12 (by omega) HQS.out hk HQ12.out
        rw [HA.out] at hadd
        go_wp2_with fail
        refine hadd.mono ?_
        rintro e w13 ⟨u13, rfl, hd13, hb13⟩
        have HQ13 := Lib.hid (HQ12.out.below hb13)
        have HD13 := Lib.hid hd13
        obtain ⟨ua, uc, rfl, _, _, _, _⟩ := hd13
        go_wp2_with fail
        refine (same_any _ _ q q w13 (by omega) HD13.out HQ13.out).mono ?_
        rintro e w14 ⟨rfl, hb14⟩
        rw [show decide (q = q) = true from decide_eq_true rfl]
        go_wp2
        go_ret
        exact ⟨rfl, bstep (bstep hbel12 hb13) hb14⟩
end Go.Proofs.Ytplpeokmhomojaa
