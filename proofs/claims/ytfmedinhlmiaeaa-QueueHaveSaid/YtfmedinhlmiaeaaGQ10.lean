/- Texts of this proof, one behind the other: PastSame, PastRefCheck, WireCheck, VerPut. -/
import Derived.Test.YtfmedinhlmiaeaaGQ9
import Derived.Deep.QuietTactic
import Derived.BigQuiet
import Derived.Deep.DeepCutAuto
/- What slices.Equal, past.Same and the document's Same answer. -/
namespace Go.Proofs.Ytfmedinhlmiaeaa
open Go.RowKit
set_option linter.unusedVariables false

/-- Two dependencies compared as structs. -/
theorem eq_dep (w : World) (k : ByteArray) (n s : Int) (k' : ByteArray) (m t : Int) : (binOp .eql 34 (.agg #[.string k, .int .i64 n, .int .i64 s]) (.agg #[.string k', .int .i64 m, .int .i64 t])).run Try.prog w = .ok (.bool (decide (((k, n, s) : De) = (k', m, t)))) w := by
  rw [run_eql_struct, run_equalIn_agg w 9999 34 _ _ (by kernel_rfl) (by kernel_rfl)]
  unfold Program.fieldsOf
  rw [Try.underlying34]
  simp [go_sem, Try.underlying3, Try.underlying9]
  have hk : k.toList = k'.toList ↔ k = k' := by
    rw [Lib.toList_data, Lib.toList_data]
    exact ⟨fun h => ByteArray.ext (Array.toList_inj.1 h), fun h => by rw [h]⟩
  by_cases h1 : k = k' <;> by_cases h2 : n = m <;> by_cases h3 : s = t <;> simp [hk, h1, h2, h3]
theorem ne_dep (w : World) (k : ByteArray) (n s : Int) (k' : ByteArray) (m t : Int) : (binOp .neq 34 (.agg #[.string k, .int .i64 n, .int .i64 s]) (.agg #[.string k', .int .i64 m, .int .i64 t])).run Try.prog w = .ok (.bool (!decide (((k, n, s) : De) = (k', m, t)))) w := by
  have h := eq_dep w k n s k' m t
  rw [run_eql_struct] at h
  rw [run_neq_struct]
  generalize (Op.equalIn 10000 _ _ _).run _ _ = r at h
  cases r with
  | ok b w1 => simp at h ⊢; simp [h]
  | halt x w1 => simp at h
theorem bdrewN (w : World) (n : Nat) : Below w.heap.size w (w.drewN n) := ⟨rfl, rfl, rfl, Nat.le_refl _, fun _ _ => rfl⟩

set_option maxRecDepth 100000 in
set_option maxHeartbeats 1600000 in
theorem refPSame_any (v1 v2 : Value) (l m : List De) (w : World) (hl : l.length ≤ 1000000) (h1 : DepAt w v1 l) (h2 : DepAt w v2 m) :
    Calls Try.prog 13 #[v1, v2] w fun e w' => e = .returned (.bool (decide (l = m))) ∧ Below w.heap.size w w' := by
  obtain ⟨a, ca, rfl, _, _, _, h1⟩ := h1
  obtain ⟨b, cb, rfl, _, _, _, h2⟩ := h2
  have HA := Lib.hid h1
  have HB := Lib.hid h2
  clear h1 h2
  by_cases hlen : l.length = m.length
  · rw [← hlen]
    have HN := Lib.hid hlen
    clear hlen
    have hnn : (l.length != l.length) = false := by simp
    have hni : ((l.length : Int) != (l.length : Int)) = false := by simp
    go_enter Try.func13, Try.ntmps13
    go_wp2
    go_loopw [5] (fun i wr => ∃ k n : Nat, k ≤ l.length ∧ i = .int .i64 k ∧ l.take k = m.take k ∧ wr = w.drewN n) (fun i _ => l.length - (intOf i).toNat)
    case atStart => exact ⟨0, 0, by omega, rfl, by simp, rfl⟩
    case round =>
      obtain ⟨k, n, hk, rfl, hst, rfl⟩ := hrel
      have HS := Lib.hid hst
      clear hst
      by_cases hlt : k < l.length
      · have hlm : k < m.length := by rw [← HN.out]; exact hlt
        obtain ⟨b1, o1, rfl, _, c10, c11, c12⟩ := HA.out k hlt
        obtain ⟨b2, o2, rfl, _, c20, c21, c22⟩ := HB.out k hlm
        have HL := Lib.hid (List.take_succ_eq_append_getElem hlt)
        have HM := Lib.hid (List.take_succ_eq_append_getElem hlm)
        have HNE : Hid (l[k] ≠ m[k] → l ≠ m) := Lib.hid (fun h e => h (by subst e; rfl))
        generalize l[k] = x at c10 c11 c12 HL HNE
        generalize m[k] = y at c20 c21 c22 HM HNE
        obtain ⟨x0, x1, x2⟩ := x
        obtain ⟨y0, y1, y2⟩ := y
        dsimp only at c10 c11 c12 c20 c21 c22
        have hne := fun w' => ne_dep w' x0 x1 x2 y0 y1 y2
        clear hlm
        by_cases hxy : ((x0, x1, x2) : De) = (y0, y1, y2)
        · have hd : (decide (((x0, x1, x2) : De) = (y0, y1, y2))) = true := by simpa using hxy
          rw [hd] at hne
          have HX := Lib.hid hxy
          clear hxy hd
          go_wp2_with fail
          go_quiet (fail)
          go_wp2
          go_roundw
          case rel => exact ⟨k + 1, _, by omega, by go_num, by rw [HL.out, HM.out, HS.out, HX.out], rfl⟩
          case measure => simp [intOf]; omega
        · have hd : (decide (((x0, x1, x2) : De) = (y0, y1, y2))) = false := by simpa using hxy
          rw [hd] at hne
          have HX := Lib.hid hxy
          clear hxy hd
          go_wp2_with fail
          go_quiet (fail)
          go_wp2
          go_ret
          exact ⟨ret_bool (decide_eq_false (HNE.out HX.out)).symm, bstep (bdrewN w _) (bdrewN _ _)⟩
      · obtain rfl : k = l.length := by omega
        have HE : Hid (l = m) := Lib.hid (by have h := HS.out; rw [List.take_of_length_le (Nat.le_refl _), HN.out, List.take_of_length_le (Nat.le_refl _)] at h; exact h)
        go_wp2
        go_ret
        exact ⟨ret_bool (decide_eq_true HE.out).symm, bdrewN w _⟩
  · have hnn : (l.length != m.length) = true := by simpa using hlen
    have hni : ((l.length : Int) != (m.length : Int)) = true := by simp; omega
    rw [show decide (l = m) = false from decide_eq_false (fun e => hlen (by rw [e]))]
    have hx : ¬ (l.length : Int) = (m.length : Int) := by omega
    go_enter Try.func13, Try.ntmps13
    go_wp2
    go_ret
    exact ⟨rfl, Below.refl _ _⟩

end Go.Proofs.Ytfmedinhlmiaeaa
/- What the document's Check of pasts answers. -/
namespace Go.Proofs.Ytfmedinhlmiaeaa
open Go.RowKit
set_option linter.unusedVariables false
set_option linter.unusedSimpArgs false

theorem folD_false {p : List De} {d : De} (h : okD d = false) : folD p d = false := by simp [folD, h]
theorem folD_nil {d : De} (h : okD d = true) : folD [] d = true := by simp [folD, h]
theorem folD_at {l : List De} {k : Nat} {d : De} (hk : k + 1 ≤ l.length) (h : okD d = true) : folD (l.take (k + 1)) d = klt (l[k]'(by omega)).1 d.1 := by
  unfold folD
  rw [h, Bool.true_and, List.take_succ_eq_append_getElem (by omega), List.getLast?_concat]

set_option maxRecDepth 100000 in
set_option maxHeartbeats 3200000 in
theorem refPCheck_any (v : Value) (l : List De) (w : World) (hl : l.length ≤ 1000000) (hz : Szd l) (hr : DepAt w v l) :
    Calls Try.prog 57 #[v] w fun e w' => e = .returned (.bool (chkD l)) ∧ Below w.heap.size w w' := by
  obtain ⟨a, cap, rfl, hcap, hmx, _, hr⟩ := hr
  unfold maxLen at hmx
  have HR := Lib.hid hr
  have HZ := Lib.hid hz
  clear hr hz
  go_enter Try.func57, Try.ntmps57
  go_wp2
  go_loopw [3] (fun i wr => ∃ k : Nat, k ≤ l.length ∧ i = .int .i64 k ∧ Srt (l.take k) ∧ Below w.heap.size w wr) (fun i _ => l.length - (intOf i).toNat)
  case atStart => exact ⟨0, by omega, rfl, by simpa using Srt.nil, Below.refl _ _⟩
  case round =>
    obtain ⟨k, hk, rfl, hst, hbel⟩ := hrel
    have HS := Lib.hid hst
    clear hst
    by_cases hlt : k < l.length
    · obtain ⟨b, off, rfl, hbl, c0, c1, c2⟩ := HR.out.below hbel k hlt
      have HP := Lib.hid (@srt_step l k hlt)
      have HQ := Lib.hid (@srt_stop l k hlt)
      have hs := HZ.out l[k] (List.getElem_mem hlt)
      generalize l[k] = d at c0 c1 c2 HP HQ hs
      obtain ⟨x, y, z⟩ := d
      dsimp only at c0 c1 c2 hs
      go_wp2_with fail
      refine (refCheck_any x _ hs).mono ?_
      rintro e w1 ⟨rfl, rfl⟩
      generalize hkc : Km.chk x.data.toList = kc
      have HK := Lib.hid hkc
      clear hkc
      go_wp2_with fail
      refine (refSCheck_any y z _).mono ?_
      rintro e w2 ⟨rfl, hb1⟩
      have d0 := kcell hb1 hbl c0
      have HB := Lib.hid (bstep hbel hb1)
      clear c0 c1 c2 hb1 hbel
      generalize hsc : Sm.ok y z = sc
      have HC := Lib.hid hsc
      clear hsc
      have hod : okD (x, y, z) = (kc && sc) := by simp [okD, HK.out, HC.out]
      have HO := Lib.hid hod
      clear hod
      cases kc with
      | false =>
        go_wp2_with fail
        go_quiet (fail)
        go_wp2
        go_ret
        exact ⟨ret_bool (by rw [chkD, decide_eq_false (HQ.out (folD_false (by rw [HO.out]; rfl))), Bool.and_false]), bstep HB.out (bdrewN _ _)⟩
      | true =>
        cases sc with
        | false =>
          go_wp2_with fail
          go_quiet (fail)
          go_wp2
          go_ret
          exact ⟨ret_bool (by rw [chkD, decide_eq_false (HQ.out (folD_false (by rw [HO.out]; rfl))), Bool.and_false]), bstep HB.out (bdrewN _ _)⟩
        | true =>
          cases k with
          | zero =>
            go_wp2_with fail
            go_quiet (fail)
            go_wp2
            go_roundw
            case rel => exact ⟨1, by omega, by go_num, HP.out.2 ⟨HS.out, by rw [List.take_zero]; exact folD_nil HO.out⟩, bstep HB.out (bdrewN _ _)⟩
            case measure => simp [intOf]; omega
          | succ m =>
            obtain ⟨b', off', e', _, p0, _, _⟩ := HR.out.below HB.out m (by omega)
            cases e'
            have HF := Lib.hid (@folD_at l m (x, y, z) (by omega) HO.out)
            generalize (l[m]'(by omega)).1 = p at p0 HF
            have hw1 : IntKind.i64.wrap (m : Int) = (m : Int) := IntWalk.i64_in _ (by omega)
            have hw3 : (m : Int) < (l.length : Int) := by omega
            have hw4 : (m : Int) + 1 < (l.length : Int) := by omega
            have hbk : Hid (klt p x = Op.bytesLess p.toList x.toList) := Lib.hid (by rw [Lib.toList_data, Lib.toList_data]; rfl)
            cases hq : Op.bytesLess p.toList x.toList with
            | true =>
              go_wp2_with fail
              go_quiet (fail)
              go_wp2
              go_roundw
              case rel => exact ⟨m + 1 + 1, by omega, by go_num, HP.out.2 ⟨HS.out, by rw [HF.out, hbk.out]; exact hq⟩, bstep HB.out (bdrewN _ _)⟩
              case measure => simp [intOf]; omega
            | false =>
              go_wp2_with fail
              go_quiet (fail)
              go_wp2
              go_ret
              exact ⟨ret_bool (by rw [chkD, decide_eq_false (HQ.out (by rw [HF.out, hbk.out]; exact hq)), Bool.and_false]), bstep HB.out (bdrewN _ _)⟩
    · obtain rfl : k = l.length := by omega
      have HE : Hid (Srt l) := Lib.hid (by have h := HS.out; rw [List.take_of_length_le (Nat.le_refl _)] at h; exact h)
      go_wp2
      go_ret
      exact ⟨ret_bool (by rw [chkD, decide_eq_true HE.out, Bool.and_true]; simp; omega), hbel⟩
end Go.Proofs.Ytfmedinhlmiaeaa
/- What wire.Check and the document's Check answer of a version. -/
namespace Go.Proofs.Ytfmedinhlmiaeaa
open Go.RowKit
set_option linter.unusedVariables false
set_option linter.unusedSimpArgs false

/-- What is asked of a version that is given: no text is longer than a machine's, and its past is a row in memory. -/
structure WvOk (w : World) (v : Wv) (u : Value) : Prop where
  key : v.key.size ≤ 1099511627776
  val : v.val.size ≤ 1099511627776
  len : v.past.length ≤ 1000000
  szd : Szd v.past
  at_ : DepAt w u v.past
theorem WvOk.below {w w' : World} {v : Wv} {u : Value} (h : WvOk w v u) (hb : Below w.heap.size w w') : WvOk w' v u := ⟨h.key, h.val, h.len, h.szd, h.at_.below hb⟩
theorem WvOk.drew {w : World} {v : Wv} {u : Value} (h : WvOk w v u) : WvOk w.drew v u := ⟨h.key, h.val, h.len, h.szd, h.at_⟩
theorem ba_zero {s : ByteArray} (h : s.size = 0) : s = ⟨#[]⟩ := by
  obtain ⟨d⟩ := s
  have : d.size = 0 := h
  rw [Array.eq_empty_of_size_eq_zero this]
/-- The same, of texts as long as a machine's can be. -/
structure WvB (w : World) (v : Wv) (u : Value) : Prop where
  key : v.key.size ≤ 9223372036854775807
  val : v.val.size ≤ 9223372036854775807
  len : v.past.length ≤ 1000000
  szd : Szd v.past
  at_ : DepAt w u v.past
theorem WvB.below {w w' : World} {v : Wv} {u : Value} (h : WvB w v u) (hb : Below w.heap.size w w') : WvB w' v u := ⟨h.key, h.val, h.len, h.szd, h.at_.below hb⟩
theorem WvOk.big {w : World} {v : Wv} {u : Value} (h : WvOk w v u) : WvB w v u := ⟨by have := h.key; omega, by have := h.val; omega, h.len, h.szd, h.at_⟩
def vbW (v : Wv) : Bool := decide (v.val.size ≤ 32) && (decide (v.val.size = 0) || !v.gone)

set_option maxRecDepth 100000 in
set_option maxHeartbeats 1600000 in
theorem wcheckB_any (v : Wv) (u : Value) (w : World) (hv : WvB w v u) :
    Calls Try.prog 40 #[.agg (wvs v u)] w fun e w' => e = .returned (.bool (okW v)) ∧ Below w.heap.size w w' := by
  have hb0 : Below w.heap.size w (w.alloc (.cells (wvs v u) 27)) := balloc (Below.refl _ w) _
  have hV := VwP.new w v u 27
  have hO := hv.below hb0
  have hck := fun W => check_any v.key W (by have := hv.key; omega)
  have hsk := fun W => scheck_any v.st.1 v.st.2 W
  have hpk := fun W hW => pcheck_any u v.past W hv.len hv.szd hW
  obtain ⟨a, cp, hu, _⟩ := hv.at_
  have e0 : okW v = (vbW v && Km.chk v.key.data.toList && Sm.ok v.st.1 v.st.2 && chkD v.past) := rfl
  rw [e0]
  generalize Km.chk v.key.data.toList = kb at hck ⊢
  generalize Sm.ok v.st.1 v.st.2 = sb at hsk ⊢
  generalize chkD v.past = pb at hpk ⊢
  generalize hvb : vbW v = vb
  have HVB := Lib.hid hvb
  clear e0 hvb hv
  obtain ⟨key, val, gone, ⟨n, t⟩, past⟩ := v
  subst hu
  dsimp only [wvs] at *
  go_enter Try.func40, Try.ntmps40
  go_upto_region 1 with fail
  generalize w.alloc (.cells #[.string key, .string val, .bool gone, .int .i64 n, .int .i64 t, .slice a past.length cp] 27) = w1 at *
  have HO := Lib.hid hO
  have HB := Lib.hid hb0
  obtain ⟨c0, c1, c2, c3, c4, c5, _⟩ := id hV
  dsimp only at c0 c1 c2 c3 c4
  have HV := Lib.hid hV
  clear hO hb0 hV
  go_cut [3] (fun s3 wx => s3 = .bool vb ∧ wx = w1)
  case first =>
    by_cases hA : val.size ≤ 32
    · by_cases hB : val.size = 0
      · obtain rfl := ba_zero hB
        have : vb = true := by rw [← HVB.out]; rfl
        subst this
        go_wp2
        go_meet
        exact ⟨rfl, rfl⟩
      · have hd : decide ((val.size : Int) ≤ 32) = true := by simp; omega
        have hdi : (val.size : Int) ≤ 32 := by omega
        have hne : ¬ val.toList = [] := by rw [Lib.toList_data]; intro h; exact hB (by show val.data.toList.length = 0; rw [h]; rfl)
        have : vb = !gone := by rw [← HVB.out]; simp [vbW, hA, hB]
        subst this
        have hnb : val.toList.isEmpty = false := by simpa using hne
        clear hA hB HVB
        cases gone with
        | false =>
          go_wp2
          go_meet
          exact ⟨rfl, rfl⟩
        | true =>
          go_wp2
          go_meet
          exact ⟨rfl, rfl⟩
    · have hdi : ¬ (val.size : Int) ≤ 32 := by omega
      have : vb = false := by rw [← HVB.out]; simp [vbW, hA]
      subst this
      clear hA HVB
      go_wp2
      go_meet
      exact ⟨rfl, rfl⟩
  case rest =>
    obtain ⟨rfl, rfl⟩ := hcut
    clear HVB
    cases vb with
    | false =>
      go_wp2
      go_ret
      exact ⟨rfl, HB.out⟩
    | true =>
      go_wp2_with fail
      refine (hck _).mono ?_
      rintro e w2 ⟨rfl, hb2⟩
      cases kb with
      | false =>
        go_wp2
        go_ret
        exact ⟨rfl, bstep HB.out hb2⟩
      | true =>
        have hb3 := bstep HB.out hb2
        have c3' := kc hb2 c3
        have c4' := kc hb2 c4
        have c5' := kc hb2 c5
        have HO2 := Lib.hid (HO.out.below hb2)
        clear c0 c1 c2 c3 c4 c5 hck
        go_wp2_with fail
        refine (hsk _).mono ?_
        rintro e w3 ⟨rfl, hb4⟩
        cases sb with
        | false =>
          go_wp2
          go_ret
          exact ⟨rfl, bstep hb3 hb4⟩
        | true =>
          have c5'' := kc hb4 c5'
          have HO3 := Lib.hid (HO2.out.below hb4)
          have hb5 := bstep hb3 hb4
          clear c3' c4' c5'
          go_wp2_with fail
          refine (hpk _ HO3.out.at_).mono ?_
          rintro e w4 ⟨rfl, hb6⟩
          go_wp2
          go_ret
          exact ⟨rfl, bstep hb5 hb6⟩

set_option maxRecDepth 100000 in
set_option maxHeartbeats 1600000 in
theorem refWCheckB_any (v : Wv) (u : Value) (w : World) (hv : WvB w v u) :
    Calls Try.prog 41 #[.agg (wvs v u)] w fun e w' => e = .returned (.bool (okW v)) ∧ Below w.heap.size w w' := by
  have hb0 : Below w.heap.size w (w.alloc (.cells (wvs v u) 27)) := balloc (Below.refl _ w) _
  have hV := VwP.new w v u 27
  have hO := hv.below hb0
  have hck := fun W => refCheck_any v.key W (by have := hv.key; omega)
  have hsk := fun W => refSCheck_any v.st.1 v.st.2 W
  have hpk := fun W hW => refPCheck_any u v.past W hv.len hv.szd hW
  obtain ⟨a, cp, hu, _⟩ := hv.at_
  have e0 : okW v = (vbW v && Km.chk v.key.data.toList && Sm.ok v.st.1 v.st.2 && chkD v.past) := rfl
  rw [e0]
  generalize Km.chk v.key.data.toList = kb at hck ⊢
  generalize Sm.ok v.st.1 v.st.2 = sb at hsk ⊢
  generalize chkD v.past = pb at hpk ⊢
  generalize hvb : vbW v = vb
  have HVB := Lib.hid hvb
  clear e0 hvb hv
  obtain ⟨key, val, gone, ⟨n, t⟩, past⟩ := v
  subst hu
  dsimp only [wvs] at *
  go_enter Try.func41, Try.ntmps41
  go_upto_region 1 with fail
  generalize w.alloc (.cells #[.string key, .string val, .bool gone, .int .i64 n, .int .i64 t, .slice a past.length cp] 27) = w1 at *
  have HO := Lib.hid hO
  have HB := Lib.hid hb0
  obtain ⟨c0, c1, c2, c3, c4, c5, _⟩ := id hV
  dsimp only at c0 c1 c2 c3 c4
  have HV := Lib.hid hV
  clear hO hb0 hV
  go_wp2_with fail
  refine (hck _).mono ?_
  rintro e w2 ⟨rfl, rfl⟩
  go_wp2_with fail
  refine (hsk _).mono ?_
  rintro e w3 ⟨rfl, hb3⟩
  have hV3 := HV.out.keep hb3
  clear c0 c1 c2 c3 c4 c5
  obtain ⟨c0, c1, c2, c3, c4, c5, _⟩ := id hV3
  dsimp only at c0 c1 c2 c3 c4
  have HV3 := Lib.hid hV3
  have HO3 := Lib.hid (HO.out.below hb3)
  have hB3 := bstep HB.out hb3
  clear hck hsk hV3 HV HO HB hb3
  go_wp2_with fail
  refine (hpk _ HO3.out.at_).mono ?_
  rintro e w4 ⟨rfl, hb4⟩
  have hV4 := HV3.out.keep hb4
  obtain ⟨d0, d1, d2, d3, d4, d5, _⟩ := hV4
  dsimp only at d0 d1 d2 d3 d4
  have hB4 := bstep hB3 hb4
  clear c0 c1 c2 c3 c4 c5 hpk HV3 HO3 hB3 hb4
  have HB4 := Lib.hid hB4
  clear hB4
  cases kb with
  | false =>
    go_wp2
    go_ret
    exact ⟨ret_bool (by simp), HB4.out⟩
  | true =>
    cases sb with
    | false =>
      go_wp2
      go_ret
      exact ⟨ret_bool (by simp), HB4.out⟩
    | true =>
      cases pb with
      | false =>
        go_wp2
        go_ret
        exact ⟨ret_bool (by simp), HB4.out⟩
      | true =>
        by_cases hA : val.size ≤ 32
        · by_cases hB : val.size = 0
          · obtain rfl := ba_zero hB
            have : vb = true := by rw [← HVB.out]; rfl
            subst this
            clear HVB hA hB
            cases gone with
            | false =>
              go_wp2
              go_ret
              exact ⟨rfl, HB4.out⟩
            | true =>
              go_wp2
              go_ret
              exact ⟨rfl, HB4.out⟩
          · have hdi : (val.size : Int) ≤ 32 := by omega
            have hne : ¬ val.toList = [] := by rw [Lib.toList_data]; intro h; exact hB (by show val.data.toList.length = 0; rw [h]; rfl)
            have : vb = !gone := by rw [← HVB.out]; simp [vbW, hA, hB]
            subst this
            have hnb : val.toList.isEmpty = false := by simpa using hne
            clear hA hB HVB
            cases gone with
            | false =>
              go_wp2
              go_ret
              exact ⟨rfl, HB4.out⟩
            | true =>
              go_wp2
              go_ret
              exact ⟨ret_bool (by simp_all), HB4.out⟩
        · have hdi : ¬ (val.size : Int) ≤ 32 := by omega
          have : vb = false := by rw [← HVB.out]; simp [vbW, hA]
          subst this
          clear hA HVB
          go_wp2
          go_ret
          exact ⟨ret_bool (by simp_all), HB4.out⟩
theorem wcheck_any (v : Wv) (u : Value) (w : World) (hv : WvOk w v u) :
    Calls Try.prog 40 #[.agg (wvs v u)] w fun e w' => e = .returned (.bool (okW v)) ∧ Below w.heap.size w w' := wcheckB_any v u w hv.big
theorem refWCheck_any (v : Wv) (u : Value) (w : World) (hv : WvOk w v u) :
    Calls Try.prog 41 #[.agg (wvs v u)] w fun e w' => e = .returned (.bool (okW v)) ∧ Below w.heap.size w w' := refWCheckB_any v u w hv.big
end Go.Proofs.Ytfmedinhlmiaeaa
/- A version stored into a variable. -/
namespace Go.Proofs.Ytfmedinhlmiaeaa
open Go.RowKit
set_option linter.unusedVariables false
set_option linter.unusedSimpArgs false

/-- The six cells that a store of a version writes. -/
abbrev World.putw (w : World) (b : Nat) (v : Wv) (u : Value) : World := (((((w.setCell ⟨b, 0, none⟩ (.string v.key)).setCell ⟨b, 1, none⟩ (.string v.val)).setCell ⟨b, 2, none⟩ (.bool v.gone)).setCell ⟨b, 3, none⟩ (.int .i64 v.st.1)).setCell ⟨b, 4, none⟩ (.int .i64 v.st.2)).setCell ⟨b, 5, none⟩ u
theorem VwP.putw {w : World} {b : Nat} {y : Wv} {z : Value} (h : VwP w b y z) (v : Wv) (u : Value) : VwP (World.putw w b v u) b v u :=
  (((((h.put0 v.key).put1 v.val).put2 v.gone).put3 v.st.1 v.st.2).put5 u v.past)
theorem putw_block (w : World) (b : Nat) (v : Wv) (u : Value) (k : Nat) (h : k ≠ b) : (World.putw w b v u).heap[k]? = w.heap[k]? := by
  unfold World.putw
  rw [Below.heap_setCell _ _ _ _ h, Below.heap_setCell _ _ _ _ h, Below.heap_setCell _ _ _ _ h, Below.heap_setCell _ _ _ _ h, Below.heap_setCell _ _ _ _ h, Below.heap_setCell _ _ _ _ h]
theorem below_putw {n b : Nat} {w w' : World} (hb : Below n w w') (h : n ≤ b) (v : Wv) (u : Value) : Below n w (World.putw w' b v u) := (((((hb.setCell h _).setCell h _).setCell h _).setCell h _).setCell h _).setCell h _
theorem DepAt.blocks {w w' : World} {u : Value} {l : List De} (h : DepAt w u l) (hs : w.heap.size ≤ w'.heap.size) (hb : ∀ b, u.ownBlock = some b → w'.heap[b]? = w.heap[b]?) : DepAt w' u l := by
  obtain ⟨a, cap, rfl, h1, h2, h3, hr⟩ := h
  refine ⟨a, cap, rfl, h1, h2, h3, fun i hi => ?_⟩
  obtain ⟨b, off, rfl, hl, c0, c1, c2⟩ := hr i hi
  have hbb := hb b rfl
  exact ⟨b, off, rfl, by omega, by rw [World.cell?_of_block hbb]; exact c0, by rw [World.cell?_of_block hbb]; exact c1, by rw [World.cell?_of_block hbb]; exact c2⟩
theorem VwP.otherw {w : World} {b b' : Nat} {v x : Wv} {u z : Value} (h : VwP w b v u) (hne : b ≠ b') : VwP (World.putw w b' x z) b v u := h.block (putw_block _ _ _ _ _ hne)
end Go.Proofs.Ytfmedinhlmiaeaa
