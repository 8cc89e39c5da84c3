/- Texts of this proof, one behind the other: WireBytes, WireSame, WireAwake, WireRowLaw, EqRng, WireSameR. -/
import Derived.Test.YtllagelopdedfaaGW25
import Derived.WalkSmall
import Derived.BigQuiet
/- What wire.Bytes answers of a version. -/
namespace Go.Proofs.Ytllagelopdedfaa
open Go.RowKit
set_option linter.unusedVariables false
set_option linter.unusedSimpArgs false

set_option maxRecDepth 100000 in
set_option maxHeartbeats 400000 in
theorem wbytes_any (v : Wv) (u : Value) (w : World) (hv : WvOk w v u) :
    Calls Try.prog 49 #[.agg (wvs v u)] w fun e w' => e = .returned (.string ⟨(wbV v).toArray⟩) ∧ Below w.heap.size w w' := by
  have hb0 : Below w.heap.size w (w.alloc (.cells (wvs v u) 70)) := balloc (Below.refl _ w) _
  have hV := VwP.new w v u 70
  have hO := hv.below hb0
  have hc := wcheck_any v u _ hO
  have HVV := Lib.hid hv
  obtain ⟨a, cp, hu, _⟩ := hv.at_
  subst hu
  have HPA := fun W (hW : Below w.heap.size w W) => (HVV.out.below hW).at_
  clear hO hv
  cases hk : okW v with
  | false =>
    rw [wbV_no hk]
    rw [hk] at hc
    clear hk
    obtain ⟨c0, c1, c2, c3, c4, c5, _⟩ := hV
    go_enter Try.func49, Try.ntmps49
    go_wp2_with fail
    refine hc.mono ?_
    rintro e w1 ⟨rfl, hb1⟩
    go_wp2
    go_ret
    exact ⟨rfl, bstep hb0 hb1⟩
  | true =>
    rw [hk] at hc
    obtain ⟨T1, G, T2, U, P, hBW⟩ := bytesW hk
    rw [hBW.eq]
    have hz := HVV.out
    have ht1 := fun W => text_any v.key W (by have := hz.key; omega)
    have ht3 := fun W => text_any v.val W (by have := hz.val; omega)
    have hst := fun W => bytes_any v.st.1 v.st.2 W
    have hpb := fun W (hW : Below w.heap.size w W) => pbytes_any _ v.past W hz.len hz.szd (HPA W hW)
    have hnm := fun W v0 hr => numbers_one v0 (gN v.gone) W (by cases v.gone <;> simp [gN]) hr
    rw [← hBW.t1] at ht1
    rw [← hBW.t2] at hnm
    rw [← hBW.t3] at ht3
    rw [← hBW.t4] at hst
    rw [← hBW.t5] at hpb
    have n1 : ¬ 9223372036854775807 < T1.size + G.size := by have := hBW.s1; have := hBW.s2; omega
    have n2 : ¬ 9223372036854775807 < T1.size + G.size + T2.size := by have := hBW.s1; have := hBW.s2; have := hBW.s3; omega
    have n3 : ¬ 9223372036854775807 < T1.size + G.size + T2.size + U.size := by have := hBW.s1; have := hBW.s2; have := hBW.s3; have := hBW.s4; omega
    have n4 : ¬ 9223372036854775807 < T1.size + G.size + T2.size + U.size + P.size := by have := hBW.s1; have := hBW.s2; have := hBW.s3; have := hBW.s4; have := hBW.s5; omega
    clear hBW hz HVV HPA hk
    obtain ⟨key, val, gone, ⟨n, t⟩, past⟩ := v
    dsimp only [wvs] at *
    go_enter Try.func49, Try.ntmps49
    go_wp2_with fail
    refine hc.mono ?_
    rintro e w1 ⟨rfl, hb1⟩
    obtain ⟨c0, c1, c2, c3, c4, c5, _⟩ := hV.keep hb1
    dsimp only at c0 c1 c2 c3 c4
    have b0 := bstep hb0 hb1
    clear hb0 hb1 hV hc
    have g0 : w1.cell? ⟨w.heap.size, 0, none⟩ = some (.string key) ∧ w1.cell? ⟨w.heap.size, 1, none⟩ = some (.string val) ∧ w1.cell? ⟨w.heap.size, 3, none⟩ = some (.int .i64 n) ∧ w1.cell? ⟨w.heap.size, 4, none⟩ = some (.int .i64 t) ∧ w1.cell? ⟨w.heap.size, 5, none⟩ = some (.slice a past.length cp) := ⟨c0, c1, c3, c4, c5⟩
    clear c0 c1 c3 c4 c5
    cases gone with
    | false =>
      simp only [gN, Bool.false_eq_true, if_false] at hnm
      have gA := fun o => keepV5 (balloc (Below.refl _ w1) o) g0
      have bA := fun o => balloc b0 o
      go_wp2_with fail
      go_region_held3 (fun w' => w'.cell? ⟨w.heap.size, 0, none⟩ = some (.string key) ∧ w'.cell? ⟨w.heap.size, 1, none⟩ = some (.string val) ∧ w'.cell? ⟨w.heap.size, 3, none⟩ = some (.int .i64 n) ∧ w'.cell? ⟨w.heap.size, 4, none⟩ = some (.int .i64 t) ∧ w'.cell? ⟨w.heap.size, 5, none⟩ = some (.slice a past.length cp))
        (first | exact g0 | exact gA _ | exact g1 | exact gB _ | exact g2 | exact g3 | exact g4 | exact g5)
        (first
          | (go_at_call_of 53 (key); ((with_reducible refine (ht1 _).mono ?_); rintro e wa ⟨rfl, ha⟩; have g1 := keepV5 ha (by first | exact g0 | exact gA _); have b1 := bstep (by first | exact b0.drew | exact (bA _).drew | exact bA _) ha; have gB := fun o => keepV5 (balloc (Below.refl _ wa) o) g1; have bB := fun o => balloc b1 o; try (with_reducible (have rr := (RowAt.drew (RowAt.i0 w1)).below ha))))
          | (go_at_call 55; ((first | (with_reducible refine (hnm _ _ rr).mono ?_) | (with_reducible refine (hnm _ _ (RowAt.i0 wa)).mono ?_)); rintro e wb ⟨rfl, hb⟩; have g2 := keepV5 hb (by first | exact g1 | exact gB _); have b2 := bstep (by first | exact b1 | exact bB _) hb))
          | (go_at_call_of 53 (val); ((refine (ht3 _).mono ?_); rintro e wc ⟨rfl, hc⟩; have g3 := keepV5 hc g2; have b3 := bstep b2 hc))
          | (go_at_call 82; ((refine (hst _).mono ?_); rintro e wd ⟨rfl, hd⟩; have g4 := keepV5 hd g3; have b4 := bstep b3 hd))
          | (go_at_call 83; ((refine (hpb _ b4).mono ?_); rintro e we ⟨rfl, he⟩; have g5 := keepV5 he g4; have b5 := bstep b4 he)))
      all_goals
        go_wp2
        go_ret
        exact ⟨ret_str (add5 _ _ _ _ _), b5⟩
    | true =>
      simp only [gN, if_true] at hnm
      have gA := fun o => keepV5 (balloc (Below.refl _ w1) o) g0
      have bA := fun o => balloc b0 o
      go_wp2_with fail
      go_region_held3 (fun w' => w'.cell? ⟨w.heap.size, 0, none⟩ = some (.string key) ∧ w'.cell? ⟨w.heap.size, 1, none⟩ = some (.string val) ∧ w'.cell? ⟨w.heap.size, 3, none⟩ = some (.int .i64 n) ∧ w'.cell? ⟨w.heap.size, 4, none⟩ = some (.int .i64 t) ∧ w'.cell? ⟨w.heap.size, 5, none⟩ = some (.slice a past.length cp))
        (first | exact g0 | exact gA _ | exact g1 | exact gB _ | exact g2 | exact g3 | exact g4 | exact g5)
        (first
          | (go_at_call_of 53 (key); ((with_reducible refine (ht1 _).mono ?_); rintro e wa ⟨rfl, ha⟩; have g1 := keepV5 ha (by first | exact g0 | exact gA _); have b1 := bstep (by first | exact b0.drew | exact (bA _).drew | exact bA _) ha; have gB := fun o => keepV5 (balloc (Below.refl _ wa) o) g1; have bB := fun o => balloc b1 o; try (with_reducible (have rr := (RowAt.drew (RowAt.i1 w1)).below ha))))
          | (go_at_call 55; ((first | (with_reducible refine (hnm _ _ rr).mono ?_) | (with_reducible refine (hnm _ _ (RowAt.i1 wa)).mono ?_)); rintro e wb ⟨rfl, hb⟩; have g2 := keepV5 hb (by first | exact g1 | exact gB _); have b2 := bstep (by first | exact b1 | exact bB _) hb))
          | (go_at_call_of 53 (val); ((refine (ht3 _).mono ?_); rintro e wc ⟨rfl, hc⟩; have g3 := keepV5 hc g2; have b3 := bstep b2 hc))
          | (go_at_call 82; ((refine (hst _).mono ?_); rintro e wd ⟨rfl, hd⟩; have g4 := keepV5 hd g3; have b4 := bstep b3 hd))
          | (go_at_call 83; ((refine (hpb _ b4).mono ?_); rintro e we ⟨rfl, he⟩; have g5 := keepV5 he g4; have b5 := bstep b4 he)))
      all_goals
        go_wp2
        go_ret
        exact ⟨ret_str (add5 _ _ _ _ _), b5⟩

end Go.Proofs.Ytllagelopdedfaa
/- What wire.Same and the document's Same answer of two versions. -/
namespace Go.Proofs.Ytllagelopdedfaa
open Go.RowKit
set_option linter.unusedVariables false
set_option linter.unusedSimpArgs false

def sameW (a b : Wv) : Bool := decide (a.key = b.key) && (decide (a.val = b.val) && (decide (a.gone = b.gone) && (decide (a.st = b.st) && decide (a.past = b.past))))
theorem sameW_iff (a b : Wv) : sameW a b = true ↔ a = b := by
  obtain ⟨k, v, g, s, p⟩ := a
  obtain ⟨k', v', g', s', p'⟩ := b
  simp [sameW]
theorem sameW_self (a : Wv) : sameW a a = true := (sameW_iff a a).2 rfl

set_option maxRecDepth 100000 in
set_option maxHeartbeats 800000 in
theorem wsame_any (v1 v2 : Wv) (u1 u2 : Value) (w : World) (h1 : WvOk w v1 u1) (h2 : WvOk w v2 u2) :
    Calls Try.prog 50 #[.agg (wvs v1 u1), .agg (wvs v2 u2)] w fun e w' => e = .returned (.bool (sameW v1 v2)) ∧ Below w.heap.size w w' := by
  have hb1 : Below w.heap.size w (w.alloc (.cells (wvs v1 u1) 70)) := balloc (Below.refl _ w) _
  have hV1 := VwP.new w v1 u1 70
  have hb2 := balloc (Below.refl _ (w.alloc (.cells (wvs v1 u1) 70))) (.cells (wvs v2 u2) 70)
  have hV2 := VwP.new (w.alloc (.cells (wvs v1 u1) 70)) v2 u2 70
  have hV1' := hV1.keep hb2
  have hA := (h1.below hb1).below hb2
  have hB := (h2.below hb1).below hb2
  have hbw := bstep hb1 hb2
  rw [World.size_alloc] at hV2
  have hps := fun W (k1 : WvOk W v1 u1) (k2 : WvOk W v2 u2) => same_any u1 u2 v1.past v2.past W h1.len k1.at_ k2.at_
  have heq := eq_stamp
  obtain ⟨a1, c1, hu1, _⟩ := h1.at_
  obtain ⟨a2, c2, hu2, _⟩ := h2.at_
  subst hu1 hu2
  clear h1 h2 hb1 hb2 hV1
  unfold sameW
  obtain ⟨key1, val1, gone1, ⟨n1, t1⟩, past1⟩ := v1
  obtain ⟨key2, val2, gone2, ⟨n2, t2⟩, past2⟩ := v2
  dsimp only [wvs] at *
  have heq1 := fun w' => heq w' n1 t1 n2 t2
  generalize decide (((n1, t1) : Int × Int) = (n2, t2)) = sb at *
  generalize decide (past1 = past2) = pb at *
  clear heq
  go_enter Try.func50, Try.ntmps50
  go_upto_region 1 with fail
  generalize (w.alloc (.cells #[.string key1, .string val1, .bool gone1, .int .i64 n1, .int .i64 t1, .slice a1 past1.length c1] 70)).alloc (.cells #[.string key2, .string val2, .bool gone2, .int .i64 n2, .int .i64 t2, .slice a2 past2.length c2] 70) = w2 at *
  have HA := Lib.hid hA
  have HB := Lib.hid hB
  have HBW := Lib.hid hbw
  have HV1 := Lib.hid hV1'
  have HV2 := Lib.hid hV2
  clear hA hB hbw hV1' hV2
  obtain ⟨x0, x1, x2, x3, x4, x5, _⟩ := HV1.out
  obtain ⟨y0, y1, y2, y3, y4, y5, _⟩ := HV2.out
  dsimp only at x0 x1 x2 x3 x4 y0 y1 y2 y3 y4
  by_cases hk : key1 = key2
  · subst hk
    by_cases hv : val1 = val2
    · subst hv
      rcases (show gone1 = gone2 ∨ (gone1 = true ∧ gone2 = false) ∨ (gone1 = false ∧ gone2 = true) by cases gone1 <;> cases gone2 <;> simp) with rfl | ⟨rfl, rfl⟩ | ⟨rfl, rfl⟩
      · cases sb with
        | false =>
          go_wp2
          go_ret
          exact ⟨ret_bool (by simp_all), HBW.out⟩
        | true =>
          go_wp2_with fail
          refine (hps _ HA.out HB.out).mono ?_
          rintro e w3 ⟨rfl, hb3⟩
          go_wp2
          go_ret
          exact ⟨ret_bool (by simp), bstep HBW.out hb3⟩
      · skip
        go_wp2
        go_ret
        exact ⟨ret_bool (by simp_all), HBW.out⟩
      · skip
        go_wp2
        go_ret
        exact ⟨ret_bool (by simp_all), HBW.out⟩
    · have hvl : ¬ val1.toList = val2.toList := fun h => hv (ba_inj (by rw [← Lib.toList_data, ← Lib.toList_data]; exact h))
      go_wp2
      go_ret
      exact ⟨ret_bool (by simp_all), HBW.out⟩
  · have hkl : ¬ key1.toList = key2.toList := fun h => hk (ba_inj (by rw [← Lib.toList_data, ← Lib.toList_data]; exact h))
    go_wp2
    go_ret
    exact ⟨ret_bool (by simp_all), HBW.out⟩

end Go.Proofs.Ytllagelopdedfaa
/- The chapter's example, by the law's own function. -/
namespace Go.Proofs.Ytllagelopdedfaa
open Go.RowKit
set_option linter.unusedVariables false
set_option linter.unusedSimpArgs false

def ex6 : Wv := ⟨⟨#[97]⟩, ⟨#[98]⟩, false, (3, 2), []⟩
theorem srt_nil : Srt [] := Srt.nil
theorem chk_letter (c : UInt8) (h1 : 97 ≤ c.toNat) (h2 : c.toNat ≤ 122) : Km.chk [c] = true := by
  have h : Km.run 1 ([] ++ [c]) := Km.run_snoc Km.run_nil (Km.rune_letter c h1 h2) (by simp)
  have := Km.run_chk h
  rw [List.nil_append] at this
  rw [this]
  rfl
theorem chkD_nil : chkD [] = true := by
  unfold chkD
  simp [srt_nil]
theorem ex6_ok : okW ex6 = true := by
  have h1 : Km.chk [97] = true := chk_letter 97 (by decide) (by decide)
  have e : okW ex6 = ((true && true) && Km.chk [97] && Sm.ok 3 2 && chkD []) := rfl
  rw [e, h1, chkD_nil]
  rfl
theorem ex6_bytes : wbV ex6 = [1, 97, 0, 1, 98, 3, 2, 0] := by
  rw [wbV_ok ex6_ok]
  have h2 := chkD_nil
  have e : ∀ n : Nat, n < 128 → Vm.enc n = [UInt8.ofNat n] := fun n h => Vm.enc_lt h
  simp only [wb0, ex6, txt, gN, sbytes, pbV, h2, Sm.ok]
  simp [e, pbody]
theorem ex6_read : readW [1, 97, 0, 1, 98, 3, 2, 0] = some ex6 := by
  rw [← ex6_bytes]
  exact readW_back ex6_ok

set_option maxRecDepth 100000 in
set_option maxHeartbeats 800000 in
theorem wawake_any (w : World) :
    Calls Try.prog 32 #[] w fun e w' => e = .returned (.bool true) ∧ Below w.heap.size w w' := by
  have hb1 : Below w.heap.size w (w.alloc (.cells (wvs ex6 (.slice none 0 0)) 70)) := balloc (Below.refl _ w) _
  have hv1 := VwP.new w ex6 (.slice none 0 0) 70
  have hrd := fun W => wread_any ⟨#[1, 97, 0, 1, 98, 3, 2, 0]⟩ W (by decide)
  rw [show (⟨#[1, 97, 0, 1, 98, 3, 2, 0]⟩ : ByteArray).data.toList = [1, 97, 0, 1, 98, 3, 2, 0] from rfl, ex6_read] at hrd
  have hbt := fun W (h : WvOk W ex6 (.slice none 0 0)) => wbytes_any ex6 (.slice none 0 0) W h
  rw [ex6_bytes] at hbt
  have hok : ∀ W u, DepAt W u [] → WvOk W ex6 u := fun W u h => ⟨by decide, by decide, by simp [ex6], by simp [ex6, Szd], h⟩
  have hsm := fun W u (h : DepAt W u []) => wsame_any ex6 ex6 (.slice none 0 0) u W (hok _ _ (DepAt.nil _)) (hok _ _ h)
  rw [sameW_self] at hsm
  dsimp only [gotW, ex6, wvs, Option.isSome] at *
  have HOK := Lib.hid hok
  clear hok
  go_enter Try.func32, Try.ntmps32
  go_wp2_with fail
  refine (hrd _).mono ?_
  rintro e w1 ⟨u, rfl, hd, hb2⟩
  obtain ⟨a, cp, rfl, _⟩ := id hd
  have hv2 := hv1.keep hb2
  have hb3 := bstep hb1 hb2
  have hbn := balloc (Below.refl _ w1) (.cells #[.string ⟨#[97]⟩, .string ⟨#[98]⟩, .bool false, .int .i64 3, .int .i64 2, .slice a ([] : List De).length cp] 70)
  have hlt2 : w.heap.size ≠ w1.heap.size := by have := hv2.lt; omega
  have hv4 := hv2.keep hbn
  have hv3 := VwP.new w1 ex6 (.slice a ([] : List De).length cp) 70
  dsimp only [ex6, wvs] at hv3
  have hd4 := hd.below hbn
  have hb4 := bstep hb3 hbn
  go_upto_region 3 with fail
  generalize w1.alloc (.cells #[.string ⟨#[97]⟩, .string ⟨#[98]⟩, .bool false, .int .i64 3, .int .i64 2, .slice a ([] : List De).length cp] 70) = w4 at *
  clear hv1 hv2 hb1 hb2 hb3 hbn hrd hd
  have HV4 := Lib.hid hv4
  have HV3 := Lib.hid hv3
  have HD4 := Lib.hid hd4
  obtain ⟨x0, x1, x2, x3, x4, x5, _⟩ := hv4
  obtain ⟨y0, y1, y2, y3, y4, y5, _⟩ := hv3
  dsimp only at x0 x1 x2 x3 x4 y0 y1 y2 y3 y4
  clear hd4
  go_wp2_with fail
  refine (hbt _ (HOK.out _ _ (DepAt.nil _))).mono ?_
  rintro e w5 ⟨rfl, hb5⟩
  have hv5 := HV4.out.keep hb5
  have hv6 := HV3.out.keep hb5
  have HD5 := Lib.hid (HD4.out.below hb5)
  have hbw := bstep hb4 hb5
  clear x0 x1 x2 x3 x4 x5 y0 y1 y2 y3 y4 y5
  obtain ⟨x0, x1, x2, x3, x4, x5, _⟩ := hv5
  obtain ⟨y0, y1, y2, y3, y4, y5, _⟩ := hv6
  dsimp only at x0 x1 x2 x3 x4 y0 y1 y2 y3 y4
  clear hb5 hb4
  go_wp2_with fail
  refine (hsm _ _ HD5.out).mono ?_
  rintro e w6 ⟨rfl, hb6⟩
  go_wp2
  go_ret
  exact ⟨rfl, bstep hbw hb6⟩
end Go.Proofs.Ytllagelopdedfaa
/- What the laws of rows ask: how long a row's bytes are. -/
namespace Go.Proofs.Ytllagelopdedfaa
open Go.RowKit
set_option linter.unusedVariables false
set_option linter.unusedSimpArgs false

theorem encT_len (us : List (List UInt8)) (h : ∀ u ∈ us, u.length ≤ 32) : (encT us).length ≤ 42 * us.length := by
  unfold encT
  induction us with
  | nil => simp
  | cons u us ih =>
    rw [List.flatMap_cons, List.length_append, List.length_cons]
    have h1 := ih (fun y hy => h y (List.mem_cons_of_mem _ hy))
    have h2 := h u List.mem_cons_self
    have h3 := Vm.enc_len10 (n := u.length) (by omega)
    have h4 : (txt u).length = (Vm.enc u.length).length + u.length := by unfold txt; rw [List.length_append]
    omega
theorem rowB_len {c : Rw} (h : okRw c = true) : (rowB c).length ≤ 5000 := by
  obtain ⟨⟨k1, k2, k3, k4⟩, k5, k6, k7⟩ := okRw_parts h
  have h0 := Vm.enc_len10 (n := c.rs.length) (by omega)
  have h3 := Vm.enc_len10 (n := c.pa.length) (by omega)
  have h1 := encT_len (endsOf c.rs) (fun u hu => by
    unfold endsOf at hu
    obtain ⟨r, hr, rfl⟩ := List.mem_map.1 hu
    have := okRw_small h r ((List.dropLast_sublist _).subset hr)
    exact this)
  rw [endsOf_len] at h1
  have h2 := encO_len c.ow (fun x hx => by have := k7 x hx; omega)
  have h4 := encO_len (c.pa.map (· + 1)) (fun x hx => by
    obtain ⟨y, hy, rfl⟩ := List.mem_map.1 hx
    have := k6 y hy
    omega)
  rw [encO_up, List.length_map] at h4
  unfold rowB
  simp only [List.length_append]
  omega
theorem kc6 {W w1 : World} {b o : Nat} {v : Value} (hb : Below W.heap.size W w1) (h : W.cell? ⟨b, o, none⟩ = some v) : w1.cell? ⟨b, o, none⟩ = some v := (hb.cell (p := ⟨b, o, none⟩) (World.block_lt_of_cell? W _ h)).trans h
end Go.Proofs.Ytllagelopdedfaa
/- Two ranges compared as structs. -/
namespace Go.Proofs.Ytllagelopdedfaa
open Go.RowKit
set_option linter.unusedVariables false
set_option linter.unusedSimpArgs false

theorem eq_rng (w : World) (k l k' l' : ByteArray) : (binOp .eql 44 (.agg #[.string k, .string l]) (.agg #[.string k', .string l'])).run Try.prog w = .ok (.bool (decide ((k, l) = (k', l')))) w := by
  rw [run_eql_struct, run_equalIn_agg w 9999 44 _ _ (by kernel_rfl) (by kernel_rfl)]
  unfold Program.fieldsOf
  rw [Try.underlying44]
  simp [go_sem, Try.underlying9]
  have hk : ∀ a b : ByteArray, a.toList = b.toList ↔ a = b := fun a b => by
    rw [Lib.toList_data, Lib.toList_data]
    exact ⟨fun h => ByteArray.ext (Array.toList_inj.1 h), fun h => by rw [h]⟩
  by_cases h1 : k = k' <;> by_cases h2 : l = l' <;> simp [hk, h1, h2]
theorem ne_rng (w : World) (k l k' l' : ByteArray) : (binOp .neq 44 (.agg #[.string k, .string l]) (.agg #[.string k', .string l'])).run Try.prog w = .ok (.bool (!decide ((k, l) = (k', l')))) w := by
  have h := eq_rng w k l k' l'
  rw [run_eql_struct] at h
  rw [run_neq_struct]
  generalize (Op.equalIn 10000 _ _ _).run _ _ = r at h
  cases r with
  | ok b w1 => simp at h ⊢; simp [h]
  | halt x w1 => simp at h

end Go.Proofs.Ytllagelopdedfaa
/- What the law's own 'same' answers of two rows that read alike. -/
namespace Go.Proofs.Ytllagelopdedfaa
open Go.RowKit
set_option linter.unusedVariables false
set_option linter.unusedSimpArgs false

set_option maxRecDepth 100000 in
set_option maxHeartbeats 1600000 in
theorem sameR_any (c : Rw) (u0 u1 u2 v0 v1 v2 : Value) (w : World) (hn : c.ow.length = c.rs.length) (h : RwAt w u0 u1 u2 c) (h' : RwAt w v0 v1 v2 c) :
    Calls Try.prog 37 #[.agg #[u0, u1, u2], .agg #[v0, v1, v2]] w fun e w' => e = .returned (.bool true) ∧ Below w.heap.size w w' := by
  have hb1 : Below w.heap.size w (w.alloc (.cells #[u0, u1, u2] 25)) := balloc (Below.refl _ w) _
  have hA := VrP.new w u0 u1 u2 25
  have hb2 := balloc (Below.refl _ (w.alloc (.cells #[u0, u1, u2] 25))) (.cells #[v0, v1, v2] 25)
  have hB := VrP.new (w.alloc (.cells #[u0, u1, u2] 25)) v0 v1 v2 25
  rw [World.size_alloc] at hB
  have hA2 := hA.keep hb2
  have hbw := bstep hb1 hb2
  obtain ⟨a0, p0, hu0, hq0, hm0, _, hi0⟩ := h.rs.below hbw
  obtain ⟨a1, p1, hu1, hq1, hm1, _, hi1⟩ := h.ow.below hbw
  obtain ⟨a2, p2, hu2, hq2, hm2, _, hi2⟩ := h.pa.below hbw
  obtain ⟨b0, r0, hv0, _, _, _, hj0⟩ := h'.rs.below hbw
  obtain ⟨b1, r1, hv1, _, _, _, hj1⟩ := h'.ow.below hbw
  obtain ⟨b2, r2, hv2, _, _, _, hj2⟩ := h'.pa.below hbw
  subst hu0 hu1 hu2 hv0 hv1 hv2
  obtain ⟨rs, ow, pa⟩ := c
  dsimp only at *
  unfold maxLen at hm0 hm1 hm2
  have HN := Lib.hid hn
  clear h h' hb1 hb2 hA hn
  go_enter Try.func37, Try.ntmps37
  go_upto_region 1 with fail
  generalize (w.alloc (.cells #[.slice a0 rs.length p0, .slice a1 ow.length p1, .slice a2 pa.length p2] 25)).alloc (.cells #[.slice b0 rs.length r0, .slice b1 ow.length r1, .slice b2 pa.length r2] 25) = w2 at *
  have HI0 := Lib.hid hi0
  have HI1 := Lib.hid hi1
  have HI2 := Lib.hid hi2
  have HJ0 := Lib.hid hj0
  have HJ1 := Lib.hid hj1
  have HJ2 := Lib.hid hj2
  have HBW := Lib.hid hbw
  obtain ⟨x0, x1, x2, _⟩ := hA2
  obtain ⟨y0, y1, y2, _⟩ := hB
  clear hi0 hi1 hi2 hj0 hj1 hj2 hbw
  go_wp2
  go_loopw [5] (fun i wr => ∃ k n : Nat, k ≤ rs.length ∧ i = .int .i64 k ∧ wr = w2.drewN n) (fun i _ => rs.length - (intOf i).toNat)
  case atStart => exact ⟨0, 0, by omega, rfl, rfl⟩
  case round =>
    obtain ⟨k, n, hk, rfl, rfl⟩ := hrel
    by_cases hlt : k < rs.length
    · obtain ⟨g, o, rfl, _, c0, c1⟩ := RowIn.rng HI0.out k hlt
      obtain ⟨g', o', rfl, _, d0, d1⟩ := RowIn.rng HJ0.out k hlt
      have hlt2 : k < ow.length := by rw [HN.out]; exact hlt
      obtain ⟨g2, o2, rfl, _, e0⟩ := HI1.out.int k hlt2
      obtain ⟨g3, o3, rfl, _, f0⟩ := HJ1.out.int k hlt2
      generalize rs[k] = d at c0 c1 d0 d1
      generalize ow[k] = x at e0 f0
      obtain ⟨p, q⟩ := d
      dsimp only at c0 c1 d0 d1
      have hne : ∀ w', (binOp .neq 44 (.agg #[.string p, .string q]) (.agg #[.string p, .string q])).run Try.prog w' = .ok (.bool false) w' := fun w' => by rw [ne_rng]; simp
      have k0 : (0 : Int) ≤ (k : Int) := by omega
      have k1 : (k : Int) < (rs.length : Int) := by omega
      have k2 : (k : Int) < (ow.length : Int) := by omega
      go_wp2_with fail
      go_quiet (fail)
      go_wp2
      go_roundw
      case rel => exact ⟨k + 1, _, by omega, by go_num, rfl⟩
      case measure => simp [intOf]; omega
    · have k1 : ¬ (k : Int) < (rs.length : Int) := by omega
      go_wp2
      go_loopw [6] (fun i wr => ∃ k n : Nat, k ≤ pa.length ∧ i = .int .i64 k ∧ wr = w2.drewN n) (fun i _ => pa.length - (intOf i).toNat)
      case atStart => exact ⟨0, n, by omega, rfl, rfl⟩
      case round =>
        obtain ⟨k', n', hk', rfl, rfl⟩ := hrel
        by_cases hlt' : k' < pa.length
        · obtain ⟨g, o, rfl, _, c0⟩ := HI2.out.int k' hlt'
          obtain ⟨g', o', rfl, _, d0⟩ := HJ2.out.int k' hlt'
          generalize pa[k'] = x at c0 d0
          have j0 : (0 : Int) ≤ (k' : Int) := by omega
          have j1 : (k' : Int) < (pa.length : Int) := by omega
          go_wp2_with fail
          go_quiet (fail)
          go_wp2
          go_roundw
          case rel => exact ⟨k' + 1, _, by omega, by go_num, rfl⟩
          case measure => simp [intOf]; omega
        · have j1 : ¬ (k' : Int) < (pa.length : Int) := by omega
          go_wp2
          go_ret
          exact ⟨rfl, below_drewN HBW.out _⟩
end Go.Proofs.Ytllagelopdedfaa
