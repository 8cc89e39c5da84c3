/- What the document's Ranges answers, and whether two rows of ranges are the same. -/
import Derived.Test.YtllagelopdedfaaTabRng
import Derived.Test.YtllagelopdedfaaEqRng
namespace Go.Proofs.Ytllagelopdedfaa
open Go.RowKit
set_option linter.unusedVariables false
set_option linter.unusedSimpArgs false

set_option maxRecDepth 100000 in
set_option maxHeartbeats 1600000 in
theorem refRanges7_any (c : Rw) (u0 u1 u2 : Value) (s : Int) (w : World) (h : RwAt w u0 u1 u2 c) (hl : c.rs.length ≤ 100) (hs : -9223372036854775808 ≤ s ∧ s ≤ 9223372036854775807) :
    Calls Try.prog 16 #[.agg #[u0, u1, u2], .int .i64 s] w (RngPost w (rngsN c s)) := by
  have HW := Lib.hid h
  have hV := VrP.new w u0 u1 u2 25
  have hb0 : Below w.heap.size w (w.alloc (.cells #[u0, u1, u2] 25)) := balloc (Below.refl _ w) _
  clear h
  have hck := refCheck7_any c u0 u1 u2 _ (HW.out.below hb0) hl
  obtain ⟨hs1, hs2⟩ := hs
  obtain ⟨a0, cp0, hu0, hq0, hm0, _, hri0⟩ := HW.out.rs
  obtain ⟨a1, cp1, hu1, hq1, hm1, _, hri1⟩ := HW.out.ow
  unfold maxLen at hm0 hm1
  subst hu0 hu1
  by_cases hgo : tOk c = true ∧ 0 ≤ s ∧ s < 6
  · obtain ⟨hok, hs3, hs4⟩ := hgo
    rw [hok] at hck
    have hT := (tOk_iff c).1 hok
    have HT := Lib.hid hT
    have HALL := Lib.hid (rngsK_all hok (s := s))
    generalize rngsN c s = L at HALL ⊢
    have hr8 := hT.r8
    have HR0 := Lib.hid hri0
    have HR1 := Lib.hid hri1
    have HOL := Lib.hid hT.ol
    clear hok hT hri0 hri1
    have hol8 : c.ow.length ≤ 8 := by rw [HOL.out]; exact hr8
    generalize hn0 : c.rs.length = n0 at *
    generalize hn1 : c.ow.length = n1 at *
    have HN0 := Lib.hid hn0
    have HN1 := Lib.hid hn1
    clear hn0 hn1
    have HB0 := Lib.hid hb0
    have HV := Lib.hid hV
    clear hb0 hV
    obtain ⟨sn, rfl⟩ : ∃ sn : Nat, s = (sn : Int) := ⟨s.toNat, by omega⟩
    go_enter Try.func16, Try.ntmps16
    go_wp2_with fail
    refine hck.mono ?_
    rintro e w1 ⟨rfl, hb1⟩
    have HBW := Lib.hid (bstep HB0.out hb1)
    have HV1 := Lib.hid (HV.out.keep hb1)
    clear hb1 hck
    go_wp2_with fail
    go_loopw [6, 7] (fun o i wr => ∃ k : Nat, k ≤ n0 ∧ i = .int .i64 k ∧ OwnR KR wr w1.heap.size o (rngsK c (sn : Int) k) ∧ Below w1.heap.size w1 wr) (fun _ i _ => n0 - (intOf i).toNat)
    case atStart => exact ⟨0, by omega, rfl, OwnR.nil KR _ _, Below.refl _ _⟩
    case round =>
      obtain ⟨k, hk, rfl, ho, hbel⟩ := hrel
      have hbs : w1.heap.size ≤ wr.heap.size := hbel.size
      have hol : (rngsK c (sn : Int) k).length ≤ 8 := Nat.le_trans (rngsK_len c (sn : Int) k) (by omega)
      obtain ⟨sa, sc, rfl⟩ := ho.shape
      have HO := Lib.hid ho
      have HBR := Lib.hid (bstep HBW.out hbel)
      have HBL := Lib.hid hbel
      have hVr := HV1.out.keep hbel
      have hVl := hVr.lt
      clear ho hbel
      obtain ⟨c0, c1, c2, _⟩ := hVr
      by_cases hlt : k < n0
      · have hlt0 : k < c.rs.length := by rw [HN0.out]; exact hlt
        have hlt1 : k < c.ow.length := by rw [HN1.out, HOL.out]; exact hlt
        have hlt1' : k < n1 := by rw [HOL.out]; exact hlt
        obtain ⟨b, off, rfl, hbl, d0, d1⟩ := (RowIn.rng (HR0.out.below HBR.out)) k hlt0
        obtain ⟨b', off', rfl, hbl', cc⟩ := (HR1.out.below HBR.out).int k hlt1
        have hob := HT.out.ob _ (List.getElem_mem hlt1)
        have hpw := HT.out.pow
        have HSN := Lib.hid (rngsK_snoc c (sn : Int) k hlt0 hlt1)
        generalize rngsK c (sn : Int) k = acc at hol HO HSN
        generalize c.rs[k] = x at d0 d1 HSN
        obtain ⟨p, q⟩ := x
        dsimp only at d0 d1
        generalize c.ow[k] = o at cc hob HSN
        obtain ⟨m, rfl⟩ : ∃ m : Nat, o = (m : Int) := ⟨o.toNat, by omega⟩
        rw [Int.toNat_natCast] at HSN
        have hm : m < 64 := by omega
        have HH := fun W => bit7_any m sn W hm (by omega)
        have hki : (k : Int) < (n0 : Int) := by omega
        have hki1 : (k : Int) < (n1 : Int) := by omega
        clear hob hpw
        generalize bitN m (sn : Int) = bb at HH HSN
        cases bb with
        | false =>
          go_wp2_with fail
          refine (HH _).mono ?_
          rintro e w2 ⟨rfl, rfl⟩
          go_wp2
          go_roundw
          case rel => exact ⟨k + 1, by omega, by go_num, by rw [HSN.out]; simpa using HO.out, HBL.out⟩
          case measure => simp [intOf]; omega
        | true =>
          go_wp2_with fail
          refine (HH _).mono ?_
          rintro e w2 ⟨rfl, rfl⟩
          go_wp2_with (at_builtin; refine wp_pushR kr_ok (wr := wr) rfl _ _ rfl w1.heap.size (.slice sa acc.length sc) acc (p, q) #[.string p, .string q] rfl rfl HO.out rfl (by omega) hbs ?_; intro g2 cap2 w2 ho2 hb2 hk2 hat2 hlt2)
          go_wp2
          go_roundw
          case rel => exact ⟨k + 1, by omega, by go_num, by rw [HSN.out]; simpa using ho2, HBL.out.trans hb2⟩
          case measure => simp [intOf]; omega
      · obtain rfl : k = n0 := by omega
        go_wp2
        go_ret
        exact ⟨_, rfl, by rw [← HALL.out]; exact HO.out.mono HBW.out.size, HBR.out⟩
  · have hnil : rngsN c s = [] := by
      by_cases h1 : tOk c = true
      · refine rngsN_far ?_
        by_cases h2 : s < 0
        · exact .inl h2
        · exact .inr (by have : ¬ s < 6 := fun h3 => hgo ⟨h1, by omega, h3⟩; omega)
      · exact rngsN_no (by simpa using h1) s
    rw [hnil]
    clear hnil
    have hno : tOk c = false ∨ (tOk c = true ∧ decide (0 ≤ s) = false) ∨ (tOk c = true ∧ 0 ≤ s ∧ ¬ s < 6) := by
      cases h1 : tOk c
      · exact .inl rfl
      · refine .inr ?_
        by_cases h2 : 0 ≤ s
        · exact .inr ⟨rfl, h2, fun h3 => hgo ⟨h1, h2, h3⟩⟩
        · exact .inl ⟨rfl, decide_eq_false h2⟩
    have HN := Lib.hid hno
    clear hno hgo hri0 hri1
    generalize tOk c = ok at hck HN
    generalize hn0 : c.rs.length = n0 at *
    have HN0 := Lib.hid hn0
    clear hn0
    have HB0 := Lib.hid hb0
    have HV := Lib.hid hV
    clear hb0 hV
    go_enter Try.func16, Try.ntmps16
    go_wp2_with fail
    refine hck.mono ?_
    rintro e w1 ⟨rfl, hb1⟩
    have HBW := Lib.hid (bstep HB0.out hb1)
    have HV1 := Lib.hid (HV.out.keep hb1)
    clear hb1 hck
    go_wp2_with fail
    go_loopw [6, 7] (fun o i wr => o = .slice none 0 0 ∧ i = .int .i64 0 ∧ wr = w1) (fun _ _ _ => 0)
    case atStart => exact ⟨rfl, rfl, rfl⟩
    case round =>
      obtain ⟨rfl, rfl, rfl⟩ := hrel
      obtain ⟨c0, c1, c2, _⟩ := HV1.out
      by_cases hz : 0 < n0
      rotate_left
      · have hzi : ¬ (0 : Int) < (n0 : Int) := by omega
        go_wp2
        go_ret
        exact ⟨_, rfl, OwnR.nil KR _ _, HBW.out⟩
      · have hzi : (0 : Int) < (n0 : Int) := by omega
        rcases HN.out with rfl | ⟨rfl, h2⟩ | ⟨rfl, h2, h3⟩
        · go_wp2
          go_ret
          exact ⟨_, rfl, OwnR.nil KR _ _, HBW.out⟩
        · go_wp2
          go_ret
          exact ⟨_, rfl, OwnR.nil KR _ _, HBW.out⟩
        · go_wp2
          go_ret
          exact ⟨_, rfl, OwnR.nil KR _ _, HBW.out⟩

set_option maxRecDepth 100000 in
set_option maxHeartbeats 800000 in
theorem sameRanges7_any (u v : Value) (l : List (ByteArray × ByteArray)) (w : World) (hl : l.length ≤ 100) (h : RowAt KR w u l) (h' : RowAt KR w v l) :
    Calls Try.prog 14 #[u, v] w fun e w' => e = .returned (.bool true) ∧ Below w.heap.size w w' := by
  obtain ⟨a0, p0, hu0, hq0, hm0, _, hi0⟩ := h
  obtain ⟨b0, r0, hv0, _, _, _, hj0⟩ := h'
  subst hu0 hv0
  have HI0 := Lib.hid hi0
  have HJ0 := Lib.hid hj0
  clear hi0 hj0
  go_enter Try.func14, Try.ntmps14
  go_wp2
  go_loopw [5] (fun i wr => ∃ k n : Nat, k ≤ l.length ∧ i = .int .i64 k ∧ wr = w.drewN n) (fun i _ => l.length - (intOf i).toNat)
  case atStart => exact ⟨0, 0, by omega, rfl, rfl⟩
  case round =>
    obtain ⟨k, n, hk, rfl, rfl⟩ := hrel
    by_cases hlt : k < l.length
    · obtain ⟨g, o, rfl, _, c0, c1⟩ := RowIn.rng HI0.out k hlt
      obtain ⟨g', o', rfl, _, d0, d1⟩ := RowIn.rng HJ0.out k hlt
      generalize l[k] = d at c0 c1 d0 d1
      obtain ⟨p, q⟩ := d
      dsimp only at c0 c1 d0 d1
      have hne : ∀ w', (binOp .neq 44 (.agg #[.string p, .string q]) (.agg #[.string p, .string q])).run Try.prog w' = .ok (.bool false) w' := fun w' => by rw [ne_rng]; simp
      have k0 : (0 : Int) ≤ (k : Int) := by omega
      have k1 : (k : Int) < (l.length : Int) := by omega
      go_wp2_with fail
      go_quiet (fail)
      go_wp2
      go_roundw
      case rel => exact ⟨k + 1, _, by omega, by go_num, rfl⟩
      case measure => simp [intOf]; omega
    · have k1 : ¬ (k : Int) < (l.length : Int) := by omega
      go_wp2
      go_ret
      exact ⟨rfl, below_drewN (Below.refl _ _) _⟩
end Go.Proofs.Ytllagelopdedfaa
