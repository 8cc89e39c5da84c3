/- What table.Ranges answers, and the document's. -/
import Derived.Test.YtllagelopdedfaaTabOwn
import Derived.Deep.DeepCutAuto
namespace Go.Proofs.Ytllagelopdedfaa
open Go.RowKit
set_option linter.unusedVariables false
set_option linter.unusedSimpArgs false

/-- The ranges that a site owns, of the first ones. -/
def rngsK (c : Rw) (s : Int) (k : Nat) : List (ByteArray × ByteArray) := (((c.rs.zip c.ow).take k).filter fun x => bitN x.2.toNat s).map (·.1)
theorem rngsK_zero (c : Rw) (s : Int) : rngsK c s 0 = [] := rfl
theorem rngsK_snoc (c : Rw) (s : Int) (k : Nat) (h : k < c.rs.length) (h' : k < c.ow.length) : rngsK c s (k + 1) = rngsK c s k ++ (if bitN (c.ow[k]).toNat s then [c.rs[k]] else []) := by
  unfold rngsK
  have hz : k < (c.rs.zip c.ow).length := by simp; omega
  rw [List.take_succ_eq_append_getElem hz, List.filter_append, List.map_append]
  congr 1
  rw [List.getElem_zip]
  split <;> rename_i hq <;> simp [hq]
theorem rngsK_all {c : Rw} {s : Int} (h : tOk c = true) : rngsK c s c.rs.length = rngsN c s := by
  unfold rngsK rngsN
  rw [if_pos h, List.take_of_length_le (by simp; omega)]
theorem rngsK_len (c : Rw) (s : Int) (k : Nat) : (rngsK c s k).length ≤ k := by
  unfold rngsK
  rw [List.length_map]
  refine Nat.le_trans (List.length_filter_le _ _) ?_
  simp
  omega
theorem rngsN_no {c : Rw} (h : tOk c = false) (s : Int) : rngsN c s = [] := by
  unfold rngsN
  rw [if_neg (by simp [h])]
theorem rngsN_far {c : Rw} {s : Int} (h : s < 0 ∨ 6 ≤ s) : rngsN c s = [] := by
  by_cases hk : tOk c = true
  · have hT := (tOk_iff c).1 hk
    have hp := hT.pow
    unfold rngsN
    rw [if_pos hk]
    rw [List.map_eq_nil_iff, List.filter_eq_nil_iff]
    intro x hx
    have hm : x.2 ∈ c.ow := by
      obtain ⟨r, o⟩ := x
      exact (List.of_mem_zip hx).2
    have := hT.ob _ hm
    rcases h with h | h
    · rw [bitN_neg h]; simp
    · rw [bitN_far (by omega) h]; simp
  · exact rngsN_no (by simpa using hk) s

/-- What the calls leave. -/
def RngPost (w : World) (l : List (ByteArray × ByteArray)) (e : Ending) (w' : World) : Prop := ∃ v, e = .returned v ∧ OwnR KR w' w.heap.size v l ∧ Below w.heap.size w w'

set_option maxRecDepth 100000 in
set_option maxHeartbeats 1600000 in
theorem ranges7_any (c : Rw) (u0 u1 u2 : Value) (s : Int) (w : World) (h : RwAt w u0 u1 u2 c) (hs : -9223372036854775808 ≤ s ∧ s ≤ 9223372036854775807) :
    Calls Try.prog 15 #[.agg #[u0, u1, u2], .int .i64 s] w (RngPost w (rngsN c s)) := by
  have HW := Lib.hid h
  have hV := VrP.new w u0 u1 u2 25
  have hb0 : Below w.heap.size w (w.alloc (.cells #[u0, u1, u2] 25)) := balloc (Below.refl _ w) _
  clear h
  have hck := check7_any c u0 u1 u2 _ (HW.out.below hb0)
  obtain ⟨hs1, hs2⟩ := hs
  cases hok : tOk c with
  | false =>
    rw [rngsN_no hok]
    rw [hok] at hck
    clear hok
    go_enter Try.func15, Try.ntmps15
    go_wp2_with fail
    go_step3
    go_wp2_with fail
    refine hck.mono ?_
    rintro e w1 ⟨rfl, hb1⟩
    go_wp2
    try rw [Exit.noGoto_ret]
    go_ret
    exact ⟨_, rfl, OwnR.nil KR _ _, bstep hb0 hb1⟩
  | true =>
    rw [hok] at hck
    have hT := (tOk_iff c).1 hok
    have HT := Lib.hid hT
    have HALL := Lib.hid (rngsK_all hok (s := s))
    generalize rngsN c s = L at HALL ⊢
    have hr8 := hT.r8
    obtain ⟨a0, cp0, hu0, hq0, hm0, _, hri0⟩ := HW.out.rs
    obtain ⟨a1, cp1, hu1, hq1, hm1, _, hri1⟩ := HW.out.ow
    unfold maxLen at hm0 hm1
    subst hu0 hu1
    have HR0 := Lib.hid hri0
    have HR1 := Lib.hid hri1
    have HOL := Lib.hid hT.ol
    clear hok hT hri0 hri1
    have hol8 : c.ow.length ≤ 8 := by rw [HOL.out]; exact hr8
    generalize hn0 : c.rs.length = n0 at *
    generalize hn1 : c.ow.length = n1 at *
    have HN0 := Lib.hid hn0
    have HN1 := Lib.hid hn1
    clear hn0 hn1
    have HB0 := Lib.hid hb0
    have HV := Lib.hid hV
    clear hb0 hV
    go_enter Try.func15, Try.ntmps15
    go_wp2_with fail
    go_step3
    go_wp2_with fail
    refine hck.mono ?_
    rintro e w1 ⟨rfl, hb1⟩
    have HBW := Lib.hid (bstep HB0.out hb1)
    have hV1 := HV.out.keep hb1
    have HV1 := Lib.hid hV1
    obtain ⟨c0, c1, c2, _⟩ := hV1
    clear hb1 hck
    go_wp2_with fail
    go_step3
    go_wp2_with fail
    go_loopw [5, 14] (fun o i wr => ∃ k : Nat, k ≤ n0 ∧ i = .int .i64 k ∧ OwnR KR wr w1.heap.size o (rngsK c s k) ∧ Below w1.heap.size w1 wr) (fun _ i _ => n0 - (intOf i).toNat)
    case atStart => exact ⟨0, by omega, rfl, OwnR.nil KR _ _, Below.refl _ _⟩
    case round =>
      obtain ⟨k, hk, rfl, ho, hbel⟩ := hrel
      have hbs : w1.heap.size ≤ wr.heap.size := hbel.size
      have hol : (rngsK c s k).length ≤ 8 := Nat.le_trans (rngsK_len c s k) (by omega)
      obtain ⟨sa, sc, rfl⟩ := ho.shape
      have HO := Lib.hid ho
      have HBR := Lib.hid (bstep HBW.out hbel)
      have HBL := Lib.hid hbel
      have hVr := HV1.out.keep hbel
      have hVl := hVr.lt
      clear c0 c1 c2 ho hbel
      obtain ⟨c0, c1, c2, _⟩ := hVr
      by_cases hlt : k < n0
      · have hlt0 : k < c.rs.length := by rw [HN0.out]; exact hlt
        have hlt1 : k < c.ow.length := by rw [HN1.out, HOL.out]; exact hlt
        have hlt1' : k < n1 := by rw [HOL.out]; exact hlt
        obtain ⟨b, off, rfl, hbl, d0, d1⟩ := (RowIn.rng (HR0.out.below HBR.out)) k hlt0
        obtain ⟨b', off', rfl, hbl', cc⟩ := (HR1.out.below HBR.out).int k hlt1
        have hob := HT.out.ob _ (List.getElem_mem hlt1)
        have hpw := HT.out.pow
        have HSN := Lib.hid (rngsK_snoc c s k hlt0 hlt1)
        generalize rngsK c s k = acc at hol HO HSN
        generalize c.rs[k] = x at d0 d1 HSN
        obtain ⟨p, q⟩ := x
        dsimp only at d0 d1
        generalize c.ow[k] = o at cc hob HSN
        obtain ⟨m, rfl⟩ : ∃ m : Nat, o = (m : Int) := ⟨o.toNat, by omega⟩
        rw [Int.toNat_natCast] at HSN
        have hm : m < 64 := by omega
        have HH := fun W => has7_any m s W hm ⟨hs1, hs2⟩
        have hb2 : Below wr.heap.size wr (wr.alloc (.cells #[.string p, .string q] 44)) := balloc (Below.refl _ _) _
        have hki : (k : Int) < (n0 : Int) := by omega
        have hki1 : (k : Int) < (n1 : Int) := by omega
        clear hob hpw
        generalize bitN m s = bb at HH HSN
        cases bb with
        | false =>
          go_wp2_with fail
          refine (HH _).mono ?_
          rintro e w2 ⟨rfl, rfl⟩
          go_wp2
          go_roundw
          case rel => exact ⟨k + 1, by omega, by go_num, by rw [HSN.out]; simpa using HO.out.below hb2, bstep HBL.out hb2⟩
          case measure => simp [intOf]; omega
        | true =>
          go_wp2_with fail
          refine (HH _).mono ?_
          rintro e w2 ⟨rfl, rfl⟩
          have HO2 := Lib.hid (HO.out.below hb2)
          have HBX := Lib.hid (bstep HBL.out hb2)
          have e0 : (wr.alloc (.cells #[.string p, .string q] 44)).cell? ⟨wr.heap.size, 0, none⟩ = some (.string p) := by simp
          have e1 : (wr.alloc (.cells #[.string p, .string q] 44)).cell? ⟨wr.heap.size, 1, none⟩ = some (.string q) := by simp
          have hsz : wr.heap.size < (wr.alloc (.cells #[.string p, .string q] 44)).heap.size := by simp
          have hbs2 : w1.heap.size ≤ (wr.alloc (.cells #[.string p, .string q] 44)).heap.size := by simp; omega
          clear hb2
          generalize wr.alloc (.cells #[.string p, .string q] 44) = wx at *
          go_wp2_with (at_builtin; refine wp_pushR kr_ok (wr := wx) rfl _ _ rfl w1.heap.size (.slice sa acc.length sc) acc (p, q) #[.string p, .string q] rfl rfl HO2.out rfl (by omega) hbs2 ?_; intro g2 cap2 w2 ho2 hb2 hk2 hat2 hlt2)
          go_wp2
          go_roundw
          case rel => exact ⟨k + 1, by omega, by go_num, by rw [HSN.out]; simpa using ho2, HBX.out.trans hb2⟩
          case measure => simp [intOf]; omega
      · obtain rfl : k = n0 := by omega
        go_wp2
        try rw [Exit.noGoto_ret]
        go_ret
        exact ⟨_, rfl, by rw [← HALL.out]; exact HO.out.mono HBW.out.size, HBR.out⟩
end Go.Proofs.Ytllagelopdedfaa
