/- The walk of the law StampRow. -/
import Derived.Test.YtmfjoiajghmeoaaStampRowMath
import Derived.Test.YtmfjoiajghmeoaaOpen3
import Derived.BigQuiet
import Derived.Deep.QuietTactic
namespace Go.Proofs.Ytmfjoiajghmeoaa
open Go.RowKit
set_option linter.unusedVariables false

theorem bytes_c (n s : Int) (l : List UInt8) (w : World) (h : sbytes n s = l) :
    Calls Try.prog 17 #[.agg #[.int .i64 n, .int .i64 s]] w fun e w' => e = .returned (.string ⟨l.toArray⟩) ∧ Below w.heap.size w w' := by
  rw [← h]
  exact bytes_any n s w
theorem sread_c (s : ByteArray) (at_ : Int) (r : Option ((Int × Int) × Nat)) (w : World) (hs : s.size ≤ 9223372036854775807) (h : Sm.rdS (rd s.data.toList) at_ = r) :
    Calls Try.prog 19 #[.string s, .int .i64 at_] w fun e w' => e = .returned (srV r) ∧ Below w.heap.size w w' := by
  rw [← h]
  exact sread_any s at_ w hs

set_option maxRecDepth 100000 in
set_option maxHeartbeats 4000000 in
theorem walkStampRow (w : World) (a : Option Addr) (l : List (Int × Int)) (cap : Nat) (hcap : l.length ≤ cap) (hmax : cap ≤ maxLen) (hnil : a = none → cap = 0) (_h : ∀ r ∈ l, In64 r) (hr : StIn w a l) :
    Calls Try.prog 9 #[.slice a l.length cap] w fun e w' => e = .returned (.bool true) ∧ Below w.heap.size w w' := by
  obtain ⟨i0, hi, hz0, hz1, hz2⟩ := info_parts info_st
  unfold maxLen at hmax
  have hl63 : l.length ≤ 9223372036854775807 := by omega
  have HR := Lib.hid hr
  clear hr hnil _h hcap hmax
  go_enter Try.func9, Try.ntmps9
  go_wp2_with fail
  refine (sawake_any _).mono ?_
  rintro e w1 ⟨rfl, hb1⟩
  have HR1 := Lib.hid (HR.out.below hb1)
  clear HR
  go_wp2_with fail
  go_loopw [4, 5, 6] (fun s m i wr => ∃ (k : Nat) (t : ByteArray), k ≤ l.length ∧ k ≤ 6 ∧ i = .int .i64 k ∧ s = .string t ∧ t.data.toList = bsl (filt l k) ∧ wr.ownsRow w1.heap.size 25 2 m (filt l k).length (stV (filt l k)) ∧ Below w1.heap.size w1 wr) (fun _ _ i _ => 6 - (intOf i).toNat)
  case atStart => exact ⟨0, ⟨#[]⟩, by omega, by omega, rfl, rfl, by simp [filt, bsl], ⟨by simp [filt, stV], .inl ⟨rfl, by simp [filt]⟩⟩, Below.refl _ _⟩
  case round =>
    obtain ⟨k, t, hk, hk6, rfl, rfl, ht, ho, hbel⟩ := hrel
    have HT := Lib.hid ht
    have htl : t.size ≤ 120 := by
      have e : t.size = t.data.toList.length := by simp
      have h1 := bsl_len (filt l k)
      have h2 := filt_len l k
      rw [e, ht]
      omega
    clear ht
    by_cases hlt : k < l.length ∧ k < 6
    · obtain ⟨hk1, hk2⟩ := hlt
      obtain ⟨b, off, rfl, hc0, hc1⟩ := HR1.out.below hbel k hk1
      have hfy := filt_yes l k hk1
      have hfn := filt_no l k hk1
      generalize hx : l[k] = x at *
      clear hx
      obtain ⟨x0, x1⟩ := x
      simp only at hc0 hc1 hfy hfn
      have HFY := Lib.hid hfy
      have HFN := Lib.hid hfn
      obtain ⟨sa, sn, sc, rfl⟩ := ownT_shape ho
      have HO := Lib.hid ho
      clear hfy hfn ho
      cases hok : Sm.ok x0 x1 with
      | false =>
        have HOK := Lib.hid hok
        clear hok
        go_wp2_with fail
        refine (check_b x0 x1 false _ HOK.out).mono ?_
        rintro e w2 ⟨rfl, hb⟩
        have HO2 := Lib.hid (own_below HO.out hb)
        replace hbel := bstep hbel hb
        clear hb hc0 hc1 HO
        go_wp2
        go_roundw
        case rel =>
          refine ⟨k + 1, t, by omega, by omega, by go_num, rfl, ?_, ?_, hbel⟩
          · rw [HFN.out HOK.out]; exact HT.out
          · rw [HFN.out HOK.out]; exact HO2.out
        case measure => simp [intOf]; omega
      | true =>
        have HOK := Lib.hid hok
        clear hok
        obtain ⟨u, hu⟩ : ∃ u, sbytes x0 x1 = u := ⟨_, rfl⟩
        have hul : u.length ≤ 20 := by rw [← hu]; exact sbytes_len x0 x1
        have HU := Lib.hid hu
        clear hu
        go_wp2_with fail
        refine (check_b x0 x1 true _ HOK.out).mono ?_
        rintro e w2 ⟨rfl, hb⟩
        have ho2 := own_below HO.out hb
        replace hbel := bstep hbel hb
        replace hc0 := kc hb hc0
        replace hc1 := kc hb hc1
        clear hb HO
        go_wp2_with fail
        refine (bytes_c x0 x1 u _ HU.out).mono ?_
        rintro e w3 ⟨rfl, hb⟩
        have ho3 := own_below ho2 hb
        replace hbel := bstep hbel hb
        replace hc0 := kc hb hc0
        replace hc1 := kc hb hc1
        clear hb ho2
        have hbs : w1.heap.size ≤ w3.heap.size := hbel.size
        have hfl : (filt l k).length ≤ 6 := by have := filt_len l k; omega
        have hov : ¬ 9223372036854775807 < t.size + u.length := by omega
        go_wp2_with (at_builtin; refine wpList_append_own _ rfl _ _ 22 rfl w1.heap.size 25 i0 _ 2 16 Try.underlying22 hi hz0 hz1 hz2 rfl (by decide) _ _ _ rfl (ho3.alloc _) ⟨w3.heap.size, 0, none⟩ 1 1 [.int .i64 x0, .int .i64 x1] rfl rfl ?d1 ?d2 ?d3 ?d4 ?d5 ?_)
        case d1 =>
          intro j v hj
          match j, hj with
          | 0, hj => simp at hj; subst hj; simp [Addr.add]
          | 1, hj => simp at hj; subst hj; simp [Addr.add]
        case d2 =>
          intro v hv
          simp at hv
          rcases hv with rfl | rfl <;> rfl
        case d3 => unfold maxLen; omega
        case d4 => omega
        case d5 => simp; omega
        intro v5 w5 ho5 hg _
        obtain ⟨k1, k2⟩ := ownT_push hbs ho3 ho5 hg
        have hbel5 := hbel.trans k2
        clear ho5 hg ho3 hbel k2 hc0 hc1
        go_wp2
        go_roundw
        case rel =>
          refine ⟨k + 1, _, by omega, by omega, by go_num, rfl, ?_, ?_, hbel5⟩
          · rw [HFY.out HOK.out, bsl_snoc, HU.out, ← HT.out]
            simp
          · rw [HFY.out HOK.out]; exact k1
        case measure => simp [intOf]; omega
    · have hms := filt_ok l k
      have hml : (filt l k).length ≤ 6 := by have := filt_len l k; omega
      generalize hM : filt l k = ms at *
      clear hM
      obtain ⟨a5, c5, rfl, hst⟩ := st_of_own ho
      have HST := Lib.hid hst
      have HOK := Lib.hid hms
      have hsz : t.size = (bsl ms).length := by
        have e : t.size = t.data.toList.length := by simp
        rw [e, HT.out]
      have HSZ := Lib.hid hsz
      have hbW := bstep hb1 hbel
      clear ho hst hms HR1 hbel hb1 hi hz0 hz1 hz2 hsz
      generalize wr = wA at *
      rcases (show (decide (k < l.length) = false) ∨ (decide (k < l.length) = true ∧ decide ((k : Int) < 6) = false) by simp; omega) with hd | ⟨hd, hd2⟩
      all_goals
        go_wp2_with fail
        go_loopw [7, 8] (fun p i wx => ∃ j : Nat, j ≤ ms.length ∧ i = .int .i64 j ∧ p = .int .i64 ((bsl (ms.take j)).length : Nat) ∧ Below wA.heap.size wA wx) (fun _ i _ => ms.length - (intOf i).toNat)
        case atStart => exact ⟨0, by omega, rfl, by simp [bsl], Below.refl _ _⟩
        case round =>
          obtain ⟨j, hj, rfl, rfl, hbx⟩ := hrel
          by_cases hjl : j < ms.length
          · obtain ⟨b, off, rfl, hc0, hc1⟩ := HST.out.below hbx j hjl
            have hro := row_read ms j hjl (HOK.out _ (List.getElem_mem hjl))
            rw [← HT.out] at hro
            have hlen := bsl_take ms j hjl
            have hpos := sbytes_pos (HOK.out _ (List.getElem_mem hjl))
            have hle : (bsl (ms.take (j + 1))).length ≤ t.size := by
              rw [HSZ.out, bsl_parts ms j hjl, hlen]
              simp
            have hcut : j + 1 = ms.length → Sm.rdS (rd (t.extract 0 (t.size - 1)).data.toList) ((bsl (ms.take j)).length : Int) = none := by
              intro hjj
              have h1 := row_cut ms j hjj (HOK.out _ (List.getElem_mem hjl))
              have h2 : (t.extract 0 (t.size - 1)).data.toList = (bsl ms).take ((bsl ms).length - 1) := by
                rw [Lib.extract_data, HT.out, HSZ.out]
                simp
              rw [h2]
              exact h1
            generalize hx : ms[j] = x at *
            clear hx
            obtain ⟨x0, x1⟩ := x
            generalize hp : (bsl (ms.take j)).length = p at *
            generalize hq : (bsl (ms.take (j + 1))).length = q at *
            clear hp
            have HQ := Lib.hid hq
            have HRO := Lib.hid hro
            have HCUT := Lib.hid hcut
            have hpq : p < q := by omega
            simp only at hc0 hc1
            clear hro hcut hlen hpos hq
            have z1 := lt_of_cellN hc0
            have hne : ∀ w', (binOp .neq 25 (.agg #[.int .i64 x0, .int .i64 x1]) (.agg #[.int .i64 x0, .int .i64 x1])).run Try.prog w' = .ok (.bool false) w' := fun w' => by rw [ne_stamp]; simp
            have t1 : decide ((q : Int) ≤ (p : Int)) = false := by simp; omega
            have t1' : decide (q ≤ p) = false := by simp; omega
            have t2 : decide ((t.size : Int) < (q : Int)) = false := by simp; omega
            have t2' : decide (t.size < q) = false := by simp; omega
            have j1 : (0 : Int) ≤ (j : Int) := by omega
            have j2 : (j : Int) < (ms.length : Int) := by omega
            go_wp2_with fail
            refine (sread_c t p (some ((x0, x1), q)) _ (by omega) HRO.out).mono ?_
            rintro e w2 ⟨rfl, hb⟩
            rw [srV]
            replace hc0 := kc (bstep hb (balloc (Below.refl _ _) (.cells #[.int .i64 x0, .int .i64 x1] 25))) hc0
            replace hc1 := kc (bstep hb (balloc (Below.refl _ _) (.cells #[.int .i64 x0, .int .i64 x1] 25))) hc1
            replace hbx := bstep hbx hb
            clear hb z1
            have z0 : 1 ≤ t.size := by omega
            by_cases hlast : j + 1 = ms.length
            · have l1 : ((j : Int) == (ms.length : Int) - 1) = true := by simp; omega
              have HC := Lib.hid (HCUT.out hlast)
              have HJ := Lib.hid hlast
              have s1 : (1 : Int) ≤ (t.size : Int) := by omega
              have s2 : (0 : Int) ≤ (t.size : Int) - 1 := by omega
              have s3 : ((t.size : Int) - 1).toNat = t.size - 1 := by omega
              have s4 : (t.size : Int) - 1 ≤ (t.size : Int) := by omega
              clear HCUT hlast
              go_wp2_with fail
              go_quiet (fail)
              go_wp2_with fail
              refine (sread_c _ p none _ (by simp; omega) HC.out).mono ?_
              rintro e w3 ⟨rfl, hb⟩
              rw [srV]
              replace hbx := bstep (below_drewN (balloc hbx _) _) hb
              clear hb hc0 hc1 s1 s2 s3 s4
              go_wp2
              go_roundw
              case rel => exact ⟨j + 1, by omega, by go_num, by rw [HQ.out], balloc hbx _⟩
              case measure => simp [intOf]; omega
            · have l1 : ((j : Int) == (ms.length : Int) - 1) = false := by simp; omega
              have HJ := Lib.hid hlast
              clear HCUT hlast
              go_wp2_with fail
              go_quiet (fail)
              go_wp2
              go_roundw
              case rel => exact ⟨j + 1, by omega, by go_num, by rw [HQ.out], below_drewN (balloc hbx _) _⟩
              case measure => simp [intOf]; omega
          · obtain rfl : j = ms.length := by omega
            have hbF := bstep hbW hbx
            have hfin : (((bsl (ms.take ms.length)).length : Nat) : Int) = (t.size : Int) := by rw [List.take_length, HSZ.out]
            rw [hfin]
            clear hfin
            go_wp2
            go_ret
            exact ⟨rfl, hbF⟩
end Go.Proofs.Ytmfjoiajghmeoaa
