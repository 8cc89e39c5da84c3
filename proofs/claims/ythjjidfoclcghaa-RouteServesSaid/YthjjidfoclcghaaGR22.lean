/- Texts of this proof, one behind the other: RouteRefServ, OpenT, StampRef, PastVal, PastSrt, PastCheck. -/
import Derived.Test.YthjjidfoclcghaaGR21
import Derived.Deep.RegionHeld3
/- What archipelagoref09's Serves answers. -/
namespace Go.Proofs.Ythjjidfoclcghaa
open Go.RowKit
set_option linter.unusedVariables false
set_option linter.unusedSimpArgs false

set_option maxRecDepth 100000 in
set_option maxHeartbeats 3200000 in
theorem refServes9_any (c : Rw) (u0 u1 u2 : Value) (s n : Int) (w : World) (h : RwAt w u0 u1 u2 c) (hl : c.rs.length ≤ 100) :
    Calls Try.prog 16 #[.agg #[u0, u1, u2], .int .i64 s, .int .i64 n] w (RngPost w (serves9 c s n)) := by
  have HW := Lib.hid h
  have HV := Lib.hid (VrP.new w u0 u1 u2 29)
  have hb0 : Below w.heap.size w (w.alloc (.cells #[u0, u1, u2] 29)) := balloc (Below.refl _ w) _
  have HB0 := Lib.hid hb0
  have hck := refChk9_any c u0 u1 u2 _ (HW.out.below hb0) hl
  clear h hb0
  cases hok : chk9 c with
  | false =>
    rw [serves9_no hok]
    rw [hok] at hck
    clear hok
    go_enter Try.func16, Try.ntmps16
    go_wp2_with fail
    refine hck.mono ?_
    rintro e w1 ⟨rfl, hb1⟩
    go_wp2
    go_ret
    exact ⟨_, rfl, OwnR.nil KR _ _, bstep HB0.out hb1⟩
  | true =>
    rw [hok] at hck
    have hT := (tOk_iff c).1 (chk9_parts hok).1
    have HT := Lib.hid hT
    have HALL := Lib.hid (srvD_all hok s n)
    generalize serves9 c s n = L at HALL ⊢
    have hr8 := hT.r8
    obtain ⟨a0, cp0, hu0, hq0, hm0, _, hri0⟩ := HW.out.rs
    obtain ⟨a1, cp1, hu1, hq1, hm1, _, hri1⟩ := HW.out.ow
    obtain ⟨a2, cp2, hu2, hq2, hm2, _, hri2⟩ := HW.out.pa
    unfold maxLen at hm0 hm1 hm2
    subst hu0 hu1 hu2
    have HR0 := Lib.hid hri0
    have HR1 := Lib.hid hri1
    have HR2 := Lib.hid hri2
    have HOL := Lib.hid hT.ol
    clear hok hT hri0 hri1 hri2
    have hol8 : c.ow.length ≤ 8 := by rw [HOL.out]; exact hr8
    have HNR := Lib.hid (fun W hW => refTNear_any c.pa a2 cp2 s W (by omega) hW)
    have HSD := Lib.hid (fun W hW => refSide_any c.pa a2 cp2 s n W (by omega) hW)
    have hN6 := Tm.nearI_len c.pa s
    have HD0 : Hid (srvD c s n 0 = []) := Lib.hid (srvD_zero c s n)
    have HDN := Lib.hid (fun i hi h => @srvD_no c s n i hi h)
    have HDY := Lib.hid (fun i hi h => @srvD_yes c s n i hi h)
    generalize Tm.nearI c.pa s = N at HALL HNR hN6 HDN HDY
    generalize hn0 : c.rs.length = n0 at *
    generalize hn1 : c.ow.length = n1 at *
    have HN0 := Lib.hid hn0
    have HN1 := Lib.hid hn1
    clear hn0 hn1
    have hSl := sideI_lt c.pa s n
    have HG : Hid (∀ o, srvG c s n o = Tm.meetN (Tm.sideI c.pa s n) o.toNat) := Lib.hid (fun o => rfl)
    have HSN0 := Lib.hid (srvK_snoc c s n)
    have HKL := Lib.hid (srvK_len c s n)
    have HK0 : Hid (srvK c s n 0 = []) := Lib.hid (srvK_zero c s n)
    generalize Tm.sideI c.pa s n = sd at HSD hSl HG
    generalize srvK c s n = F at HDY HSN0 HKL HK0
    generalize srvG c s n = G at HSN0 HG
    generalize srvD c s n = D at HALL HD0 HDN HDY
    go_enter Try.func16, Try.ntmps16
    go_wp2_with fail
    refine hck.mono ?_
    rintro e w1 ⟨rfl, hb1⟩
    have HB1 := Lib.hid (bstep HB0.out hb1)
    have HV1 := Lib.hid (HV.out.keep hb1)
    obtain ⟨c0, c1, c2, _⟩ := HV1.out
    have hnr := HNR.out w1 (HR2.out.below HB1.out)
    clear hb1 hck HB0 HV HNR
    go_wp2_with fail
    refine hnr.mono ?_
    rintro e w3 ⟨v3, rfl, ho3, hb3⟩
    have HB3 := Lib.hid (bstep HB1.out hb3)
    have HV3 := Lib.hid (HV1.out.keep hb3)
    obtain ⟨va, vc, rfl⟩ := ho3.shape
    have hvl : (Tm.ln N).length = N.length := Tm.ln_len N
    have HC := Lib.hid (RowIn.of_own ki_ok ho3)
    rw [hvl]
    clear c0 c1 c2 hb3 ho3 hnr HB1 HV1
    go_wp2_with fail
    go_loopw [8, 10] (fun o i wr => ∃ k : Nat, k ≤ N.length ∧ i = .int .i64 k ∧ OwnR KR wr w3.heap.size o (D k) ∧ Below w3.heap.size w3 wr) (fun _ i _ => N.length - (intOf i).toNat)
    case atStart => exact ⟨0, by omega, rfl, by rw [HD0.out]; exact OwnR.nil KR _ _, Below.refl _ _⟩
    case round =>
      obtain ⟨k, hk, rfl, ho, hbel⟩ := hrel
      by_cases hlt : k < N.length
      · have hlt2 : k < (Tm.ln N).length := by omega
        obtain ⟨b, off, rfl, hbl, cc⟩ := (HC.out.below hbel).int k hlt2
        rw [Tm.ln_get] at cc
        have HDN1 := Lib.hid (HDN.out k hlt)
        have HDY1 := Lib.hid (HDY.out k hlt)
        have hki : (k : Int) < (N.length : Int) := by omega
        have HCK : Hid (∀ W, Below w3.heap.size w3 W → W.cell? ⟨b, off + k, none⟩ = some (.int .i64 (N[k] : Int))) := Lib.hid (fun W hW => by
          obtain ⟨b', off', e', _, cc'⟩ := (HC.out.below hW).int k hlt2
          cases e'
          rw [Tm.ln_get] at cc'
          exact cc')
        generalize N[k] = y at cc HDN1 HDY1 HCK
        by_cases hyn : (y : Int) = n
        · have hbq : ((y : Int) == n) = true := by simpa using hyn
          obtain ⟨e1, e2⟩ := HDY1.out hyn
          rw [e1] at ho
          have HDE := Lib.hid e2
          have HO := Lib.hid ho
          have HBL := Lib.hid hbel
          clear ho hbel e1 e2 cc HDN1 HDY1
          subst hyn
          go_wp2_with fail
          go_loopw [8, 11] (fun o i wr => ∃ j : Nat, j ≤ n0 ∧ i = .int .i64 j ∧ OwnR KR wr w3.heap.size o (F j) ∧ Below w3.heap.size w3 wr) (fun _ i _ => n0 - (intOf i).toNat)
          case atStart => exact ⟨0, by omega, rfl, by rw [HK0.out]; exact HO.out, HBL.out⟩
          case round =>
            clear HO HBL
            obtain ⟨j, hj, rfl, ho, hbel⟩ := hrel
            have hbs : w3.heap.size ≤ wr.heap.size := hbel.size
            have hol : (F j).length ≤ 8 := Nat.le_trans (HKL.out j) (by omega)
            obtain ⟨sa, sc, rfl⟩ := ho.shape
            have HO := Lib.hid ho
            have HBR := Lib.hid (bstep HB3.out hbel)
            have HBL := Lib.hid hbel
            obtain ⟨c0, c1, c2, _⟩ := HV3.out.keep hbel
            have cc := HCK.out wr hbel
            clear ho hbel
            by_cases hlj : j < n0
            · have hlt0 : j < c.rs.length := by rw [HN0.out]; exact hlj
              have hlt1 : j < c.ow.length := by rw [HN1.out, HOL.out]; exact hlj
              have hlt1' : j < n1 := by rw [HOL.out]; exact hlj
              obtain ⟨b0, off0, rfl, hbl0, d0, d1⟩ := (RowIn.rng (HR0.out.below HBR.out)) j hlt0
              obtain ⟨b1, off1, rfl, hbl1, dd⟩ := (HR1.out.below HBR.out).int j hlt1
              have hob := HT.out.ob _ (List.getElem_mem hlt1)
              have hpw := HT.out.pow
              have HSN := Lib.hid (HSN0.out j (by first | exact hlt0 | exact hlj) hlt1)
              generalize F j = acc at hol HO HSN
              generalize c.rs[j] = x at d0 d1 HSN
              obtain ⟨p, q⟩ := x
              dsimp only at d0 d1
              generalize c.ow[j] = o at dd hob HSN
              obtain ⟨m, rfl⟩ : ∃ m : Nat, o = (m : Int) := ⟨o.toNat, by omega⟩
              have hm : m < 64 := by omega
              have HG1 : Hid (G (m : Int) = Tm.meetN sd m) := Lib.hid (by rw [HG.out, Int.toNat_natCast])
              have hmeet := fun W => meet9_any sd m W hSl hm
              have hki0 : (j : Int) < (n0 : Int) := by omega
              have hki1 : (j : Int) < (n1 : Int) := by omega
              have j0 : (0 : Int) ≤ (j : Int) := by omega
              clear hob hpw
              have HSDW := Lib.hid (fun (W : World) (hb : Below wr.heap.size wr W) => HSD.out W (HR2.out.below (bstep HBR.out hb)))
              generalize Tm.meetN sd m = bb at hmeet HG1
              have g0 : (wr.cell? ⟨w.heap.size, 0, none⟩ = some (.slice (some ⟨b0, off0, none⟩) n0 cp0) ∧ wr.cell? ⟨w.heap.size, 1, none⟩ = some (.slice (some ⟨b1, off1, none⟩) n1 cp1) ∧ wr.cell? ⟨w.heap.size, 2, none⟩ = some (.slice a2 c.pa.length cp2)) ∧ wr.cell? ⟨b1, off1 + j, none⟩ = some (.int .i64 (m : Int)) := ⟨⟨c0, c1, c2⟩, dd⟩
              have hdr : Below wr.heap.size wr wr.drew := (Below.refl _ _).drew
              obtain ⟨wO, hwO⟩ : ∃ wO : World, wO = wr := ⟨wr, rfl⟩
              subst hwO
              clear dd
              go_upto_region 12 with fail
              go_cut [51] (fun q wx => q = .bool bb ∧ Below wO.heap.size wO wx)
              case first =>
                clear c0 c1 c2 cc d0 d1
                go_region_held3 (fun w' => (w'.cell? ⟨w.heap.size, 0, none⟩ = some (.slice (some ⟨b0, off0, none⟩) n0 cp0) ∧ w'.cell? ⟨w.heap.size, 1, none⟩ = some (.slice (some ⟨b1, off1, none⟩) n1 cp1) ∧ w'.cell? ⟨w.heap.size, 2, none⟩ = some (.slice a2 c.pa.length cp2)) ∧ w'.cell? ⟨b1, off1 + j, none⟩ = some (.int .i64 (m : Int)))
                  (first | exact g0 | exact g1)
                  (first
                    | (go_at_call 26; ((refine (HSDW.out _ hdr).mono ?_); rintro e w5 ⟨rfl, h5⟩; have hbS := bstep hdr h5; have g1 := keepR9 hbS g0))
                    | (go_at_call 25; ((refine (hmeet _).mono ?_); rintro e w7 ⟨rfl, rfl⟩)))
                all_goals
                  go_wp2
                  go_meet
                  exact ⟨rfl, hbS⟩
              case rest =>
                obtain ⟨rfl, hbx⟩ := hcut
                have HO2 := Lib.hid (HO.out.below hbx)
                have HBX := Lib.hid (bstep HBL.out hbx)
                have hbs2 : w3.heap.size ≤ wc.heap.size := HBX.out.size
                have c0' := kc7 hbx c0
                have d0' := kc7 hbx d0
                have d1' := kc7 hbx d1
                clear hbx cc hbs g0 hdr hmeet c0 c1 c2 d0 d1
                cases bb with
                | false =>
                  go_wp2
                  go_roundw
                  case rel => exact ⟨j + 1, by omega, by go_num, by rw [HSN.out, HG1.out]; simpa using HO2.out, HBX.out⟩
                  case measure => simp [intOf]; omega
                | true =>
                  go_wp2_with (at_builtin; refine wp_pushR kr_ok (wr := wc) rfl _ _ rfl w3.heap.size (.slice sa acc.length sc) acc (p, q) #[.string p, .string q] rfl rfl HO2.out rfl (by omega) hbs2 ?_; intro g4 cap4 w4 ho4 hb4 hk4 hat4 hlt4)
                  go_wp2
                  go_roundw
                  case rel => exact ⟨j + 1, by omega, by go_num, by rw [HSN.out, HG1.out]; simpa using ho4, HBX.out.trans hb4⟩
                  case measure => simp [intOf]; omega
            · obtain rfl : j = n0 := by omega
              have hji : ¬ (j : Int) < (j : Int) := by omega
              go_wp2
              go_roundw
              case rel => exact ⟨k + 1, by omega, by go_num, by rw [HDE.out]; exact HO.out, HBL.out⟩
              case measure => simp [intOf]; omega
        · have hbq : ((y : Int) == n) = false := by simpa using hyn
          have HDE := Lib.hid (HDN1.out hyn)
          obtain ⟨c0, c1, c2, _⟩ := HV3.out.keep hbel
          obtain ⟨sa, sc, rfl⟩ := ho.shape
          have HO := Lib.hid ho
          have HBL := Lib.hid hbel
          clear ho hbel HDN1 HDY1 hyn
          go_wp2_with fail
          go_loopw [8, 11] (fun o i wz => o = .slice sa (D k).length sc ∧ i = .int .i64 0 ∧ wz = wr) (fun _ _ _ => 0)
          case atStart => exact ⟨rfl, rfl, rfl⟩
          case round =>
            obtain ⟨rfl, rfl, rfl⟩ := hrel
            by_cases hz : 0 < n0
            · have hzi : (0 : Int) < (n0 : Int) := by omega
              go_wp2
              go_roundw
              case rel => exact ⟨k + 1, by omega, by go_num, by rw [HDE.out]; exact HO.out, HBL.out⟩
              case measure => simp [intOf]; omega
            · have hzi : ¬ (0 : Int) < (n0 : Int) := by omega
              go_wp2
              go_roundw
              case rel => exact ⟨k + 1, by omega, by go_num, by rw [HDE.out]; exact HO.out, HBL.out⟩
              case measure => simp [intOf]; omega
      · obtain rfl : k = N.length := by omega
        obtain ⟨sa, sc, rfl⟩ := ho.shape
        have HO := Lib.hid ho
        clear ho
        go_wp2
        go_ret
        exact ⟨_, rfl, by rw [← HALL.out]; exact HO.out.mono HB3.out.size, bstep HB3.out hbel⟩
end Go.Proofs.Ythjjidfoclcghaa
/- Arrays of two and three ints, and slices of ints, among the arguments, opened. -/
namespace Go.Proofs.Ythjjidfoclcghaa
open Go.ChangeShapes Go.WideShapes Go.ChangeAt Go.RowKit Go.Joins Go.Deep
set_option linter.unusedVariables false

section
variable {H : Type} {enc : TypeId × Value → H} {P : Program} {w : World} {base : Nat} {spare : Nat → Bool} {held : Bool}
theorem open_intsT2 {r : Reach} {b0 : Nat} {t e : TypeId} {v : Value} {d : DataW H} {p : List MemPlace}
    (ht : P.underlying t = some (.array 2 e)) (he : P.underlying e = some (.int .i64)) (hc : P.cellsOf t = 2) (hce : P.cellsOf e = 1)
    (hv : Value.okWide P w r b0 t v) (h : DataW.Trod enc P w base spare held t v d p) :
    ∃ q0 q1 : Int, v = .agg #[.int .i64 q0, .int .i64 q1] ∧ (-9223372036854775808 ≤ q0 ∧ q0 ≤ 9223372036854775807) ∧ (-9223372036854775808 ≤ q1 ∧ q1 ≤ 9223372036854775807) := by
  obtain ⟨cs, rfl, hl, hx⟩ := open_arr ht hc hce hv h
  match cs, hl with
  | [c0, c1], _ =>
    obtain ⟨_, _, k0⟩ := hx 0 (by simp)
    obtain ⟨_, _, k1⟩ := hx 1 (by simp)
    obtain ⟨n0, e0, _, w0⟩ := DataW.trod_int he k0
    obtain ⟨n1, e1, _, w1⟩ := DataW.trod_int he k1
    simp at e0 e1
    subst e0 e1
    exact ⟨n0, n1, rfl, bounds_i64 w0, bounds_i64 w1⟩
theorem open_intsT3 {r : Reach} {b0 : Nat} {t e : TypeId} {v : Value} {d : DataW H} {p : List MemPlace}
    (ht : P.underlying t = some (.array 3 e)) (he : P.underlying e = some (.int .i64)) (hc : P.cellsOf t = 3) (hce : P.cellsOf e = 1)
    (hv : Value.okWide P w r b0 t v) (h : DataW.Trod enc P w base spare held t v d p) :
    ∃ q0 q1 q2 : Int, v = .agg #[.int .i64 q0, .int .i64 q1, .int .i64 q2] ∧ (-9223372036854775808 ≤ q0 ∧ q0 ≤ 9223372036854775807) ∧ (-9223372036854775808 ≤ q1 ∧ q1 ≤ 9223372036854775807) ∧ (-9223372036854775808 ≤ q2 ∧ q2 ≤ 9223372036854775807) := by
  obtain ⟨cs, rfl, hl, hx⟩ := open_arr ht hc hce hv h
  match cs, hl with
  | [c0, c1, c2], _ =>
    obtain ⟨_, _, k0⟩ := hx 0 (by simp)
    obtain ⟨_, _, k1⟩ := hx 1 (by simp)
    obtain ⟨_, _, k2⟩ := hx 2 (by simp)
    obtain ⟨n0, e0, _, w0⟩ := DataW.trod_int he k0
    obtain ⟨n1, e1, _, w1⟩ := DataW.trod_int he k1
    obtain ⟨n2, e2, _, w2⟩ := DataW.trod_int he k2
    simp at e0 e1 e2
    subst e0 e1 e2
    exact ⟨n0, n1, n2, rfl, bounds_i64 w0, bounds_i64 w1, bounds_i64 w2⟩
end
/-- A slice of ints that came in, as a row. -/
theorem isRow_rowT {w : World} {a : Option Addr} {len cap : Nat} {zs : List Int} (h : IsRow .i64 w a len cap zs) : ∃ l : List Int, l.length = len ∧ RowAt KI w (.slice a len cap) l ∧ ∀ z ∈ l, -9223372036854775808 ≤ z ∧ z ≤ 9223372036854775807 := by
  rcases h with ⟨rfl, rfl, rfl, rfl⟩ | ⟨x, rfl, hl, hm, hz, hcell, hwz⟩
  · exact ⟨[], rfl, ⟨none, 0, rfl, by simp, by simp, by simp, fun i hi => absurd hi (by simp)⟩, by simp⟩
  · have hlz : (zs.take len).length = len := by rw [List.length_take]; omega
    refine ⟨zs.take len, hlz, ⟨some x, cap, by rw [hlz], by omega, hm, by simp, fun i hi => ?_⟩, fun z hzz => bounds_i64 (hwz z (List.mem_of_mem_take hzz))⟩
    obtain ⟨b, off, spot⟩ := x
    have hi' : i < zs.length := by omega
    have hspot : spot = none := by simpa [Addr.add] using World.cell?_spot (hcell 0 (by omega))
    subst hspot
    have hcl := hcell i hi'
    rw [Addr.add_lit] at hcl
    refine ⟨b, off, rfl, lt_of_cellN hcl, fun j u hu => ?_⟩
    have e : (zs.take len)[i] = zs[i] := by simp
    have hj : j < 1 := by have := (List.getElem?_eq_some_iff.1 hu).1; simpa [KI] using this
    obtain rfl : j = 0 := by omega
    simp [KI] at hu ⊢
    rw [← hu]
    simpa [List.getD_eq_getElem?_getD, hi'] using hcl
end Go.Proofs.Ythjjidfoclcghaa
/- What the document's own Check, Less, Next and Max of stamps answer. -/
namespace Go.Proofs.Ythjjidfoclcghaa
open Go.RowKit
set_option linter.unusedVariables false

end Go.Proofs.Ythjjidfoclcghaa
/- Which dependencies may be; which pasts may be. -/
namespace Go.Proofs.Ythjjidfoclcghaa
open Go.RowKit
set_option linter.unusedVariables false
set_option linter.unusedSimpArgs false

/-- May this dependency be? -/
def okD (d : De) : Bool := Km.chk d.1.data.toList && Sm.ok d.2.1 d.2.2
/-- The order of keys. -/
def klt (a b : ByteArray) : Bool := Op.bytesLess a.data.toList b.data.toList

/-- A boxed dependency behind a call that only makes memory. -/
theorem box3 {w w1 : World} {x y z : Value} {T : TypeId} (hb : Below (w.alloc (.cells #[x, y, z] T)).heap.size (w.alloc (.cells #[x, y, z] T)) w1) :
    w1.cell? ⟨w.heap.size, 0, none⟩ = some x ∧ w1.cell? ⟨w.heap.size, 1, none⟩ = some y ∧ w1.cell? ⟨w.heap.size, 2, none⟩ = some z ∧ w.heap.size < w1.heap.size ∧ Below w.heap.size w w1 := by
  have hs := hb.size
  simp at hs
  refine ⟨?_, ?_, ?_, by omega, balloc (Below.refl _ _) _ |>.trans (hb.mono (by simp))⟩
  · rw [hb.cell (p := ⟨w.heap.size, 0, none⟩) (by simp)]; simp
  · rw [hb.cell (p := ⟨w.heap.size, 1, none⟩) (by simp)]; simp
  · rw [hb.cell (p := ⟨w.heap.size, 2, none⟩) (by simp)]; simp

/-- May d stand behind p? -/
def folD (p : List De) (d : De) : Bool := okD d && (match p.getLast? with | none => true | some x => klt x.1 d.1)

theorem keepC3 {W w1 : World} {b o b2 o2 b3 o3 : Nat} {x y z : Value} (hb : Below W.heap.size W w1) (h : W.cell? ⟨b, o, none⟩ = some x ∧ W.cell? ⟨b2, o2, none⟩ = some y ∧ W.cell? ⟨b3, o3, none⟩ = some z) :
    w1.cell? ⟨b, o, none⟩ = some x ∧ w1.cell? ⟨b2, o2, none⟩ = some y ∧ w1.cell? ⟨b3, o3, none⟩ = some z := ⟨kc hb h.1, kc hb h.2.1, kc hb h.2.2⟩

end Go.Proofs.Ythjjidfoclcghaa
/- Pasts that may be: rows that rise. Plain mathematics. -/
namespace Go.Proofs.Ythjjidfoclcghaa
open Go.RowKit
set_option linter.unusedVariables false

theorem ba_inj {a b : ByteArray} (h : a.data.toList = b.data.toList) : a = b := ByteArray.ext (Array.toList_inj.1 h)
theorem klt_irrefl (a : ByteArray) : klt a a = false := Km.bl_irrefl _
theorem klt_trans {a b c : ByteArray} (h : klt a b = true) (k : klt b c = true) : klt a c = true := Km.bl_trans h k
theorem klt_asymm {a b : ByteArray} (h : klt a b = true) : klt b a = false := Km.bl_asymm h
theorem klt_tri {a b : ByteArray} (h : klt a b = false) (k : klt b a = false) : a = b := ba_inj (Km.bl_tri h k)
theorem klt_ne {a b : ByteArray} (h : klt a b = true) : a ≠ b := by
  rintro rfl
  rw [klt_irrefl] at h
  cases h

/-- All may be, and the keys rise. -/
def Srt (l : List De) : Prop := (∀ d ∈ l, okD d = true) ∧ l.Pairwise (fun x y => klt x.1 y.1 = true)
instance (l : List De) : Decidable (Srt l) := inferInstanceAs (Decidable (_ ∧ _))
theorem Srt.nil : Srt [] := ⟨by simp, List.Pairwise.nil⟩
theorem Srt.take {l : List De} (h : Srt l) (k : Nat) : Srt (l.take k) := ⟨fun d hd => h.1 d (List.mem_of_mem_take hd), h.2.sublist (List.take_sublist k l)⟩
theorem Srt.tail {d : De} {l : List De} (h : Srt (d :: l)) : Srt l := ⟨fun e he => h.1 e (List.mem_cons_of_mem _ he), (List.pairwise_cons.1 h.2).2⟩
theorem Srt.sub {l m : List De} (h : Srt l) (s : m.Sublist l) : Srt m := ⟨fun d hd => h.1 d (s.subset hd), h.2.sublist s⟩

theorem srt_snoc (p : List De) (d : De) : Srt (p ++ [d]) ↔ Srt p ∧ folD p d = true := by
  unfold Srt folD
  rw [List.pairwise_append]
  constructor
  · rintro ⟨h1, h2, h3, h4⟩
    refine ⟨⟨fun e he => h1 e (by simp [he]), h2⟩, ?_⟩
    rw [h1 d (by simp), Bool.true_and]
    cases hg : p.getLast? with
    | none => rfl
    | some x =>
      have hx : x ∈ p := List.mem_of_getLast? hg
      exact h4 x hx d (by simp)
  · rintro ⟨⟨h1, h2⟩, h3⟩
    simp only [Bool.and_eq_true] at h3
    obtain ⟨h3, h4⟩ := h3
    refine ⟨fun e he => ?_, h2, List.pairwise_singleton _ _, ?_⟩
    · simp at he
      rcases he with he | rfl
      · exact h1 e he
      · exact h3
    · intro x hx y hy
      simp at hy
      subst hy
      cases hg : p.getLast? with
      | none =>
        rw [List.getLast?_eq_none_iff] at hg
        subst hg
        simp at hx
      | some z =>
        rw [hg] at h4
        simp only at h4
        obtain ⟨q, rfl⟩ := List.getLast?_eq_some_iff.1 hg
        simp at hx
        rcases hx with hx | rfl
        · exact klt_trans ((List.pairwise_append.1 h2).2.2 x hx z (by simp)) h4
        · exact h4
/-- May this past be? -/
def chkD (l : List De) : Bool := decide (l.length ≤ 24) && decide (Srt l)
theorem srt_step {l : List De} {k : Nat} (h : k < l.length) : Srt (l.take (k + 1)) ↔ Srt (l.take k) ∧ folD (l.take k) l[k] = true := by
  rw [List.take_succ_eq_append_getElem h, srt_snoc]
theorem srt_stop {l : List De} {k : Nat} (h : k < l.length) (hf : folD (l.take k) l[k] = false) : ¬ Srt l := by
  intro hs
  have := ((srt_step h).1 (hs.take (k + 1))).2
  rw [hf] at this
  cases this
theorem wid4 (l : List UInt8) : Km.wid l ≤ 4 := by
  unfold Km.wid
  split
  · omega
  · rename_i h
    exact (Km.widN_le (List.length_pos_iff.2 h)).2
theorem cnt_ge (low : Nat) (l : List UInt8) (n : Nat) (h : Km.cnt low l = some n) : l.length ≤ 4 * n := by
  induction hk : l.length using Nat.strongRecOn generalizing l n with
  | ind k ih =>
    by_cases h0 : l = []
    · subst h0
      simp at hk
      omega
    · by_cases hb : Km.wid l = 0 ∨ Km.nth l 0 < low
      · rw [Km.cnt_bad h0 hb] at h
        cases h
      · rw [Km.cnt_go h0 (by omega) (by omega)] at h
        have hp := List.length_pos_iff.2 h0
        cases hc : Km.cnt low (l.drop (Km.wid l)) with
        | none => rw [hc] at h; cases h
        | some m =>
          rw [hc] at h
          simp only [Option.map_some, Option.some.injEq] at h
          have := ih (l.drop (Km.wid l)).length (by simp; omega) (l.drop (Km.wid l)) m hc rfl
          have h4 := wid4 l
          simp at this
          omega
theorem chk_size {l : List UInt8} (h : Km.chk l = true) : l.length ≤ 32 ∧ 1 ≤ l.length := by
  unfold Km.chk Km.capV at h
  cases hc : Km.cnt 33 l with
  | none => rw [hc] at h; simp at h
  | some n =>
    rw [hc] at h
    have h1 := cnt_ge 33 l n hc
    have h2 := Km.cnt_le 33 l n hc
    simp at h
    split at h <;> simp at h
    omega
theorem okD_chk {d : De} (h : okD d = true) : Km.chk d.1.data.toList = true := by
  unfold okD at h
  simp at h
  exact h.1
theorem okD_size {d : De} (h : okD d = true) : d.1.size ≤ 32 := (chk_size (okD_chk h)).1
end Go.Proofs.Ythjjidfoclcghaa
/- What past.Check and the document's Check answer. -/
namespace Go.Proofs.Ythjjidfoclcghaa
open Go.RowKit
set_option linter.unusedVariables false
set_option linter.unusedSimpArgs false

/-- No key is longer than a string can be. -/
def Szd (l : List De) : Prop := ∀ d ∈ l, d.1.size ≤ 9223372036854775807
theorem Srt.szd {l : List De} (h : Srt l) : Szd l := fun d hd => by have := okD_size (h.1 d hd); omega

theorem boxed3 {wr w1 : World} {x y z : Value} {T : TypeId} (hb : Below (wr.alloc (.cells #[x, y, z] T)).heap.size (wr.alloc (.cells #[x, y, z] T)) w1) : Below wr.heap.size wr w1 := (box3 hb).2.2.2.2

end Go.Proofs.Ythjjidfoclcghaa
