/- PastTells, walked: pasts are asked, and put together, as the document says. -/
import Derived.Test.YtplpeokmhomojaaPastAwake
import Derived.Test.YtplpeokmhomojaaPastMade
import Derived.Test.YtplpeokmhomojaaPastAdd
import Derived.Test.YtplpeokmhomojaaPastOnly
import Derived.Test.YtplpeokmhomojaaPastLawMath
import Derived.Test.YtplpeokmhomojaaOpen4
import Derived.Test.YtplpeokmhomojaaPastRefCov
import Derived.Deep.RegionHeld3
import Derived.Deep.DeepCutAuto
namespace Go.Proofs.Ytplpeokmhomojaa
open Go.RowKit
set_option linter.unusedVariables false
set_option linter.unusedSimpArgs false

/-- A cell that holds a slice is none of a past's. -/
theorem DepAt.put {w : World} {v : Value} {l : List De} (h : DepAt w v l) {q : Addr} {x : Option Addr} {y c : Nat} (hq : w.cell? q = some (.slice x y c)) (u : Value) : DepAt (w.setCell q u) v l := by
  obtain ⟨a, cap, rfl, h1, h2, h3, hr⟩ := h
  refine ⟨a, cap, rfl, h1, h2, h3, fun i hi => ?_⟩
  obtain ⟨b, off, e, hlt, c0, c1, c2⟩ := hr i hi
  have hne : ∀ {p : Addr} {z : Value}, w.cell? p = some z → (∀ x y c, z ≠ .slice x y c) → (w.setCell q u).cell? p = some z := by
    intro p z hp hz
    rw [World.cell?_setCell_other _ _ _ _ (fun e => by subst e; rw [hq] at hp; exact hz _ _ _ (Option.some.inj hp).symm)]
    exact hp
  exact ⟨b, off, e, by simpa [World.setCell] using hlt, hne c0 (by simp), hne c1 (by simp), hne c2 (by simp)⟩
theorem RngIn.put {w : World} {a : Option Addr} {rs : List (ByteArray × ByteArray)} (h : RngIn w a rs) {q : Addr} {x : Option Addr} {y c : Nat} (hq : w.cell? q = some (.slice x y c)) (u : Value) : RngIn (w.setCell q u) a rs := by
  intro i hi
  obtain ⟨b, off, e, hlt, c0, c1⟩ := h i hi
  have hne : ∀ {p : Addr} {z : Value}, w.cell? p = some z → (∀ x y c, z ≠ .slice x y c) → (w.setCell q u).cell? p = some z := by
    intro p z hp hz
    rw [World.cell?_setCell_other _ _ _ _ (fun e => by subst e; rw [hq] at hp; exact hz _ _ _ (Option.some.inj hp).symm)]
    exact hp
  exact ⟨b, off, e, by simpa [World.setCell] using hlt, hne c0 (by simp), hne c1 (by simp)⟩
theorem RngIn.take {w : World} {a : Option Addr} {rs : List (ByteArray × ByteArray)} (h : RngIn w a rs) (k : Nat) : RngIn w a (rs.take k) := by
  intro i hi
  have hi' : i < rs.length := by simp at hi; omega
  obtain ⟨b, off, e, hlt, h0, h1⟩ := h i hi'
  exact ⟨b, off, e, hlt, by simpa using h0, by simpa using h1⟩
theorem refPSame_t (v1 v2 : Value) (l : List De) (w : World) (hl : l.length ≤ 1000000) (h1 : DepAt w v1 l) (h2 : DepAt w v2 l) :
    Calls Try.prog 11 #[v1, v2] w fun e w' => e = .returned (.bool true) ∧ Below w.heap.size w w' := by
  have h := refPSame_any v1 v2 l l w hl h1 h2
  rw [show decide (l = l) = true from decide_eq_true rfl] at h
  exact h
theorem pop_mem (p o : List De) (d : De) : d ∈ [p, o, p].flatten ↔ d ∈ [p, o].flatten := by
  simp
  constructor
  · rintro (h | h | h)
    · exact .inl h
    · exact .inr h
    · exact .inl h
  · rintro (h | h)
    · exact .inl h
    · exact .inr (.inl h)
theorem chkD_srt {l : List De} (h : Srt l) (hl : l.length ≤ 24) : chkD l = true := by simp [chkD, h, hl]
/-- The box of what is asked. -/
abbrev Box4 (w : World) (B : Nat) (k : ByteArray) (n s : Int) (r : Value) : Prop := w.cell? ⟨B, 0, none⟩ = some (.string k) ∧ w.cell? ⟨B, 1, none⟩ = some (.int .i64 n) ∧ w.cell? ⟨B, 2, none⟩ = some (.int .i64 s) ∧ w.cell? ⟨B, 3, none⟩ = some r
theorem Box4.put {w : World} {B : Nat} {k : ByteArray} {n s : Int} {r : Value} (h : Box4 w B k n s r) (r' : Value) : Box4 (w.setCell ⟨B, 3, none⟩ r') B k n s r' := by
  refine ⟨?_, ?_, ?_, World.cell?_setCell_same _ _ _ h.2.2.2⟩ <;> rw [World.cell?_setCell_other _ _ _ _ (by simp)]
  · exact h.1
  · exact h.2.1
  · exact h.2.2.1

set_option maxRecDepth 100000 in
set_option maxHeartbeats 12800000 in
theorem walkPastTells (w : World) (v : Value) (l : List De) (hr : DepAt w v l) (hz : Szd l) (hi64 : ∀ d ∈ l, In64 d.2) (v2 : Value) (l2 : List De) (hr2 : DepAt w v2 l2) (hz2 : Szd l2) (hi642 : ∀ d ∈ l2, In64 d.2)
    (k : ByteArray) (n s : Int) (a : Option Addr) (rs : List (ByteArray × ByteArray)) (cap : Nat) (hk : k.size ≤ maxLen) (hns : In64 (n, s)) (hrl : rs.length ≤ 9223372036854775807) (hrs : ∀ r ∈ rs, r.1.size ≤ maxLen ∧ r.2.size ≤ maxLen) (hrn : RngIn w a rs) (hcp : rs.length ≤ cap) :
    Calls Try.prog 3 #[v, v2, .agg #[.string k, .int .i64 n, .int .i64 s, .slice a rs.length cap]] w fun e w' => e = .returned (.bool true) ∧ Below w.heap.size w w' := by
  have heq : ∀ (w' : World) (n s m t : Int), (binOp .eql 24 (.agg #[.int .i64 n, .int .i64 s]) (.agg #[.int .i64 m, .int .i64 t])).run Try.prog w' = .ok (.bool (decide ((n, s) = (m, t)))) w' := eq_stamp
  unfold maxLen at hk
  have hb0 : Below w.heap.size w (w.alloc (.cells #[.string k, .int .i64 n, .int .i64 s, .slice a rs.length cap] 29)) := balloc (Below.refl _ _) _
  have hB0 : Box4 (w.alloc (.cells #[.string k, .int .i64 n, .int .i64 s, .slice a rs.length cap] 29)) w.heap.size k n s (.slice a rs.length cap) := ⟨by simp, by simp, by simp, by simp⟩
  have hF0 : (w.alloc (.cells #[.string k, .int .i64 n, .int .i64 s, .slice a rs.length cap] 29)).frozen? ⟨w.heap.size, 3, none⟩ = false := by simp
  have hlen : l.length ≤ 9223372036854775807 := by obtain ⟨_, _, _, h1, h2, _⟩ := id hr; unfold maxLen at h2; omega
  have hlen2 : l2.length ≤ 9223372036854775807 := by obtain ⟨_, _, _, h1, h2, _⟩ := id hr2; unfold maxLen at h2; omega
  have HV := Lib.hid hr
  have HV2 := Lib.hid hr2
  obtain ⟨va, vc, rfl, _, _, _, _⟩ := hr
  obtain ⟨va2, vc2, rfl, _, _, _, _⟩ := hr2
  have HZ := Lib.hid hz
  have HZ2 := Lib.hid hz2
  have HRN := Lib.hid hrn
  clear hz hz2 hi64 hi642 hns hrs hrn
  have hml := mdD_len l
  have HS := Lib.hid (mdD_srt l)
  have hml2 := mdD_len l2
  have HS2 := Lib.hid (mdD_srt l2)
  go_enter Try.func3, Try.ntmps3
  go_wp2_with fail
  refine (pawake_any _).mono ?_
  rintro e w1 ⟨rfl, hb1⟩
  have hB1 := keepF hb1 hB0
  have hF1 := (hb1.frozen (p := ⟨w.heap.size, 3, none⟩) (by simp)).trans hF0
  have hbel1 := bstep hb0 hb1
  clear hB0 hF0 hb0 hb1
  go_wp2_with fail
  refine (made_any _ l w1 hlen HZ.out (HV.out.below hbel1)).mono ?_
  rintro e w2 ⟨u, rfl, hp2, hb2⟩
  have hB2 := keepF hb2 hB1
  have hF2 := (hb2.frozen (p := ⟨w.heap.size, 3, none⟩) (lt_of_cellN hB1.1)).trans hF1
  have hbel2 := bstep hbel1 hb2
  clear hB1 hF1 hbel1 hb2 HV HZ
  generalize mdD l = p at hml HS hp2
  have HP2 := Lib.hid hp2
  obtain ⟨pa, pc, rfl, _, _, _, _⟩ := hp2
  go_wp2_with fail
  refine (made_any _ l2 w2 hlen2 HZ2.out (HV2.out.below hbel2)).mono ?_
  rintro e w3 ⟨u3, rfl, ho3, hb3⟩
  have hB3 := keepF hb3 hB2
  have hF3 := (hb3.frozen (p := ⟨w.heap.size, 3, none⟩) (lt_of_cellN hB2.1)).trans hF2
  have hbel3 := bstep hbel2 hb3
  have HP3 := Lib.hid (HP2.out.below hb3)
  clear hB2 hF2 hbel2 hb3 HV2 HZ2 HP2
  generalize mdD l2 = o at hml2 HS2 ho3
  have HO3 := Lib.hid ho3
  obtain ⟨oa, oc, rfl, _, _, _, _⟩ := ho3
  have HR3 := Lib.hid (HRN.out.below hbel3)
  obtain ⟨ms, hms⟩ : ∃ ms, ms = rs.take 5 := ⟨_, rfl⟩
  have hm5 : ms.length ≤ 5 := by rw [hms]; simp; omega
  have HMS := Lib.hid hms
  clear hms HRN
  obtain ⟨x0, x1, x2, x3⟩ := id hB3
  have HB3 := Lib.hid hB3
  clear hB3
  go_upto_if 21 with (fail)
  go_cut [5] (fun s5 wx => s5 = .pointer (some ⟨w.heap.size, 0, none⟩) ∧ Box4 wx w.heap.size k n s (.slice a ms.length cap) ∧ DepAt wx (.slice pa p.length pc) p ∧ DepAt wx (.slice oa o.length oc) o ∧ RngIn wx a ms ∧ Below w.heap.size w wx)
  case first =>
    by_cases h5 : 5 < rs.length
    · obtain ⟨b, off, rfl, _⟩ := HR3.out 0 (by omega)
      have e5 : ms.length = 5 := by rw [HMS.out]; simp; omega
      have q2 : (5 : Int) ≤ (cap : Int) := by omega
      have q3 : 5 ≤ cap := by omega
      go_wp2
      go_meet
      refine ⟨rfl, ?_, HP3.out.put x3 _, HO3.out.put x3 _, ?_, hbel3.setCell (Nat.le_refl _) _⟩
      · rw [e5]; exact Box4.put HB3.out _
      · rw [HMS.out]; exact (HR3.out.take 5).put x3 _
    · have e5 : ms = rs := by rw [HMS.out]; exact List.take_of_length_le (by omega)
      go_wp2
      go_meet
      rw [e5]
      exact ⟨rfl, HB3.out, HP3.out, HO3.out, HR3.out, hbel3⟩
  case rest =>
    obtain ⟨rfl, hB4, hP4, hO4, hR4, hbel4⟩ := hcut
    clear HB3 HP3 HO3 HR3 HMS x0 x1 x2 x3 hbel3
    have HP4 := Lib.hid hP4
    have HO4 := Lib.hid hO4
    have HR4 := Lib.hid hR4
    have g0 := hB4
    clear hP4 hO4 hR4 hB4 hF3
    have hA1 := fun W hW => padd_any (.slice pa p.length pc) p k n s W (by omega) HS.out hk hW
    have hA2 := fun W hW => refAddP_any (.slice pa p.length pc) p k n s W (by omega) hk hW
    have hAl := addR_len p (k, n, s)
    generalize addR p (k, n, s) = r at hA1 hA2 hAl
    go_wp2_with fail
    go_region_held3 (fun w' => w'.cell? ⟨w.heap.size, 0, none⟩ = some (.string k) ∧ w'.cell? ⟨w.heap.size, 1, none⟩ = some (.int .i64 n) ∧ w'.cell? ⟨w.heap.size, 2, none⟩ = some (.int .i64 s) ∧ w'.cell? ⟨w.heap.size, 3, none⟩ = some (.slice a ms.length cap))
      (first | exact g0 | exact g1 | exact g2 | exact g3)
      (first
        | (go_at_call 12; ((refine (hA1 _ HP4.out.drew).mono ?_); rintro e wa ⟨ua, rfl, da, ha⟩; have g1 := keepF ha g0; have HDa := Lib.hid da; obtain ⟨xa, ya, rfl, _, _, _, _⟩ := da))
        | (go_at_call 13; ((refine (hA2 _ (HP4.out.drew.below ha)).mono ?_); rintro e wb ⟨ub, rfl, db, hb⟩; have g2 := keepF hb g1; have HDb := Lib.hid db; obtain ⟨xb, yb, rfl, _, _, _, _⟩ := db))
        | (go_at_call 11; ((refine (refPSame_t _ _ r _ (by omega) (HDa.out.below hb) HDb.out).mono ?_); rintro e w5 ⟨rfl, hc⟩; have g3 := keepF hc g2)))
    have hb5 := bstep (bstep (bstep ((Below.refl _ _).drew) ha) hb) hc
    have HP5 := Lib.hid (HP4.out.below hb5)
    have HO5 := Lib.hid (HO4.out.below hb5)
    have HR5 := Lib.hid (HR4.out.below hb5)
    have hbel5 := bstep hbel4 hb5
    have hB5 : Box4 w5 w.heap.size k n s (.slice a ms.length cap) := g3
    clear g0 g1 g2 g3 ha hb hc HDa HDb hA1 hA2 hAl HP4 HO4 HR4 hbel4 hb5
    have hrow := RowsAt.three 22 HP5.out HO5.out HP5.out
    have HRW := Lib.hid hrow
    have HSZ : Hid (Szd p ∧ Szd o) := Lib.hid ⟨HS.out.szd, HS2.out.szd⟩
    have hb6 : Below w5.heap.size w5 (w5.alloc (.cells #[.slice pa p.length pc, .slice oa o.length oc, .slice pa p.length pc] 22)) := balloc (Below.refl _ _) _
    have HP6 := Lib.hid (HP5.out.below hb6)
    have HO6 := Lib.hid (HO5.out.below hb6)
    have HR6 := Lib.hid (HR5.out.below hb6)
    have hbel6 := bstep hbel5 hb6
    have hB6 := keepF hb6 hB5
    clear hrow HP5 HO5 HR5 hbel5 hB5 hb6
    go_wp2_with fail
    refine (merge_any _ _ [p, o, p] _ (by simp) (by simp [tot]; omega) (by intro x hx; simp at hx; rcases hx with rfl | rfl | rfl; exact HSZ.out.1; exact HSZ.out.2; exact HSZ.out.1) HRW.out).mono ?_
    rintro e w7 ⟨u7, rfl, r7, him, ho7, hb7⟩
    have hr7 : r7 = mergeR [p, o] := IsMerge.uniq him (mergeR_spec [p, o]) (pop_mem p o)
    have hml7 : (mergeR [p, o]).length ≤ tot [p, o] := by have := mergeR_len [p, o] 2 (by simp); simpa using this
    rw [hr7] at ho7
    have hD7 := DepAt.of_own ho7
    have HP7 := Lib.hid (HP6.out.below hb7)
    have HO7 := Lib.hid (HO6.out.below hb7)
    have HR7 := Lib.hid (HR6.out.below hb7)
    have hbel7 := bstep hbel6 hb7
    have hB7 := keepF hb7 hB6
    obtain ⟨ua7, uc7, rfl⟩ := ho7.shape
    have HRW2 := Lib.hid (RowsAt.two 22 HP7.out HO7.out)
    have hb8 : Below w7.heap.size w7 (w7.alloc (.cells #[.slice pa p.length pc, .slice oa o.length oc] 22)) := balloc (Below.refl _ _) _
    have HP8 := Lib.hid (HP7.out.below hb8)
    have HO8 := Lib.hid (HO7.out.below hb8)
    have HR8 := Lib.hid (HR7.out.below hb8)
    have HD8 := Lib.hid (hD7.below hb8)
    have hbel8 := bstep hbel7 hb8
    have hB8 := keepF hb8 hB7
    have htot : tot [p, o] ≤ 24 := by simp [tot]; omega
    have hmr := refMerge_any (some ⟨w7.heap.size, 0, none⟩) 2 [p, o] _ (by simp) (by omega) (by intro x hx; simp at hx; rcases hx with rfl | rfl; exact HSZ.out.1; exact HSZ.out.2) HRW2.out
    clear hr7 him ho7 hD7 HP6 HO6 HR6 hbel6 hB6 hb7 HP7 HO7 HR7 hbel7 hB7 hb8 HRW HRW2
    generalize mergeR [p, o] = mr at hmr HD8 hml7
    go_wp2_with fail
    refine hmr.mono ?_
    rintro e w9 ⟨u9, rfl, hd9, hb9⟩
    have HD9 := Lib.hid hd9
    obtain ⟨ua9, uc9, rfl, _, _, _, _⟩ := hd9
    have HDx := Lib.hid (HD8.out.below hb9)
    have HP9 := Lib.hid (HP8.out.below hb9)
    have HO9 := Lib.hid (HO8.out.below hb9)
    have HR9 := Lib.hid (HR8.out.below hb9)
    have hbel9 := bstep hbel8 hb9
    have hB9 := keepF hb9 hB8
    clear hmr HD8 HP8 HO8 HR8 hbel8 hB8 hb9
    go_wp2_with fail
    refine (refPSame_t _ _ mr _ (by omega) HDx.out HD9.out).mono ?_
    rintro e w10 ⟨rfl, hb10⟩
    have HP10 := Lib.hid (HP9.out.below hb10)
    have HO10 := Lib.hid (HO9.out.below hb10)
    have HR10 := Lib.hid (HR9.out.below hb10)
    have hbel10 := bstep hbel9 hb10
    have g0 := keepF hb10 hB9
    clear HDx HD9 HP9 HO9 HR9 hbel9 hB9 hb10
    have hA1 := fun W hW hV => only_any (.slice pa p.length pc) p a cap ms W (by omega) (by omega) hW hV
    have hA2 := fun W hW hV => refOnly_any (.slice pa p.length pc) p a cap ms W (by omega) (by omega) hW hV
    have hAl : (onlyD ms p).length ≤ p.length := List.length_filter_le _ _
    generalize onlyD ms p = q at hA1 hA2 hAl
    have HR10d : Hid (RngIn w10.drew a ms) := Lib.hid HR10.out
    go_wp2_with fail
    go_region_held3 (fun w' => w'.cell? ⟨w.heap.size, 0, none⟩ = some (.string k) ∧ w'.cell? ⟨w.heap.size, 1, none⟩ = some (.int .i64 n) ∧ w'.cell? ⟨w.heap.size, 2, none⟩ = some (.int .i64 s) ∧ w'.cell? ⟨w.heap.size, 3, none⟩ = some (.slice a ms.length cap))
      (first | exact g0 | exact g1 | exact g2 | exact g3)
      (first
        | (go_at_call 16; ((refine (hA1 _ HR10d.out HP10.out.drew).mono ?_); rintro e wa ⟨ua, rfl, da0, ha⟩; have g1 := keepF ha g0; have da := DepAt.of_own da0; clear da0; have HDa := Lib.hid da; obtain ⟨xa, ya, rfl, _, _, _, _⟩ := da))
        | (go_at_call 17; ((refine (hA2 _ (HR10d.out.below ha) (HP10.out.drew.below ha)).mono ?_); rintro e wb ⟨ub, rfl, db, hb⟩; have g2 := keepF hb g1; have HDb := Lib.hid db; obtain ⟨xb, yb, rfl, _, _, _, _⟩ := db))
        | (go_at_call 11; ((refine (refPSame_t _ _ q _ (by omega) (HDa.out.below hb) HDb.out).mono ?_); rintro e w11 ⟨rfl, hc⟩; have g3 := keepF hc g2)))
    have hb11 := bstep (bstep (bstep ((Below.refl _ _).drew) ha) hb) hc
    have HP11 := Lib.hid (HP10.out.below hb11)
    have HO11 := Lib.hid (HO10.out.below hb11)
    have hbel11 := bstep hbel10 hb11
    have hB11 : Box4 w11 w.heap.size k n s (.slice a ms.length cap) := g3
    clear g0 g1 g2 g3 ha hb hc HDa HDb hA1 hA2 hAl HP10 HO10 HR10 HR10d hbel10 hb11
    have g0 := hB11
    clear hB11
    have k1 := fun W hW => pget_any (.slice pa p.length pc) p k W (by omega) hW
    have k2 := fun W hW => refPGet_any (.slice pa p.length pc) p k W (by omega) hW
    generalize gtD p k = gk at k1 k2
    obtain ⟨gk0, gk1⟩ := gk
    have k3 := fun W hW hV => covers_any (.slice pa p.length pc) (.slice oa o.length oc) p o W (by omega) (by omega) HSZ.out.1 HSZ.out.2 hW hV
    have k4 := fun W hW hV => refCovers_any (.slice pa p.length pc) (.slice oa o.length oc) p o W (by omega) (by omega) hW hV
    unfold cvD at k4
    generalize (!(o.any fun d => Sm.less (gtD p d.1) d.2)) = cv at k3 k4
    have k5 := fun W hW hV => same_any (.slice pa p.length pc) (.slice oa o.length oc) p o W (by omega) hW hV
    have k6 := fun W hW hV => refPSame_any (.slice pa p.length pc) (.slice oa o.length oc) p o W (by omega) hW hV
    generalize decide (p = o) = sm at k5 k6
    have k7 := fun W hW => pcheck_any (.slice pa p.length pc) p W (by omega) HSZ.out.1 hW
    rw [chkD_srt HS.out (by omega)] at k7
    go_wp2_with fail
    go_region_held3 (fun w' => w'.cell? ⟨w.heap.size, 0, none⟩ = some (.string k) ∧ w'.cell? ⟨w.heap.size, 1, none⟩ = some (.int .i64 n) ∧ w'.cell? ⟨w.heap.size, 2, none⟩ = some (.int .i64 s) ∧ w'.cell? ⟨w.heap.size, 3, none⟩ = some (.slice a ms.length cap))
      (first | exact g0 | exact g1 | exact g2 | exact g3 | exact g4 | exact g5 | exact g6 | exact g7)
      (first
        | (go_at_call 18; ((refine (k1 _ HP11.out.drew).mono ?_); rintro e z1 ⟨rfl, h1⟩; have g1 := keepF h1 g0; have P1 := Lib.hid (HP11.out.drew.below h1); have O1 := Lib.hid (HO11.out.drew.below h1)))
        | (go_at_call 19; ((refine (k2 _ P1.out).mono ?_); rintro e z2 ⟨rfl, h2⟩; have g2 := keepF h2 g1; have P2 := Lib.hid (P1.out.below h2); have O2 := Lib.hid (O1.out.below h2)))
        | (go_at_call 20; ((refine (k3 _ P2.out O2.out).mono ?_); rintro e z3 ⟨rfl, h3⟩; have g3 := keepF h3 g2; have P3 := Lib.hid (P2.out.below h3); have O3 := Lib.hid (O2.out.below h3)))
        | (go_at_call 21; ((refine (k4 _ P3.out O3.out).mono ?_); rintro e z4 ⟨rfl, h4⟩; have g4 := keepF h4 g3; have P4 := Lib.hid (P3.out.below h4); have O4 := Lib.hid (O3.out.below h4)))
        | (go_at_call 22; ((refine (k5 _ P4.out O4.out).mono ?_); rintro e z5 ⟨rfl, h5⟩; have g5 := keepF h5 g4; have P5 := Lib.hid (P4.out.below h5); have O5 := Lib.hid (O4.out.below h5)))
        | (go_at_call 11; ((refine (k6 _ P5.out O5.out).mono ?_); rintro e z6 ⟨rfl, h6⟩; have g6 := keepF h6 g5; have P6 := Lib.hid (P5.out.below h6)))
        | (go_at_call 23; ((refine (k7 _ P6.out).mono ?_); rintro e z7 ⟨rfl, h7⟩; have g7 := keepF h7 g6)))
    have hbz := bstep hbel11 (bstep (bstep (bstep (bstep (bstep (bstep (bstep ((Below.refl _ _).drew) h1) h2) h3) h4) h5) h6) h7)
    go_wp2
    go_ret
    exact ⟨rfl, hbz⟩
end Go.Proofs.Ytplpeokmhomojaa
