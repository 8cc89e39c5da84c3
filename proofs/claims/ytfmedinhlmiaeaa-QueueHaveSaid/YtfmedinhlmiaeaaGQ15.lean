/- Texts of this proof, one behind the other: PastRefAdd, PastRefCov. -/
import Derived.Test.YtfmedinhlmiaeaaGQ14
import Derived.Deep.RegionHeld3
/- What the document's Add of pasts answers. -/
namespace Go.Proofs.Ytfmedinhlmiaeaa
open Go.RowKit
set_option linter.unusedVariables false
set_option linter.unusedSimpArgs false

/-- The document's loop: d put into a row. -/
def addGo (d : De) : Bool → List De → List De
  | put, [] => if put then [] else [d]
  | put, x :: r => if x.1 = d.1 then (if Sm.less x.2 d.2 = true then d else x) :: addGo d true r else if !put && klt d.1 x.1 then d :: x :: addGo d true r else x :: addGo d put r
def addR (l : List De) (d : De) : List De := if okD d = true then addGo d false l else l
theorem addGo_len (d : De) (l : List De) : ∀ put, (addGo d put l).length ≤ l.length + 1 ∧ (addGo d true l).length = l.length := by
  induction l with
  | nil => intro put; cases put <;> simp [addGo]
  | cons x r ih =>
    intro put
    have h1 := (ih put).1
    have h2 := (ih put).2
    constructor
    · rw [addGo]
      split
      · simp; omega
      · split
        · simp; omega
        · simp; omega
    · rw [addGo]
      split
      · simp; omega
      · simp; omega
theorem addR_len (l : List De) (d : De) : (addR l d).length ≤ l.length + 1 := by
  unfold addR
  split
  · exact (addGo_len d l false).1
  · omega

theorem keyeq (x k : ByteArray) : (x = k) ↔ (x.toList == k.toList) = true := by
  rw [Lib.toList_data, Lib.toList_data, beq_iff_eq]
  exact ⟨fun h => by rw [h], ba_inj⟩

/-- The rest of the document's loop, step by step. -/
theorem addGo_eq {d x : De} {put : Bool} {r : List De} (h : x.1 = d.1) (hl : Sm.less x.2 d.2 = true) : addGo d put (x :: r) = d :: addGo d true r := by rw [addGo, if_pos h, if_pos hl]
theorem addGo_eq' {d x : De} {put : Bool} {r : List De} (h : x.1 = d.1) (hl : Sm.less x.2 d.2 = false) : addGo d put (x :: r) = x :: addGo d true r := by rw [addGo, if_pos h, if_neg (by rw [hl]; simp)]
theorem addGo_put {d x : De} {r : List De} (h : x.1 ≠ d.1) : addGo d true (x :: r) = x :: addGo d true r := by rw [addGo, if_neg h]; simp
theorem addGo_gt {d x : De} {r : List De} (h : x.1 ≠ d.1) (hg : klt d.1 x.1 = true) : addGo d false (x :: r) = d :: x :: addGo d true r := by rw [addGo, if_neg h]; simp [hg]
theorem addGo_le {d x : De} {r : List De} (h : x.1 ≠ d.1) (hg : klt d.1 x.1 = false) : addGo d false (x :: r) = x :: addGo d false r := by rw [addGo, if_neg h]; simp [hg]

theorem refCheck_b (k : ByteArray) (c : Bool) (w : World) (hk : k.size ≤ 9223372036854775807) (h : Km.chk k.data.toList = c) :
    Calls Try.prog 33 #[.string k] w fun e w' => e = .returned (.bool c) ∧ w = w' := by
  rw [← h]
  exact refCheck_any k w hk
theorem refSCheck_b (n s : Int) (c : Bool) (w : World) (h : Sm.ok n s = c) :
    Calls Try.prog 34 #[.agg #[.int .i64 n, .int .i64 s]] w fun e w' => e = .returned (.bool c) ∧ Below w.heap.size w w' := by
  rw [← h]
  exact refSCheck_any n s w
theorem refLess_b (n s m t : Int) (c : Bool) (w : World) (h : Sm.less (n, s) (m, t) = c) :
    Calls Try.prog 28 #[.agg #[.int .i64 n, .int .i64 s], .agg #[.int .i64 m, .int .i64 t]] w fun e w' => e = .returned (.bool c) ∧ Below w.heap.size w w' := by
  rw [← h]
  exact refLess_any n s m t w

set_option maxRecDepth 100000 in
set_option maxHeartbeats 3200000 in
theorem refAddP_no (v : Value) (l : List De) (k : ByteArray) (n s : Int) (kc sc : Bool) (w : World) (hk : k.size ≤ 9223372036854775807) (hr : DepAt w v l) (hkc : Km.chk k.data.toList = kc) (hsc : Sm.ok n s = sc) (hno : (kc && sc) = false) :
    Calls Try.prog 11 #[v, .agg #[.string k, .int .i64 n, .int .i64 s]] w fun e w' => e = .returned v ∧ DepAt w' v l ∧ Below w.heap.size w w' := by
  have HV := Lib.hid hr
  obtain ⟨a, cap, rfl, hcap, hmx, _, hr⟩ := hr
  have HK := Lib.hid hkc
  have HC := Lib.hid hsc
  clear hr hkc hsc
  cases kc <;> cases sc <;> simp at hno
  all_goals
    go_enter Try.func11, Try.ntmps11
    go_wp2_with fail
    refine (refCheck_b k _ _ hk HK.out).mono ?_
    rintro e w1 ⟨rfl, rfl⟩
    go_wp2_with fail
    refine (refSCheck_b n s _ _ HC.out).mono ?_
    rintro e w2 ⟨rfl, hb⟩
    have HB := Lib.hid (box3 hb).2.2.2.2
    clear hb
    go_wp2
    go_ret
    exact ⟨rfl, HV.out.below HB.out, HB.out⟩

set_option maxRecDepth 100000 in
set_option maxHeartbeats 6400000 in
theorem refAddP_yes (v : Value) (l : List De) (k : ByteArray) (n s : Int) (w : World) (hl : l.length ≤ 100000) (hk : k.size ≤ 9223372036854775807) (hr : DepAt w v l) (hkc : Km.chk k.data.toList = true) (hsc : Sm.ok n s = true) :
    Calls Try.prog 11 #[v, .agg #[.string k, .int .i64 n, .int .i64 s]] w fun e w' => ∃ u, e = .returned u ∧ OwnD w' w.heap.size u (addGo (k, n, s) false l) ∧ Below w.heap.size w w' := by
  obtain ⟨a, cap, rfl, hcap, hmx, _, hr⟩ := hr
  have HR := Lib.hid hr
  have HK := Lib.hid hkc
  have HC := Lib.hid hsc
  have HLN := Lib.hid (addGo_len (k, n, s) l false).1
  generalize hfull : addGo (k, n, s) false l = full at HLN ⊢
  have HFULL := Lib.hid hfull
  clear hr hkc hsc hfull
  go_enter Try.func11, Try.ntmps11
  go_wp2_with fail
  refine (refCheck_b k _ _ hk HK.out).mono ?_
  rintro e w1 ⟨rfl, rfl⟩
  go_wp2_with fail
  refine (refSCheck_b n s _ _ HC.out).mono ?_
  rintro e w2 ⟨rfl, hb⟩
  have hB0 := (VarD.new w k n s 34).keep hb
  have HB := Lib.hid (box3 hb).2.2.2.2
  have HB0 := Lib.hid hB0
  have hz0 : w.heap.size < w2.heap.size := hB0.lt
  have HR2 := Lib.hid (HR.out.below HB.out)
  clear hb hB0 HR
  go_wp2
  go_loopw [7, 8, 9] (fun o pt i wr => ∃ (j : Nat) (acc : List De) (put : Bool), j ≤ l.length ∧ i = .int .i64 j ∧ pt = .bool put ∧ acc ++ addGo (k, n, s) put (l.drop j) = full ∧ OwnD wr w2.heap.size o acc ∧ Below w2.heap.size w2 wr) (fun _ _ i _ => l.length - (intOf i).toNat)
  case atStart => exact ⟨0, [], false, by omega, rfl, rfl, by rw [List.drop_zero, List.nil_append]; exact HFULL.out, OwnD.nil _ _, Below.refl _ _⟩
  case round =>
    obtain ⟨j, acc, put, hj, rfl, rfl, hacc, ho, hbel⟩ := hrel
    have hal : acc.length ≤ 100001 := by
      have h1 := HLN.out
      have h2 := congrArg List.length hacc
      rw [List.length_append] at h2
      omega
    have HAC := Lib.hid hacc
    have hbs : w2.heap.size ≤ wr.heap.size := hbel.size
    obtain ⟨sa, sc, rfl⟩ := ho.shape
    have HO := Lib.hid ho
    clear hacc ho
    obtain ⟨d0, d1, d2, _, _, _⟩ := HB0.out.keep hbel
    have hne : w.heap.size ≠ wr.heap.size := by omega
    have d0' : ∀ o, (wr.alloc o).cell? ⟨w.heap.size, 0, none⟩ = some (.string k) := fun o => kc (balloc (Below.refl _ _) o) d0
    have d1' : ∀ o, (wr.alloc o).cell? ⟨w.heap.size, 1, none⟩ = some (.int .i64 n) := fun o => kc (balloc (Below.refl _ _) o) d1
    have d2' : ∀ o, (wr.alloc o).cell? ⟨w.heap.size, 2, none⟩ = some (.int .i64 s) := fun o => kc (balloc (Below.refl _ _) o) d2
    by_cases hlt : j < l.length
    · obtain ⟨b, off, rfl, hbl, c0, c1, c2⟩ := HR2.out.below hbel j hlt
      have HD := Lib.hid (List.drop_eq_getElem_cons hlt)
      generalize l[j] = x at c0 c1 c2 HD
      obtain ⟨x, y, z⟩ := x
      dsimp only at c0 c1 c2
      have HX := Lib.hid (VarD.new wr x y z 34)
      have hb1 : Below wr.heap.size wr (wr.alloc (.cells #[.string x, .int .i64 y, .int .i64 z] 34)) := balloc (Below.refl _ _) _
      have HKE := Lib.hid (keyeq x k)
      cases hq : (x.toList == k.toList) with
      | true =>
        have hq' : x.toList = k.toList := by simpa using hq
        have HQ := Lib.hid (HKE.out.2 hq)
        clear hq
        cases hle : Sm.less (y, z) (n, s) with
        | true =>
          have HL := Lib.hid hle
          clear hle
          go_wp2_with fail
          refine (refLess_b y z n s _ _ HL.out).mono ?_
          rintro e w3 ⟨rfl, hb⟩
          have hX := HX.out.keep hb
          have hb3 := bstep hb1 hb
          obtain ⟨e0, e1, e2, _, _, _⟩ := HB0.out.keep (hbel.trans (hb3.mono hbs))
          obtain ⟨x0, x1, x2, f0, f1, f2⟩ := hX
          have hX : VarD w3 wr.heap.size x y z := ⟨x0, x1, x2, f0, f1, f2⟩
          have HP := Lib.hid (hX.put k n s)
          have HO3 := Lib.hid ((HO.out.below hb3).put3 (HO.out.lt' (Nat.le_refl _)) (.string k) (.int .i64 n) (.int .i64 s))
          have HB3 := Lib.hid (below_put3 (hbel.trans (hb3.mono hbs)) hbs (.string k) (.int .i64 n) (.int .i64 s))
          have hz3 : (World.put3 w3 wr.heap.size (.string k) (.int .i64 n) (.int .i64 s)).heap.size = w3.heap.size := put3_size _ _ _ _ _
          have hs3 : w2.heap.size ≤ w3.heap.size := by have := hb3.size; omega
          obtain ⟨p0, p1, p2, _, _, _⟩ := HP.out
          clear hb hb3 hb1 hX d0 d1 d2 c0 c1 c2
          go_wp2_with (at_builtin; refine wp_pushD (wr := World.put3 w3 wr.heap.size (.string k) (.int .i64 n) (.int .i64 s)) rfl _ _ rfl w2.heap.size (.slice sa acc.length sc) acc k n s rfl HO3.out (by rw [hz3]; rfl) (by omega) (by rw [hz3]; exact hs3) ?_; intro g gcap w4 ho4 hb4 hk4 hg4)
          go_wp2
          go_roundw
          case rel => exact ⟨j + 1, acc ++ [(k, n, s)], true, by omega, by go_num, rfl, by rw [← HAC.out, HD.out, addGo_eq HQ.out HL.out, List.append_assoc]; rfl, by simpa using ho4, HB3.out.trans hb4⟩
          case measure => simp [intOf]; omega
        | false =>
          have HL := Lib.hid hle
          clear hle
          go_wp2_with fail
          refine (refLess_b y z n s _ _ HL.out).mono ?_
          rintro e w3 ⟨rfl, hb⟩
          have hX := HX.out.keep hb
          have hb3 := bstep hb1 hb
          obtain ⟨x0, x1, x2, f0, f1, f2⟩ := hX
          have HO3 := Lib.hid (HO.out.below hb3)
          have HB3 := Lib.hid (hbel.trans (hb3.mono hbs))
          have hs3 : w2.heap.size ≤ w3.heap.size := by have := hb3.size; omega
          clear hb hb3 hb1 d0 d1 d2 c0 c1 c2
          go_wp2_with (at_builtin; refine wp_pushD (wr := w3) rfl _ _ rfl w2.heap.size (.slice sa acc.length sc) acc x y z rfl HO3.out rfl (by omega) hs3 ?_; intro g gcap w4 ho4 hb4 hk4 hg4)
          go_wp2
          go_roundw
          case rel => exact ⟨j + 1, acc ++ [(x, y, z)], true, by omega, by go_num, rfl, by rw [← HAC.out, HD.out, addGo_eq' HQ.out HL.out, List.append_assoc]; rfl, by simpa using ho4, HB3.out.trans hb4⟩
          case measure => simp [intOf]; omega
      | false =>
        have hq' : ¬ x.toList = k.toList := by simpa using hq
        have HQ : Hid (x ≠ k) := Lib.hid (fun h => by rw [HKE.out.1 h] at hq; cases hq)
        have HO1 := Lib.hid (HO.out.below hb1)
        have HB1 := Lib.hid (hbel.trans (hb1.mono hbs))
        have hz1 : (wr.alloc (.cells #[.string x, .int .i64 y, .int .i64 z] 34)).heap.size = wr.heap.size + 1 := by simp
        have HZ1 := Lib.hid hz1
        clear hz1 hb1
        cases put with
        | true =>
          go_wp2_with (at_builtin; refine wp_pushD (wr := wr.alloc (.cells #[.string x, .int .i64 y, .int .i64 z] 34)) rfl _ _ rfl w2.heap.size (.slice sa acc.length sc) acc x y z rfl HO1.out (by rw [HZ1.out]; rfl) (by omega) (by rw [HZ1.out]; omega) ?_; intro g gcap w4 ho4 hb4 hk4 hg4)
          go_wp2
          go_roundw
          case rel => exact ⟨j + 1, acc ++ [(x, y, z)], true, by omega, by go_num, rfl, by rw [← HAC.out, HD.out, addGo_put HQ.out, List.append_assoc]; rfl, by simpa using ho4, HB1.out.trans hb4⟩
          case measure => simp [intOf]; omega
        | false =>
          cases hg : Op.bytesLess x.toList k.toList with
          | true =>
            have hg2 : Op.bytesLess k.toList x.toList = false := Km.bl_asymm hg
            have HG : Hid (klt k x = false) := Lib.hid (by unfold klt; rw [← Lib.toList_data, ← Lib.toList_data]; exact hg2)
            go_wp2_with (at_builtin; refine wp_pushD (wr := wr.alloc (.cells #[.string x, .int .i64 y, .int .i64 z] 34)) rfl _ _ rfl w2.heap.size (.slice sa acc.length sc) acc x y z rfl HO1.out (by rw [HZ1.out]; rfl) (by omega) (by rw [HZ1.out]; omega) ?_; intro g gcap w4 ho4 hb4 hk4 hg4)
            go_wp2
            go_roundw
            case rel => exact ⟨j + 1, acc ++ [(x, y, z)], false, by omega, by go_num, rfl, by rw [← HAC.out, HD.out, addGo_le HQ.out HG.out, List.append_assoc]; rfl, by simpa using ho4, HB1.out.trans hb4⟩
            case measure => simp [intOf]; omega
          | false =>
            have hg2 : Op.bytesLess k.toList x.toList = true := by
              cases h : Op.bytesLess k.toList x.toList with
              | true => rfl
              | false => exact absurd (Km.bl_tri hg h) hq'
            have HG : Hid (klt k x = true) := Lib.hid (by unfold klt; rw [← Lib.toList_data, ← Lib.toList_data]; exact hg2)
            go_wp2_with (first
              | (at_builtin; refine wp_pushD (wr := wr.alloc (.cells #[.string x, .int .i64 y, .int .i64 z] 34)) rfl _ _ rfl w2.heap.size (.slice sa acc.length sc) acc k n s rfl HO1.out (by rw [HZ1.out]; rfl) (by omega) (by rw [HZ1.out]; omega) ?_; intro g gcap w4 ho4 hb4 hk4 hg4; obtain ⟨x0, x1, x2, f0, f1, f2⟩ := HX.out.block (hk4 wr.heap.size (by rw [HZ1.out]; omega) (HO.out.lt' (Nat.le_refl _))); have HO4 := Lib.hid ho4; have hs4 : w2.heap.size ≤ w4.heap.size := (by have := (HB1.out.trans hb4).size; omega); clear ho4 hk4)
              | (at_builtin; refine wp_pushD (wr := w4) rfl _ _ rfl w2.heap.size (.slice (some ⟨g, 0, none⟩) (acc.length + 1) gcap) (acc ++ [(k, n, s)]) x y z rfl (by simpa using HO4.out) rfl (by simp; omega) hs4 ?_; intro g5 gcap5 w5 ho5 hb5 hk5 hg5))
            go_wp2
            go_roundw
            case rel => exact ⟨j + 1, acc ++ [(k, n, s)] ++ [(x, y, z)], true, by omega, by go_num, rfl, by rw [← HAC.out, HD.out, addGo_gt HQ.out HG.out]; simp, by simpa using ho5, (HB1.out.trans hb4).trans hb5⟩
            case measure => simp [intOf]; omega
    · have HE : Hid (acc ++ (if put then [] else [(k, n, s)]) = full) := Lib.hid (by have h := HAC.out; rw [List.drop_eq_nil_of_le (by omega)] at h; simpa [addGo] using h)
      have hge : ¬ (j : Int) < (l.length : Int) := by omega
      cases put with
      | true =>
        go_wp2
        go_ret
        exact ⟨_, rfl, by have h := HE.out; simp at h; rw [← h]; exact OwnD.mono HO.out HB.out.size, HB.out.trans (hbel.mono (by omega))⟩
      | false =>
        go_wp2_with (at_builtin; refine wp_pushD (wr := wr) rfl _ _ rfl w2.heap.size (.slice sa acc.length sc) acc k n s rfl HO.out rfl (by omega) hbs ?_; intro g gcap w4 ho4 hb4 hk4 hg4)
        go_wp2
        go_ret
        exact ⟨_, rfl, by have h := HE.out; simp at h; rw [← h]; have := OwnD.mono ho4 HB.out.size; simpa using this, HB.out.trans ((hbel.trans hb4).mono (by omega))⟩

/-- What is answered is what came in, or lies in new memory. -/
theorem refAddP_new (v : Value) (l : List De) (k : ByteArray) (n s : Int) (w : World) (hl : l.length ≤ 100000) (hk : k.size ≤ 9223372036854775807) (hr : DepAt w v l) :
    Calls Try.prog 11 #[v, .agg #[.string k, .int .i64 n, .int .i64 s]] w fun e w' => ∃ u, e = .returned u ∧ DepAt w' u (addR l (k, n, s)) ∧ (u = v ∨ ∀ b, u.ownBlock = some b → w.heap.size ≤ b) ∧ Below w.heap.size w w' := by
  cases hkc : Km.chk k.data.toList <;> cases hsc : Sm.ok n s
  · rw [show addR l (k, n, s) = l by simp [addR, okD, hkc]]; exact (refAddP_no v l k n s _ _ w hk hr hkc hsc rfl).mono fun e w' ⟨h1, h2, h3⟩ => ⟨v, h1, h2, .inl rfl, h3⟩
  · rw [show addR l (k, n, s) = l by simp [addR, okD, hkc]]; exact (refAddP_no v l k n s _ _ w hk hr hkc hsc rfl).mono fun e w' ⟨h1, h2, h3⟩ => ⟨v, h1, h2, .inl rfl, h3⟩
  · rw [show addR l (k, n, s) = l by simp [addR, okD, hkc, hsc]]; exact (refAddP_no v l k n s _ _ w hk hr hkc hsc rfl).mono fun e w' ⟨h1, h2, h3⟩ => ⟨v, h1, h2, .inl rfl, h3⟩
  · rw [show addR l (k, n, s) = addGo (k, n, s) false l by simp [addR, okD, hkc, hsc]]
    exact (refAddP_yes v l k n s w hl hk hr hkc hsc).mono fun e w' ⟨u, h1, h2, h3⟩ => ⟨u, h1, DepAt.of_own h2, .inr (fun b hb => (World.ownsRow.lt h2 b hb).1), h3⟩
theorem refAddP_any (v : Value) (l : List De) (k : ByteArray) (n s : Int) (w : World) (hl : l.length ≤ 100000) (hk : k.size ≤ 9223372036854775807) (hr : DepAt w v l) :
    Calls Try.prog 11 #[v, .agg #[.string k, .int .i64 n, .int .i64 s]] w fun e w' => ∃ u, e = .returned u ∧ DepAt w' u (addR l (k, n, s)) ∧ Below w.heap.size w w' :=
  (refAddP_new v l k n s w hl hk hr).mono fun e w' ⟨u, h1, h2, _, h3⟩ => ⟨u, h1, h2, h3⟩
end Go.Proofs.Ytfmedinhlmiaeaa
/- What the document's Covers answers. -/
namespace Go.Proofs.Ytfmedinhlmiaeaa
open Go.RowKit
set_option linter.unusedVariables false
set_option linter.unusedSimpArgs false

abbrev cvD (l m : List De) : Bool := !(m.any fun d => Sm.less (gtD l d.1) d.2)
theorem cvD_hit {l m : List De} {k : Nat} (hk : k < m.length) (h : Sm.less (gtD l m[k].1) m[k].2 = true) : cvD l m = false := by
  unfold cvD
  rw [show (m.any fun d => Sm.less (gtD l d.1) d.2) = true from List.any_eq_true.2 ⟨m[k], List.getElem_mem hk, h⟩]
  rfl
theorem cvD_none {l m : List De} (h : ∀ j (hj : j < m.length), Sm.less (gtD l m[j].1) m[j].2 = false) : cvD l m = true := by
  unfold cvD
  rw [show (m.any fun d => Sm.less (gtD l d.1) d.2) = false from by
    rw [List.any_eq_false]
    intro x hx
    obtain ⟨j, hj, rfl⟩ := List.getElem_of_mem hx
    simp [h j hj]]
  rfl

set_option maxRecDepth 100000 in
set_option maxHeartbeats 1600000 in
theorem refCovers_any (v1 v2 : Value) (l m : List De) (w : World) (hl : l.length ≤ 1000000) (hm : m.length ≤ 1000000) (h1 : DepAt w v1 l) (h2 : DepAt w v2 m) :
    Calls Try.prog 26 #[v1, v2] w fun e w' => e = .returned (.bool (cvD l m)) ∧ Below w.heap.size w w' := by
  have HV1 := Lib.hid h1
  obtain ⟨a, cap, rfl, _, _, _, hr⟩ := h1
  obtain ⟨a2, cap2, rfl, _, _, _, hr2⟩ := h2
  have HR2 := Lib.hid hr2
  clear hr hr2
  go_enter Try.func26, Try.ntmps26
  go_wp2
  go_loopw [5] (fun i wr => ∃ k : Nat, k ≤ m.length ∧ i = .int .i64 k ∧ (∀ j (hj : j < m.length), j < k → Sm.less (gtD l m[j].1) m[j].2 = false) ∧ Below w.heap.size w wr) (fun i _ => m.length - (intOf i).toNat)
  case atStart => exact ⟨0, by omega, rfl, (fun j hj h => by omega), Below.refl _ _⟩
  case round =>
    obtain ⟨k, hk, rfl, hall, hbel⟩ := hrel
    have HA := Lib.hid hall
    clear hall
    by_cases hlt : k < m.length
    · obtain ⟨b, off, rfl, hbl, c0, c1, c2⟩ := HR2.out.below hbel k hlt
      have HH := Lib.hid (@cvD_hit l m k hlt)
      have HN : Hid (Sm.less (gtD l m[k].1) m[k].2 = false → ∀ j (hj : j < m.length), j < k + 1 → Sm.less (gtD l m[j].1) m[j].2 = false) := Lib.hid (fun h j hj h2 => by
        by_cases e : j = k
        · subst e; exact h
        · exact HA.out j hj (by omega))
      generalize m[k] = d at c0 c1 c2 HH HN
      obtain ⟨x, y, z⟩ := d
      dsimp only at c0 c1 c2 HH HN
      have hget := refPGet_any _ l x wr hl (HV1.out.below hbel)
      generalize gtD l x = g at hget HH HN
      obtain ⟨g0, g1⟩ := g
      go_wp2_with fail
      refine hget.mono ?_
      rintro e w1 ⟨rfl, hb1⟩
      have d0 := kcell hb1 hbl c0
      have d1 := kcell hb1 hbl c1
      have d2 := kcell hb1 hbl c2
      have hbl1 : b < w1.heap.size := by have := hb1.size; omega
      have hbel1 := bstep hbel hb1
      have e1 : (w1.alloc (.cells #[.int .i64 g0, .int .i64 g1] 25)).cell? ⟨b, off + k * 3 + 1, none⟩ = some (.int .i64 y) := kc (balloc (Below.refl _ _) _) d1
      have e2 : (w1.alloc (.cells #[.int .i64 g0, .int .i64 g1] 25)).cell? ⟨b, off + k * 3 + 2, none⟩ = some (.int .i64 z) := kc (balloc (Below.refl _ _) _) d2
      have g00 : (w1.alloc (.cells #[.int .i64 g0, .int .i64 g1] 25)).cell? ⟨w1.heap.size, 0, none⟩ = some (.int .i64 g0) := by simp
      have g01 : (w1.alloc (.cells #[.int .i64 g0, .int .i64 g1] 25)).cell? ⟨w1.heap.size, 1, none⟩ = some (.int .i64 g1) := by simp
      generalize hq : Sm.less (g0, g1) (y, z) = c at HH HN
      have HQ := Lib.hid hq
      clear hq hget c0 c1 c2 d0 d1 d2 hb1
      go_wp2_with fail
      go_region_held3 (fun w' => w'.cell? ⟨w1.heap.size, 0, none⟩ = some (.int .i64 g0) ∧ w'.cell? ⟨w1.heap.size, 1, none⟩ = some (.int .i64 g1) ∧ w'.cell? ⟨b, off + k * 3 + 1, none⟩ = some (.int .i64 y) ∧ w'.cell? ⟨b, off + k * 3 + 2, none⟩ = some (.int .i64 z))
        (first | exact ⟨g00, g01, e1, e2⟩ | exact gg1)
        (first
          | (go_at_call 28; ((refine (refLess_b g0 g1 y z c _ HQ.out).mono ?_); rintro e wa ⟨rfl, ha⟩; have gg1 := keep22 ha ⟨g00, g01, e1, e2⟩)))
      have hb2 := bstep hbel1 (bstep (balloc (Below.refl _ w1) _).drew ha)
      cases c with
      | true =>
        go_wp2
        go_ret
        exact ⟨ret_bool (HH.out (by first | rfl | trivial)).symm, hb2⟩
      | false =>
        go_wp2
        go_roundw
        case rel => exact ⟨k + 1, by omega, by go_num, HN.out (by first | rfl | trivial), hb2⟩
        case measure => simp [intOf]; omega
    · obtain rfl : k = m.length := by omega
      go_wp2
      go_ret
      exact ⟨ret_bool (cvD_none (fun j hj => HA.out j hj hj)).symm, hbel⟩
end Go.Proofs.Ytfmedinhlmiaeaa
