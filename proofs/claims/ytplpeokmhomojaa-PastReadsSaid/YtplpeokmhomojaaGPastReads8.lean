/- Texts of this proof, one behind the other: PastRefAdd, PastMath. -/
import Derived.Test.YtplpeokmhomojaaGPastReads7
/- What the document's Add of pasts answers. -/
namespace Go.Proofs.Ytplpeokmhomojaa
open Go.RowKit
set_option linter.unusedVariables false
set_option linter.unusedSimpArgs false

/-- The document's loop: d put into a row. -/
def addGo (d : De) : Bool → List De → List De
  | put, [] => if put then [] else [d]
  | put, x :: r => if x.1 = d.1 then (if Sm.less x.2 d.2 = true then d else x) :: addGo d true r else if !put && klt d.1 x.1 then d :: x :: addGo d true r else x :: addGo d put r
def addR (l : List De) (d : De) : List De := if okD d = true then addGo d false l else l
theorem addGo_len (d : De) (l : List De) : ∀ put, (addGo d put l).length ≤ l.length + 1 ∧ (addGo d true l).length = l.length := by
  induction l with
  | nil => intro put; cases put <;> simp [addGo]
  | cons x r ih =>
    intro put
    have h1 := (ih put).1
    have h2 := (ih put).2
    constructor
    · rw [addGo]
      split
      · simp; omega
      · split
        · simp; omega
        · simp; omega
    · rw [addGo]
      split
      · simp; omega
      · simp; omega
theorem addR_len (l : List De) (d : De) : (addR l d).length ≤ l.length + 1 := by
  unfold addR
  split
  · exact (addGo_len d l false).1
  · omega

theorem keyeq (x k : ByteArray) : (x = k) ↔ (x.toList == k.toList) = true := by
  rw [Lib.toList_data, Lib.toList_data, beq_iff_eq]
  exact ⟨fun h => by rw [h], ba_inj⟩

/-- The rest of the document's loop, step by step. -/
theorem addGo_eq {d x : De} {put : Bool} {r : List De} (h : x.1 = d.1) (hl : Sm.less x.2 d.2 = true) : addGo d put (x :: r) = d :: addGo d true r := by rw [addGo, if_pos h, if_pos hl]
theorem addGo_eq' {d x : De} {put : Bool} {r : List De} (h : x.1 = d.1) (hl : Sm.less x.2 d.2 = false) : addGo d put (x :: r) = x :: addGo d true r := by rw [addGo, if_pos h, if_neg (by rw [hl]; simp)]
theorem addGo_put {d x : De} {r : List De} (h : x.1 ≠ d.1) : addGo d true (x :: r) = x :: addGo d true r := by rw [addGo, if_neg h]; simp
theorem addGo_gt {d x : De} {r : List De} (h : x.1 ≠ d.1) (hg : klt d.1 x.1 = true) : addGo d false (x :: r) = d :: x :: addGo d true r := by rw [addGo, if_neg h]; simp [hg]
theorem addGo_le {d x : De} {r : List De} (h : x.1 ≠ d.1) (hg : klt d.1 x.1 = false) : addGo d false (x :: r) = x :: addGo d false r := by rw [addGo, if_neg h]; simp [hg]

theorem refCheck_b (k : ByteArray) (c : Bool) (w : World) (hk : k.size ≤ 9223372036854775807) (h : Km.chk k.data.toList = c) :
    Calls Try.prog 37 #[.string k] w fun e w' => e = .returned (.bool c) ∧ w = w' := by
  rw [← h]
  exact refCheck_any k w hk
theorem refSCheck_b (n s : Int) (c : Bool) (w : World) (h : Sm.ok n s = c) :
    Calls Try.prog 38 #[.agg #[.int .i64 n, .int .i64 s]] w fun e w' => e = .returned (.bool c) ∧ Below w.heap.size w w' := by
  rw [← h]
  exact refSCheck_any n s w
theorem refLess_b (n s m t : Int) (c : Bool) (w : World) (h : Sm.less (n, s) (m, t) = c) :
    Calls Try.prog 39 #[.agg #[.int .i64 n, .int .i64 s], .agg #[.int .i64 m, .int .i64 t]] w fun e w' => e = .returned (.bool c) ∧ Below w.heap.size w w' := by
  rw [← h]
  exact refLess_any n s m t w

set_option maxRecDepth 100000 in
set_option maxHeartbeats 3200000 in
theorem refAddP_no (v : Value) (l : List De) (k : ByteArray) (n s : Int) (kc sc : Bool) (w : World) (hk : k.size ≤ 9223372036854775807) (hr : DepAt w v l) (hkc : Km.chk k.data.toList = kc) (hsc : Sm.ok n s = sc) (hno : (kc && sc) = false) :
    Calls Try.prog 13 #[v, .agg #[.string k, .int .i64 n, .int .i64 s]] w fun e w' => ∃ u, e = .returned u ∧ DepAt w' u l ∧ Below w.heap.size w w' := by
  have HV := Lib.hid hr
  obtain ⟨a, cap, rfl, hcap, hmx, _, hr⟩ := hr
  have HK := Lib.hid hkc
  have HC := Lib.hid hsc
  clear hr hkc hsc
  cases kc <;> cases sc <;> simp at hno
  all_goals
    go_enter Try.func13, Try.ntmps13
    go_wp2_with fail
    refine (refCheck_b k _ _ hk HK.out).mono ?_
    rintro e w1 ⟨rfl, rfl⟩
    go_wp2_with fail
    refine (refSCheck_b n s _ _ HC.out).mono ?_
    rintro e w2 ⟨rfl, hb⟩
    have HB := Lib.hid (box3 hb).2.2.2.2
    clear hb
    go_wp2
    go_ret
    exact ⟨_, rfl, HV.out.below HB.out, HB.out⟩

set_option maxRecDepth 100000 in
set_option maxHeartbeats 6400000 in
theorem refAddP_yes (v : Value) (l : List De) (k : ByteArray) (n s : Int) (w : World) (hl : l.length ≤ 100000) (hk : k.size ≤ 9223372036854775807) (hr : DepAt w v l) (hkc : Km.chk k.data.toList = true) (hsc : Sm.ok n s = true) :
    Calls Try.prog 13 #[v, .agg #[.string k, .int .i64 n, .int .i64 s]] w fun e w' => ∃ u, e = .returned u ∧ DepAt w' u (addGo (k, n, s) false l) ∧ Below w.heap.size w w' := by
  obtain ⟨a, cap, rfl, hcap, hmx, _, hr⟩ := hr
  have HR := Lib.hid hr
  have HK := Lib.hid hkc
  have HC := Lib.hid hsc
  have HLN := Lib.hid (addGo_len (k, n, s) l false).1
  generalize hfull : addGo (k, n, s) false l = full at HLN ⊢
  have HFULL := Lib.hid hfull
  clear hr hkc hsc hfull
  go_enter Try.func13, Try.ntmps13
  go_wp2_with fail
  refine (refCheck_b k _ _ hk HK.out).mono ?_
  rintro e w1 ⟨rfl, rfl⟩
  go_wp2_with fail
  refine (refSCheck_b n s _ _ HC.out).mono ?_
  rintro e w2 ⟨rfl, hb⟩
  have hB0 := (VarD.new w k n s 26).keep hb
  have HB := Lib.hid (box3 hb).2.2.2.2
  have HB0 := Lib.hid hB0
  have hz0 : w.heap.size < w2.heap.size := hB0.lt
  have HR2 := Lib.hid (HR.out.below HB.out)
  clear hb hB0 HR
  go_wp2
  go_loopw [7, 8, 9] (fun o pt i wr => ∃ (j : Nat) (acc : List De) (put : Bool), j ≤ l.length ∧ i = .int .i64 j ∧ pt = .bool put ∧ acc ++ addGo (k, n, s) put (l.drop j) = full ∧ OwnD wr w2.heap.size o acc ∧ Below w2.heap.size w2 wr) (fun _ _ i _ => l.length - (intOf i).toNat)
  case atStart => exact ⟨0, [], false, by omega, rfl, rfl, by rw [List.drop_zero, List.nil_append]; exact HFULL.out, OwnD.nil _ _, Below.refl _ _⟩
  case round =>
    obtain ⟨j, acc, put, hj, rfl, rfl, hacc, ho, hbel⟩ := hrel
    have hal : acc.length ≤ 100001 := by
      have h1 := HLN.out
      have h2 := congrArg List.length hacc
      rw [List.length_append] at h2
      omega
    have HAC := Lib.hid hacc
    have hbs : w2.heap.size ≤ wr.heap.size := hbel.size
    obtain ⟨sa, sc, rfl⟩ := ho.shape
    have HO := Lib.hid ho
    clear hacc ho
    obtain ⟨d0, d1, d2, _, _, _⟩ := HB0.out.keep hbel
    have hne : w.heap.size ≠ wr.heap.size := by omega
    have d0' : ∀ o, (wr.alloc o).cell? ⟨w.heap.size, 0, none⟩ = some (.string k) := fun o => kc (balloc (Below.refl _ _) o) d0
    have d1' : ∀ o, (wr.alloc o).cell? ⟨w.heap.size, 1, none⟩ = some (.int .i64 n) := fun o => kc (balloc (Below.refl _ _) o) d1
    have d2' : ∀ o, (wr.alloc o).cell? ⟨w.heap.size, 2, none⟩ = some (.int .i64 s) := fun o => kc (balloc (Below.refl _ _) o) d2
    by_cases hlt : j < l.length
    · obtain ⟨b, off, rfl, hbl, c0, c1, c2⟩ := HR2.out.below hbel j hlt
      have HD := Lib.hid (List.drop_eq_getElem_cons hlt)
      generalize l[j] = x at c0 c1 c2 HD
      obtain ⟨x, y, z⟩ := x
      dsimp only at c0 c1 c2
      have HX := Lib.hid (VarD.new wr x y z 26)
      have hb1 : Below wr.heap.size wr (wr.alloc (.cells #[.string x, .int .i64 y, .int .i64 z] 26)) := balloc (Below.refl _ _) _
      have HKE := Lib.hid (keyeq x k)
      cases hq : (x.toList == k.toList) with
      | true =>
        have hq' : x.toList = k.toList := by simpa using hq
        have HQ := Lib.hid (HKE.out.2 hq)
        clear hq
        cases hle : Sm.less (y, z) (n, s) with
        | true =>
          have HL := Lib.hid hle
          clear hle
          go_wp2_with fail
          refine (refLess_b y z n s _ _ HL.out).mono ?_
          rintro e w3 ⟨rfl, hb⟩
          have hX := HX.out.keep hb
          have hb3 := bstep hb1 hb
          obtain ⟨e0, e1, e2, _, _, _⟩ := HB0.out.keep (hbel.trans (hb3.mono hbs))
          obtain ⟨x0, x1, x2, f0, f1, f2⟩ := hX
          have hX : VarD w3 wr.heap.size x y z := ⟨x0, x1, x2, f0, f1, f2⟩
          have HP := Lib.hid (hX.put k n s)
          have HO3 := Lib.hid ((HO.out.below hb3).put3 (HO.out.lt' (Nat.le_refl _)) (.string k) (.int .i64 n) (.int .i64 s))
          have HB3 := Lib.hid (below_put3 (hbel.trans (hb3.mono hbs)) hbs (.string k) (.int .i64 n) (.int .i64 s))
          have hz3 : (World.put3 w3 wr.heap.size (.string k) (.int .i64 n) (.int .i64 s)).heap.size = w3.heap.size := put3_size _ _ _ _ _
          have hs3 : w2.heap.size ≤ w3.heap.size := by have := hb3.size; omega
          obtain ⟨p0, p1, p2, _, _, _⟩ := HP.out
          clear hb hb3 hb1 hX d0 d1 d2 c0 c1 c2
          go_wp2_with (at_builtin; refine wp_pushD (wr := World.put3 w3 wr.heap.size (.string k) (.int .i64 n) (.int .i64 s)) rfl _ _ rfl w2.heap.size (.slice sa acc.length sc) acc k n s rfl HO3.out (by rw [hz3]; rfl) (by omega) (by rw [hz3]; exact hs3) ?_; intro g gcap w4 ho4 hb4 hk4 hg4)
          go_wp2
          go_roundw
          case rel => exact ⟨j + 1, acc ++ [(k, n, s)], true, by omega, by go_num, rfl, by rw [← HAC.out, HD.out, addGo_eq HQ.out HL.out, List.append_assoc]; rfl, by simpa using ho4, HB3.out.trans hb4⟩
          case measure => simp [intOf]; omega
        | false =>
          have HL := Lib.hid hle
          clear hle
          go_wp2_with fail
          refine (refLess_b y z n s _ _ HL.out).mono ?_
          rintro e w3 ⟨rfl, hb⟩
          have hX := HX.out.keep hb
          have hb3 := bstep hb1 hb
          obtain ⟨x0, x1, x2, f0, f1, f2⟩ := hX
          have HO3 := Lib.hid (HO.out.below hb3)
          have HB3 := Lib.hid (hbel.trans (hb3.mono hbs))
          have hs3 : w2.heap.size ≤ w3.heap.size := by have := hb3.size; omega
          clear hb hb3 hb1 d0 d1 d2 c0 c1 c2
          go_wp2_with (at_builtin; refine wp_pushD (wr := w3) rfl _ _ rfl w2.heap.size (.slice sa acc.length sc) acc x y z rfl HO3.out rfl (by omega) hs3 ?_; intro g gcap w4 ho4 hb4 hk4 hg4)
          go_wp2
          go_roundw
          case rel => exact ⟨j + 1, acc ++ [(x, y, z)], true, by omega, by go_num, rfl, by rw [← HAC.out, HD.out, addGo_eq' HQ.out HL.out, List.append_assoc]; rfl, by simpa using ho4, HB3.out.trans hb4⟩
          case measure => simp [intOf]; omega
      | false =>
        have hq' : ¬ x.toList = k.toList := by simpa using hq
        have HQ : Hid (x ≠ k) := Lib.hid (fun h => by rw [HKE.out.1 h] at hq; cases hq)
        have HO1 := Lib.hid (HO.out.below hb1)
        have HB1 := Lib.hid (hbel.trans (hb1.mono hbs))
        have hz1 : (wr.alloc (.cells #[.string x, .int .i64 y, .int .i64 z] 26)).heap.size = wr.heap.size + 1 := by simp
        have HZ1 := Lib.hid hz1
        clear hz1 hb1
        cases put with
        | true =>
          go_wp2_with (at_builtin; refine wp_pushD (wr := wr.alloc (.cells #[.string x, .int .i64 y, .int .i64 z] 26)) rfl _ _ rfl w2.heap.size (.slice sa acc.length sc) acc x y z rfl HO1.out (by rw [HZ1.out]; rfl) (by omega) (by rw [HZ1.out]; omega) ?_; intro g gcap w4 ho4 hb4 hk4 hg4)
          go_wp2
          go_roundw
          case rel => exact ⟨j + 1, acc ++ [(x, y, z)], true, by omega, by go_num, rfl, by rw [← HAC.out, HD.out, addGo_put HQ.out, List.append_assoc]; rfl, by simpa using ho4, HB1.out.trans hb4⟩
          case measure => simp [intOf]; omega
        | false =>
          cases hg : Op.bytesLess x.toList k.toList with
          | true =>
            have hg2 : Op.bytesLess k.toList x.toList = false := Km.bl_asymm hg
            have HG : Hid (klt k x = false) := Lib.hid (by unfold klt; rw [← Lib.toList_data, ← Lib.toList_data]; exact hg2)
            go_wp2_with (at_builtin; refine wp_pushD (wr := wr.alloc (.cells #[.string x, .int .i64 y, .int .i64 z] 26)) rfl _ _ rfl w2.heap.size (.slice sa acc.length sc) acc x y z rfl HO1.out (by rw [HZ1.out]; rfl) (by omega) (by rw [HZ1.out]; omega) ?_; intro g gcap w4 ho4 hb4 hk4 hg4)
            go_wp2
            go_roundw
            case rel => exact ⟨j + 1, acc ++ [(x, y, z)], false, by omega, by go_num, rfl, by rw [← HAC.out, HD.out, addGo_le HQ.out HG.out, List.append_assoc]; rfl, by simpa using ho4, HB1.out.trans hb4⟩
            case measure => simp [intOf]; omega
          | false =>
            have hg2 : Op.bytesLess k.toList x.toList = true := by
              cases h : Op.bytesLess k.toList x.toList with
              | true => rfl
              | false => exact absurd (Km.bl_tri hg h) hq'
            have HG : Hid (klt k x = true) := Lib.hid (by unfold klt; rw [← Lib.toList_data, ← Lib.toList_data]; exact hg2)
            go_wp2_with (first
              | (at_builtin; refine wp_pushD (wr := wr.alloc (.cells #[.string x, .int .i64 y, .int .i64 z] 26)) rfl _ _ rfl w2.heap.size (.slice sa acc.length sc) acc k n s rfl HO1.out (by rw [HZ1.out]; rfl) (by omega) (by rw [HZ1.out]; omega) ?_; intro g gcap w4 ho4 hb4 hk4 hg4; obtain ⟨x0, x1, x2, f0, f1, f2⟩ := HX.out.block (hk4 wr.heap.size (by rw [HZ1.out]; omega) (HO.out.lt' (Nat.le_refl _))); have HO4 := Lib.hid ho4; have hs4 : w2.heap.size ≤ w4.heap.size := (by have := (HB1.out.trans hb4).size; omega); clear ho4 hk4)
              | (at_builtin; refine wp_pushD (wr := w4) rfl _ _ rfl w2.heap.size (.slice (some ⟨g, 0, none⟩) (acc.length + 1) gcap) (acc ++ [(k, n, s)]) x y z rfl (by simpa using HO4.out) rfl (by simp; omega) hs4 ?_; intro g5 gcap5 w5 ho5 hb5 hk5 hg5))
            go_wp2
            go_roundw
            case rel => exact ⟨j + 1, acc ++ [(k, n, s)] ++ [(x, y, z)], true, by omega, by go_num, rfl, by rw [← HAC.out, HD.out, addGo_gt HQ.out HG.out]; simp, by simpa using ho5, (HB1.out.trans hb4).trans hb5⟩
            case measure => simp [intOf]; omega
    · have HE : Hid (acc ++ (if put then [] else [(k, n, s)]) = full) := Lib.hid (by have h := HAC.out; rw [List.drop_eq_nil_of_le (by omega)] at h; simpa [addGo] using h)
      have hge : ¬ (j : Int) < (l.length : Int) := by omega
      cases put with
      | true =>
        go_wp2
        go_ret
        exact ⟨_, rfl, by have h := HE.out; simp at h; rw [← h]; exact DepAt.of_own HO.out, HB.out.trans (hbel.mono (by omega))⟩
      | false =>
        go_wp2_with (at_builtin; refine wp_pushD (wr := wr) rfl _ _ rfl w2.heap.size (.slice sa acc.length sc) acc k n s rfl HO.out rfl (by omega) hbs ?_; intro g gcap w4 ho4 hb4 hk4 hg4)
        go_wp2
        go_ret
        exact ⟨_, rfl, by have h := HE.out; simp at h; rw [← h]; have := DepAt.of_own ho4; simpa using this, HB.out.trans ((hbel.trans hb4).mono (by omega))⟩

theorem refAddP_any (v : Value) (l : List De) (k : ByteArray) (n s : Int) (w : World) (hl : l.length ≤ 100000) (hk : k.size ≤ 9223372036854775807) (hr : DepAt w v l) :
    Calls Try.prog 13 #[v, .agg #[.string k, .int .i64 n, .int .i64 s]] w fun e w' => ∃ u, e = .returned u ∧ DepAt w' u (addR l (k, n, s)) ∧ Below w.heap.size w w' := by
  cases hkc : Km.chk k.data.toList <;> cases hsc : Sm.ok n s
  · rw [show addR l (k, n, s) = l by simp [addR, okD, hkc]]; exact refAddP_no v l k n s _ _ w hk hr hkc hsc rfl
  · rw [show addR l (k, n, s) = l by simp [addR, okD, hkc]]; exact refAddP_no v l k n s _ _ w hk hr hkc hsc rfl
  · rw [show addR l (k, n, s) = l by simp [addR, okD, hkc, hsc]]; exact refAddP_no v l k n s _ _ w hk hr hkc hsc rfl
  · rw [show addR l (k, n, s) = addGo (k, n, s) false l by simp [addR, okD, hkc, hsc]]; exact refAddP_yes v l k n s w hl hk hr hkc hsc
end Go.Proofs.Ytplpeokmhomojaa
/- Pasts put together: plain mathematics. -/
namespace Go.Proofs.Ytplpeokmhomojaa
open Go.RowKit
set_option linter.unusedVariables false
set_option linter.unusedSimpArgs false

/-- r is what the dependencies f make, put together: of each key the greatest that may be. -/
structure IsMerge (f r : List De) : Prop where
  srt : Srt r
  mem : ∀ m, m ∈ r ↔ (m ∈ f ∧ okD m = true ∧ ∀ e ∈ f, okD e = true → e.1 = m.1 → Sm.less m.2 e.2 = false)
  rep : ∀ e ∈ f, okD e = true → ∃ x ∈ r, x.1 = e.1

theorem srt_key {l : List De} (h : Srt l) {x y : De} (hx : x ∈ l) (hy : y ∈ l) (e : x.1 = y.1) : x = y := by
  obtain ⟨i, hi, rfl⟩ := List.getElem_of_mem hx
  obtain ⟨j, hj, rfl⟩ := List.getElem_of_mem hy
  rcases Nat.lt_trichotomy i j with c | c | c
  · have := (List.pairwise_iff_getElem.1 h.2) i j hi hj c
    exact absurd e (klt_ne this)
  · subst c; rfl
  · have := (List.pairwise_iff_getElem.1 h.2) j i hj hi c
    exact absurd e.symm (klt_ne this)
/-- Rows that rise and have the same members are one. -/
theorem srt_ext : ∀ {l m : List De}, Srt l → Srt m → (∀ d, d ∈ l ↔ d ∈ m) → l = m
  | [], [], _, _, _ => rfl
  | [], y :: m, _, _, h => absurd ((h y).2 (by simp)) (by simp)
  | x :: l, [], _, _, h => absurd ((h x).1 (by simp)) (by simp)
  | x :: l, y :: m, hl, hm, h => by
    have a := List.pairwise_cons.1 hl.2
    have b := List.pairwise_cons.1 hm.2
    have e : x = y := by
      have hx := (h x).1 (by simp)
      have hy := (h y).2 (by simp)
      rcases List.mem_cons.1 hx with e | hx
      · exact e
      · rcases List.mem_cons.1 hy with e | hy
        · exact e.symm
        · have h1 := b.1 x hx
          have h2 := a.1 y hy
          have := klt_trans h1 h2
          rw [klt_irrefl] at this
          cases this
    subst e
    rw [srt_ext hl.tail hm.tail ?_]
    intro d
    constructor
    · intro hd
      rcases List.mem_cons.1 ((h d).1 (List.mem_cons_of_mem _ hd)) with e | h'
      · subst e
        have := a.1 d hd
        rw [klt_irrefl] at this
        cases this
      · exact h'
    · intro hd
      rcases List.mem_cons.1 ((h d).2 (List.mem_cons_of_mem _ hd)) with e | h'
      · subst e
        have := b.1 d hd
        rw [klt_irrefl] at this
        cases this
      · exact h'
theorem IsMerge.uniq {f f' r r' : List De} (h : IsMerge f r) (h' : IsMerge f' r') (hf : ∀ d, d ∈ f ↔ d ∈ f') : r = r' := by
  refine srt_ext h.srt h'.srt (fun d => ?_)
  rw [h.mem, h'.mem, hf]
  constructor
  · rintro ⟨a, b, c⟩
    exact ⟨a, b, fun e he => c e ((hf e).2 he)⟩
  · rintro ⟨a, b, c⟩
    exact ⟨a, b, fun e he => c e ((hf e).1 he)⟩
/-- A past is what it makes. -/
theorem IsMerge.self {r : List De} (h : Srt r) : IsMerge r r := by
  refine ⟨h, fun m => ⟨fun hm => ⟨hm, h.1 m hm, fun e he _ hk => ?_⟩, fun hm => hm.1⟩, fun e he _ => ⟨e, he, rfl⟩⟩
  rw [srt_key h he hm hk]
  exact Sm.less_self _

/-! The program's way: sorted, and of neighbours of one key the first. -/
theorem cmpGo_facts : ∀ (r : List De) (prev : De), SortedD (prev :: r) →
    (∀ d ∈ cmpGo prev r, d ∈ r ∧ klt prev.1 d.1 = true) ∧ (cmpGo prev r).Pairwise (fun x y => klt x.1 y.1 = true) ∧ (∀ d ∈ cmpGo prev r, ∀ e ∈ r, e.1 = d.1 → Sm.less d.2 e.2 = false) ∧ (∀ e ∈ r, ∃ d ∈ prev :: cmpGo prev r, d.1 = e.1)
  | [], prev, _ => ⟨by simp [cmpGo], by simp [cmpGo], by simp [cmpGo], by simp⟩
  | x :: r, prev, hs => by
    have hs1 := List.pairwise_cons.1 hs
    have hs2 := List.pairwise_cons.1 hs1.2
    obtain ⟨ia, ib, ic, id⟩ := cmpGo_facts r x hs1.2
    have hx := hs1.1 x (by simp)
    by_cases hk : x.1 = prev.1
    · rw [cmpGo, if_pos hk]
      refine ⟨fun d hd => ⟨List.mem_cons_of_mem _ (ia d hd).1, by rw [← hk]; exact (ia d hd).2⟩, ib, ?_, ?_⟩
      · intro d hd e he hek
        rcases List.mem_cons.1 he with rfl | he
        · exact absurd hek (klt_ne (ia d hd).2)
        · exact ic d hd e he hek
      · intro e he
        rcases List.mem_cons.1 he with rfl | he
        · exact ⟨prev, by simp, hk.symm⟩
        · obtain ⟨d, hd, hde⟩ := id e he
          rcases List.mem_cons.1 hd with rfl | hd
          · exact ⟨prev, by simp, hk.symm.trans hde⟩
          · exact ⟨d, List.mem_cons_of_mem _ hd, hde⟩
    · rw [cmpGo, if_neg hk]
      have hpx : klt prev.1 x.1 = true := by
        unfold ltD at hx
        rw [if_neg hk] at hx
        cases h : klt prev.1 x.1 with
        | true => rfl
        | false => exact absurd (klt_tri hx h) hk
      refine ⟨?_, List.pairwise_cons.2 ⟨fun d hd => (ia d hd).2, ib⟩, ?_, ?_⟩
      · intro d hd
        rcases List.mem_cons.1 hd with rfl | hd
        · exact ⟨by simp, hpx⟩
        · exact ⟨List.mem_cons_of_mem _ (ia d hd).1, klt_trans hpx (ia d hd).2⟩
      · intro d hd e he hek
        rcases List.mem_cons.1 hd with rfl | hd
        · rcases List.mem_cons.1 he with rfl | he
          · exact Sm.less_self _
          · have h3 := hs2.1 e he
            unfold ltD at h3
            rw [if_pos hek] at h3
            exact h3
        · rcases List.mem_cons.1 he with rfl | he
          · exact absurd hek (klt_ne (ia d hd).2)
          · exact ic d hd e he hek
      · intro e he
        rcases List.mem_cons.1 he with rfl | he
        · exact ⟨e, by simp, rfl⟩
        · obtain ⟨d, hd, hde⟩ := id e he
          exact ⟨d, List.mem_cons_of_mem _ hd, hde⟩
theorem cmpK_facts (l : List De) (hs : SortedD l) :
    (∀ d ∈ cmpK l, d ∈ l) ∧ (cmpK l).Pairwise (fun x y => klt x.1 y.1 = true) ∧ (∀ d ∈ cmpK l, ∀ e ∈ l, e.1 = d.1 → Sm.less d.2 e.2 = false) ∧ (∀ e ∈ l, ∃ d ∈ cmpK l, d.1 = e.1) := by
  cases l with
  | nil => exact ⟨by simp [cmpK], by simp [cmpK], by simp [cmpK], by simp⟩
  | cons p r =>
    obtain ⟨ia, ib, ic, id⟩ := cmpGo_facts r p hs
    have hs1 := List.pairwise_cons.1 hs
    rw [cmpK]
    refine ⟨?_, List.pairwise_cons.2 ⟨fun d hd => (ia d hd).2, ib⟩, ?_, ?_⟩
    · intro d hd
      rcases List.mem_cons.1 hd with rfl | hd
      · simp
      · exact List.mem_cons_of_mem _ (ia d hd).1
    · intro d hd e he hek
      rcases List.mem_cons.1 hd with rfl | hd
      · rcases List.mem_cons.1 he with rfl | he
        · exact Sm.less_self _
        · have h3 := hs1.1 e he
          unfold ltD at h3
          rw [if_pos hek] at h3
          exact h3
      · rcases List.mem_cons.1 he with rfl | he
        · exact absurd hek (klt_ne (ia d hd).2)
        · exact ic d hd e he hek
    · intro e he
      rcases List.mem_cons.1 he with rfl | he
      · exact ⟨e, by simp, rfl⟩
      · exact id e he
theorem merge_of_sort {f l : List De} (hp : l.Perm (kept (fun d => !okD d) f)) (hs : SortedD l) : IsMerge f (cmpK l) := by
  obtain ⟨ha, hb, hc, hd⟩ := cmpK_facts l hs
  have hm : ∀ d, d ∈ l ↔ (d ∈ f ∧ okD d = true) := by
    intro d
    rw [hp.mem_iff]
    simp [kept]
  refine ⟨⟨fun d h => ((hm d).1 (ha d h)).2, hb⟩, fun m => ?_, fun e he ho => hd e ((hm e).2 ⟨he, ho⟩)⟩
  constructor
  · intro h
    have h1 := (hm m).1 (ha m h)
    exact ⟨h1.1, h1.2, fun e he ho hk => hc m h e ((hm e).2 ⟨he, ho⟩) hk⟩
  · rintro ⟨h1, h2, h3⟩
    have hml := (hm m).2 ⟨h1, h2⟩
    obtain ⟨d, hdm, hdk⟩ := hd m hml
    have h4 := hc d hdm m hml hdk.symm
    have hd2 := (hm d).1 (ha d hdm)
    have h5 := h3 d hd2.1 hd2.2 hdk
    have h6 : d.2 = m.2 := (Sm.le_antisymm h5 h4)
    have : d = m := Prod.ext hdk h6
    rw [← this]
    exact hdm

/-! The document's way: one by one. -/
theorem addGo_true {d : De} : ∀ {r : List De}, (∀ y ∈ r, y.1 ≠ d.1) → addGo d true r = r
  | [], _ => rfl
  | x :: r, h => by
    rw [addGo_put (h x (by simp)), addGo_true (fun y hy => h y (List.mem_cons_of_mem _ hy))]
theorem addGo_spec {d : De} (hd : okD d = true) : ∀ {r : List De}, Srt r → Srt (addGo d false r) ∧ (∀ k, klt k d.1 = true → (∀ y ∈ r, klt k y.1 = true) → ∀ y ∈ addGo d false r, klt k y.1 = true) ∧
    ∀ m, m ∈ addGo d false r ↔ ((m ∈ r ∧ m.1 ≠ d.1) ∨ (m.1 = d.1 ∧ ((m = d ∧ ∀ x ∈ r, x.1 = d.1 → Sm.less x.2 d.2 = true) ∨ (m ∈ r ∧ Sm.less m.2 d.2 = false))))
  | [], _ => by
    refine ⟨⟨by simpa [addGo] using hd, by simp [addGo]⟩, by simp [addGo], fun m => ?_⟩
    simp [addGo]
    intro h
    rw [h]
  | x :: r, hs => by
    have ha := List.pairwise_cons.1 hs.2
    have ih := addGo_spec hd hs.tail
    by_cases hk : x.1 = d.1
    · have hne : ∀ y ∈ r, y.1 ≠ d.1 := fun y hy e => klt_ne (ha.1 y hy) (hk.trans e.symm)
      cases hl : Sm.less x.2 d.2 with
      | true =>
        rw [addGo_eq hk hl, addGo_true hne]
        refine ⟨⟨?_, List.pairwise_cons.2 ⟨fun y hy => by rw [← hk]; exact ha.1 y hy, ha.2⟩⟩, ?_, fun m => ?_⟩
        · intro e he
          rcases List.mem_cons.1 he with rfl | he
          · exact hd
          · exact hs.1 e (List.mem_cons_of_mem _ he)
        · intro k h1 h2 y hy
          rcases List.mem_cons.1 hy with rfl | hy
          · exact h1
          · exact h2 y (List.mem_cons_of_mem _ hy)
        · constructor
          · intro h
            rcases List.mem_cons.1 h with rfl | h
            · refine .inr ⟨rfl, .inl ⟨rfl, fun z hz hzk => ?_⟩⟩
              rcases List.mem_cons.1 hz with rfl | hz
              · exact hl
              · exact absurd hzk (hne z hz)
            · exact .inl ⟨List.mem_cons_of_mem _ h, hne m h⟩
          · rintro (⟨h1, h2⟩ | ⟨h1, ⟨rfl, _⟩ | ⟨h2, h3⟩⟩)
            · rcases List.mem_cons.1 h1 with rfl | h1
              · exact absurd hk h2
              · exact List.mem_cons_of_mem _ h1
            · simp
            · rcases List.mem_cons.1 h2 with rfl | h2
              · rw [hl] at h3; cases h3
              · exact absurd h1 (hne m h2)
      | false =>
        rw [addGo_eq' hk hl, addGo_true hne]
        refine ⟨hs, fun k _ h2 => h2, fun m => ?_⟩
        constructor
        · intro h
          rcases List.mem_cons.1 h with rfl | h
          · exact .inr ⟨hk, .inr ⟨by simp, hl⟩⟩
          · exact .inl ⟨List.mem_cons_of_mem _ h, hne m h⟩
        · rintro (⟨h1, _⟩ | ⟨h1, ⟨rfl, h2⟩ | ⟨h2, _⟩⟩)
          · exact h1
          · have := h2 x (by simp) hk
            rw [hl] at this; cases this
          · exact h2
    · cases hg : klt d.1 x.1 with
      | true =>
        have hne : ∀ y ∈ r, y.1 ≠ d.1 := fun y hy e => by
          have := klt_trans hg (ha.1 y hy)
          exact klt_ne this e.symm
        rw [addGo_gt hk hg, addGo_true hne]
        have hall : ∀ y ∈ x :: r, klt d.1 y.1 = true := by
          intro y hy
          rcases List.mem_cons.1 hy with rfl | hy
          · exact hg
          · exact klt_trans hg (ha.1 y hy)
        refine ⟨⟨?_, List.pairwise_cons.2 ⟨hall, hs.2⟩⟩, ?_, fun m => ?_⟩
        · intro e he
          rcases List.mem_cons.1 he with rfl | he
          · exact hd
          · exact hs.1 e he
        · intro k h1 h2 y hy
          rcases List.mem_cons.1 hy with rfl | hy
          · exact h1
          · exact h2 y hy
        · constructor
          · intro h
            rcases List.mem_cons.1 h with rfl | h
            · exact .inr ⟨rfl, .inl ⟨rfl, fun z hz hzk => absurd hzk.symm (klt_ne (hall z hz))⟩⟩
            · exact .inl ⟨h, fun e => klt_ne (hall m h) e.symm⟩
          · rintro (⟨h1, _⟩ | ⟨h1, ⟨rfl, _⟩ | ⟨h2, _⟩⟩)
            · exact List.mem_cons_of_mem _ h1
            · simp
            · exact List.mem_cons_of_mem _ h2
      | false =>
        have hxd : klt x.1 d.1 = true := by
          cases h : klt x.1 d.1 with
          | true => rfl
          | false => exact absurd (klt_tri h hg) hk
        rw [addGo_le hk hg]
        obtain ⟨i1, i2, i3⟩ := ih
        refine ⟨⟨?_, List.pairwise_cons.2 ⟨i2 x.1 hxd ha.1, i1.2⟩⟩, ?_, fun m => ?_⟩
        · intro e he
          rcases List.mem_cons.1 he with rfl | he
          · exact hs.1 e (by simp)
          · exact i1.1 e he
        · intro k h1 h2 y hy
          rcases List.mem_cons.1 hy with rfl | hy
          · exact h2 y (by simp)
          · exact i2 k h1 (fun z hz => h2 z (List.mem_cons_of_mem _ hz)) y hy
        · rw [List.mem_cons, i3]
          constructor
          · rintro (rfl | ⟨h1, h2⟩ | ⟨h1, ⟨h2, h3⟩ | ⟨h2, h3⟩⟩)
            · exact .inl ⟨by simp, hk⟩
            · exact .inl ⟨List.mem_cons_of_mem _ h1, h2⟩
            · refine .inr ⟨h1, .inl ⟨h2, fun z hz hzk => ?_⟩⟩
              rcases List.mem_cons.1 hz with rfl | hz
              · exact absurd hzk hk
              · exact h3 z hz hzk
            · exact .inr ⟨h1, .inr ⟨List.mem_cons_of_mem _ h2, h3⟩⟩
          · rintro (⟨h1, h2⟩ | ⟨h1, ⟨h2, h3⟩ | ⟨h2, h3⟩⟩)
            · rcases List.mem_cons.1 h1 with rfl | h1
              · exact .inl rfl
              · exact .inr (.inl ⟨h1, h2⟩)
            · exact .inr (.inr ⟨h1, .inl ⟨h2, fun z hz hzk => h3 z (List.mem_cons_of_mem _ hz) hzk⟩⟩)
            · rcases List.mem_cons.1 h2 with rfl | h2
              · exact absurd h1 hk
              · exact .inr (.inr ⟨h1, .inr ⟨h2, h3⟩⟩)
theorem addR_srt {r : List De} (h : Srt r) (d : De) : Srt (addR r d) := by
  unfold addR
  split
  · rename_i hd
    exact (addGo_spec hd h).1
  · exact h
theorem IsMerge.add {f r : List De} (h : IsMerge f r) (d : De) : IsMerge (f ++ [d]) (addR r d) := by
  by_cases hd : okD d = true
  · rw [addR, if_pos hd]
    obtain ⟨s1, _, s3⟩ := addGo_spec hd h.srt
    refine ⟨s1, fun m => ?_, fun e he ho => ?_⟩
    · rw [s3]
      constructor
      · rintro (⟨h1, h2⟩ | ⟨h1, ⟨rfl, h3⟩ | ⟨h2, h3⟩⟩)
        · obtain ⟨a, b, c⟩ := (h.mem m).1 h1
          refine ⟨by simp [a], b, fun e he ho hk => ?_⟩
          rcases List.mem_append.1 he with he | he
          · exact c e he ho hk
          · simp at he
            subst he
            exact absurd hk.symm h2
        · refine ⟨by simp, hd, fun e he ho hk => ?_⟩
          rcases List.mem_append.1 he with he | he
          · obtain ⟨x, hx, hxk⟩ := h.rep e he ho
            have h4 := h3 x hx (hxk.trans hk)
            have h5 := ((h.mem x).1 hx).2.2 e he ho hxk.symm
            cases h6 : Sm.less m.2 e.2 with
            | false => rfl
            | true =>
              rw [Sm.less_trans h4 h6] at h5
              cases h5
          · simp at he
            subst he
            exact Sm.less_self _
        · obtain ⟨a, b, c⟩ := (h.mem m).1 h2
          refine ⟨by simp [a], b, fun e he ho hk => ?_⟩
          rcases List.mem_append.1 he with he | he
          · exact c e he ho hk
          · simp at he
            subst he
            exact h3
      · rintro ⟨a, b, c⟩
        by_cases hk : m.1 = d.1
        · by_cases hmr : m ∈ r
          · exact .inr ⟨hk, .inr ⟨hmr, c d (by simp) hd hk.symm⟩⟩
          · have hmd : m = d := by
              rcases List.mem_append.1 a with a | a
              · exact absurd ((h.mem m).2 ⟨a, b, fun e he => c e (by simp [he])⟩) hmr
              · simpa using a
            subst hmd
            refine .inr ⟨rfl, .inl ⟨rfl, fun x hx hxk => ?_⟩⟩
            have h1 := (h.mem x).1 hx
            have h2 := c x (by simp [h1.1]) h1.2.1 hxk
            cases h3 : Sm.less x.2 m.2 with
            | true => rfl
            | false =>
              have : x.2 = m.2 := Sm.le_antisymm h2 h3
              exact absurd hx (by rw [show x = m from Prod.ext hxk this]; exact hmr)
        · refine .inl ⟨(h.mem m).2 ⟨?_, b, fun e he => c e (by simp [he])⟩, hk⟩
          rcases List.mem_append.1 a with a | a
          · exact a
          · simp at a
            subst a
            exact absurd rfl hk
    · rcases List.mem_append.1 he with he | he
      · obtain ⟨x, hx, hxk⟩ := h.rep e he ho
        by_cases hk : x.1 = d.1
        · cases hl : Sm.less x.2 d.2 with
          | true => exact ⟨d, (s3 d).2 (.inr ⟨rfl, .inl ⟨rfl, fun y hy hyk => by rw [srt_key h.srt hy hx (hyk.trans hk.symm)]; exact hl⟩⟩), hk.symm.trans hxk⟩
          | false => exact ⟨x, (s3 x).2 (.inr ⟨hk, .inr ⟨hx, hl⟩⟩), hxk⟩
        · exact ⟨x, (s3 x).2 (.inl ⟨hx, hk⟩), hxk⟩
      · simp at he
        subst he
        by_cases hx : ∃ x ∈ r, x.1 = e.1 ∧ Sm.less x.2 e.2 = false
        · obtain ⟨x, hx, hxk, hl⟩ := hx
          exact ⟨x, (s3 x).2 (.inr ⟨hxk, .inr ⟨hx, hl⟩⟩), hxk⟩
        · refine ⟨e, (s3 e).2 (.inr ⟨rfl, .inl ⟨rfl, fun x h1 h2 => ?_⟩⟩), rfl⟩
          cases hl : Sm.less x.2 e.2 with
          | true => rfl
          | false => exact absurd ⟨x, h1, h2, hl⟩ hx
  · rw [addR, if_neg hd]
    refine ⟨h.srt, fun m => ?_, fun e he ho => ?_⟩
    · rw [h.mem]
      constructor
      · rintro ⟨a, b, c⟩
        refine ⟨by simp [a], b, fun e he ho hk => ?_⟩
        rcases List.mem_append.1 he with he | he
        · exact c e he ho hk
        · simp at he
          subst he
          exact absurd ho hd
      · rintro ⟨a, b, c⟩
        refine ⟨?_, b, fun e he => c e (by simp [he])⟩
        rcases List.mem_append.1 a with a | a
        · exact a
        · simp at a
          subst a
          exact absurd b hd
    · rcases List.mem_append.1 he with he | he
      · exact h.rep e he ho
      · simp at he
        subst he
        exact absurd ho hd
theorem IsMerge.nil : IsMerge [] [] := ⟨Srt.nil, by simp, by simp⟩
/-- One by one. -/
def addAll (r : List De) (l : List De) : List De := l.foldl addR r
theorem IsMerge.all {f r : List De} (h : IsMerge f r) (l : List De) : IsMerge (f ++ l) (addAll r l) := by
  induction l generalizing f r with
  | nil => simpa [addAll] using h
  | cons d l ih =>
    have := ih (h.add d)
    rw [List.append_assoc] at this
    simpa [addAll] using this
end Go.Proofs.Ytplpeokmhomojaa
