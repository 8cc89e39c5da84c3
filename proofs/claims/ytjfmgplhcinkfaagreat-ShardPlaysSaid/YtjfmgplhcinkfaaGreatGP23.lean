/- Texts of this proof, one behind the other: Rd12, RdBel, RdKp, RdCl12, EqRng, RdSame. -/
import Derived.Test.YtjfmgplhcinkfaaGreatGP22
import Derived.Deep.RegionHeld3
import Derived.Deep.DeepCutAuto
import Derived.WalkSmall
/- The document's chain: what Head, At and Below tell. -/
namespace Go.Proofs.YtjfmgplhcinkfaaGreat
open Go.RowKit
set_option linter.unusedVariables false
set_option linter.unusedSimpArgs false

set_option maxRecDepth 100000 in
set_option maxHeartbeats 800000 in
theorem rhead12_any (v : Value) (xs : List Vw) (w : World) (hl : xs.length ≤ 1000000) (hr : WRow w v xs) :
    Calls Tryz.prog 19 #[v] w fun e w' => e = .returned (.tuple #[wV (xs.getLast?.getD vw0), .bool xs.getLast?.isSome]) ∧ Below w.heap.size w w' := by
  have HR := Lib.hid hr
  obtain ⟨a, cap, rfl, hcap, hmx, hnil⟩ := hr.shape
  clear hr
  by_cases h0 : xs.length = 0
  · obtain rfl : xs = [] := List.length_eq_zero_iff.1 h0
    clear h0 hl
    go_enter Tryz.func19, Tryz.ntmps19
    go_wp2
    refine bodyPost_ret (v := .tuple #[.agg #[.string ⟨#[]⟩, .string ⟨#[]⟩, .bool false, .int .i64 0, .int .i64 0, .slice none 0 0], .bool false]) (by simp [results, Tryz.results19, go_sem]) rfl ⟨rfl, ?_⟩
    exact balloc (Below.refl _ w) _
  · obtain ⟨n, hn⟩ : ∃ n, xs.length = n + 1 := ⟨xs.length - 1, by omega⟩
    have hg : xs.getLast? = some (xs[n]'(by omega)) := by
      rw [List.getLast?_eq_getElem?, List.getElem?_eq_getElem (by omega)]
      congr 2
      omega
    obtain ⟨b, off, rfl, hbl, hq, _⟩ := (HR.out.below (balloc (Below.refl _ w) (.cells (wvs wz (.slice none 0 0)) 36))).at n (by omega)
    have HG := Lib.hid hg
    clear hg HR
    generalize xs[n]'(by omega) = x at HG hq
    obtain ⟨c0, c1, c2, c3, c4, c5⟩ := hq
    obtain ⟨⟨key, val, gone, ⟨k, s⟩, past⟩, pa, pc⟩ := x
    dsimp only [wvs, wz, pw] at c0 c1 c2 c3 c4 c5
    have hi1 : (0 : Int) ≤ ((n + 1 : Nat) : Int) - 1 := by omega
    go_enter Tryz.func19, Tryz.ntmps19
    go_wp2
    refine bodyPost_ret (v := .tuple #[.agg #[.string key, .string val, .bool gone, .int .i64 k, .int .i64 s, .slice pa past.length pc], .bool true]) (by simp [results, Tryz.results19, go_sem]) rfl ⟨?_, balloc (Below.refl _ w) _⟩
    rw [HG.out]
    rfl


theorem find_at12 {p : Vw → Bool} {l : List Vw} {j : Nat} (h : j < l.length) (hp : p l[j] = true) (ha : ∀ q (hq : q < l.length), q < j → p l[q] = false) : l.find? p = some l[j] := by
  rw [List.find?_eq_some_iff_getElem]
  exact ⟨hp, j, h, rfl, fun q hq => by rw [ha q (by omega) hq]; rfl⟩
theorem find_no12 {p : Vw → Bool} {l : List Vw} (ha : ∀ q (hq : q < l.length), p l[q] = false) : l.find? p = none := by
  rw [List.find?_eq_none]
  intro x hx
  obtain ⟨q, hq, rfl⟩ := List.getElem_of_mem hx
  rw [ha q hq]
  simp

set_option maxRecDepth 100000 in
set_option maxHeartbeats 1600000 in
theorem rat12_any (v : Value) (xs : List Vw) (s : Int × Int) (w : World) (hl : xs.length ≤ 1000000) (hr : WRow w v xs) :
    Calls Tryz.prog 13 #[v, sv s] w fun e w' => e = .returned (.tuple #[wV ((xs.find? (isS s)).getD vw0), .bool (xs.find? (isS s)).isSome]) ∧ Below w.heap.size w w' := by
  obtain ⟨s0, s1⟩ := s
  have HR := Lib.hid hr
  obtain ⟨a, cap, rfl, hcap, hmx, hnil⟩ := hr.shape
  clear hr
  have hb1 : Below w.heap.size w ((w.alloc (.cells #[.int .i64 s0, .int .i64 s1] 33)).alloc (.cells #[.string ⟨#[]⟩, .string ⟨#[]⟩, .bool false, .int .i64 0, .int .i64 0, .slice none 0 0] 36)) := balloc (balloc (Below.refl _ w) _) _
  have hv1 : VwP ((w.alloc (.cells #[.int .i64 s0, .int .i64 s1] 33)).alloc (.cells #[.string ⟨#[]⟩, .string ⟨#[]⟩, .bool false, .int .i64 0, .int .i64 0, .slice none 0 0] 36)) (w.heap.size + 1) wz (.slice none 0 0) := by
    have := VwP.new (w.alloc (.cells #[.int .i64 s0, .int .i64 s1] 33)) wz (.slice none 0 0) 36
    rw [show (w.alloc (.cells #[.int .i64 s0, .int .i64 s1] 33)).heap.size = w.heap.size + 1 by simp] at this
    exact this
  have p0 : ((w.alloc (.cells #[.int .i64 s0, .int .i64 s1] 33)).alloc (.cells #[.string ⟨#[]⟩, .string ⟨#[]⟩, .bool false, .int .i64 0, .int .i64 0, .slice none 0 0] 36)).cell? ⟨w.heap.size, 0, none⟩ = some (.int .i64 s0) := kc (balloc (Below.refl _ _) _) (by simp)
  have p1 : ((w.alloc (.cells #[.int .i64 s0, .int .i64 s1] 33)).alloc (.cells #[.string ⟨#[]⟩, .string ⟨#[]⟩, .bool false, .int .i64 0, .int .i64 0, .slice none 0 0] 36)).cell? ⟨w.heap.size, 1, none⟩ = some (.int .i64 s1) := kc (balloc (Below.refl _ _) _) (by simp)
  dsimp only [sv]
  go_enter Tryz.func13, Tryz.ntmps13
  go_upto_region 1 with fail
  generalize (w.alloc (.cells #[.int .i64 s0, .int .i64 s1] 33)).alloc (.cells #[.string ⟨#[]⟩, .string ⟨#[]⟩, .bool false, .int .i64 0, .int .i64 0, .slice none 0 0] 36) = w2 at *
  have HV := Lib.hid hv1
  have HP := Lib.hid (And.intro p0 p1)
  have HB := Lib.hid hb1
  have hlt2 : w.heap.size + 1 < w2.heap.size := hv1.lt
  clear hv1 p0 p1 hb1
  go_wp2
  go_loopw [6] (fun i wr => ∃ j : Nat, j ≤ xs.length ∧ i = .int .i64 j ∧ (∀ q (hq : q < xs.length), q < j → isS (s0, s1) xs[q] = false) ∧ Below w2.heap.size w2 wr) (fun i _ => xs.length - (intOf i).toNat)
  case atStart => exact ⟨0, by omega, rfl, (fun q hq h => by omega), Below.refl _ _⟩
  case round =>
    obtain ⟨j, hj, rfl, hall, hbel⟩ := hrel
    have HA := Lib.hid hall
    have HBL := Lib.hid hbel
    clear hall
    by_cases hlt : j < xs.length
    · obtain ⟨b, off, rfl, hbl, ⟨c0, c1, c2, c3, c4, c5⟩, _⟩ := (HR.out.below (bstep HB.out hbel)).at j hlt
      have HH := Lib.hid (fun h => @find_at12 (isS (s0, s1)) xs j hlt h HA.out)
      have HN : Hid (isS (s0, s1) xs[j] = false → ∀ q (hq : q < xs.length), q < j + 1 → isS (s0, s1) xs[q] = false) := Lib.hid (fun h q hq h2 => by
        by_cases e : q = j
        · subst e; exact h
        · exact HA.out q hq (by omega))
      have hst : isS (s0, s1) xs[j] = decide (xs[j].1.st = (s0, s1)) := rfl
      rw [hst] at HH HN
      clear hst
      generalize xs[j] = x at c0 c1 c2 c3 c4 c5 HH HN
      obtain ⟨⟨key, val, gone, ⟨n1, t1⟩, past⟩, pa, pc⟩ := x
      dsimp only [pw] at c0 c1 c2 c3 c4 c5 HH HN
      have d0 := kc hbel HP.out.1
      have d1 := kc hbel HP.out.2
      have hji : (j : Int) < (xs.length : Int) := by omega
      have heq1 := fun w' => eq_stamp w' n1 t1 s0 s1
      generalize decide (((n1, t1) : Int × Int) = (s0, s1)) = st at heq1 HH HN
      clear hbel
      cases st with
      | false =>
        go_wp2_with fail
        go_quiet (fail)
        go_wp2
        go_roundw
        case rel => exact ⟨j + 1, by omega, by go_num, HN.out trivial, bstep HBL.out (bdrewN _ _)⟩
        case measure => simp [intOf]; omega
      | true =>
        have HE := Lib.hid (HH.out rfl)
        clear HH HN
        go_wp2_with fail
        go_quiet (fail)
        have hb3 := bstep HBL.out (bdrewN wr nq)
        have HV1 := Lib.hid (HV.out.keep hb3)
        have HB3 := Lib.hid (bstep HB.out hb3)
        obtain ⟨z0, z1, z2, z3, z4, z5, zf⟩ := HV1.out
        have zf0 := zf 0 (by decide)
        have zf1 := zf 1 (by decide)
        have zf2 := zf 2 (by decide)
        have zf3 := zf 3 (by decide)
        have zf4 := zf 4 (by decide)
        have zf5 := zf 5 (by decide)
        clear zf hb3
        dsimp only [wz] at z0 z1 z2 z3 z4 z5
        have HP2 := Lib.hid (HV1.out.putw ⟨key, val, gone, (n1, t1), past⟩ (.slice pa past.length pc))
        have HBE := Lib.hid (below_putw HB3.out (show w.heap.size ≤ w.heap.size + 1 by omega) ⟨key, val, gone, (n1, t1), past⟩ (.slice pa past.length pc))
        go_wp2
        obtain ⟨r0, r1, r2, r3, r4, r5, _⟩ := HP2.out
        have hbe := HBE.out
        simp only [World.putw] at r0 r1 r2 r3 r4 r5 hbe
        refine bodyPost_ret (v := .tuple #[.agg #[.string key, .string val, .bool gone, .int .i64 n1, .int .i64 t1, .slice pa past.length pc], .bool true]) (by simp [results, Tryz.results13, go_sem, r0, r1, r2, r3, r4, r5]) rfl ⟨?_, hbe⟩
        rw [HE.out]
        rfl
    · obtain rfl : j = xs.length := by omega
      have HE := Lib.hid (find_no12 (p := isS (s0, s1)) (fun q hq => HA.out q hq hq))
      have HV1 := Lib.hid (HV.out.keep hbel)
      have HB3 := Lib.hid (bstep HB.out hbel)
      clear hbel
      obtain ⟨z0, z1, z2, z3, z4, z5, zf⟩ := HV1.out
      have zf0 := zf 0 (by decide)
      have zf1 := zf 1 (by decide)
      have zf2 := zf 2 (by decide)
      have zf3 := zf 3 (by decide)
      have zf4 := zf 4 (by decide)
      have zf5 := zf 5 (by decide)
      clear zf
      dsimp only [wz] at z0 z1 z2 z3 z4 z5
      have HP2 := Lib.hid (HV1.out.putw wz (.slice none 0 0))
      have HBE := Lib.hid (below_putw HB3.out (show w.heap.size ≤ w.heap.size + 1 by omega) wz (.slice none 0 0))
      go_wp2
      obtain ⟨r0, r1, r2, r3, r4, r5, _⟩ := HP2.out
      have hbe := HBE.out
      simp only [World.putw, wz] at r0 r1 r2 r3 r4 r5 hbe
      refine bodyPost_ret (v := .tuple #[.agg #[.string ⟨#[]⟩, .string ⟨#[]⟩, .bool false, .int .i64 0, .int .i64 0, .slice none 0 0], .bool false]) (by simp [results, Tryz.results13, go_sem, r0, r1, r2, r3, r4, r5]) rfl ⟨?_, hbe⟩
      rw [HE.out]
      rfl
end Go.Proofs.YtjfmgplhcinkfaaGreat
/- What the document's Below tells. -/
namespace Go.Proofs.YtjfmgplhcinkfaaGreat
open Go.RowKit
set_option linter.unusedVariables false
set_option linter.unusedSimpArgs false

theorem lastP_take {p : Vw → Bool} (l : List Vw) (j : Nat) (h : j < l.length) : lastP p (l.take (j + 1)) = if p l[j] = true then some l[j] else lastP p (l.take j) := by
  rw [List.take_succ_eq_append_getElem h]
  cases e : p l[j] with
  | true => rw [lastP_yes e]; rfl
  | false => rw [lastP_no e]; rfl
/-- The cells of Below's variables: the stamp, what it tells, what it found. -/
structure BelV (W : World) (B : Nat) (s : Int × Int) (x : Vw) : Prop where
  p0 : W.cell? ⟨B, 0, none⟩ = some (.int .i64 s.1)
  p1 : W.cell? ⟨B, 1, none⟩ = some (.int .i64 s.2)
  z : VwP W (B + 1) wz (.slice none 0 0)
  v : VwP W (B + 2) x.1 (pw x)
theorem BelV.keep {W W' : World} {B : Nat} {s : Int × Int} {x : Vw} (h : BelV W B s x) (hb : Below W.heap.size W W') : BelV W' B s x :=
  ⟨kc hb h.p0, kc hb h.p1, h.z.keep hb, h.v.keep hb⟩
theorem BelV.put {W : World} {B : Nat} {s : Int × Int} {x : Vw} (h : BelV W B s x) (y : Vw) : BelV (World.putw W (B + 2) y.1 (pw y)) B s y :=
  ⟨by rw [World.cell?_of_block (putw_block _ _ _ _ _ (show B ≠ B + 2 by omega))]; exact h.p0, by rw [World.cell?_of_block (putw_block _ _ _ _ _ (show B ≠ B + 2 by omega))]; exact h.p1, h.z.otherw (by omega), h.v.putw y.1 (pw y)⟩

set_option maxRecDepth 100000 in
set_option maxHeartbeats 1600000 in
theorem rbelow12_any (v : Value) (xs : List Vw) (s : Int × Int) (w : World) (hl : xs.length ≤ 1000000) (hr : WRow w v xs) :
    Calls Tryz.prog 69 #[v, sv s] w fun e w' => e = .returned (.tuple #[wV ((lastP (notA s) xs).getD vw0), .bool (lastP (notA s) xs).isSome]) ∧ Below w.heap.size w w' := by
  obtain ⟨s0, s1⟩ := s
  have HR := Lib.hid hr
  obtain ⟨a, cap, rfl, hcap, hmx, hnil⟩ := hr.shape
  clear hr
  have hb1 : Below w.heap.size w (((w.alloc (.cells #[.int .i64 s0, .int .i64 s1] 33)).alloc (.cells #[.string ⟨#[]⟩, .string ⟨#[]⟩, .bool false, .int .i64 0, .int .i64 0, .slice none 0 0] 36)).alloc (.cells #[.string ⟨#[]⟩, .string ⟨#[]⟩, .bool false, .int .i64 0, .int .i64 0, .slice none 0 0] 36)) := balloc (balloc (balloc (Below.refl _ w) _) _) _
  have hv1 : BelV (((w.alloc (.cells #[.int .i64 s0, .int .i64 s1] 33)).alloc (.cells #[.string ⟨#[]⟩, .string ⟨#[]⟩, .bool false, .int .i64 0, .int .i64 0, .slice none 0 0] 36)).alloc (.cells #[.string ⟨#[]⟩, .string ⟨#[]⟩, .bool false, .int .i64 0, .int .i64 0, .slice none 0 0] 36)) w.heap.size (s0, s1) vw0 := by
    have e1 : (w.alloc (.cells #[.int .i64 s0, .int .i64 s1] 33)).heap.size = w.heap.size + 1 := by simp
    have g1 := VwP.new (w.alloc (.cells #[.int .i64 s0, .int .i64 s1] 33)) wz (.slice none 0 0) 36
    rw [e1] at g1
    have e2 : ((w.alloc (.cells #[.int .i64 s0, .int .i64 s1] 33)).alloc (.cells (wvs wz (.slice none 0 0)) 36)).heap.size = w.heap.size + 2 := by simp
    have g2 := VwP.new ((w.alloc (.cells #[.int .i64 s0, .int .i64 s1] 33)).alloc (.cells (wvs wz (.slice none 0 0)) 36)) wz (.slice none 0 0) 36
    rw [e2] at g2
    exact ⟨kc (balloc (Below.refl _ _) _) (kc (balloc (Below.refl _ _) _) (by simp)), kc (balloc (Below.refl _ _) _) (kc (balloc (Below.refl _ _) _) (by simp)), g1.keep (balloc (Below.refl _ _) _), g2⟩
  dsimp only [sv]
  go_enter Tryz.func69, Tryz.ntmps69
  go_upto_region 2 with fail
  generalize ((w.alloc (.cells #[.int .i64 s0, .int .i64 s1] 33)).alloc (.cells #[.string ⟨#[]⟩, .string ⟨#[]⟩, .bool false, .int .i64 0, .int .i64 0, .slice none 0 0] 36)).alloc (.cells #[.string ⟨#[]⟩, .string ⟨#[]⟩, .bool false, .int .i64 0, .int .i64 0, .slice none 0 0] 36) = w2 at *
  have HV := Lib.hid hv1
  have HB := Lib.hid hb1
  clear hv1 hb1
  go_wp2
  go_loopw [7, 8] (fun f i wr => ∃ j : Nat, j ≤ xs.length ∧ i = .int .i64 j ∧ f = .bool (lastP (notA (s0, s1)) (xs.take j)).isSome ∧ BelV wr w.heap.size (s0, s1) ((lastP (notA (s0, s1)) (xs.take j)).getD vw0) ∧ Below w.heap.size w wr) (fun _ i _ => xs.length - (intOf i).toNat)
  case atStart => exact ⟨0, by omega, rfl, by simp [lastP], by simpa [lastP] using HV.out, HB.out⟩
  case round =>
    obtain ⟨j, hj, rfl, rfl, hv, hbel⟩ := hrel
    have HVJ := Lib.hid hv
    have HBL := Lib.hid hbel
    clear hv
    by_cases hlt : j < xs.length
    · obtain ⟨b, off, rfl, hbl, ⟨c0, c1, c2, c3, c4, c5⟩, _⟩ := (HR.out.below hbel).at j hlt
      have hWR := Lib.hid (HR.out.below hbel)
      have HT := Lib.hid (lastP_take (p := notA (s0, s1)) xs j hlt)
      have hst : notA (s0, s1) xs[j] = !Sm.less (s0, s1) xs[j].1.st := rfl
      rw [hst] at HT
      clear hst
      generalize xs[j] = x at c0 c1 c2 c3 c4 c5 HT
      generalize (lastP (notA (s0, s1)) (xs.take j)) = was at HVJ HT ⊢
      obtain ⟨⟨key, val, gone, ⟨n1, t1⟩, past⟩, pa, pc⟩ := x
      dsimp only [pw] at c0 c1 c2 c3 c4 c5 HT
      obtain ⟨d0, d1, _, _⟩ := HVJ.out
      dsimp only at d0 d1
      have hji : (j : Int) < (xs.length : Int) := by omega
      have hls := fun W => refLess_any s0 s1 n1 t1 W
      generalize Sm.less (s0, s1) (n1, t1) = lt at hls HT
      clear hbel
      obtain ⟨wf, hwf⟩ : ∃ wf, was.isSome = wf := ⟨_, rfl⟩
      rw [hwf]
      have HWF := Lib.hid hwf
      clear hwf
      have g0 : (wr.drew.cell? ⟨w.heap.size, 0, none⟩ = some (.int .i64 s0) ∧ wr.drew.cell? ⟨w.heap.size, 1, none⟩ = some (.int .i64 s1)) ∧ (wr.drew.cell? ⟨b, off + j * 6 + 3, none⟩ = some (.int .i64 n1) ∧ wr.drew.cell? ⟨b, off + j * 6 + 4, none⟩ = some (.int .i64 t1)) := ⟨⟨d0, d1⟩, c3, c4⟩
      go_upto_region 6 with fail
      go_region_held3 (fun w' => (w'.cell? ⟨w.heap.size, 0, none⟩ = some (.int .i64 s0) ∧ w'.cell? ⟨w.heap.size, 1, none⟩ = some (.int .i64 s1)) ∧ (w'.cell? ⟨b, off + j * 6 + 3, none⟩ = some (.int .i64 n1) ∧ w'.cell? ⟨b, off + j * 6 + 4, none⟩ = some (.int .i64 t1)))
        (first | exact g1 | exact g0)
        (first
          | (go_at_call 60; ((refine (hls _).mono ?_); rintro e w5 ⟨rfl, hb5⟩; have g1 := And.intro (keepK2 hb5 g0.1) (keepK2 hb5 g0.2))))
      have hb6 : Below wr.heap.size wr w5 := ((Below.refl _ wr).drew).trans hb5
      have HV5 := Lib.hid (HVJ.out.keep hb6)
      have HB5 := Lib.hid (bstep HBL.out hb6)
      have e0 := kc hb6 c0
      have e1 := kc hb6 c1
      have e2 := kc hb6 c2
      have e3 := kc hb6 c3
      have e4 := kc hb6 c4
      have e5 := kc hb6 c5
      clear c0 c1 c2 c3 c4 c5 g0 g1 hb5 hb6 hls d0 d1
      cases lt with
      | true =>
        go_wp2
        go_roundw
        case rel => exact ⟨j + 1, by omega, by go_num, by rw [HT.out, if_neg (by decide), HWF.out], by rw [HT.out]; exact HV5.out, HB5.out⟩
        case measure => simp [intOf]; omega
      | false =>
        obtain ⟨_, _, _, z0, z1, z2, z3, z4, z5, zf⟩ := HV5.out
        have zf0 := zf 0 (by decide)
        have zf1 := zf 1 (by decide)
        have zf2 := zf 2 (by decide)
        have zf3 := zf 3 (by decide)
        have zf4 := zf 4 (by decide)
        have zf5 := zf 5 (by decide)
        clear zf
        have HP2 := Lib.hid (HV5.out.put (⟨key, val, gone, (n1, t1), past⟩, pa, pc))
        have HBE := Lib.hid (below_putw HB5.out (show w.heap.size ≤ w.heap.size + 2 by omega) ⟨key, val, gone, (n1, t1), past⟩ (.slice pa past.length pc))
        generalize was.getD vw0 = y0 at z0 z1 z2 z3 z4 z5
        generalize pw y0 = y1 at z5
        obtain ⟨⟨yk, yv, yg, ⟨ym, yt⟩, yp⟩, ya, yc⟩ := y0
        dsimp only at z0 z1 z2 z3 z4 z5
        go_wp2
        go_roundw
        case rel => exact ⟨j + 1, by omega, by go_num, by rw [HT.out]; rfl, by rw [HT.out]; exact HP2.out, HBE.out⟩
        case measure => simp [intOf]; omega
    · obtain rfl : j = xs.length := by omega
      rw [List.take_length] at HVJ ⊢
      obtain ⟨was, hwas⟩ : ∃ o, lastP (notA (s0, s1)) xs = o := ⟨_, rfl⟩
      rw [hwas] at HVJ ⊢
      have HWS := Lib.hid hwas
      clear hwas
      obtain ⟨_, _, zz, x0, x1, x2, x3, x4, x5, _⟩ := HVJ.out
      obtain ⟨z0, z1, z2, z3, z4, z5, zf⟩ := zz
      have zf0 := zf 0 (by decide)
      have zf1 := zf 1 (by decide)
      have zf2 := zf 2 (by decide)
      have zf3 := zf 3 (by decide)
      have zf4 := zf 4 (by decide)
      have zf5 := zf 5 (by decide)
      clear zf
      dsimp only [wz] at z0 z1 z2 z3 z4 z5
      have HP2 := Lib.hid (HVJ.out.z.putw (was.getD vw0).1 (pw (was.getD vw0)))
      have HBE := Lib.hid (below_putw HBL.out (show w.heap.size ≤ w.heap.size + 1 by omega) (was.getD vw0).1 (pw (was.getD vw0)))
      obtain ⟨wf, hwf⟩ : ∃ wf, was.isSome = wf := ⟨_, rfl⟩
      rw [hwf]
      have HWF := Lib.hid hwf
      clear hwf
      obtain ⟨y0, hy0⟩ : ∃ y, was.getD vw0 = y := ⟨_, rfl⟩
      rw [hy0] at x0 x1 x2 x3 x4 x5 HP2 HBE
      have HY0 := Lib.hid hy0
      clear hy0
      obtain ⟨⟨yk, yv, yg, ⟨ym, yt⟩, yp⟩, ya, yc⟩ := y0
      dsimp only [pw, wV, wcs, wvs] at x0 x1 x2 x3 x4 x5 HP2 HBE
      go_wp2
      obtain ⟨r0, r1, r2, r3, r4, r5, _⟩ := HP2.out
      have hbe := HBE.out
      simp only [World.putw] at r0 r1 r2 r3 r4 r5 hbe
      refine bodyPost_ret (v := .tuple #[.agg #[.string yk, .string yv, .bool yg, .int .i64 ym, .int .i64 yt, .slice ya yp.length yc], .bool wf]) (by simp [results, Tryz.results69, go_sem, r0, r1, r2, r3, r4, r5]) rfl ⟨by rw [HWS.out, HY0.out, HWF.out]; rfl, hbe⟩
end Go.Proofs.YtjfmgplhcinkfaaGreat
/- What the document's Keeps answers. -/
namespace Go.Proofs.YtjfmgplhcinkfaaGreat
open Go.RowKit
set_option linter.unusedVariables false
set_option linter.unusedSimpArgs false

theorem getD_bd12 {w : World} {c : List Vw} {o : Option Vw} (h : ∀ x ∈ c, VwB w x) (hm : ∀ x, o = some x → x ∈ c) : VwB w (o.getD vw0) := by
  cases o with
  | none => exact ⟨⟨by decide, by decide, by simp [vw0, wz], (fun d hd => by simp [vw0, wz] at hd), DepAt.nil _⟩, by unfold In64; decide⟩
  | some x => exact h x (hm x rfl)
theorem isW_and (o : Option Vw) (x : Vw) : isW o x = (o.isSome && sameW (o.getD vw0).1 x.1) := by
  cases o with
  | none => rfl
  | some y =>
    show sameW x.1 y.1 = (true && sameW y.1 x.1)
    rw [Bool.true_and, Bool.eq_iff_iff, sameW_iff, sameW_iff]
    exact eq_comm

set_option maxRecDepth 100000 in
set_option maxHeartbeats 1600000 in
theorem rkeeps12_any (v pv : Value) (xs : List Vw) (s : Int × Int) (pins : List (Int × Int)) (x : Vw) (w : World) (hl : xs.length ≤ 1000000) (hp : pins.length ≤ 1000000) (hr : WRow w v xs) (hpr : RowAt KT w pv pins) (hx : VwB w x) :
    Calls Tryz.prog 51 #[v, sv s, pv, wV x] w fun e w' => e = .returned (.bool (keepB xs s pins x)) ∧ Below w.heap.size w w' := by
  obtain ⟨s0, s1⟩ := s
  have hhd := fun W (h : Below w.heap.size w W) => rhead12_any v xs W hl (hr.below h)
  have hbw := fun W (h : Below w.heap.size w W) => rbelow12_any v xs (s0, s1) W hl (hr.below h)
  have hy1 := fun W (h : Below w.heap.size w W) => refWSameB_any (xs.getLast?.getD vw0).1 x.1 (pw (xs.getLast?.getD vw0)) (pw x) W (getD_bd12 (hr.below h).2 (fun y hy => List.mem_of_getLast? hy)).1 (hx.below h).1
  have hy2 := fun W (h : Below w.heap.size w W) => refWSameB_any ((lastP (notA (s0, s1)) xs).getD vw0).1 x.1 (pw ((lastP (notA (s0, s1)) xs).getD vw0)) (pw x) W (getD_bd12 (hr.below h).2 (fun y hy => (lastP_some hy).1)).1 (hx.below h).1
  have HK : Hid (keepB xs (s0, s1) pins x = ((xs.getLast?.isSome && sameW (xs.getLast?.getD vw0).1 x.1) || decide (x.1.st ∈ pins) || !Sm.less x.1.st (s0, s1) || ((lastP (notA (s0, s1)) xs).isSome && sameW ((lastP (notA (s0, s1)) xs).getD vw0).1 x.1))) := Lib.hid (by unfold keepB; rw [isW_and, isW_and])
  generalize sameW (xs.getLast?.getD vw0).1 x.1 = e1 at hy1 HK
  generalize sameW ((lastP (notA (s0, s1)) xs).getD vw0).1 x.1 = e2 at hy2 HK
  generalize xs.getLast?.isSome = is1 at hhd HK
  generalize (lastP (notA (s0, s1)) xs).isSome = is2 at hbw HK
  generalize xs.getLast?.getD vw0 = h1 at hhd hy1
  generalize (lastP (notA (s0, s1)) xs).getD vw0 = h2 at hbw hy2
  obtain ⟨a, cap, rfl, hcap, hmx, hnil⟩ := hr.shape
  obtain ⟨pa0, pcap, rfl, hpc, hpm, hpn, hpr⟩ := hpr
  have HPR := Lib.hid hpr
  clear hr hpr hpm hx
  obtain ⟨kb, hkb⟩ : ∃ kb, keepB xs (s0, s1) pins x = kb := ⟨_, rfl⟩
  rw [hkb] at HK ⊢
  clear hkb
  obtain ⟨⟨key, val, gone, ⟨m, t⟩, past⟩, pa, pc⟩ := x
  obtain ⟨⟨hk1, hv1, hg1, ⟨hm1, ht1⟩, hp1⟩, ha1, hc1⟩ := h1
  obtain ⟨⟨hk2, hv2, hg2, ⟨hm2, ht2⟩, hp2⟩, ha2, hc2⟩ := h2
  dsimp only [sv, wV, wcs, wvs, pw] at *
  have hls := fun W => refLess_any m t s0 s1 W
  generalize Sm.less (m, t) (s0, s1) = lt at hls HK
  have hb1 : Below w.heap.size w ((w.alloc (.cells #[.int .i64 s0, .int .i64 s1] 33)).alloc (.cells #[.string key, .string val, .bool gone, .int .i64 m, .int .i64 t, .slice pa past.length pc] 36)) := balloc (balloc (Below.refl _ w) _) _
  have hv1 : VwP ((w.alloc (.cells #[.int .i64 s0, .int .i64 s1] 33)).alloc (.cells #[.string key, .string val, .bool gone, .int .i64 m, .int .i64 t, .slice pa past.length pc] 36)) (w.heap.size + 1) ⟨key, val, gone, (m, t), past⟩ (.slice pa past.length pc) := by
    have := VwP.new (w.alloc (.cells #[.int .i64 s0, .int .i64 s1] 33)) ⟨key, val, gone, (m, t), past⟩ (.slice pa past.length pc) 36
    rw [show (w.alloc (.cells #[.int .i64 s0, .int .i64 s1] 33)).heap.size = w.heap.size + 1 by simp] at this
    exact this
  have p0 : ((w.alloc (.cells #[.int .i64 s0, .int .i64 s1] 33)).alloc (.cells #[.string key, .string val, .bool gone, .int .i64 m, .int .i64 t, .slice pa past.length pc] 36)).cell? ⟨w.heap.size, 0, none⟩ = some (.int .i64 s0) := kc (balloc (Below.refl _ _) _) (by simp)
  have p1 : ((w.alloc (.cells #[.int .i64 s0, .int .i64 s1] 33)).alloc (.cells #[.string key, .string val, .bool gone, .int .i64 m, .int .i64 t, .slice pa past.length pc] 36)).cell? ⟨w.heap.size, 1, none⟩ = some (.int .i64 s1) := kc (balloc (Below.refl _ _) _) (by simp)
  go_enter Tryz.func51, Tryz.ntmps51
  go_upto_region 1 with fail
  generalize (w.alloc (.cells #[.int .i64 s0, .int .i64 s1] 33)).alloc (.cells #[.string key, .string val, .bool gone, .int .i64 m, .int .i64 t, .slice pa past.length pc] 36) = w2 at *
  have HV := Lib.hid hv1
  have HP := Lib.hid (And.intro p0 p1)
  have HB := Lib.hid hb1
  clear hv1 p0 p1 hb1
  go_wp2
  go_loopw [9] (fun i wr => ∃ j : Nat, j ≤ pins.length ∧ i = .int .i64 j ∧ (∀ q (hq : q < pins.length), q < j → pins[q] ≠ (m, t)) ∧ Below w2.heap.size w2 wr) (fun i _ => pins.length - (intOf i).toNat)
  case atStart => exact ⟨0, by omega, rfl, (fun q hq h => by omega), Below.refl _ _⟩
  case round =>
    obtain ⟨j, hj, rfl, hall, hbel⟩ := hrel
    have HA := Lib.hid hall
    have HBL := Lib.hid hbel
    clear hall
    by_cases hlt : j < pins.length
    · obtain ⟨b, off, rfl, hbl, c0, c1⟩ := (HPR.out.below (bstep HB.out hbel)).st j hlt
      have HN : Hid (pins[j] ≠ (m, t) → ∀ q (hq : q < pins.length), q < j + 1 → pins[q] ≠ (m, t)) := Lib.hid (fun h q hq h2 => by
        by_cases e : q = j
        · subst e; exact h
        · exact HA.out q hq (by omega))
      have HM : Hid (pins[j] = (m, t) → decide ((m, t) ∈ pins) = true) := Lib.hid (fun h => decide_eq_true (h ▸ List.getElem_mem hlt))
      generalize pins[j] = d at c0 c1 HN HM
      obtain ⟨y, z⟩ := d
      dsimp only at c0 c1
      have hvv := HV.out.keep hbel
      have d3 := hvv.c3
      have d4 := hvv.c4
      dsimp only at d3 d4
      have hji : (j : Int) < (pins.length : Int) := by omega
      have heq1 := fun w' => eq_stamp w' y z m t
      by_cases hst : ((y, z) : Int × Int) = (m, t)
      · have HI := Lib.hid (HM.out hst)
        rw [decide_eq_true hst] at heq1
        have HB2 := Lib.hid (bstep HB.out hbel)
        clear hst HM HN hvv hbel
        go_wp2_with fail
        go_quiet (fail)
        go_wp2
        go_ret
        exact ⟨by rw [HK.out, HI.out]; simp, bstep HB2.out (bdrewN _ _)⟩
      · have HI := Lib.hid (HN.out hst)
        rw [decide_eq_false hst] at heq1
        clear hst HM HN hvv hbel
        go_wp2_with fail
        go_quiet (fail)
        go_wp2
        go_roundw
        case rel => exact ⟨j + 1, by omega, by go_num, HI.out, bstep HBL.out (bdrewN _ _)⟩
        case measure => simp [intOf]; omega
    · obtain rfl : j = pins.length := by omega
      have hni : decide ((m, t) ∈ pins) = false := by
        rw [decide_eq_false_iff_not]
        intro h
        obtain ⟨q, hq, e⟩ := List.getElem_of_mem h
        exact HA.out q hq hq e
      rw [hni] at HK
      clear hni
      have hb2 := bstep HB.out hbel
      have HB2 := Lib.hid hb2
      have HV2 := Lib.hid (HV.out.keep hbel)
      have p0 := kc hbel HP.out.1
      have p1 := kc hbel HP.out.2
      clear hbel
      go_wp2_with fail
      refine (hhd _ hb2).mono ?_
      rintro e w3 ⟨rfl, hb3⟩
      clear hhd hb2
      obtain ⟨w4, hw4⟩ : ∃ w4, w3.alloc (.cells #[.string hk1, .string hv1, .bool hg1, .int .i64 hm1, .int .i64 ht1, .slice ha1 hp1.length hc1] 36) = w4 := ⟨_, rfl⟩
      have hb4 : Below w3.heap.size w3 w4 := by rw [← hw4]; exact balloc (Below.refl _ _) _
      have hv4 : VwP w4 w3.heap.size ⟨hk1, hv1, hg1, (hm1, ht1), hp1⟩ (.slice ha1 hp1.length hc1) := by rw [← hw4]; exact VwP.new w3 ⟨hk1, hv1, hg1, (hm1, ht1), hp1⟩ (.slice ha1 hp1.length hc1) 36
      have hb34 := bstep hb3 hb4
      have p0 := kc hb34 p0
      have p1 := kc hb34 p1
      have HV4 := Lib.hid (HV2.out.keep hb34)
      have HH4 := Lib.hid hv4
      have hb4' := bstep HB2.out hb34
      have HB4 := Lib.hid hb4'
      clear hb3 hb4 hb34 hv4
      go_upto_region 7 with fail
      try rw [hw4]
      clear hw4
      generalize w3.heap.size = A1 at HH4 ⊢
      go_wp2_with fail
      refine (hbw _ hb4').mono ?_
      rintro e w5 ⟨rfl, hb5⟩
      clear hbw hb4'
      obtain ⟨w6, hw6⟩ : ∃ w6, w5.alloc (.cells #[.string hk2, .string hv2, .bool hg2, .int .i64 hm2, .int .i64 ht2, .slice ha2 hp2.length hc2] 36) = w6 := ⟨_, rfl⟩
      have hb6 : Below w5.heap.size w5 w6 := by rw [← hw6]; exact balloc (Below.refl _ _) _
      have hv6 : VwP w6 w5.heap.size ⟨hk2, hv2, hg2, (hm2, ht2), hp2⟩ (.slice ha2 hp2.length hc2) := by rw [← hw6]; exact VwP.new w5 ⟨hk2, hv2, hg2, (hm2, ht2), hp2⟩ (.slice ha2 hp2.length hc2) 36
      have hb56 := bstep hb5 hb6
      have p0 := kc hb56 p0
      have p1 := kc hb56 p1
      obtain ⟨x0, x1, x2, x3, x4, x5, _⟩ := HV4.out.keep hb56
      obtain ⟨y0, y1, y2, y3, y4, y5, _⟩ := HH4.out.keep hb56
      obtain ⟨z0, z1, z2, z3, z4, z5, _⟩ := hv6
      dsimp only at x0 x1 x2 x3 x4 x5 y0 y1 y2 y3 y4 y5 z0 z1 z2 z3 z4 z5
      have hb6' := bstep HB4.out hb56
      have HB6 := Lib.hid hb6'
      clear hb5 hb6 hb56
      go_upto_region 8 with fail
      try rw [hw6]
      clear hw6
      generalize w5.heap.size = A2 at z0 z1 z2 z3 z4 z5 ⊢
      cases is1 with
      | false =>
        cases is2 with
        | false =>
          clear hb6'
          go_wp2_with fail
          refine (hls _).mono ?_
          rintro e w9 ⟨rfl, hb9⟩
          have HF := Lib.hid (bstep HB6.out hb9)
          go_wp2
          go_ret
          exact ⟨by rw [HK.out]; simp, HF.out⟩
        | true =>
          go_wp2_with fail
          refine (hy2 _ hb6').mono ?_
          rintro e w8 ⟨rfl, hb8⟩
          have HB8 := Lib.hid (bstep HB6.out hb8)
          have x0 := kc hb8 x0
          have x1 := kc hb8 x1
          have x2 := kc hb8 x2
          have x3 := kc hb8 x3
          have x4 := kc hb8 x4
          have x5 := kc hb8 x5
          have p0 := kc hb8 p0
          have p1 := kc hb8 p1
          clear hb8
          cases e2 with
          | true =>
            go_wp2
            go_ret
            exact ⟨by rw [HK.out]; simp, HB8.out⟩
          | false =>
            skip
            go_wp2_with fail
            refine (hls _).mono ?_
            rintro e w9 ⟨rfl, hb9⟩
            have HF := Lib.hid (bstep HB8.out hb9)
            go_wp2
            go_ret
            exact ⟨by rw [HK.out]; simp, HF.out⟩
      | true =>
        go_wp2_with fail
        refine (hy1 _ hb6').mono ?_
        rintro e w7 ⟨rfl, hb7⟩
        have hb7' := bstep HB6.out hb7
        have HB7 := Lib.hid hb7'
        have x0 := kc hb7 x0
        have x1 := kc hb7 x1
        have x2 := kc hb7 x2
        have x3 := kc hb7 x3
        have x4 := kc hb7 x4
        have x5 := kc hb7 x5
        have p0 := kc hb7 p0
        have p1 := kc hb7 p1
        have z0 := kc hb7 z0
        have z1 := kc hb7 z1
        have z2 := kc hb7 z2
        have z3 := kc hb7 z3
        have z4 := kc hb7 z4
        have z5 := kc hb7 z5
        clear hb7
        cases e1 with
        | true =>
          go_wp2
          go_ret
          exact ⟨by rw [HK.out]; simp, HB7.out⟩
        | false =>
          cases is2 with
          | false =>
            clear hb6' hb7'
            go_wp2_with fail
            refine (hls _).mono ?_
            rintro e w9 ⟨rfl, hb9⟩
            have HF := Lib.hid (bstep HB7.out hb9)
            go_wp2
            go_ret
            exact ⟨by rw [HK.out]; simp, HF.out⟩
          | true =>
            go_wp2_with fail
            refine (hy2 _ hb7').mono ?_
            rintro e w8 ⟨rfl, hb8⟩
            have HB8 := Lib.hid (bstep HB7.out hb8)
            have x0 := kc hb8 x0
            have x1 := kc hb8 x1
            have x2 := kc hb8 x2
            have x3 := kc hb8 x3
            have x4 := kc hb8 x4
            have x5 := kc hb8 x5
            have p0 := kc hb8 p0
            have p1 := kc hb8 p1
            clear hb8
            cases e2 with
            | true =>
              go_wp2
              go_ret
              exact ⟨by rw [HK.out]; simp, HB8.out⟩
            | false =>
              skip
              go_wp2_with fail
              refine (hls _).mono ?_
              rintro e w9 ⟨rfl, hb9⟩
              have HF := Lib.hid (bstep HB8.out hb9)
              go_wp2
              go_ret
              exact ⟨by rw [HK.out]; simp, HF.out⟩
end Go.Proofs.YtjfmgplhcinkfaaGreat
/- What the document's Clean of a chain answers. -/
namespace Go.Proofs.YtjfmgplhcinkfaaGreat
open Go.RowKit
set_option linter.unusedVariables false
set_option linter.unusedSimpArgs false

theorem clean_take (xs : List Vw) (s : Int × Int) (pins : List (Int × Int)) (j : Nat) (h : j < xs.length) : (xs.take (j + 1)).filter (keepB xs s pins) = if keepB xs s pins xs[j] = true then (xs.take j).filter (keepB xs s pins) ++ [xs[j]] else (xs.take j).filter (keepB xs s pins) := by
  rw [List.take_succ_eq_append_getElem h, List.filter_append]
  cases e : keepB xs s pins xs[j] <;> simp [e]

set_option maxRecDepth 100000 in
set_option maxHeartbeats 1600000 in
theorem rclean12_any (v pv : Value) (xs : List Vw) (s : Int × Int) (pins : List (Int × Int)) (w : World) (hl : xs.length ≤ 100000) (hp : pins.length ≤ 1000000) (hr : WRow w v xs) (hpr : RowAt KT w pv pins) :
    Calls Tryz.prog 36 #[v, sv s, pv] w fun e w' => ∃ v', e = .returned v' ∧ OwnR KW w' w.heap.size v' (cleanL xs s pins) ∧ Below w.heap.size w w' := by
  obtain ⟨s0, s1⟩ := s
  have HKP := Lib.hid (fun W (h : Below w.heap.size w W) (x : Vw) (hx : VwB W x) => rkeeps12_any v pv xs (s0, s1) pins x W (by omega) hp (hr.below h) (hpr.below h) hx)
  have HR := Lib.hid hr
  obtain ⟨a, cap, rfl, hcap, hmx, hnil⟩ := hr.shape
  obtain ⟨pa0, pcap, rfl, hpc, hpm, hpn, hpr⟩ := hpr
  clear hr hpr hpm hpn hpc
  have hb1 : Below w.heap.size w (w.alloc (.cells #[.int .i64 s0, .int .i64 s1] 33)) := balloc (Below.refl _ w) _
  have p0 : (w.alloc (.cells #[.int .i64 s0, .int .i64 s1] 33)).cell? ⟨w.heap.size, 0, none⟩ = some (.int .i64 s0) := by simp
  have p1 : (w.alloc (.cells #[.int .i64 s0, .int .i64 s1] 33)).cell? ⟨w.heap.size, 1, none⟩ = some (.int .i64 s1) := by simp
  have hsz : w.heap.size + 1 ≤ (w.alloc (.cells #[.int .i64 s0, .int .i64 s1] 33)).heap.size := by simp
  dsimp only [sv] at *
  go_enter Tryz.func36, Tryz.ntmps36
  go_upto_region 1 with fail
  generalize w.alloc (.cells #[.int .i64 s0, .int .i64 s1] 33) = w2 at *
  have HP := Lib.hid (And.intro p0 p1)
  have HB := Lib.hid hb1
  clear p0 p1 hb1
  go_wp2
  go_loopw [7, 8] (fun o i wr => ∃ j : Nat, j ≤ xs.length ∧ i = .int .i64 j ∧ OwnR KW wr w2.heap.size o ((xs.take j).filter (keepB xs (s0, s1) pins)) ∧ Below w2.heap.size w2 wr) (fun _ i _ => xs.length - (intOf i).toNat)
  case atStart => exact ⟨0, by omega, rfl, OwnR.nil KW _ _, Below.refl _ _⟩
  case round =>
    obtain ⟨j, hj, rfl, hown, hbel⟩ := hrel
    have HO := Lib.hid hown
    have HBL := Lib.hid hbel
    obtain ⟨sa, sc, rfl⟩ := hown.shape
    clear hown
    by_cases hlt : j < xs.length
    · obtain ⟨b, off, rfl, hbl, ⟨c0, c1, c2, c3, c4, c5⟩, hvb⟩ := (HR.out.below (bstep HB.out hbel)).at j hlt
      have HT := Lib.hid (clean_take xs (s0, s1) pins j hlt)
      have hkp := HKP.out wr.drew (bstep HB.out hbel).drew xs[j] (hvb.below ((Below.refl _ wr).drew))
      have HLE : Hid (((xs.take j).filter (keepB xs (s0, s1) pins)).length ≤ 1000000) := Lib.hid (by have := List.length_filter_le (keepB xs (s0, s1) pins) (xs.take j); rw [List.length_take] at this; omega)
      generalize keepB xs (s0, s1) pins xs[j] = kb at hkp HT
      generalize (xs.take j).filter (keepB xs (s0, s1) pins) = Lj at HO HT HLE ⊢
      generalize xs[j] = x at c0 c1 c2 c3 c4 c5 HT hkp hvb
      obtain ⟨⟨key, val, gone, ⟨n1, t1⟩, past⟩, pa, pc⟩ := x
      dsimp only [pw, wV, wcs, wvs] at c0 c1 c2 c3 c4 c5 HT hkp
      have d0 := kc hbel HP.out.1
      have d1 := kc hbel HP.out.2
      have hji : (j : Int) < (xs.length : Int) := by omega
      clear hbel
      have g0 : wr.drew.cell? ⟨w.heap.size, 0, none⟩ = some (.int .i64 s0) ∧ wr.drew.cell? ⟨w.heap.size, 1, none⟩ = some (.int .i64 s1) ∧ wr.drew.cell? ⟨b, off + j * 6, none⟩ = some (.string key) ∧ wr.drew.cell? ⟨b, off + j * 6 + 1, none⟩ = some (.string val) ∧ wr.drew.cell? ⟨b, off + j * 6 + 2, none⟩ = some (.bool gone) ∧ wr.drew.cell? ⟨b, off + j * 6 + 3, none⟩ = some (.int .i64 n1) ∧ wr.drew.cell? ⟨b, off + j * 6 + 4, none⟩ = some (.int .i64 t1) ∧ wr.drew.cell? ⟨b, off + j * 6 + 5, none⟩ = some (.slice pa past.length pc) := ⟨d0, d1, c0, c1, c2, c3, c4, c5⟩
      go_upto_region 5 with fail
      go_region_held3 (fun w' => w'.cell? ⟨w.heap.size, 0, none⟩ = some (.int .i64 s0) ∧ w'.cell? ⟨w.heap.size, 1, none⟩ = some (.int .i64 s1) ∧ w'.cell? ⟨b, off + j * 6, none⟩ = some (.string key) ∧ w'.cell? ⟨b, off + j * 6 + 1, none⟩ = some (.string val) ∧ w'.cell? ⟨b, off + j * 6 + 2, none⟩ = some (.bool gone) ∧ w'.cell? ⟨b, off + j * 6 + 3, none⟩ = some (.int .i64 n1) ∧ w'.cell? ⟨b, off + j * 6 + 4, none⟩ = some (.int .i64 t1) ∧ w'.cell? ⟨b, off + j * 6 + 5, none⟩ = some (.slice pa past.length pc))
        (first | exact g1 | exact g0)
        (first
          | (go_at_call 51; ((refine hkp.mono ?_); rintro e w5 ⟨rfl, hb5⟩; have g1 := And.intro (kc hb5 g0.1) (And.intro (kc hb5 g0.2.1) (And.intro (kc hb5 g0.2.2.1) (And.intro (kc hb5 g0.2.2.2.1) (And.intro (kc hb5 g0.2.2.2.2.1) (And.intro (kc hb5 g0.2.2.2.2.2.1) (And.intro (kc hb5 g0.2.2.2.2.2.2.1) (kc hb5 g0.2.2.2.2.2.2.2))))))))))
      have hb6 : Below wr.heap.size wr w5 := ((Below.refl _ wr).drew).trans hb5
      have HO5 := Lib.hid (HO.out.below hb6)
      have HB5 := Lib.hid (bstep HBL.out hb6)
      have hbs : w2.heap.size ≤ w5.heap.size := HB5.out.size
      obtain ⟨_, _, e0, e1, e2, e3, e4, e5⟩ := g1
      clear c0 c1 c2 c3 c4 c5 g0 hb5 hb6 hkp d0 d1 hvb
      cases kb with
      | false =>
        go_wp2
        go_roundw
        case rel => exact ⟨j + 1, by omega, by go_num, by rw [HT.out]; exact HO5.out, HB5.out⟩
        case measure => simp [intOf]; omega
      | true =>
        have hle := HLE.out
        go_wp2_with (at_builtin; refine wp_pushR kw_ok (wr := w5) rfl _ _ rfl w2.heap.size (.slice sa Lj.length sc) Lj (⟨key, val, gone, (n1, t1), past⟩, pa, pc) #[.string key, .string val, .bool gone, .int .i64 n1, .int .i64 t1, .slice pa past.length pc] rfl rfl HO5.out rfl hle hbs ?_; intro g cap2 w6 ho6 hb6 hk6 hat6 hlt6)
        go_roundw
        case rel => exact ⟨j + 1, by omega, by go_num, by rw [HT.out]; exact ho6, HB5.out.trans hb6⟩
        case measure => simp [intOf]; omega
    · obtain rfl : j = xs.length := by omega
      rw [List.take_length] at HO ⊢
      have HF := Lib.hid (bstep HB.out hbel)
      have HO2 : Hid (OwnR KW wr w.heap.size (.slice sa (xs.filter (keepB xs (s0, s1) pins)).length sc) (xs.filter (keepB xs (s0, s1) pins))) := Lib.hid (HO.out.mono (by omega))
      clear hbel
      go_wp2
      go_ret
      exact ⟨_, rfl, HO2.out, HF.out⟩
end Go.Proofs.YtjfmgplhcinkfaaGreat
/- Two ranges compared as structs. -/
namespace Go.Proofs.YtjfmgplhcinkfaaGreat
open Go.RowKit
set_option linter.unusedVariables false
set_option linter.unusedSimpArgs false

theorem eq_rng (w : World) (k l k' l' : ByteArray) : (binOp .eql 63 (.agg #[.string k, .string l]) (.agg #[.string k', .string l'])).run Tryz.prog w = .ok (.bool (decide ((k, l) = (k', l')))) w := by
  rw [run_eql_struct, run_equalIn_agg w 9999 63 _ _ (by kernel_rfl) (by kernel_rfl)]
  unfold Program.fieldsOf
  rw [Tryz.underlying63]
  simp [go_sem, Tryz.underlying9]
  have hk : ∀ a b : ByteArray, a.toList = b.toList ↔ a = b := fun a b => by
    rw [Lib.toList_data, Lib.toList_data]
    exact ⟨fun h => ByteArray.ext (Array.toList_inj.1 h), fun h => by rw [h]⟩
  by_cases h1 : k = k' <;> by_cases h2 : l = l' <;> simp [hk, h1, h2]
theorem ne_rng (w : World) (k l k' l' : ByteArray) : (binOp .neq 63 (.agg #[.string k, .string l]) (.agg #[.string k', .string l'])).run Tryz.prog w = .ok (.bool (!decide ((k, l) = (k', l')))) w := by
  have h := eq_rng w k l k' l'
  rw [run_eql_struct] at h
  rw [run_neq_struct]
  generalize (Op.equalIn 10000 _ _ _).run _ _ = r at h
  cases r with
  | ok b w1 => simp at h ⊢; simp [h]
  | halt x w1 => simp at h

end Go.Proofs.YtjfmgplhcinkfaaGreat
/- Texts and ranges compared by the document. -/
namespace Go.Proofs.YtjfmgplhcinkfaaGreat
open Go.RowKit
set_option linter.unusedVariables false
set_option linter.unusedSimpArgs false

set_option maxRecDepth 100000 in
set_option maxHeartbeats 800000 in
theorem sameTexts_any (v1 v2 : Value) (bs : List ByteArray) (w : World) (hl : bs.length ≤ 100000) (h1 : RowAt KS w v1 bs) (h2 : RowAt KS w v2 bs) :
    Calls Tryz.prog 25 #[v1, v2] w fun e w' => e = .returned (.bool true) ∧ Below w.heap.size w w' := by
  obtain ⟨a, ca, rfl, _, _, _, h1⟩ := h1
  obtain ⟨b, cb, rfl, _, _, _, h2⟩ := h2
  have HA := Lib.hid h1
  have HB := Lib.hid h2
  clear h1 h2
  have hnn : (bs.length != bs.length) = false := by simp
  have hni : ((bs.length : Int) != (bs.length : Int)) = false := by simp
  go_enter Tryz.func25, Tryz.ntmps25
  go_wp2
  go_loopw [5] (fun i wr => ∃ k n : Nat, k ≤ bs.length ∧ i = .int .i64 k ∧ wr = w.drewN n) (fun i _ => bs.length - (intOf i).toNat)
  case atStart => exact ⟨0, 0, by omega, rfl, rfl⟩
  case round =>
    obtain ⟨k, n, hk, rfl, rfl⟩ := hrel
    by_cases hlt : k < bs.length
    · obtain ⟨b1, o1, rfl, _, hc1⟩ := HA.out.str k hlt
      obtain ⟨b2, o2, rfl, _, hc2⟩ := HB.out.str k hlt
      go_wp2_with fail
      go_quiet (fail)
      go_wp2
      go_roundw
      case rel => exact ⟨k + 1, _, by omega, by go_num, rfl⟩
      case measure => simp [intOf]; omega
    · go_wp2
      go_ret
      exact ⟨rfl, below_drewN (Below.refl _ _) _⟩
set_option maxRecDepth 100000 in
set_option maxHeartbeats 800000 in
theorem sameRanges7_any (u v : Value) (l : List (ByteArray × ByteArray)) (w : World) (hl : l.length ≤ 100) (h : RowAt KR w u l) (h' : RowAt KR w v l) :
    Calls Tryz.prog 28 #[u, v] w fun e w' => e = .returned (.bool true) ∧ Below w.heap.size w w' := by
  obtain ⟨a0, p0, hu0, hq0, hm0, _, hi0⟩ := h
  obtain ⟨b0, r0, hv0, _, _, _, hj0⟩ := h'
  subst hu0 hv0
  have HI0 := Lib.hid hi0
  have HJ0 := Lib.hid hj0
  clear hi0 hj0
  go_enter Tryz.func28, Tryz.ntmps28
  go_wp2
  go_loopw [5] (fun i wr => ∃ k n : Nat, k ≤ l.length ∧ i = .int .i64 k ∧ wr = w.drewN n) (fun i _ => l.length - (intOf i).toNat)
  case atStart => exact ⟨0, 0, by omega, rfl, rfl⟩
  case round =>
    obtain ⟨k, n, hk, rfl, rfl⟩ := hrel
    by_cases hlt : k < l.length
    · obtain ⟨g, o, rfl, _, c0, c1⟩ := RowIn.rng HI0.out k hlt
      obtain ⟨g', o', rfl, _, d0, d1⟩ := RowIn.rng HJ0.out k hlt
      generalize l[k] = d at c0 c1 d0 d1
      obtain ⟨p, q⟩ := d
      dsimp only at c0 c1 d0 d1
      have hne : ∀ w', (binOp .neq 63 (.agg #[.string p, .string q]) (.agg #[.string p, .string q])).run Tryz.prog w' = .ok (.bool false) w' := fun w' => by rw [ne_rng]; simp
      have k0 : (0 : Int) ≤ (k : Int) := by omega
      have k1 : (k : Int) < (l.length : Int) := by omega
      go_wp2_with fail
      go_quiet (fail)
      go_wp2
      go_roundw
      case rel => exact ⟨k + 1, _, by omega, by go_num, rfl⟩
      case measure => simp [intOf]; omega
    · have k1 : ¬ (k : Int) < (l.length : Int) := by omega
      go_wp2
      go_ret
      exact ⟨rfl, below_drewN (Below.refl _ _) _⟩
end Go.Proofs.YtjfmgplhcinkfaaGreat
