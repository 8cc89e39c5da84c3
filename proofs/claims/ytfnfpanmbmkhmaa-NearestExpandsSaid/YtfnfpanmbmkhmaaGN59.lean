/- Texts of this proof, one behind the other: NearFind, NearRefFind, PastBack, NearBack0, Round. -/
import Derived.Test.YtfnfpanmbmkhmaaGN58
import Derived.Deep.RegionHeld3
import Derived.Deep.DrawnRows
import Derived.Deep.QuietTactic
import Derived.BigQuiet
import Derived.RangeFuncNested
import Derived.RangeFuncBound
import Derived.RangeFuncCalls
import Derived.RangeFuncLeaves
import Derived.Shelf.Abstract
import Derived.Shelf.RegionOpen
import Derived.WalkKit
import Derived.OwnWalkIn
import Derived.TacticsInMore
import Derived.LoopNIn
import Derived.LoopIn
import Derived.Maps.OwnIn
import Derived.Maps.AppendAt
import Derived.CallsIn
import Derived.OrdersIn
import Derived.OrdersHeld
/- What nearest.nameOf, first and Find answer. -/
namespace Go.Proofs.Ytfnfpanmbmkhmaa
open Go.RowKit Go.Maps
set_option linter.unusedVariables false
set_option linter.unusedSimpArgs false

set_option maxRecDepth 100000 in
set_option maxHeartbeats 800000 in
theorem nameOf_any (x : Vp) (w : World) :
    Calls Try.prog 32 #[vv x] w fun e w' => e = .returned (.agg #[.string x.1.key, .int .i64 x.1.st.1, .int .i64 x.1.st.2]) ∧ Below w.heap.size w w' := by
  obtain ⟨⟨key, val, gone, ⟨n, s⟩, past⟩, a, cap⟩ := x
  dsimp only [vv, vcs]
  generalize pu _ = u
  go_enter Try.func32, Try.ntmps32
  go_wp2
  refine bodyPost_ret (v := .agg #[.string key, .int .i64 n, .int .i64 s]) (by simp [results, Try.results32, go_sem]) rfl ⟨rfl, ?_⟩
  exact balloc (balloc (Below.refl _ w) _) _

/-- Nine cells behind a call that only makes memory. -/
theorem keep9 {W w1 : World} {b o b' : Nat} {v : Ve} {u : Value} {k : ByteArray} {n s : Int} (hb : Below W.heap.size W w1)
    (h : (W.cell? ⟨b, 0, none⟩ = some (.string v.key) ∧ W.cell? ⟨b, 1, none⟩ = some (.string v.val) ∧ W.cell? ⟨b, 2, none⟩ = some (.bool v.gone) ∧ W.cell? ⟨b, 3, none⟩ = some (.int .i64 v.st.1) ∧ W.cell? ⟨b, 4, none⟩ = some (.int .i64 v.st.2) ∧ W.cell? ⟨b, 5, none⟩ = some u) ∧ W.cell? ⟨b', 0, none⟩ = some (.string k) ∧ W.cell? ⟨b', 1, none⟩ = some (.int .i64 n) ∧ W.cell? ⟨b', 2, none⟩ = some (.int .i64 s)) :
    (w1.cell? ⟨b, 0, none⟩ = some (.string v.key) ∧ w1.cell? ⟨b, 1, none⟩ = some (.string v.val) ∧ w1.cell? ⟨b, 2, none⟩ = some (.bool v.gone) ∧ w1.cell? ⟨b, 3, none⟩ = some (.int .i64 v.st.1) ∧ w1.cell? ⟨b, 4, none⟩ = some (.int .i64 v.st.2) ∧ w1.cell? ⟨b, 5, none⟩ = some u) ∧ w1.cell? ⟨b', 0, none⟩ = some (.string k) ∧ w1.cell? ⟨b', 1, none⟩ = some (.int .i64 n) ∧ w1.cell? ⟨b', 2, none⟩ = some (.int .i64 s) :=
  ⟨⟨kc hb h.1.1, kc hb h.1.2.1, kc hb h.1.2.2.1, kc hb h.1.2.2.2.1, kc hb h.1.2.2.2.2.1, kc hb h.1.2.2.2.2.2⟩, kc hb h.2.1, kc hb h.2.2.1, kc hb h.2.2.2⟩

set_option maxRecDepth 100000 in
set_option maxHeartbeats 1600000 in
theorem findC1_any (x : Vp) (k : ByteArray) (n s : Int) (B : Nat) (w : World) (h0 : w.cell? ⟨B, 0, none⟩ = some (.string k)) (h1 : w.cell? ⟨B, 1, none⟩ = some (.int .i64 n)) (h2 : w.cell? ⟨B, 2, none⟩ = some (.int .i64 s)) :
    Calls Try.prog 37 #[vv x, .pointer (some ⟨B, 0, none⟩)] w fun e w' => e = .returned (.bool (decide (x.1.key = k ∧ x.1.st = (n, s)))) ∧ Below w.heap.size w w' := by
  have heq := eq_dep
  have hB : Below w.heap.size w (w.alloc (.cells (vcs x) 34)) := balloc (Below.refl _ w) _
  have hV := (VarV.new w x 34).p
  have hN := fun W => nameOf_any x W
  have g0 : ((w.alloc (.cells (vcs x) 34)).cell? ⟨w.heap.size, 0, none⟩ = some (.string x.1.key) ∧ (w.alloc (.cells (vcs x) 34)).cell? ⟨w.heap.size, 1, none⟩ = some (.string x.1.val) ∧ (w.alloc (.cells (vcs x) 34)).cell? ⟨w.heap.size, 2, none⟩ = some (.bool x.1.gone) ∧ (w.alloc (.cells (vcs x) 34)).cell? ⟨w.heap.size, 3, none⟩ = some (.int .i64 x.1.st.1) ∧ (w.alloc (.cells (vcs x) 34)).cell? ⟨w.heap.size, 4, none⟩ = some (.int .i64 x.1.st.2) ∧ (w.alloc (.cells (vcs x) 34)).cell? ⟨w.heap.size, 5, none⟩ = some (pu x)) ∧ (w.alloc (.cells (vcs x) 34)).cell? ⟨B, 0, none⟩ = some (.string k) ∧ (w.alloc (.cells (vcs x) 34)).cell? ⟨B, 1, none⟩ = some (.int .i64 n) ∧ (w.alloc (.cells (vcs x) 34)).cell? ⟨B, 2, none⟩ = some (.int .i64 s) :=
    ⟨⟨hV.c0, hV.c1, hV.c2, hV.c3, hV.c4, hV.c5⟩, kc hB h0, kc hB h1, kc hB h2⟩
  rw [show (decide (x.1.key = k ∧ x.1.st = (n, s))) = decide (((x.1.key, x.1.st.1, x.1.st.2) : De) = (k, n, s)) by simp [Prod.ext_iff]]
  obtain ⟨⟨key, val, gone, ⟨m, t⟩, past⟩, a, cap⟩ := x
  dsimp only [vv, vcs] at hN g0 hB ⊢
  clear hV h0 h1 h2
  generalize pu _ = u at hN g0 hB ⊢
  have HB := Lib.hid hB
  clear hB
  go_enter Try.func37, Try.ntmps37
  go_wp2_with fail
  go_region_held3 (fun w' => (w'.cell? ⟨w.heap.size, 0, none⟩ = some (.string key) ∧ w'.cell? ⟨w.heap.size, 1, none⟩ = some (.string val) ∧ w'.cell? ⟨w.heap.size, 2, none⟩ = some (.bool gone) ∧ w'.cell? ⟨w.heap.size, 3, none⟩ = some (.int .i64 m) ∧ w'.cell? ⟨w.heap.size, 4, none⟩ = some (.int .i64 t) ∧ w'.cell? ⟨w.heap.size, 5, none⟩ = some u) ∧ w'.cell? ⟨B, 0, none⟩ = some (.string k) ∧ w'.cell? ⟨B, 1, none⟩ = some (.int .i64 n) ∧ w'.cell? ⟨B, 2, none⟩ = some (.int .i64 s))
    (first | exact g0 | exact g1)
    (first
      | (go_at_call 32; ((refine (hN _).mono ?_); rintro e wa ⟨rfl, ha⟩; have g1 := keep9 (v := ⟨key, val, gone, (m, t), past⟩) (o := 0) ha g0)))
  go_wp2
  go_ret
  exact ⟨ret_bool (by simp), bstep HB.out (bstep ((Below.refl _ _).drew) ha)⟩

/-- What is asked of a predicate over versions that may make memory. -/
def PredV (g : Nat) (lb : Array Value) (p : Vp → Bool) (l : List Vp) (base : Nat) (w : World) : Prop :=
  ∀ (W : World) (x : Vp), x ∈ l → Below base w W → Calls Try.prog g (#[vv x] ++ lb) W fun e w' => e = .returned (.bool (p x)) ∧ Below W.heap.size W w'
theorem find_hit {p : Vp → Bool} {l : List Vp} {k : Nat} (hk : k < l.length) (h : ∀ j (hj : j < l.length), j < k → p l[j] = false) (hh : p l[k] = true) : l.find? p = some l[k] := by
  rw [List.find?_eq_some_iff_getElem]
  exact ⟨hh, k, hk, rfl, fun j hj => by simpa using h j (by omega) hj⟩
theorem find_none {p : Vp → Bool} {l : List Vp} (h : ∀ j (hj : j < l.length), p l[j] = false) : l.find? p = none := by
  rw [List.find?_eq_none]
  intro x hx
  obtain ⟨j, hj, rfl⟩ := List.getElem_of_mem hx
  simpa using h j hj
/-- The six cells that a store of a version writes. -/
abbrev World.put6 (w : World) (b : Nat) (x : Vp) : World := (((((w.setCell ⟨b, 0, none⟩ (.string x.1.key)).setCell ⟨b, 1, none⟩ (.string x.1.val)).setCell ⟨b, 2, none⟩ (.bool x.1.gone)).setCell ⟨b, 3, none⟩ (.int .i64 x.1.st.1)).setCell ⟨b, 4, none⟩ (.int .i64 x.1.st.2)).setCell ⟨b, 5, none⟩ (pu x)
theorem VarV.put {w : World} {b : Nat} {y : Vp} (h : VarV w b y) (x : Vp) : VarV (World.put6 w b x) b x := by
  have step : ∀ (W : World) (j i : Nat) (u v : Value), i ≠ j → W.cell? ⟨b, i, none⟩ = some v → (W.setCell ⟨b, j, none⟩ u).cell? ⟨b, i, none⟩ = some v := fun W j i u v hne hc => by rw [World.cell?_setCell_other _ _ _ _ (by simp [hne])]; exact hc
  have same : ∀ (W : World) (j : Nat) (u v : Value), W.cell? ⟨b, j, none⟩ = some v → (W.setCell ⟨b, j, none⟩ u).cell? ⟨b, j, none⟩ = some u := fun W j u v hc => World.cell?_setCell_same _ _ _ hc
  obtain ⟨⟨c0, c1, c2, c3, c4, c5⟩, f⟩ := h
  simp only [Nat.zero_add] at c1 c2 c3 c4 c5
  refine ⟨⟨?_, ?_, ?_, ?_, ?_, ?_⟩, fun j hj => by simpa [World.put6] using f j hj⟩
  · exact step _ _ _ _ _ (by decide) (step _ _ _ _ _ (by decide) (step _ _ _ _ _ (by decide) (step _ _ _ _ _ (by decide) (step _ _ _ _ _ (by decide) (same _ _ _ _ c0)))))
  · exact step _ _ _ _ _ (by decide) (step _ _ _ _ _ (by decide) (step _ _ _ _ _ (by decide) (step _ _ _ _ _ (by decide) (same _ _ _ _ (step _ _ _ _ _ (by decide) c1)))))
  · exact step _ _ _ _ _ (by decide) (step _ _ _ _ _ (by decide) (step _ _ _ _ _ (by decide) (same _ _ _ _ (step _ _ _ _ _ (by decide) (step _ _ _ _ _ (by decide) c2)))))
  · exact step _ _ _ _ _ (by decide) (step _ _ _ _ _ (by decide) (same _ _ _ _ (step _ _ _ _ _ (by decide) (step _ _ _ _ _ (by decide) (step _ _ _ _ _ (by decide) c3)))))
  · exact step _ _ _ _ _ (by decide) (same _ _ _ _ (step _ _ _ _ _ (by decide) (step _ _ _ _ _ (by decide) (step _ _ _ _ _ (by decide) (step _ _ _ _ _ (by decide) c4)))))
  · exact same _ _ _ _ (step _ _ _ _ _ (by decide) (step _ _ _ _ _ (by decide) (step _ _ _ _ _ (by decide) (step _ _ _ _ _ (by decide) (step _ _ _ _ _ (by decide) c5)))))
theorem below_put6 {n b : Nat} {w w' : World} (hb : Below n w w') (h : n ≤ b) (x : Vp) : Below n w (World.put6 w' b x) := (((((hb.setCell h _).setCell h _).setCell h _).setCell h _).setCell h _).setCell h _

set_option maxRecDepth 100000 in
set_option maxHeartbeats 1600000 in
theorem first_any (g : Nat) (lb : Array Value) (eg : ∀ args w, (callFunc g args).run Try.prog w = .ok (.enter g args) w) (p : Vp → Bool) (v : Value) (base : Nat) (l : List Vp) (w : World) (hl : l.length ≤ 1000000) (hr : VRow w v l) (hbs : base ≤ w.heap.size) (hp : PredV g lb p l base w) :
    Calls Try.prog 36 #[v, .func (.func g) #[] lb] w fun e w' => e = .returned (.tuple #[vv ((l.find? p).getD vz), .bool (l.find? p).isSome]) ∧ Below w.heap.size w w' := by
  have HR := Lib.hid hr
  have HP := Lib.hid hp
  obtain ⟨a, cap, rfl, _, _⟩ := hr.shape
  clear hr hp
  go_enter Try.func36, Try.ntmps36
  go_wp2
  go_loopw [11] (fun i wr => ∃ k : Nat, k ≤ l.length ∧ i = .int .i64 k ∧ (∀ j (hj : j < l.length), j < k → p l[j] = false) ∧ VarV wr w.heap.size vz ∧ Below w.heap.size w wr) (fun i _ => l.length - (intOf i).toNat)
  case atStart => exact ⟨0, by omega, rfl, (fun j hj h => by omega), VarV.new w vz _, balloc (Below.refl _ w) _⟩
  case round =>
    obtain ⟨k, hk, rfl, hall, hv0, hbel⟩ := hrel
    have HA := Lib.hid hall
    have HV0 := Lib.hid hv0
    clear hall hv0
    by_cases hlt : k < l.length
    · obtain ⟨b, off, rfl, hbl, ⟨c0, c1, c2, c3, c4, c5⟩, _⟩ := (HR.out.below hbel).at k hlt
      have hcall := HP.out (wr.alloc (.cells (vcs l[k]) 34)) l[k] (List.getElem_mem hlt) ((balloc hbel _).mono hbs)
      have HH := Lib.hid (@find_hit p l k hlt HA.out)
      have HN : Hid (p l[k] = false → ∀ j (hj : j < l.length), j < k + 1 → p l[j] = false) := Lib.hid (fun h j hj h2 => by
        by_cases e : j = k
        · subst e; exact h
        · exact HA.out j hj (by omega))
      have HX := Lib.hid (VarV.new wr l[k] 34)
      have HPUT := Lib.hid (fun (W : World) (h : VarV W w.heap.size vz) => h.put l[k])
      generalize l[k] = x at c0 c1 c2 c3 c4 c5 hcall HH HN HX HPUT
      obtain ⟨⟨key, val, gone, ⟨n, s⟩, past⟩, pa, pc⟩ := x
      dsimp only [vv, vcs, pu] at c0 c1 c2 c3 c4 c5 hcall
      have hb1 : Below wr.heap.size wr (wr.alloc (.cells #[.string key, .string val, .bool gone, .int .i64 n, .int .i64 s, .slice pa past.length pc] 34)) := balloc (Below.refl _ _) _
      have HB1 := Lib.hid hb1
      clear hb1
      cases hq : p (⟨key, val, gone, (n, s), past⟩, pa, pc) with
      | true =>
        rw [hq] at hcall
        have HQ := Lib.hid hq
        clear hq
        go_wp2_with (go_at_fn g; refine hcall.mono ?_; rintro e w' ⟨rfl, hb'⟩; have hX := (HX.out.keep hb').p; obtain ⟨x0, x1, x2, x3, x4, x5⟩ := hX; dsimp only [pu] at x0 x1 x2 x3 x4 x5; have HV1 := Lib.hid (HV0.out.keep (bstep HB1.out hb')); obtain ⟨⟨z0, z1, z2, z3, z4, z5⟩, zf⟩ := HV1.out; have zf0 := zf 0 (by decide); have zf1 := zf 1 (by decide); have zf2 := zf 2 (by decide); have zf3 := zf 3 (by decide); have zf4 := zf 4 (by decide); have zf5 := zf 5 (by decide); clear zf)
        have hP := (HPUT.out _ HV1.out).p
        have hbe := below_put6 (bstep hbel (bstep HB1.out hb')) (Nat.le_refl _) (⟨key, val, gone, (n, s), past⟩, pa, pc)
        obtain ⟨r0, r1, r2, r3, r4, r5⟩ := hP
        simp only [World.put6, pu, Nat.zero_add] at r0 r1 r2 r3 r4 r5 hbe
        refine bodyPost_ret (v := .tuple #[.agg #[.string key, .string val, .bool gone, .int .i64 n, .int .i64 s, .slice pa past.length pc], .bool true]) (by simp [results, Try.results36, go_sem, r0, r1, r2, r3, r4, r5]) rfl ⟨?_, hbe⟩
        rw [HH.out HQ.out]
        rfl
      | false =>
        rw [hq] at hcall
        have HQ := Lib.hid hq
        clear hq
        go_wp2_with (go_at_fn g; refine hcall.mono ?_; rintro e w' ⟨rfl, hb'⟩)
        go_roundw
        case rel => exact ⟨k + 1, by omega, by go_num, HN.out HQ.out, HV0.out.keep (bstep HB1.out hb'), bstep hbel (bstep HB1.out hb')⟩
        case measure => simp [intOf]; omega
    · obtain rfl : k = l.length := by omega
      have HE := Lib.hid (find_none (fun j hj => HA.out j hj hj))
      have HV1 : Hid (VarV (wr.alloc (.cells #[.string ⟨#[]⟩, .string ⟨#[]⟩, .bool false, .int .i64 0, .int .i64 0, .slice none 0 0] 34)) w.heap.size vz) := Lib.hid (HV0.out.keep (balloc (Below.refl _ wr) _))
      obtain ⟨⟨z0, z1, z2, z3, z4, z5⟩, zf⟩ := HV1.out
      have zf0 := zf 0 (by decide)
      have zf1 := zf 1 (by decide)
      have zf2 := zf 2 (by decide)
      have zf3 := zf 3 (by decide)
      have zf4 := zf 4 (by decide)
      have zf5 := zf 5 (by decide)
      clear zf
      have hP := (HV1.out.put vz).p
      have hbe : Below w.heap.size w (World.put6 (wr.alloc (.cells #[.string ⟨#[]⟩, .string ⟨#[]⟩, .bool false, .int .i64 0, .int .i64 0, .slice none 0 0] 34)) w.heap.size vz) := below_put6 (balloc hbel _) (Nat.le_refl _) vz
      dsimp only [vz, ve0, pu, List.length_nil, Nat.zero_add] at z0 z1 z2 z3 z4 z5
      have HP := Lib.hid hP
      have HBE := Lib.hid hbe
      clear hP hbe
      go_wp2
      obtain ⟨r0, r1, r2, r3, r4, r5⟩ := HP.out
      simp only [World.put6, vz, ve0, pu, List.length_nil, Nat.zero_add] at r0 r1 r2 r3 r4 r5
      refine bodyPost_ret (v := .tuple #[.agg #[.string ⟨#[]⟩, .string ⟨#[]⟩, .bool false, .int .i64 0, .int .i64 0, .slice none 0 0], .bool false]) (by simp [results, Try.results36, go_sem, r0, r1, r2, r3, r4, r5]) rfl ⟨?_, HBE.out⟩
      rw [HE.out]
      rfl

set_option maxRecDepth 100000 in
set_option maxHeartbeats 1600000 in
theorem find5_any (v : Value) (l : List Vp) (k : ByteArray) (n s : Int) (w : World) (hl : l.length ≤ 1000000) (hr : VRow w v l) :
    Calls Try.prog 18 #[v, .agg #[.string k, .int .i64 n, .int .i64 s]] w fun e w' => e = .returned (.tuple #[vv ((fndP l (k, n, s)).getD vz), .bool (fndP l (k, n, s)).isSome]) ∧ Below w.heap.size w w' := by
  have hmf : ∀ (fn : Fn) (first cap : Array Value) (w : World), (Instr.makeFunc fn first cap).run Try.prog w = .ok (.func fn first cap) w := fun _ _ _ _ => rfl
  have hbD : Below w.heap.size w (w.alloc (.cells #[.string k, .int .i64 n, .int .i64 s] 26)) := balloc (Below.refl _ w) _
  have hb0 : Below w.heap.size w ((w.alloc (.cells #[.string k, .int .i64 n, .int .i64 s] 26)).alloc (.cells #[.string ⟨#[]⟩, .string ⟨#[]⟩, .bool false, .int .i64 0, .int .i64 0, .slice none 0 0] 34)) := balloc hbD _
  have hD := (VarD.new w k n s 26).keep (balloc (Below.refl _ _) (.cells #[.string ⟨#[]⟩, .string ⟨#[]⟩, .bool false, .int .i64 0, .int .i64 0, .slice none 0 0] 34))
  have hV : VarV ((w.alloc (.cells #[.string k, .int .i64 n, .int .i64 s] 26)).alloc (.cells #[.string ⟨#[]⟩, .string ⟨#[]⟩, .bool false, .int .i64 0, .int .i64 0, .slice none 0 0] 34)) (w.heap.size + 1) vz := by
    have := VarV.new (w.alloc (.cells #[.string k, .int .i64 n, .int .i64 s] 26)) vz 34
    rw [show (w.alloc (.cells #[.string k, .int .i64 n, .int .i64 s] 26)).heap.size = w.heap.size + 1 by simp] at this
    exact this
  have hcon := first_any 37 #[.pointer (some ⟨w.heap.size, 0, none⟩)] (enters_of Try.func37 (by kernel_rfl) rfl) (fun x => decide (x.1.key = k ∧ x.1.st = (n, s))) v _ l ((w.alloc (.cells #[.string k, .int .i64 n, .int .i64 s] 26)).alloc (.cells #[.string ⟨#[]⟩, .string ⟨#[]⟩, .bool false, .int .i64 0, .int .i64 0, .slice none 0 0] 34)) hl (hr.below hb0) (Nat.le_refl _)
    (fun W x hx hb => findC1_any x k n s w.heap.size W (hD.keep hb).c0 (hD.keep hb).c1 (hD.keep hb).c2)
  have he : l.find? (fun x => decide (x.1.key = k ∧ x.1.st = (n, s))) = fndP l (k, n, s) := rfl
  rw [he] at hcon
  generalize fndP l (k, n, s) = r at hcon ⊢
  generalize r.isSome = c at hcon ⊢
  generalize r.getD vz = x at hcon ⊢
  obtain ⟨a, cap, rfl, _, _⟩ := hr.shape
  have HV := Lib.hid hV
  have HB0 := Lib.hid hb0
  have HPUT := Lib.hid (fun (W : World) (h : VarV W (w.heap.size + 1) vz) => h.put x)
  have HBP := Lib.hid (fun (W : World) (h : Below w.heap.size w W) => below_put6 h (show w.heap.size ≤ w.heap.size + 1 by omega) x)
  obtain ⟨⟨key, val, gone, ⟨m, t⟩, past⟩, pa, pc⟩ := x
  dsimp only [vv, vcs, pu] at hcon ⊢
  simp only [World.put6, pu] at HPUT HBP
  clear hr hD hV hb0 hbD he
  go_enter Try.func18, Try.ntmps18
  go_wp2_with fail
  refine hcon.mono ?_
  rintro e w1 ⟨rfl, hb1⟩
  have HV1 := Lib.hid (HV.out.keep hb1)
  obtain ⟨⟨z0, z1, z2, z3, z4, z5⟩, zf⟩ := HV1.out
  have zf0 := zf 0 (by decide)
  have zf1 := zf 1 (by decide)
  have zf2 := zf 2 (by decide)
  have zf3 := zf 3 (by decide)
  have zf4 := zf 4 (by decide)
  have zf5 := zf 5 (by decide)
  dsimp only [vz, ve0, pu, List.length_nil, Nat.zero_add] at z0 z1 z2 z3 z4 z5
  have hP := (HPUT.out _ HV1.out).p
  have HBE := Lib.hid (HBP.out _ (bstep HB0.out hb1))
  clear zf hb1 hcon HV HV1 HB0 HPUT HBP
  have HP := Lib.hid hP
  clear hP
  go_wp2
  obtain ⟨r0, r1, r2, r3, r4, r5⟩ := HP.out
  simp only [pu, Nat.zero_add] at r0 r1 r2 r3 r4 r5
  refine bodyPost_ret (v := .tuple #[.agg #[.string key, .string val, .bool gone, .int .i64 m, .int .i64 t, .slice pa past.length pc], .bool c]) (by simp [results, Try.results18, go_sem, r0, r1, r2, r3, r4, r5]) rfl ⟨rfl, HBE.out⟩
end Go.Proofs.Ytfnfpanmbmkhmaa
/- What the document's Find answers. -/
namespace Go.Proofs.Ytfnfpanmbmkhmaa
open Go.RowKit Go.Maps
set_option linter.unusedVariables false
set_option linter.unusedSimpArgs false

set_option maxRecDepth 100000 in
set_option maxHeartbeats 3200000 in
theorem refFind5_any (v : Value) (l : List Vp) (k : ByteArray) (n s : Int) (w : World) (hl : l.length ≤ 1000000) (hr : VRow w v l) :
    Calls Try.prog 19 #[v, .agg #[.string k, .int .i64 n, .int .i64 s]] w fun e w' => e = .returned (.tuple #[vv ((fndP l (k, n, s)).getD vz), .bool (fndP l (k, n, s)).isSome]) ∧ Below w.heap.size w w' := by
  have heq : ∀ (w' : World) (n s m t : Int), (binOp .eql 24 (.agg #[.int .i64 n, .int .i64 s]) (.agg #[.int .i64 m, .int .i64 t])).run Try.prog w' = .ok (.bool (decide ((n, s) = (m, t)))) w' := eq_stamp
  have HR := Lib.hid hr
  obtain ⟨a, cap, rfl, _, _⟩ := hr.shape
  clear hr
  have HB0 : Hid (Below w.heap.size w ((w.alloc (.cells #[.string k, .int .i64 n, .int .i64 s] 26)).alloc (.cells #[.string ⟨#[]⟩, .string ⟨#[]⟩, .bool false, .int .i64 0, .int .i64 0, .slice none 0 0] 34))) := Lib.hid (balloc (balloc (Below.refl _ w) _) _)
  have HD0 : Hid (VarD ((w.alloc (.cells #[.string k, .int .i64 n, .int .i64 s] 26)).alloc (.cells #[.string ⟨#[]⟩, .string ⟨#[]⟩, .bool false, .int .i64 0, .int .i64 0, .slice none 0 0] 34)) w.heap.size k n s) := Lib.hid ((VarD.new w k n s 26).keep (balloc (Below.refl _ _) _))
  have HV0 : Hid (VarV ((w.alloc (.cells #[.string k, .int .i64 n, .int .i64 s] 26)).alloc (.cells #[.string ⟨#[]⟩, .string ⟨#[]⟩, .bool false, .int .i64 0, .int .i64 0, .slice none 0 0] 34)) (w.heap.size + 1) vz) := Lib.hid (by
    have := VarV.new (w.alloc (.cells #[.string k, .int .i64 n, .int .i64 s] 26)) vz 34
    rw [show (w.alloc (.cells #[.string k, .int .i64 n, .int .i64 s] 26)).heap.size = w.heap.size + 1 by simp] at this
    exact this)
  go_enter Try.func19, Try.ntmps19
  go_wp2
  go_loopw [6] (fun i wr => ∃ j : Nat, j ≤ l.length ∧ i = .int .i64 j ∧ (∀ q (hq : q < l.length), q < j → (decide (l[q].1.key = k ∧ l[q].1.st = (n, s))) = false) ∧ VarD wr w.heap.size k n s ∧ VarV wr (w.heap.size + 1) vz ∧ Below w.heap.size w wr) (fun i _ => l.length - (intOf i).toNat)
  case atStart => exact ⟨0, by omega, rfl, (fun q hq h => by omega), HD0.out, HV0.out, HB0.out⟩
  case round =>
    obtain ⟨j, hj, rfl, hall, hd, hv, hbel⟩ := hrel
    have HA := Lib.hid hall
    have HD := Lib.hid hd
    have HV := Lib.hid hv
    clear hall hd hv
    by_cases hlt : j < l.length
    · obtain ⟨b, off, rfl, hbl, ⟨c0, c1, c2, c3, c4, c5⟩, _⟩ := (HR.out.below hbel).at j hlt
      have HH := Lib.hid (@find_hit (fun x => decide (x.1.key = k ∧ x.1.st = (n, s))) l j hlt HA.out)
      have HN : Hid (decide (l[j].1.key = k ∧ l[j].1.st = (n, s)) = false → ∀ q (hq : q < l.length), q < j + 1 → decide (l[q].1.key = k ∧ l[q].1.st = (n, s)) = false) := Lib.hid (fun h q hq h2 => by
        by_cases e : q = j
        · subst e; exact h
        · exact HA.out q hq (by omega))
      have HPUT := Lib.hid (fun (W : World) (h : VarV W (w.heap.size + 1) vz) => h.put l[j])
      generalize l[j] = x at c0 c1 c2 c3 c4 c5 HH HN HPUT
      obtain ⟨⟨key, val, gone, ⟨n1, s1⟩, past⟩, pa, pc⟩ := x
      dsimp only [pu] at c0 c1 c2 c3 c4 c5 HH HN
      obtain ⟨d0, d1, d2, _, _, _⟩ := HD.out
      have hji : (j : Int) < (l.length : Int) := by omega
      have hji0 : (0 : Int) ≤ (j : Int) := by omega
      have HKE := Lib.hid (keyeq key k)
      cases hq : (key.toList == k.toList) with
      | false =>
        have hq' : ¬ key.toList = k.toList := by simpa using hq
        go_wp2_with fail
        go_quiet (fail)
        go_wp2
        go_roundw
        case rel => exact ⟨j + 1, by omega, by go_num, HN.out (by rw [decide_eq_false_iff_not]; exact fun h => hq' (by simpa using HKE.out.1 h.1)), HD.out.keep (bdrewN _ _), HV.out.keep (bdrewN _ _), bstep hbel (bdrewN _ _)⟩
        case measure => simp [intOf]; omega
      | true =>
        have hq' : key.toList = k.toList := by simpa using hq
        have heq1 := fun w' => heq w' n1 s1 n s
        generalize hst : decide (((n1, s1) : Int × Int) = (n, s)) = st at heq1
        have HST := Lib.hid hst
        clear hst heq
        cases st with
        | false =>
          go_wp2_with fail
          go_quiet (fail)
          go_wp2
          go_roundw
          case rel => exact ⟨j + 1, by omega, by go_num, HN.out (by rw [decide_eq_false_iff_not]; exact fun h => of_decide_eq_false HST.out h.2), HD.out.keep (bdrewN _ _), HV.out.keep (bdrewN _ _), bstep hbel (bdrewN _ _)⟩
          case measure => simp [intOf]; omega
        | true =>
          have HE := Lib.hid (HH.out (decide_eq_true ⟨HKE.out.2 hq, of_decide_eq_true HST.out⟩))
          go_wp2_with fail
          go_quiet (fail)
          have HV1 := Lib.hid (HV.out.keep (bdrewN wr nq))
          obtain ⟨⟨z0, z1, z2, z3, z4, z5⟩, zf⟩ := HV1.out
          have zf0 := zf 0 (by decide)
          have zf1 := zf 1 (by decide)
          have zf2 := zf 2 (by decide)
          have zf3 := zf 3 (by decide)
          have zf4 := zf 4 (by decide)
          have zf5 := zf 5 (by decide)
          clear zf
          dsimp only [vz, ve0, pu, List.length_nil, Nat.zero_add] at z0 z1 z2 z3 z4 z5
          have hP := (HPUT.out _ HV1.out).p
          have hbe := below_put6 (bstep hbel (bdrewN wr nq)) (show w.heap.size ≤ w.heap.size + 1 by omega) (⟨key, val, gone, (n1, s1), past⟩, pa, pc)
          have HP := Lib.hid hP
          have HBE := Lib.hid hbe
          clear hP hbe
          go_wp2
          obtain ⟨r0, r1, r2, r3, r4, r5⟩ := HP.out
          have hbe := HBE.out
          simp only [World.put6, pu, Nat.zero_add] at r0 r1 r2 r3 r4 r5 hbe
          refine bodyPost_ret (v := .tuple #[.agg #[.string key, .string val, .bool gone, .int .i64 n1, .int .i64 s1, .slice pa past.length pc], .bool true]) (by simp [results, Try.results19, go_sem, r0, r1, r2, r3, r4, r5]) rfl ⟨?_, hbe⟩
          unfold fndP
          rw [HE.out]
          rfl
    · obtain rfl : j = l.length := by omega
      have HE := Lib.hid (find_none (p := fun x => decide (x.1.key = k ∧ x.1.st = (n, s))) (fun q hq => HA.out q hq hq))
      obtain ⟨⟨z0, z1, z2, z3, z4, z5⟩, zf⟩ := HV.out
      have zf0 := zf 0 (by decide)
      have zf1 := zf 1 (by decide)
      have zf2 := zf 2 (by decide)
      have zf3 := zf 3 (by decide)
      have zf4 := zf 4 (by decide)
      have zf5 := zf 5 (by decide)
      clear zf
      dsimp only [vz, ve0, pu, List.length_nil, Nat.zero_add] at z0 z1 z2 z3 z4 z5
      have HP := Lib.hid ((HV.out.put vz).p)
      have HBE := Lib.hid (below_put6 hbel (show w.heap.size ≤ w.heap.size + 1 by omega) vz)
      go_wp2
      obtain ⟨r0, r1, r2, r3, r4, r5⟩ := HP.out
      simp only [World.put6, vz, ve0, pu, List.length_nil, Nat.zero_add] at r0 r1 r2 r3 r4 r5
      refine bodyPost_ret (v := .tuple #[.agg #[.string ⟨#[]⟩, .string ⟨#[]⟩, .bool false, .int .i64 0, .int .i64 0, .slice none 0 0], .bool false]) (by simp [results, Try.results19, go_sem, r0, r1, r2, r3, r4, r5]) rfl ⟨?_, HBE.out⟩
      unfold fndP
      rw [HE.out]
      rfl
end Go.Proofs.Ytfnfpanmbmkhmaa
/- slices.Backward over dependencies. -/
namespace Go.Proofs.Ytfnfpanmbmkhmaa
open Go.RowKit Go.Shelf
set_option linter.unusedVariables false
set_option linter.unusedSimpArgs false
attribute [local go_sem] Oper.semAt_some

/-- What is handed to a round: the place, the dependency; its key is no longer than a text can be. -/
abbrev BackA := { x : Int × De // x.2.1.size ≤ maxLen }
def bkA (l : List De) (hz : Szd l) (j : Nat) (h : j < l.length) : BackA := ⟨((j : Int), l[j]), by have := hz l[j] (List.getElem_mem h); unfold maxLen; omega⟩
/-- The last k, from behind. -/
def bkL (l : List De) (hz : Szd l) : Nat → List BackA
  | 0 => []
  | k + 1 => if h : k < l.length then bkL l hz k ++ [bkA l hz (l.length - 1 - k) (by omega)] else bkL l hz k
theorem bkL_succ (l : List De) (hz : Szd l) (k : Nat) (h : k < l.length) : bkL l hz (k + 1) = bkL l hz k ++ [bkA l hz (l.length - 1 - k) (by omega)] := by rw [bkL, dif_pos h]
theorem bkL_len (l : List De) (hz : Szd l) (k : Nat) (h : k ≤ l.length) : (bkL l hz k).length = k := by
  induction k with
  | zero => rfl
  | succ k ih => rw [bkL_succ l hz k (by omega), List.length_append, ih (by omega)]; rfl

/-- Below n0 all but block mb lies as it lay. -/
def KB (mb n0 : Nat) (A B : World) : Prop := ∀ k, k < n0 → k ≠ mb → B.heap[k]? = A.heap[k]?
theorem KB.refl (mb n0 : Nat) (A : World) : KB mb n0 A A := fun _ _ _ => rfl
theorem KB.trans {mb n0 : Nat} {A B C : World} (h : KB mb n0 A B) (k : KB mb n0 B C) : KB mb n0 A C := fun i h1 h2 => (k i h1 h2).trans (h i h1 h2)
theorem KB.cell {mb n0 : Nat} {A B : World} (h : KB mb n0 A B) {b o : Nat} (h1 : b < n0) (h2 : b ≠ mb) : B.cell? ⟨b, o, none⟩ = A.cell? ⟨b, o, none⟩ := World.cell?_of_block (h b h1 h2)

set_option maxRecDepth 100000 in
set_option maxHeartbeats 2000000 in
theorem back1_in (F : Fence) (n : Nat) (h8 : F.fn 87) (hro : F.round = none) (hn : 1 ≤ n) (lp Bs n0 mb cap : Nat) (a : Option Addr) (l : List De) (hz : Szd l) (hl : l.length ≤ 1000000) (J Jx : List BackA → World → Prop)
    (hY : ∀ pre x W, J pre W → pre.length < l.length → YieldAt F (n - 1) Try.prog lp #[.int .i64 x.1.1, .agg #[.string x.1.2.1, .int .i64 x.1.2.2.1, .int .i64 x.1.2.2.2]] W fun e W' =>
      (e = .returned (.bool true) ∧ J (pre ++ [x]) W' ∧ KB mb n0 W W') ∨ (e = .returned (.bool false) ∧ Jx (pre ++ [x]) W'))
    (W : World) (hBn : Bs < n0) (hBm : Bs ≠ mb) (hBs : W.cell? ⟨Bs, 0, none⟩ = some (.slice a l.length cap)) (hlow : ∀ b off, a = some ⟨b, off, none⟩ → 0 < l.length → b < n0 ∧ b ≠ mb) (hr : DepIn W a l) (h0 : J [] W) :
    CallsIn F n Try.prog 87 #[.func (.yield lp) #[] #[], .pointer (some ⟨Bs, 0, none⟩)] W fun e W' => (∃ v, e = .returned v) ∧
      ((∃ ys, ys = bkL l hz l.length ∧ J ys W') ∨ (∃ pre, True ∧ Jx pre W')) := by
  have HR := Lib.hid hr
  clear hr
  refine callsIn_of_wp Try.func87 rfl h8 ?_ hro
  simp only [Try.ntmps87, List.size_toArray, List.length_cons, List.length_nil, Nat.reduceAdd, Nat.reduceSub, Array.replicate_succ, Array.replicate_zero, List.push_toArray, List.append_toArray, List.nil_append, List.cons_append]
  have hw0 : IntKind.i64.wrap ((l.length : Int) - 1) = (l.length : Int) - 1 := IntWalk.i64_in _ (by omega)
  gi_wp2
  gi_loopw [3] (fun i wr => ∃ k : Nat, k ≤ l.length ∧ i = .int .i64 ((l.length : Int) - 1 - k) ∧ J (bkL l hz k) wr ∧ KB mb n0 W wr) (fun i _ => (intOf i + 1).toNat)
  case atStart => exact ⟨0, Nat.zero_le _, by simp, h0, KB.refl _ _ _⟩
  case round =>
    obtain ⟨k, hk, rfl, hJs, hnx⟩ := hrel
    have hBs' := (hnx.cell (o := 0) hBn hBm).trans hBs
    by_cases hlt : k < l.length
    · obtain ⟨q, hq⟩ : ∃ q, q = l.length - 1 - k := ⟨_, rfl⟩
      have hqi : (l.length : Int) - 1 - (k : Int) = (q : Int) := by omega
      have hql : q < l.length := by omega
      have HQ := Lib.hid hq
      clear hq
      obtain ⟨b, off, rfl, hbl, c0, c1, c2⟩ := HR.out q hql
      obtain ⟨hbn, hbm⟩ := hlow b off rfl (by omega)
      replace c0 := (hnx.cell hbn hbm).trans c0
      replace c1 := (hnx.cell hbn hbm).trans c1
      replace c2 := (hnx.cell hbn hbm).trans c2
      have HS : Hid (bkL l hz (k + 1) = bkL l hz k ++ [bkA l hz q hql]) := Lib.hid (by rw [bkL_succ l hz k hlt]; congr 2; simp [HQ.out])
      have hx : (bkA l hz q hql).1 = ((q : Int), l[q]) := rfl
      obtain ⟨fn, tmps, assign, body, hy, hR⟩ := hY _ (bkA l hz q hql) wr hJs (by rw [bkL_len l hz k hk]; exact hlt)
      rw [hx] at hy
      generalize bkA l hz q hql = xx at HS hR
      generalize l[q] = d at c0 c1 c2 hy
      obtain ⟨x, y, z⟩ := d
      dsimp only at hy c0 c1 c2
      rw [hqi]
      have hq1 : (0 : Int) ≤ (q : Int) := by omega
      have hq2 : (q : Int) < (l.length : Int) := by omega
      have hq3 : IntKind.i64.wrap ((q : Int) - 1) = (q : Int) - 1 := IntWalk.i64_in _ (by omega)
      have HQI := Lib.hid hqi
      clear hqi hx
      gi_wp2
      refine hR.mono ?_
      rintro e W3 (⟨rfl, hJ3, hk3⟩ | ⟨rfl, hJx3⟩)
      · gi_wp2
        go_roundw
        case rel => exact ⟨k + 1, by omega, by have := HQI.out; simp; omega, by rw [HS.out]; exact hJ3, hnx.trans hk3⟩
        case measure => simp [intOf]
      · gi_wp2
        refine bodyPost_ret (results_none rfl _ _ _) rfl ?_
        exact ⟨⟨_, rfl⟩, .inr ⟨_, trivial, hJx3⟩⟩
    · obtain rfl : k = l.length := by omega
      have hneg : (l.length : Int) - 1 - (l.length : Int) = -1 := by omega
      rw [hneg]
      clear hneg
      gi_wp2
      go_end0
      exact ⟨⟨_, rfl⟩, .inl ⟨_, rfl, hJs⟩⟩

set_option maxHeartbeats 1000000 in
theorem backward_in (F : Fence) (n : Nat) (h5 : F.fn 70) (hro : F.round = none) (a : Option Addr) (len cap : Nat) (w : World) :
    CallsIn F n Try.prog 70 #[.slice a len cap] w fun e w' => e = .returned (.func (.func 87) #[] #[.pointer (some ⟨w.heap.size, 0, none⟩)]) ∧ w' = w.alloc (.cells #[.slice a len cap] 29) := by
  refine callsIn_of_wp Try.func70 rfl h5 ?_ hro
  simp only [Try.ntmps70, List.size_toArray, List.length_cons, List.length_nil, Nat.reduceAdd, Nat.reduceSub, Array.replicate_succ, Array.replicate_zero, List.push_toArray, List.append_toArray, List.nil_append, List.cons_append]
  gi_wp2
  go_ret
  exact ⟨rfl, rfl⟩

theorem back_stops (F : Fence) (n : Nat) (h8 : F.fn 87) (hro : F.round = none) (hn : 1 ≤ n) (Bs n0 mb cap : Nat) (a : Option Addr) (l : List De) (hz : Szd l) (hl : l.length ≤ 1000000) (w : World) (hB0 : Bs < w.heap.size) (hBn : Bs < n0) (hBm : Bs ≠ mb) (hc : w.cell? ⟨Bs, 0, none⟩ = some (.slice a l.length cap)) (hlow : ∀ b off, a = some ⟨b, off, none⟩ → 0 < l.length → b < n0 ∧ b ≠ mb) (hr : DepIn w a l) :
    SeqStopsK F n Try.prog 87 #[.pointer (some ⟨Bs, 0, none⟩)] (fun x : BackA => #[.int .i64 x.1.1, .agg #[.string x.1.2.1, .int .i64 x.1.2.2.1, .int .i64 x.1.2.2.2]]) (KB mb n0) (fun ys => ys = bkL l hz l.length) (fun _ => True) l.length w := fun lp J Jx W hW _ _ hY h0 =>
  back1_in F n h8 hro hn lp Bs n0 mb cap a l hz hl J Jx hY W hBn hBm ((hW.cell (p := ⟨Bs, 0, none⟩) hB0).trans hc) hlow (hr.below hW) h0
end Go.Proofs.Ytfnfpanmbmkhmaa
/- slices.Backward over versions. -/
namespace Go.Proofs.Ytfnfpanmbmkhmaa
open Go.RowKit Go.Shelf
set_option linter.unusedVariables false
set_option linter.unusedSimpArgs false
attribute [local go_sem] Oper.semAt_some

def KeysV (l : List Vp) : Prop := ∀ x ∈ l, KeyD x.1.dep
/-- What is handed to a round: the place, the version; its name can be a key. -/
abbrev BackVA := { x : Int × Vp // KeyD x.2.1.dep }
def bkVA (l : List Vp) (hz : KeysV l) (j : Nat) (h : j < l.length) : BackVA := ⟨((j : Int), l[j]), hz l[j] (List.getElem_mem h)⟩
/-- The last k, from behind. -/
def bkVL (l : List Vp) (hz : KeysV l) : Nat → List BackVA
  | 0 => []
  | k + 1 => if h : k < l.length then bkVL l hz k ++ [bkVA l hz (l.length - 1 - k) (by omega)] else bkVL l hz k
theorem bkVL_succ (l : List Vp) (hz : KeysV l) (k : Nat) (h : k < l.length) : bkVL l hz (k + 1) = bkVL l hz k ++ [bkVA l hz (l.length - 1 - k) (by omega)] := by rw [bkVL, dif_pos h]
theorem bkVL_len (l : List Vp) (hz : KeysV l) (k : Nat) (h : k ≤ l.length) : (bkVL l hz k).length = k := by
  induction k with
  | zero => rfl
  | succ k ih => rw [bkVL_succ l hz k (by omega), List.length_append, ih (by omega)]; rfl

set_option maxRecDepth 100000 in
set_option maxHeartbeats 2000000 in
theorem back1V_in (F : Fence) (n : Nat) (h8 : F.fn 63) (hro : F.round = none) (hn : 1 ≤ n) (lp Bs n0 mb cap : Nat) (a : Option Addr) (l : List Vp) (hz : KeysV l) (hl : l.length ≤ 1000000) (J Jx : List BackVA → World → Prop)
    (hY : ∀ pre x W, J pre W → pre.length < l.length → YieldAt F (n - 1) Try.prog lp #[.int .i64 x.1.1, vv x.1.2] W fun e W' =>
      (e = .returned (.bool true) ∧ J (pre ++ [x]) W' ∧ KB mb n0 W W') ∨ (e = .returned (.bool false) ∧ Jx (pre ++ [x]) W'))
    (W : World) (hBn : Bs < n0) (hBm : Bs ≠ mb) (hBs : W.cell? ⟨Bs, 0, none⟩ = some (.slice a l.length cap)) (hlow : ∀ b off, a = some ⟨b, off, none⟩ → 0 < l.length → b < n0 ∧ b ≠ mb) (hr : RowIn KV W a l) (h0 : J [] W) :
    CallsIn F n Try.prog 63 #[.func (.yield lp) #[] #[], .pointer (some ⟨Bs, 0, none⟩)] W fun e W' => (∃ v, e = .returned v) ∧
      ((∃ ys, ys = bkVL l hz l.length ∧ J ys W') ∨ (∃ pre, True ∧ Jx pre W')) := by
  have HR := Lib.hid hr
  clear hr
  refine callsIn_of_wp Try.func63 rfl h8 ?_ hro
  simp only [Try.ntmps63, List.size_toArray, List.length_cons, List.length_nil, Nat.reduceAdd, Nat.reduceSub, Array.replicate_succ, Array.replicate_zero, List.push_toArray, List.append_toArray, List.nil_append, List.cons_append]
  have hw0 : IntKind.i64.wrap ((l.length : Int) - 1) = (l.length : Int) - 1 := IntWalk.i64_in _ (by omega)
  gi_wp2
  gi_loopw [3] (fun i wr => ∃ k : Nat, k ≤ l.length ∧ i = .int .i64 ((l.length : Int) - 1 - k) ∧ J (bkVL l hz k) wr ∧ KB mb n0 W wr) (fun i _ => (intOf i + 1).toNat)
  case atStart => exact ⟨0, Nat.zero_le _, by simp, h0, KB.refl _ _ _⟩
  case round =>
    obtain ⟨k, hk, rfl, hJs, hnx⟩ := hrel
    have hBs' := (hnx.cell (o := 0) hBn hBm).trans hBs
    by_cases hlt : k < l.length
    · obtain ⟨q, hq⟩ : ∃ q, q = l.length - 1 - k := ⟨_, rfl⟩
      have hqi : (l.length : Int) - 1 - (k : Int) = (q : Int) := by omega
      have hql : q < l.length := by omega
      have HQ := Lib.hid hq
      clear hq
      obtain ⟨b, off, rfl, hbl, hcs⟩ := HR.out q hql
      obtain ⟨hbn, hbm⟩ := hlow b off rfl (by omega)
      obtain ⟨c0, c1, c2, c3, c4, c5⟩ := (VerP.of_row hcs).block (hnx b hbn hbm)
      have HS : Hid (bkVL l hz (k + 1) = bkVL l hz k ++ [bkVA l hz q hql]) := Lib.hid (by rw [bkVL_succ l hz k hlt]; congr 2; simp [HQ.out])
      have hx : (bkVA l hz q hql).1 = ((q : Int), l[q]) := rfl
      obtain ⟨fn, tmps, assign, body, hy, hR⟩ := hY _ (bkVA l hz q hql) wr hJs (by rw [bkVL_len l hz k hk]; exact hlt)
      rw [hx] at hy
      generalize bkVA l hz q hql = xx at HS hR
      clear hcs
      generalize l[q] = d at c0 c1 c2 c3 c4 c5 hy
      obtain ⟨⟨key, val, gone, ⟨n1, s1⟩, past⟩, pa, pc⟩ := d
      dsimp only [vv, vcs, pu, KV] at hy c0 c1 c2 c3 c4 c5
      rw [hqi]
      have hq1 : (0 : Int) ≤ (q : Int) := by omega
      have hq2 : (q : Int) < (l.length : Int) := by omega
      have hq3 : IntKind.i64.wrap ((q : Int) - 1) = (q : Int) - 1 := IntWalk.i64_in _ (by omega)
      have HQI := Lib.hid hqi
      clear hqi hx
      gi_wp2
      refine hR.mono ?_
      rintro e W3 (⟨rfl, hJ3, hk3⟩ | ⟨rfl, hJx3⟩)
      · gi_wp2
        go_roundw
        case rel => exact ⟨k + 1, by omega, by have := HQI.out; simp; omega, by rw [HS.out]; exact hJ3, hnx.trans hk3⟩
        case measure => simp [intOf]
      · gi_wp2
        refine bodyPost_ret (results_none rfl _ _ _) rfl ?_
        exact ⟨⟨_, rfl⟩, .inr ⟨_, trivial, hJx3⟩⟩
    · obtain rfl : k = l.length := by omega
      have hneg : (l.length : Int) - 1 - (l.length : Int) = -1 := by omega
      rw [hneg]
      clear hneg
      gi_wp2
      go_end0
      exact ⟨⟨_, rfl⟩, .inl ⟨_, rfl, hJs⟩⟩

set_option maxHeartbeats 1000000 in
theorem backwardV_in (F : Fence) (n : Nat) (h5 : F.fn 45) (hro : F.round = none) (a : Option Addr) (len cap : Nat) (w : World) :
    CallsIn F n Try.prog 45 #[.slice a len cap] w fun e w' => e = .returned (.func (.func 63) #[] #[.pointer (some ⟨w.heap.size, 0, none⟩)]) ∧ w' = w.alloc (.cells #[.slice a len cap] 31) := by
  refine callsIn_of_wp Try.func45 rfl h5 ?_ hro
  simp only [Try.ntmps45, List.size_toArray, List.length_cons, List.length_nil, Nat.reduceAdd, Nat.reduceSub, Array.replicate_succ, Array.replicate_zero, List.push_toArray, List.append_toArray, List.nil_append, List.cons_append]
  gi_wp2
  go_ret
  exact ⟨rfl, rfl⟩

theorem backV_stops (F : Fence) (n : Nat) (h8 : F.fn 63) (hro : F.round = none) (hn : 1 ≤ n) (Bs n0 mb cap : Nat) (a : Option Addr) (l : List Vp) (hz : KeysV l) (hl : l.length ≤ 1000000) (w : World) (hB0 : Bs < w.heap.size) (hBn : Bs < n0) (hBm : Bs ≠ mb) (hc : w.cell? ⟨Bs, 0, none⟩ = some (.slice a l.length cap)) (hlow : ∀ b off, a = some ⟨b, off, none⟩ → 0 < l.length → b < n0 ∧ b ≠ mb) (hr : RowIn KV w a l) :
    SeqStopsK F n Try.prog 63 #[.pointer (some ⟨Bs, 0, none⟩)] (fun x : BackVA => #[.int .i64 x.1.1, vv x.1.2]) (KB mb n0) (fun ys => ys = bkVL l hz l.length) (fun _ => True) l.length w := fun lp J Jx W hW _ _ hY h0 =>
  back1V_in F n h8 hro hn lp Bs n0 mb cap a l hz hl J Jx hY W hBn hBm ((hW.cell (p := ⟨Bs, 0, none⟩) hB0).trans hc) hlow (hr.below hW) h0
end Go.Proofs.Ytfnfpanmbmkhmaa
/- A region that draws its order, in a round of a range over a function: out of the plain calculus. -/
namespace Go.Proofs.Ytfnfpanmbmkhmaa
open Go.RowKit
set_option linter.unusedVariables false

theorem rowsIn_round {l n : Nat} {P : Program} {row : String} {args : Array Value} {w : World} {R : Value → World → Prop} (h : Rows P row args w R) : Go.RowsIn (Fence.wide.inRound l) n P row args w R :=
  fun c cs _ => by
    obtain ⟨v, w', h1, h2⟩ := h c cs
    exact ⟨v, w', h1, stepsIn_wide.2 h2⟩
theorem callsIn_round {l n : Nat} {P : Program} {f : FuncId} {args : Array Value} {w : World} {R : Ending → World → Prop} (h : Calls P f args w R) : CallsIn (Fence.wide.inRound l) n P f args w R :=
  CallsIn.inRound l (callsIn_wide.2 h)
theorem wpOpIn_round {l n : Nat} {P : Program} {ops : Array Oper} {Q : Exit → Act → World → Prop} {i : Nat} {K : Act → World → Prop} {a : Act} {w : World} (hQ : ¬ LetsOut Q) (hd : ∀ (i : Nat) o, ops[i]? = some o → ∀ c, o.op ≠ .defer c) (h : wpOp P ops Q i K a w) : wpOpIn (Fence.wide.inRound l) n P ops Q i K a w := by
  unfold wpOp at h
  unfold wpOpIn
  cases ho : ops[i]? with
  | none => rw [ho] at h; exact h
  | some o =>
    rw [ho] at h
    dsimp only at h ⊢
    split
    · rename_i hw
      rw [if_pos hw] at h
      rcases h with h | ⟨_, h⟩
      · refine ⟨fun f _ => trivial, ?_⟩
        rw [Oper.semAt_eq _ _ _ (hd i o ho)]
        unfold Oper.wp at h
        generalize (execOp a.eval o).run P w = r at h
        cases r with
        | ok x w' =>
          cases x <;> simp only [Oper.upon, Oper.uponIn] at h ⊢
          case value => exact h
          case skip => exact h
          case defer => exact h
          case enter => exact ⟨fun e => by simp [Fence.wide, Fence.inRound] at e, callsIn_round h⟩
          case row => exact ⟨fun e => by simp [Fence.wide, Fence.inRound] at e, rowsIn_round h⟩
        | halt x w' => cases x <;> simp only [Oper.upon, Oper.uponIn] at h ⊢ <;> exact h
      · exact absurd h hQ
    · rename_i hw
      rw [if_neg hw] at h
      exact ⟨fun f _ => trivial, h⟩
theorem wpAnyIn_round {l n : Nat} {P : Program} {md : Region.Mode} {ops : Array Oper} {Q : Exit → Act → World → Prop} (hQ : ¬ LetsOut Q) (hd : ∀ (i : Nat) o, ops[i]? = some o → ∀ c, o.op ≠ .defer c) :
    ∀ (fuel : Nat) (listed : Array Bool) (a : Act) (w : World), wpAny P md ops Q fuel listed a w → wpAnyIn (Fence.wide.inRound l) n P md ops Q fuel listed a w
  | 0, _, _, _, h => h
  | fuel + 1, _, _, _, h => ⟨h.1, fun i hi => wpOpIn_mono (fun a' w' h' => wpAnyIn_round hQ hd fuel _ a' w' h') (wpOpIn_round hQ hd (h.2 i hi))⟩
def noDefer (o : Oper) : Bool := match o.op with | .defer _ => false | _ => true
/-- The region, begun. -/
theorem wpIn_region_round {l n id : Nat} {P : Program} {ops : Array Oper} {Q : Exit → Act → World → Prop} {a : Act} {w : World} {S : World → Prop} (hm : P.follows .mixedOrders = true) (hQ : ¬ LetsOut Q) (hd : ops.all noDefer = true) (hS : S w.drew)
    (h : S w.drew → wpAnyH P .any ops Q S ops.size (Array.replicate ops.size false) a w.drew) : (Code.region id ops true).wpIn (Fence.wide.inRound l) n P Q a w :=
  wpIn_region_any hm (wpAnyIn_round hQ (fun i o ho c e => by
    have := Array.all_eq_true_iff_forall_mem.1 hd o (Array.mem_of_getElem? ho)
    unfold noDefer at this
    rw [e] at this
    cases this) _ _ _ _ (wpAny_of_held _ _ _ _ (h hS)))
theorem ownPostG_stays {α : Type} {B : Nat} {Kp : World → World → Prop} {I : List α → World → Prop} {Ix : Code → List α → World → Prop} {xs : List α} {W : World} : ¬ LetsOut (ownPostG B Kp I Ix xs W) := fun ⟨_, _, h⟩ => h
end Go.Proofs.Ytfnfpanmbmkhmaa
