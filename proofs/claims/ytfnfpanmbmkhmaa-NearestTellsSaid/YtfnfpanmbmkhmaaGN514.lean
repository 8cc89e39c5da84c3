/- Texts of this proof, one behind the other: NearClosed, NearSound, NearSound2, NearClaims. -/
import Derived.Test.YtfnfpanmbmkhmaaGN513
/- What nearest.closed and nearest.Closed answer. -/
namespace Go.Proofs.Ytfnfpanmbmkhmaa
open Go.RowKit Go.Maps
set_option linter.unusedVariables false
set_option linter.unusedSimpArgs false

theorem cl_eq (ds : List De) (xs : List Vp) : ((!(ds.any fun d => !(fndP xs d).isSome)) && covB ds (fpL ds xs).flatten) = clB ds (xs.map Prod.fst) := by
  rw [Bool.eq_iff_iff, Bool.and_eq_true, cl_iff, cov_iff]
  simp only [Bool.not_eq_true', List.any_eq_false, Bool.not_eq_true, Bool.not_eq_false']
  constructor
  · rintro ⟨h1, h2⟩ d hd
    have h3 : (fndP xs d).isSome = true := by
      cases h : (fndP xs d).isSome with
      | true => rfl
      | false => exact absurd h (h1 d hd)
    rw [fndP_isSome, Option.isSome_iff_exists] at h3
    obtain ⟨v, hv⟩ := h3
    refine ⟨v, hv, cov_iff.2 fun e he => h2 e ?_⟩
    rw [fpL_eq]
    exact List.mem_flatten.2 ⟨v.past, List.mem_filterMap.2 ⟨d, hd, by rw [hv]; rfl⟩, he⟩
  · intro h
    refine ⟨fun d hd => ?_, fun e he => ?_⟩
    · obtain ⟨v, hv, _⟩ := h d hd
      rw [fndP_isSome, hv]
      simp
    · rw [fpL_eq] at he
      obtain ⟨q, hq, he⟩ := List.mem_flatten.1 he
      obtain ⟨d, hd, hq⟩ := List.mem_filterMap.1 hq
      obtain ⟨v, hv, hc⟩ := h d hd
      rw [hv] at hq
      simp at hq
      subst hq
      exact cov_iff.1 hc e he

theorem fpL_get (ds : List De) (xs : List Vp) (i : Nat) (h : i < (fndL ds xs).length) (h' : i < (fpL ds xs).length) : (fpL ds xs)[i] = (fndL ds xs)[i].1.past := by
  show ((fndL ds xs).map fun x => x.1.past)[i]'(by simpa using h) = _
  exact List.getElem_map _

set_option maxRecDepth 100000 in
set_option maxHeartbeats 800000 in
theorem closedC_any (x : ByteArray) (y z : Int) (B b : Nat) (xs : List Vp) (w : World) (hk : KeyD (x, y, z)) (hc : w.cell? ⟨B, 0, none⟩ = some (.map (some b))) (hm : IdxM w b xs) :
    Calls Try.prog 55 #[.agg #[.string x, .int .i64 y, .int .i64 z], .pointer (some ⟨B, 0, none⟩)] w fun e w' => e = .returned (.bool (!(fndP xs (x, y, z)).isSome)) ∧ Below w.heap.size w w' := by
  have hbD : Below w.heap.size w (w.alloc (.cells #[.string x, .int .i64 y, .int .i64 z] 26)) := balloc (Below.refl _ w) _
  have hL1 := (hm.below hbD).lookOk Try.underlying59 (Try.zeroValue34 _) hk
  have hc1 := kc hbD hc
  have hne : B ≠ w.heap.size := by have := lt_of_cellN hc; omega
  have HB := Lib.hid hbD
  unfold idxG at hL1
  clear hbD hm hc
  cases hf : fndP xs (x, y, z) with
  | none =>
    rw [hf] at hL1
    dsimp only [Option.map, Option.getD, Option.isSome] at hL1 ⊢
    clear hf
    go_enter Try.func55, Try.ntmps55
    go_wp2
    go_ret
    exact ⟨rfl, balloc HB.out _⟩
  | some r =>
    rw [hf] at hL1
    clear hf
    obtain ⟨⟨key, val, gone, ⟨n1, s1⟩, past⟩, pa, pc⟩ := r
    dsimp only [Option.map, Option.getD, Option.isSome, vv, vcs, pu] at hL1 ⊢
    go_enter Try.func55, Try.ntmps55
    go_wp2
    go_ret
    exact ⟨rfl, balloc HB.out _⟩

set_option maxRecDepth 100000 in
set_option maxHeartbeats 1600000 in
theorem closed_any (v1 : Value) (ds : List De) (b : Nat) (xs : List Vp) (w : World) (hl : ds.length ≤ 50) (hs : Srt ds) (hok : ∀ x ∈ xs, VOk x.1) (hpa : ∀ x ∈ xs, DepAt w (pu x) x.1.past) (h1 : DepAt w v1 ds) (hm : IdxM w b xs) :
    Calls Try.prog 39 #[v1, .map (some b)] w fun e w' => e = .returned (.bool (clB ds (xs.map Prod.fst))) ∧ Below w.heap.size w w' := by
  have hmf : ∀ (fn : Fn) (first cap : Array Value) (w : World), (Instr.makeFunc fn first cap).run Try.prog w = .ok (.func fn first cap) w := fun _ _ _ _ => rfl
  have hbM : Below w.heap.size w (w.alloc (.cells #[.map (some b)] 59)) := balloc (Below.refl _ w) _
  have hcM : (w.alloc (.cells #[.map (some b)] 59)).cell? ⟨w.heap.size, 0, none⟩ = some (.map (some b)) := by simp
  have HM := Lib.hid (hm.below hbM)
  have HV1 := Lib.hid (h1.below hbM)
  have HPA : Hid (∀ (W : World), Below w.heap.size w W → ∀ x ∈ xs, DepAt W (pu x) x.1.past) := Lib.hid (fun W hW x hx => (hpa x hx).below hW)
  have HS := Lib.hid hs
  have HOK := Lib.hid hok
  obtain ⟨a1, c1, rfl, _, _, _, hr1⟩ := h1
  have hcon := contFunc_any 55 #[.pointer (some ⟨w.heap.size, 0, none⟩)] (enters_of Try.func55 (by kernel_rfl) rfl) (fun d => !(fndP xs d).isSome) a1 c1 _ ds (w.alloc (.cells #[.map (some b)] 59)) (by omega) (hr1.below hbM) (Nat.le_refl _)
    (fun W' d hd hb => closedC_any d.1 d.2.1 d.2.2 _ b xs W' (Srt.keys HS.out d hd) (kc hb hcM) (HM.out.below hb))
  have hfl := fndL_len ds xs
  have HB0 := Lib.hid hbM
  rw [← cl_eq]
  clear hm hs hok hpa hr1 hbM
  generalize (ds.any fun d => !(fndP xs d).isSome) = rr at hcon ⊢
  generalize hcv : covB ds (fpL ds xs).flatten = cv
  have HCV := Lib.hid hcv
  have HCM := Lib.hid hcM
  clear hcM hcv
  cases rr with
  | true =>
    go_enter Try.func39, Try.ntmps39
    go_wp2_with fail
    refine hcon.mono ?_
    rintro e w1 ⟨rfl, hb1⟩
    go_wp2
    go_ret
    exact ⟨rfl, bstep HB0.out hb1⟩
  | false =>
    go_enter Try.func39, Try.ntmps39
    go_wp2_with fail
    refine hcon.mono ?_
    rintro e w1 ⟨rfl, hb1⟩
    have hcm := kc hb1 HCM.out
    have HM1 := Lib.hid (HM.out.below hb1)
    have HV11 := Lib.hid (HV1.out.below hb1)
    have hbel1 := bstep HB0.out hb1
    clear hb1 hcon HM HV1 HB0 HCM
    go_wp2_with fail
    refine (found_any _ ds b xs _ (by omega) (srt_nodup HS.out) (Srt.keys HS.out) HV11.out HM1.out).mono ?_
    rintro e w2 ⟨u2, rfl, ho2, hb2⟩
    have hbel2 := bstep hbel1 hb2
    have HVR : Hid (VRow w2 u2 (fndL ds xs)) := Lib.hid (VRow.of_own ho2 (fun x hx => HPA.out w2 hbel2 x (fndL_mem hx)))
    have HV12 := Lib.hid (HV11.out.below hb2)
    obtain ⟨sa, sc, rfl⟩ := ho2.shape
    clear ho2 HV11 HM1 hb2 hbel1 hcm
    go_wp2_with fail
    refine (pasts_any _ (fndL ds xs) _ (by omega) HVR.out).mono ?_
    rintro e w3 ⟨u3, rfl, ho3, hb3⟩
    have HV13 := Lib.hid (HV12.out.below hb3)
    have hbel3 := bstep hbel2 hb3
    have HTOT : Hid (tot (fpL ds xs) ≤ 1000000 ∧ Szd (fpL ds xs).flatten ∧ (fpL ds xs).length ≤ 1000 ∧ (fpL ds xs).flatten.length ≤ 1000000) := Lib.hid (by
      have hb : ∀ l ∈ fpL ds xs, l.length ≤ 50 ∧ Srt l := by
        intro l hl'
        obtain ⟨x, hx, rfl⟩ := fpL_mem hl'
        exact ⟨(HOK.out x hx).len, (HOK.out x hx).srt⟩
      have h1 := tot_le (fun l h => (hb l h).1)
      have h2 := fpL_len ds xs
      have h3 : (fpL ds xs).length * 50 ≤ 50 * 50 := Nat.mul_le_mul_right _ (by omega)
      refine ⟨by omega, fun d hd => ?_, by omega, by rw [tot_flat]; omega⟩
      obtain ⟨l, hl1, hl2⟩ := List.mem_flatten.1 hd
      exact (hb l hl1).2.szd d hl2)
    have hcc : ∃ sa3 sc3, u3 = .slice sa3 (fpL ds xs).length sc3 ∧ RowsAt w3 sa3 (fpL ds xs) := by
      obtain ⟨sa3, sc3, e3⟩ := ho3.shape
      rw [e3] at ho3
      refine ⟨sa3, sc3, by rw [e3]; unfold fpL; simp, RowsAt.of_own ho3 (by unfold fpL; simp) (fun i h h' => ?_)⟩
      have hi : i < (fndL ds xs).length := by simpa using h
      rw [List.getElem_map, fpL_get ds xs i hi h']
      exact (HVR.out.below hb3).2 _ (List.getElem_mem hi)
    obtain ⟨sa3, sc3, rfl, hrows⟩ := hcc
    have hC := concat_any sa3 sc3 (fpL ds xs) w3 HTOT.out.2.2.1 HTOT.out.1 hrows
    clear ho3 hb3 HV12 HVR hbel2 hrows hfl
    generalize (fpL ds xs).flatten = fl at hC HTOT HCV
    go_wp2_with fail
    refine hC.mono ?_
    rintro e w4 ⟨u4, rfl, ho4, hb4⟩
    have HV14 := Lib.hid (HV13.out.below hb4)
    have HD4 := Lib.hid (DepAt.of_own ho4)
    have hbel4 := bstep hbel3 hb4
    obtain ⟨sa4, sc4, rfl⟩ := ho4.shape
    clear ho4 hC HV13 hb4 hbel3
    have hCov := covers_any _ _ ds fl w4 (by omega) HTOT.out.2.2.2 (Srt.szd HS.out) HTOT.out.2.1 HV14.out HD4.out
    go_wp2_with fail
    refine hCov.mono ?_
    rintro e w5 ⟨rfl, hb5⟩
    have e5 : (!(fl.any fun d => Sm.less (gtD ds d.1) d.2)) = covB ds fl := rfl
    rw [e5, HCV.out]
    go_wp2
    go_ret
    exact ⟨ret_bool (by simp), bstep hbel4 hb5⟩
end Go.Proofs.Ytfnfpanmbmkhmaa
/- What nearest.Closed and nearest.Sound answer. -/
namespace Go.Proofs.Ytfnfpanmbmkhmaa
open Go.RowKit Go.Maps
set_option linter.unusedVariables false
set_option linter.unusedSimpArgs false

set_option maxRecDepth 100000 in
set_option maxHeartbeats 800000 in
theorem closed5_any (v1 v2 : Value) (ds : List De) (xs : List Vp) (w : World) (hl : ds.length ≤ 50) (hs : Srt ds) (hx : xs.length ≤ 1000) (hok : ∀ x ∈ xs, VOk x.1) (h1 : DepAt w v1 ds) (h2 : VRow w v2 xs) :
    Calls Try.prog 22 #[v1, v2] w fun e w' => e = .returned (.bool (clB ds (xs.map Prod.fst))) ∧ Below w.heap.size w w' := by
  have HV1 := Lib.hid h1
  have HV2 := Lib.hid h2
  obtain ⟨a1, c1, rfl, _, _, _, _⟩ := h1
  obtain ⟨a2, c2, rfl, _, _⟩ := h2.shape
  have HS := Lib.hid hs
  have HOK := Lib.hid hok
  clear h2 hs hok
  go_enter Try.func22, Try.ntmps22
  go_wp2_with fail
  refine (index_any _ xs _ (by omega) (fun x hx => (HOK.out x hx).key) HV2.out).mono ?_
  rintro e w1 ⟨b, rfl, hb, hi, hb1⟩
  have hC := closed_any _ ds b xs _ hl HS.out HOK.out (fun x hx => (HV2.out.below hb1).2 x hx) (HV1.out.below hb1) hi
  go_wp2_with fail
  refine hC.mono ?_
  rintro e w2 ⟨rfl, hb2⟩
  go_wp2
  go_ret
  exact ⟨rfl, bstep hb1 hb2⟩

def fidxV (p : Vp → Bool) (l : List Vp) : Int := match l.findIdx? p with | none => -1 | some i => i
theorem fidxV_hit {p : Vp → Bool} {l : List Vp} {k : Nat} (hk : k < l.length) (h : ∀ j (hj : j < l.length), j < k → p l[j] = false) (hh : p l[k] = true) : fidxV p l = k := by
  have e : l.findIdx? p = some k := by
    rw [List.findIdx?_eq_some_iff_getElem]
    exact ⟨hk, hh, fun j hj => by simpa using h j (by omega) hj⟩
  simp [fidxV, e]
theorem fidxV_none {p : Vp → Bool} {l : List Vp} (h : ∀ j (hj : j < l.length), p l[j] = false) : fidxV p l = -1 := by
  have e : l.findIdx? p = none := by
    rw [List.findIdx?_eq_none_iff]
    intro x hx
    obtain ⟨j, hj, rfl⟩ := List.getElem_of_mem hx
    simpa using h j hj
  simp [fidxV, e]
theorem fidxV_any (p : Vp → Bool) (l : List Vp) : decide (0 ≤ fidxV p l) = l.any p := by
  unfold fidxV
  cases h : l.findIdx? p with
  | none =>
    rw [List.findIdx?_eq_none_iff] at h
    have : l.any p = false := by rw [List.any_eq_false]; intro x hx; simp [h x hx]
    rw [this]
    rfl
  | some i =>
    rw [List.findIdx?_eq_some_iff_getElem] at h
    obtain ⟨hi, hh, _⟩ := h
    have : l.any p = true := List.any_eq_true.2 ⟨l[i], List.getElem_mem hi, hh⟩
    rw [this]
    simp

set_option maxRecDepth 100000 in
set_option maxHeartbeats 800000 in
theorem idxFuncV_any (g : Nat) (lb : Array Value) (eg : ∀ args w, (callFunc g args).run Try.prog w = .ok (.enter g args) w) (p : Vp → Bool) (v : Value) (base : Nat) (l : List Vp) (w : World) (hl : l.length ≤ 1000000) (hr : VRow w v l) (hbs : base ≤ w.heap.size) (hp : PredV g lb p l base w) :
    Calls Try.prog 58 #[v, .func (.func g) #[] lb] w fun e w' => e = .returned (.int .i64 (fidxV p l)) ∧ Below w.heap.size w w' := by
  have HR := Lib.hid hr
  have HP := Lib.hid hp
  obtain ⟨a, cap, rfl, _, _⟩ := hr.shape
  clear hr hp
  go_enter Try.func58, Try.ntmps58
  go_wp2
  go_loopw [8] (fun i wr => ∃ k : Nat, k ≤ l.length ∧ i = .int .i64 k ∧ (∀ j (hj : j < l.length), j < k → p l[j] = false) ∧ Below w.heap.size w wr) (fun i _ => l.length - (intOf i).toNat)
  case atStart => exact ⟨0, by omega, rfl, (fun j hj h => by omega), Below.refl _ _⟩
  case round =>
    obtain ⟨k, hk, rfl, hall, hbel⟩ := hrel
    have HA := Lib.hid hall
    clear hall
    by_cases hlt : k < l.length
    · obtain ⟨b, off, rfl, hbl, ⟨c0, c1, c2, c3, c4, c5⟩, _⟩ := (HR.out.below hbel).at k hlt
      have hcall := HP.out wr l[k] (List.getElem_mem hlt) (hbel.mono hbs)
      have HH := Lib.hid (@fidxV_hit p l k hlt HA.out)
      have HN : Hid (p l[k] = false → ∀ j (hj : j < l.length), j < k + 1 → p l[j] = false) := Lib.hid (fun h j hj h2 => by
        by_cases e : j = k
        · subst e; exact h
        · exact HA.out j hj (by omega))
      generalize l[k] = x at c0 c1 c2 c3 c4 c5 hcall HH HN
      generalize hpx : p x = px at hcall HH HN
      have HPX := Lib.hid hpx
      clear hpx
      obtain ⟨⟨key, val, gone, ⟨n, s⟩, past⟩, pa, pc⟩ := x
      dsimp only [vv, vcs, pu] at c0 c1 c2 c3 c4 c5 hcall
      cases px with
      | true =>
        go_wp2_with (go_at_fn g; refine hcall.mono ?_; rintro e w' ⟨rfl, hb'⟩)
        go_ret
        exact ⟨ret_int (HH.out trivial).symm, bstep hbel hb'⟩
      | false =>
        go_wp2_with (go_at_fn g; refine hcall.mono ?_; rintro e w' ⟨rfl, hb'⟩)
        go_roundw
        case rel => exact ⟨k + 1, by omega, by go_num, HN.out trivial, bstep hbel hb'⟩
        case measure => simp [intOf]; omega
    · obtain rfl : k = l.length := by omega
      go_wp2
      go_ret
      exact ⟨ret_int (fidxV_none (fun j hj => HA.out j hj hj)).symm, hbel⟩

set_option maxRecDepth 100000 in
set_option maxHeartbeats 800000 in
theorem contFuncV_any (g : Nat) (lb : Array Value) (eg : ∀ args w, (callFunc g args).run Try.prog w = .ok (.enter g args) w) (p : Vp → Bool) (v : Value) (base : Nat) (l : List Vp) (w : World) (hl : l.length ≤ 1000000) (hr : VRow w v l) (hbs : base ≤ w.heap.size) (hp : PredV g lb p l base w) :
    Calls Try.prog 40 #[v, .func (.func g) #[] lb] w fun e w' => e = .returned (.bool (l.any p)) ∧ Below w.heap.size w w' := by
  have hcon := idxFuncV_any g lb eg p v base l w hl hr hbs hp
  rw [← fidxV_any]
  generalize fidxV p l = r at hcon ⊢
  obtain ⟨a, cap, rfl, _, _⟩ := hr.shape
  clear hr hp
  go_enter Try.func40, Try.ntmps40
  go_wp2_with fail
  refine hcon.mono ?_
  rintro e w1 ⟨rfl, hb⟩
  go_wp2
  all_goals
    go_ret
    exact ⟨ret_bool (by simp_all), hb⟩
end Go.Proofs.Ytfnfpanmbmkhmaa
/- What nearest.improper and nearest.Sound answer. -/
namespace Go.Proofs.Ytfnfpanmbmkhmaa
open Go.RowKit Go.Maps
set_option linter.unusedVariables false
set_option linter.unusedSimpArgs false

def lateB (v : Ve) : Bool := v.past.any fun d => !Sm.less d.2 v.st
def imprB (v : Ve) : Bool := !chkD v.past || !Sm.ok v.st.1 v.st.2 || lateB v
def sndB (xs : List Vp) : Bool := decide (cntP xs = xs.length) && !(xs.any fun x => imprB x.1) && !(xs.any fun x => !clB x.1.past (xs.map Prod.fst))

set_option maxRecDepth 100000 in
set_option maxHeartbeats 800000 in
theorem improperC_any (x : ByteArray) (y z n s : Int) (B : Nat) (w : World) (h3 : w.cell? ⟨B, 3, none⟩ = some (.int .i64 n)) (h4 : w.cell? ⟨B, 4, none⟩ = some (.int .i64 s)) :
    Calls Try.prog 59 #[.agg #[.string x, .int .i64 y, .int .i64 z], .pointer (some ⟨B, 0, none⟩)] w fun e w' => e = .returned (.bool (!Sm.less (y, z) (n, s))) ∧ Below w.heap.size w w' := by
  have hbD : Below w.heap.size w (w.alloc (.cells #[.string x, .int .i64 y, .int .i64 z] 26)) := balloc (Below.refl _ w) _
  have hL := fun W => less_any y z n s W
  have k3 := kc hbD h3
  have k4 := kc hbD h4
  have hne : B ≠ w.heap.size := by have := lt_of_cellN h3; omega
  generalize Sm.less (y, z) (n, s) = c at hL ⊢
  have HB := Lib.hid hbD
  clear hbD h3 h4
  go_enter Try.func59, Try.ntmps59
  go_wp2_with fail
  refine (hL _).mono ?_
  rintro e w1 ⟨rfl, hb1⟩
  go_wp2
  go_ret
  exact ⟨rfl, bstep HB.out hb1⟩

set_option maxRecDepth 100000 in
set_option maxHeartbeats 1600000 in
theorem improper_any (x : Vp) (w : World) (hok : VOk x.1) (hp : DepAt w (pu x) x.1.past) :
    Calls Try.prog 41 #[vv x] w fun e w' => e = .returned (.bool (imprB x.1)) ∧ Below w.heap.size w w' := by
  have hmf : ∀ (fn : Fn) (first cap : Array Value) (w : World), (Instr.makeFunc fn first cap).run Try.prog w = .ok (.func fn first cap) w := fun _ _ _ _ => rfl
  have HV := Lib.hid (VarV.new w x 34)
  have HB0 : Hid (Below w.heap.size w (w.alloc (.cells (vcs x) 34))) := Lib.hid (balloc (Below.refl _ w) _)
  have HP := Lib.hid hp
  have hC1 := fun W hW => pcheck_any (pu x) x.1.past W (by have := hok.len; omega) hok.srt.szd hW
  have hC2 := fun W => scheck_any x.1.st.1 x.1.st.2 W
  have hC3 : ∀ W, VarV W w.heap.size x → DepAt W (pu x) x.1.past → Calls Try.prog 56 #[pu x, .func (.func 59) #[] #[.pointer (some ⟨w.heap.size, 0, none⟩)]] W fun e w' => e = .returned (.bool (lateB x.1)) ∧ Below W.heap.size W w' := fun W hV hW => by
    obtain ⟨a, c, e, _, _, _, hr⟩ := hW
    rw [e]
    exact contFunc_any 59 #[.pointer (some ⟨w.heap.size, 0, none⟩)] (enters_of Try.func59 (by kernel_rfl) rfl) (fun d => !Sm.less d.2 x.1.st) a c _ x.1.past W (by have := hok.len; omega) hr (Nat.le_refl _)
      (fun W' d hd hb => improperC_any d.1 d.2.1 d.2.2 x.1.st.1 x.1.st.2 _ W' (hV.keep hb).p.c3 (hV.keep hb).p.c4)
  have hI : imprB x.1 = (!chkD x.1.past || !Sm.ok x.1.st.1 x.1.st.2 || lateB x.1) := rfl
  rw [hI]
  clear hI hp hok
  generalize chkD x.1.past = b1 at hC1 ⊢
  generalize Sm.ok x.1.st.1 x.1.st.2 = b2 at hC2 ⊢
  generalize lateB x.1 = b3 at hC3 ⊢
  obtain ⟨⟨key, val, gone, ⟨n1, s1⟩, past⟩, pa, pc⟩ := x
  dsimp only [vv, vcs, pu] at hC1 hC2 hC3 HB0 HP HV ⊢
  have hP0 := HP.out.below HB0.out
  have HC3 := Lib.hid hC3
  clear hC3
  cases b1 with
  | false =>
    go_enter Try.func41, Try.ntmps41
    go_wp2_with fail
    refine (hC1 _ hP0).mono ?_
    rintro e w1 ⟨rfl, hb1⟩
    go_wp2
    go_ret
    exact ⟨ret_bool (by simp), bstep HB0.out hb1⟩
  | true =>
    go_enter Try.func41, Try.ntmps41
    go_wp2_with fail
    refine (hC1 _ hP0).mono ?_
    rintro e w1 ⟨rfl, hb1⟩
    have HV1 := Lib.hid (HV.out.keep hb1)
    have HP1 := Lib.hid (hP0.below hb1)
    have hbel1 := bstep HB0.out hb1
    obtain ⟨⟨c0, c1, c2, c3, c4, c5⟩, _⟩ := HV1.out
    dsimp only [pu, Nat.zero_add] at c0 c1 c2 c3 c4 c5
    clear hb1 hC1 hP0 HV HP HB0
    cases b2 with
    | false =>
      go_wp2_with fail
      refine (hC2 _).mono ?_
      rintro e w2 ⟨rfl, hb2⟩
      go_wp2
      go_ret
      exact ⟨ret_bool (by simp), bstep hbel1 hb2⟩
    | true =>
      go_wp2_with fail
      refine (hC2 _).mono ?_
      rintro e w2 ⟨rfl, hb2⟩
      have HV2 := Lib.hid (HV1.out.keep hb2)
      have hbel2 := bstep hbel1 hb2
      have hC3 := HC3.out w2 HV2.out (HP1.out.below hb2)
      clear c0 c1 c2 c3 c4 c5 hb2 hbel1 HV1 HP1 HC3
      obtain ⟨⟨c0, c1, c2, c3, c4, c5⟩, _⟩ := HV2.out
      dsimp only [pu, Nat.zero_add] at c0 c1 c2 c3 c4 c5
      go_wp2_with fail
      refine hC3.mono ?_
      rintro e w3 ⟨rfl, hb3⟩
      go_wp2
      go_ret
      exact ⟨ret_bool (by simp), bstep hbel2 hb3⟩

set_option maxRecDepth 100000 in
set_option maxHeartbeats 800000 in
theorem soundC_any (x : Vp) (B b : Nat) (xs : List Vp) (w : World) (hok : ∀ x ∈ xs, VOk x.1) (hpa : ∀ x ∈ xs, DepAt w (pu x) x.1.past) (hx : x ∈ xs) (hc : w.cell? ⟨B, 0, none⟩ = some (.map (some b))) (hm : IdxM w b xs) :
    Calls Try.prog 38 #[vv x, .pointer (some ⟨B, 0, none⟩)] w fun e w' => e = .returned (.bool (!clB x.1.past (xs.map Prod.fst))) ∧ Below w.heap.size w w' := by
  have hB : Below w.heap.size w (w.alloc (.cells (vcs x) 34)) := balloc (Below.refl _ w) _
  have hC := closed_any (pu x) x.1.past b xs (w.alloc (.cells (vcs x) 34)) (hok x hx).len (hok x hx).srt hok (fun y hy => (hpa y hy).below hB) ((hpa x hx).below hB) (hm.below hB)
  have hc1 := kc hB hc
  have hne : B ≠ w.heap.size := by have := lt_of_cellN hc; omega
  have HB := Lib.hid hB
  generalize clB x.1.past (xs.map Prod.fst) = c at hC ⊢
  clear hpa hx hok hm hc hB
  obtain ⟨⟨key, val, gone, ⟨n1, s1⟩, past⟩, pa, pc⟩ := x
  dsimp only [vv, vcs, pu] at hC hc1 HB ⊢
  go_enter Try.func38, Try.ntmps38
  go_wp2_with fail
  refine hC.mono ?_
  rintro e w1 ⟨rfl, hb1⟩
  go_wp2
  go_ret
  exact ⟨rfl, bstep HB.out hb1⟩

set_option maxRecDepth 100000 in
set_option maxHeartbeats 1600000 in
theorem sound_any (v : Value) (xs : List Vp) (w : World) (hx : xs.length ≤ 1000) (hok : ∀ x ∈ xs, VOk x.1) (h : VRow w v xs) :
    Calls Try.prog 20 #[v] w fun e w' => e = .returned (.bool (sndB xs)) ∧ Below w.heap.size w w' := by
  have hmf : ∀ (fn : Fn) (first cap : Array Value) (w : World), (Instr.makeFunc fn first cap).run Try.prog w = .ok (.func fn first cap) w := fun _ _ _ _ => rfl
  have HV := Lib.hid h
  have HOK := Lib.hid hok
  obtain ⟨a, c, rfl, _, _⟩ := h.shape
  have hcl := cntP_le xs
  have e0 : sndB xs = (decide (cntP xs = xs.length) && !(xs.any fun x => imprB x.1) && !(xs.any fun x => !clB x.1.past (xs.map Prod.fst))) := rfl
  rw [e0]
  clear h hok e0
  generalize hr1 : (xs.any fun x => imprB x.1) = r1
  generalize hr2 : (xs.any fun x => !clB x.1.past (xs.map Prod.fst)) = r2
  have HR1 := Lib.hid hr1
  have HR2 := Lib.hid hr2
  clear hr1 hr2
  by_cases hc1 : cntP xs = xs.length
  · rw [decide_eq_true hc1]
    have HC1 := Lib.hid hc1
    clear hc1 hcl
    go_enter Try.func20, Try.ntmps20
    go_wp2_with fail
    refine (index_any _ xs _ (by omega) (fun x hx => (HOK.out x hx).key) HV.out).mono ?_
    rintro e w1 ⟨b, rfl, hb, hi, hb1⟩
    have hbM : Below w1.heap.size w1 (w1.alloc (.cells #[.map (some b)] 59)) := balloc (Below.refl _ w1) _
    have hcM : (w1.alloc (.cells #[.map (some b)] 59)).cell? ⟨w1.heap.size, 0, none⟩ = some (.map (some b)) := by simp
    have HI := Lib.hid (hi.below hbM)
    have HV1 := Lib.hid ((HV.out.below hb1).below hbM)
    have hbel1 := bstep hb1 hbM
    have hlen : ∀ ty, (Builtin.len_ #[59] ty #[.map (some b)]).run Try.prog (w1.alloc (.cells #[.map (some b)] 59)) = .ok (.int .i64 (xs.length)) (w1.alloc (.cells #[.map (some b)] 59)) := fun ty => by rw [← HC1.out]; exact MapD.len HI.out Try.underlying59 ty
    have HCM := Lib.hid hcM
    have HBM := Lib.hid hbM
    clear hi hb1 hb HV hcM hbM
    have hC1 := contFuncV_any 41 #[] (enters_of Try.func41 (by kernel_rfl) rfl) (fun x => imprB x.1) (.slice a xs.length c) _ xs (w1.alloc (.cells #[.map (some b)] 59)) (by omega) HV1.out (Nat.le_refl _)
      (fun W x hx hb => improper_any x W (HOK.out x hx) ((HV1.out.2 x hx).below hb))
    rw [HR1.out] at hC1
    have hL : decide ((xs.length : Int) = (xs.length : Int)) = true := by simp
    cases r1 with
    | true =>
      go_wp2_with fail
      refine hC1.mono ?_
      rintro e w2 ⟨rfl, hb2⟩
      go_wp2
      go_ret
      exact ⟨ret_bool (by simp), bstep hbel1 hb2⟩
    | false =>
      go_wp2_with fail
      refine hC1.mono ?_
      rintro e w2 ⟨rfl, hb2⟩
      have hC2 := contFuncV_any 38 #[.pointer (some ⟨w1.heap.size, 0, none⟩)] (enters_of Try.func38 (by kernel_rfl) rfl) (fun x => !clB x.1.past (xs.map Prod.fst)) (.slice a xs.length c) _ xs w2 (by omega) (HV1.out.below hb2) (Nat.le_refl _)
        (fun W x hx hb => soundC_any x _ b xs W HOK.out (fun y hy => ((HV1.out.2 y hy).below hb2).below hb) hx (kc hb (kc hb2 HCM.out)) ((HI.out.below hb2).below hb))
      rw [HR2.out] at hC2
      have hbel2 := bstep hbel1 hb2
      clear hC1 hb2
      go_wp2_with fail
      refine hC2.mono ?_
      rintro e w3 ⟨rfl, hb3⟩
      go_wp2
      go_ret
      exact ⟨ret_bool (by simp), bstep hbel2 hb3⟩
  · rw [decide_eq_false hc1]
    have hlt : cntP xs < xs.length := by omega
    have HLT := Lib.hid hlt
    generalize hn : cntP xs = n at hlt
    have HN := Lib.hid hn
    clear hc1 hcl hn
    go_enter Try.func20, Try.ntmps20
    go_wp2_with fail
    refine (index_any _ xs _ (by omega) (fun x hx => (HOK.out x hx).key) HV.out).mono ?_
    rintro e w1 ⟨b, rfl, hb, hi, hb1⟩
    have hbM : Below w1.heap.size w1 (w1.alloc (.cells #[.map (some b)] 59)) := balloc (Below.refl _ w1) _
    have hcM : (w1.alloc (.cells #[.map (some b)] 59)).cell? ⟨w1.heap.size, 0, none⟩ = some (.map (some b)) := by simp
    have HI := Lib.hid (hi.below hbM)
    have HV1 := Lib.hid ((HV.out.below hb1).below hbM)
    have hbel1 := bstep hb1 hbM
    have hlen : ∀ ty, (Builtin.len_ #[59] ty #[.map (some b)]).run Try.prog (w1.alloc (.cells #[.map (some b)] 59)) = .ok (.int .i64 n) (w1.alloc (.cells #[.map (some b)] 59)) := fun ty => by rw [← HN.out]; exact MapD.len HI.out Try.underlying59 ty
    have HCM := Lib.hid hcM
    have HBM := Lib.hid hbM
    clear hi hb1 hb HV hcM hbM
    have hL : ((n : Int) == (xs.length : Int)) = false := by
      rw [beq_eq_false_iff_ne]
      omega
    have hL2 : ¬ n = xs.length := by omega
    have hL3 : (n == xs.length) = false := by simpa using hL2
    go_wp2
    go_ret
    exact ⟨ret_bool (by simp), hbel1⟩
end Go.Proofs.Ytfnfpanmbmkhmaa
/- What nearest.claimsOf makes: what versions tell of each key. -/
namespace Go.Proofs.Ytfnfpanmbmkhmaa
open Go.RowKit Go.Maps
set_option linter.unusedVariables false
set_option linter.unusedSimpArgs false

/-- A claim: who tells it, the stamp. -/
abbrev Cl := De × (Int × Int)
abbrev ccs (c : Cl) : Array Value := #[.string c.1.1, .int .i64 c.1.2.1, .int .i64 c.1.2.2, .int .i64 c.2.1, .int .i64 c.2.2]
def KC : RK Cl where
  T := 64
  S := 62
  sz := 5
  bt := 48
  z := .agg #[.string ⟨#[]⟩, .int .i64 0, .int .i64 0, .int .i64 0, .int .i64 0]
  enc c := [.string c.1.1, .int .i64 c.1.2.1, .int .i64 c.1.2.2, .int .i64 c.2.1, .int .i64 c.2.2]
theorem kc_ok : KC.Ok where
  len _ := rfl
  pos := by decide
  one x u hu := by
    simp [KC] at hu
    rcases hu with rfl | rfl | rfl | rfl | rfl <;> rfl
  und := Try.underlying62
  inf := by kernel_rfl
  zc := rfl
  bb := by decide
def rowsK (cs : List (ByteArray × Cl)) (k : ByteArray) : List Cl := (cs.filter fun c => decide (c.1 = k)).map Prod.snd
theorem rowsK_snoc (cs : List (ByteArray × Cl)) (x : ByteArray) (c : Cl) (k : ByteArray) : rowsK (cs ++ [(x, c)]) k = if x = k then rowsK cs k ++ [c] else rowsK cs k := by
  unfold rowsK
  rw [List.filter_append, List.map_append]
  by_cases h : x = k <;> simp [h]
theorem rowsK_len (cs : List (ByteArray × Cl)) (k : ByteArray) : (rowsK cs k).length ≤ cs.length := by
  unfold rowsK
  rw [List.length_map]
  exact List.length_filter_le _ _
abbrev nilS : Value := .slice none 0 0
/-- Block b is a map of rows of claims by keys; the rows lie in blocks of their own, from base on. -/
structure Grp (w : World) (base b : Nat) (cs : List (ByteArray × Cl)) (n : Nat) (g : ByteArray → Option Value) : Prop where
  mp : MapS w b n g
  n_le : n ≤ cs.length
  row : ∀ k : ByteArray, k.size ≤ maxLen → OwnR KC w base ((g k).getD nilS) (rowsK cs k)
  apart : ∀ k k' : ByteArray, k.size ≤ maxLen → k'.size ≤ maxLen → k ≠ k' → ∀ x, ((g k).getD nilS).ownBlock = some x → ((g k').getD nilS).ownBlock ≠ some x
theorem Grp.below {w w' : World} {base b : Nat} {cs : List (ByteArray × Cl)} {n : Nat} {g : ByteArray → Option Value} (h : Grp w base b cs n g) (hb : Below w.heap.size w w') : Grp w' base b cs n g :=
  ⟨h.mp.below hb, h.n_le, fun k hk => (h.row k hk).below hb, h.apart⟩
theorem Grp.made (w : World) (base : Nat) : Grp (w.alloc (.map #[] 0)) base w.heap.size [] 0 (fun _ => none) :=
  ⟨MapS.made w, by simp, fun k _ => OwnR.nil _ _ _, fun k k' _ _ _ x h => by simp [Value.ownBlock] at h⟩
/-- One claim more. -/
theorem Grp.push {w w1 w2 : World} {base b : Nat} {cs : List (ByteArray × Cl)} {n : Nat} {g : ByteArray → Option Value} (h : Grp w base b cs n g) (hbb : b < base) {x : ByteArray} (hx : x.size ≤ maxLen) {c : Cl} {v' : Value} {q : Nat} (hq : v'.ownBlock = some q)
    (ho : OwnR KC w1 base v' (rowsK cs x ++ [c])) (hk : KeptD ((g x).getD nilS) w w1) (hat : ((g x).getD nilS).ownBlock = some q ∨ w.heap.size ≤ q)
    (hm : MapS w2 b (if (g x).isSome then n else n + 1) (fun d => if d = x then some v' else g d)) (ht : w1.mapTurned w2 b) :
    Grp w2 base b (cs ++ [(x, c)]) (if (g x).isSome then n else n + 1) (fun d => if d = x then some v' else g d) := by
  refine ⟨hm, ?_, fun k hk' => ?_, fun k k' h1 h2 hne y hy => ?_⟩
  · have := h.n_le
    rw [List.length_append]
    split <;> simp <;> omega
  · rw [rowsK_snoc]
    by_cases e : k = x
    · rw [if_pos e, if_pos e.symm, e]
      exact ho.block (fun q hq => turned_block ht q (by have := (ho.lt q hq).1; omega))
    · rw [if_neg e, if_neg (Ne.symm e)]
      have hr := h.row k hk'
      refine hr.block (fun q hq => ?_)
      rw [turned_block ht q (by have := (hr.lt q hq).1; omega)]
      exact hk q (hr.lt q hq).2 (h.apart k x hk' hx e q hq)
  · by_cases e : k = x
    · rw [if_pos e] at hy
      rw [if_neg (fun e' => hne (e.trans e'.symm))]
      simp only [Option.getD_some] at hy
      rw [hq] at hy
      cases hy
      rcases hat with h3 | h3
      · exact h.apart x k' hx h2 (by rw [← e]; exact hne) q h3
      · intro h4
        have := ((h.row k' h2).lt q h4).2
        omega
    · rw [if_neg e] at hy
      by_cases e' : k' = x
      · rw [if_pos e']
        simp only [Option.getD_some]
        rw [hq]
        intro h4
        cases h4
        rcases hat with h3 | h3
        · exact h.apart x k hx h1 (Ne.symm e) q h3 hy
        · have := ((h.row k h1).lt q hy).2
          omega
      · rw [if_neg e']
        exact h.apart k k' h1 h2 hne y hy
/-- What the versions tell, in order: of which key, who, which stamp. -/
def telL (xs : List Vp) : List (ByteArray × Cl) := xs.flatMap fun x => x.1.past.map fun d => (d.1, (x.1.dep, d.2))
theorem telL_snoc (xs : List Vp) (x : Vp) : telL (xs ++ [x]) = telL xs ++ x.1.past.map fun d => (d.1, (x.1.dep, d.2)) := by simp [telL]
theorem telL_len {xs : List Vp} (h : ∀ x ∈ xs, x.1.past.length ≤ 50) : (telL xs).length ≤ xs.length * 50 := by
  unfold telL
  induction xs with
  | nil => simp
  | cons x xs ih =>
    have h1 := h x (by simp)
    have h2 := ih (fun y hy => h y (by simp [hy]))
    rw [List.flatMap_cons, List.length_append, List.length_map, List.length_cons, Nat.succ_mul]
    omega

/-- No row lies in block j. -/
def Avoid (g : ByteArray → Option Value) (j : Nat) : Prop := ∀ k : ByteArray, k.size ≤ maxLen → ((g k).getD nilS).ownBlock ≠ some j
theorem Grp.avoid {w : World} {base b : Nat} {cs : List (ByteArray × Cl)} {n : Nat} {g : ByteArray → Option Value} (h : Grp w base b cs n g) {j : Nat} (hj : w.heap.size ≤ j) : Avoid g j := fun k hk => (h.row k hk).lt' hj
/-- One claim appended, and its row put into the map. -/
theorem Grp.add {w : World} {base b : Nat} {cs : List (ByteArray × Cl)} {n : Nat} {g : ByteArray → Option Value} (h : Grp w base b cs n g) (hbb : b < base) (hbs : base ≤ w.heap.size) (hlen : cs.length ≤ 100000) {x : ByteArray} (hx : x.size ≤ maxLen) (c : Cl) (ty : TypeId) :
    ∃ q cap w1 w2 n' g', (Builtin.append_ #[62, 62] ty #[(g x).getD nilS, .slice (some ⟨w.heap.size, 0, none⟩) 1 1]).run Try.prog (w.alloc (.cells (ccs c) 64)) = .ok (.slice (some ⟨q, 0, none⟩) ((rowsK cs x).length + 1) cap) w1 ∧
      (Instr.mapUpdate 56 (.map (some b)) (.string x) (.slice (some ⟨q, 0, none⟩) ((rowsK cs x).length + 1) cap)).run Try.prog w1 = .ok () w2 ∧
      Grp w2 base b (cs ++ [(x, c)]) n' g' ∧ (∀ j, j < w.heap.size → Avoid g j → Avoid g' j ∧ w1.heap[j]? = w.heap[j]? ∧ (j ≠ b → w2.heap[j]? = w.heap[j]?)) ∧ Below b w w2 := by
  obtain ⟨q, cap, w1, hrun, ho, hbel, hkept, hat, hlt⟩ := run_pushR kc_ok (wr := w) ty base _ _ c (ccs c) rfl (h.row x hx) (by have := rowsK_len cs x; omega) hbs
  have hmb : w1.heap[b]? = w.heap[b]? := hkept b h.mp.lt (fun e => by have := ((h.row x hx).lt b e).1; omega)
  obtain ⟨w2, hrun2, hm2, ht2⟩ := (h.mp.block hmb).store Try.underlying56 (by have := h.n_le; unfold maxLen; omega) hx (.slice (some ⟨q, 0, none⟩) ((rowsK cs x).length + 1) cap)
  have hg := h.push hbb hx (q := q) rfl ho hkept hat hm2 ht2
  refine ⟨q, cap, w1, w2, _, _, hrun, hrun2, hg, fun j hj hav => ⟨fun k hk => ?_, hkept j hj (hav x hx), fun hjb => (turned_block ht2 j hjb).trans (hkept j hj (hav x hx))⟩, (hbel.mono (by omega)).trans (turned_below ht2 (Nat.le_refl _) (by have := hbel.size; omega))⟩
  dsimp only
  by_cases e : k = x
  · rw [if_pos e]
    intro h3
    have h4 : q = j := by simpa [Value.ownBlock] using h3
    rcases hat with h5 | h5
    · exact hav x hx (by rw [h5, h4])
    · omega
  · rw [if_neg e]
    exact hav k hk
theorem Grp.look {w : World} {base b : Nat} {cs : List (ByteArray × Cl)} {n : Nat} {g : ByteArray → Option Value} (h : Grp w base b cs n g) {x : ByteArray} (hx : x.size ≤ maxLen) :
    (Instr.lookup 56 (.map (some b)) (.string x) false).run Try.prog w = .ok ((g x).getD nilS) w :=
  h.mp.look Try.underlying56 (Try.zeroValue62 _) hx
end Go.Proofs.Ytfnfpanmbmkhmaa
