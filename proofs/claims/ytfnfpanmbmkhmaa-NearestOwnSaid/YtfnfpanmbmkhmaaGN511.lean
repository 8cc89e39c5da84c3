/- Texts of this proof, one behind the other: NearRefClosed, PastDep, PastCovers, PastAwake, NearAll, NearFew. -/
import Derived.Test.YtfnfpanmbmkhmaaGN510
import Derived.Maps.Views
import Derived.StringKeys
import Derived.Deep.RegionHeld3
import Derived.Deep.DrawnRows
/- What the document's Closed and Expand answer. -/
namespace Go.Proofs.Ytfnfpanmbmkhmaa
open Go.RowKit Go.Maps
set_option linter.unusedVariables false
set_option linter.unusedSimpArgs false

theorem VRow.fpast {w : World} {v : Value} {xs : List Vp} (h : VRow w v xs) (d : De) : DepAt w (pu ((fndP xs d).getD vz)) ((fndP xs d).getD vz).1.past := by
  cases hf : fndP xs d with
  | none => exact DepAt.nil w
  | some x => exact h.2 x (fndP_some hf).1
theorem fpast_len {xs : List Vp} (hok : ∀ x ∈ xs, VOk x.1) (d : De) : ((fndP xs d).getD vz).1.past.length ≤ 50 := by
  cases hf : fndP xs d with
  | none => simp [vz, ve0]
  | some x => exact (hok x (fndP_some hf).1).len
theorem fpast_srt {xs : List Vp} (hok : ∀ x ∈ xs, VOk x.1) (d : De) : Srt ((fndP xs d).getD vz).1.past := by
  cases hf : fndP xs d with
  | none => exact Srt.nil
  | some x => exact (hok x (fndP_some hf).1).srt
theorem all_take {α : Type} {f : α → Bool} {l : List α} {k : Nat} (hk : k < l.length) : (l.take (k + 1)).all f = ((l.take k).all f && f l[k]) := by
  rw [List.take_succ_eq_append_getElem hk, List.all_append]
  simp
theorem all_false {α : Type} {f : α → Bool} {l : List α} {k : Nat} (hk : k < l.length) (h : f l[k] = false) : l.all f = false := by
  rw [List.all_eq_false]
  exact ⟨l[k], List.getElem_mem hk, by simp [h]⟩

set_option maxRecDepth 100000 in
set_option maxHeartbeats 3200000 in
theorem refClosed5_any (v1 v2 : Value) (ds : List De) (xs : List Vp) (w : World) (hl : ds.length ≤ 1000) (hx : xs.length ≤ 1000) (hok : ∀ x ∈ xs, VOk x.1) (h1 : DepAt w v1 ds) (h2 : VRow w v2 xs) :
    Calls Try.prog 23 #[v1, v2] w fun e w' => e = .returned (.bool (clB ds (xs.map Prod.fst))) ∧ Below w.heap.size w w' := by
  have HV1 := Lib.hid h1
  have HV2 := Lib.hid h2
  have HOK := Lib.hid hok
  obtain ⟨a1, c1, rfl, _, _, _, _⟩ := h1
  obtain ⟨a2, c2, rfl, _, _⟩ := h2.shape
  have e0 : clB ds (xs.map Prod.fst) = ds.all fun d => (fndP xs d).isSome && cvD ds ((fndP xs d).getD vz).1.past := by
    unfold clB
    congr 1
    funext d
    rw [fndP_isSome, fndP_past]
    rfl
  rw [e0]
  clear h2 hok e0
  go_enter Try.func23, Try.ntmps23
  go_wp2
  go_loopw [5] (fun i wr => ∃ k : Nat, k ≤ ds.length ∧ i = .int .i64 k ∧ ((ds.take k).all fun d => (fndP xs d).isSome && cvD ds ((fndP xs d).getD vz).1.past) = true ∧ Below w.heap.size w wr) (fun i _ => ds.length - (intOf i).toNat)
  case atStart => exact ⟨0, by omega, rfl, by simp, Below.refl _ _⟩
  case round =>
    obtain ⟨k, hk, rfl, hall, hbel⟩ := hrel
    have HA := Lib.hid hall
    clear hall
    by_cases hlt : k < ds.length
    · obtain ⟨a', c', e', _, _, _, hdi⟩ := HV1.out.below hbel
      cases e'
      obtain ⟨b', off', rfl, hbl', d0, d1, d2⟩ := hdi k hlt
      have HT := Lib.hid (@all_take De (fun d => (fndP xs d).isSome && cvD ds ((fndP xs d).getD vz).1.past) ds k hlt)
      have HF := Lib.hid (@all_false De (fun d => (fndP xs d).isSome && cvD ds ((fndP xs d).getD vz).1.past) ds k hlt)
      rw [HA.out, Bool.true_and] at HT
      generalize ds[k] = d at d0 d1 d2 HT HF
      obtain ⟨x, y, z⟩ := d
      dsimp only at d0 d1 d2 HT HF
      have HPL := Lib.hid (fpast_len HOK.out (x, y, z))
      have hC := fun W hW => refFind5_any (.slice a2 xs.length c2) xs x y z W (by omega) hW
      have hD := fun (W : World) (hW : Below w.heap.size w W) => (HV2.out.below hW).fpast (x, y, z)
      have HCov := Lib.hid (fun W hW hU => refCovers_any (.slice (some ⟨b', off', none⟩) ds.length c1) (pu ((fndP xs (x, y, z)).getD vz)) ds ((fndP xs (x, y, z)).getD vz).1.past W (by omega) (by have := HPL.out; omega) hW hU)
      generalize (fndP xs (x, y, z)).isSome = b1 at hC HT HF
      generalize (fndP xs (x, y, z)).getD vz = r at hC hD HCov HT HF
      have HD := Lib.hid hD
      generalize cvD ds r.1.past = b2 at HCov HT HF
      clear hdi hD HPL
      obtain ⟨⟨key, val, gone, ⟨n1, s1⟩, past⟩, pa, pc⟩ := r
      dsimp only [vv, vcs, pu] at hC HCov HD
      go_wp2_with fail
      refine (hC _ (HV2.out.below hbel)).mono ?_
      rintro e w1 ⟨rfl, hb1⟩
      have hbA : Below w.heap.size w (w1.alloc (.cells #[.string key, .string val, .bool gone, .int .i64 n1, .int .i64 s1, .slice pa past.length pc] 34)) := balloc (bstep hbel hb1) _
      have hCv := HCov.out _ (HV1.out.below hbA) (HD.out _ hbA)
      have HBA := Lib.hid hbA
      clear hbA hC hb1 HD HCov
      go_wp2_with fail
      refine hCv.mono ?_
      rintro e w2 ⟨rfl, hb2⟩
      have HB2 := Lib.hid (bstep HBA.out hb2)
      clear hb2 HBA hCv
      cases b1 with
      | false =>
        go_wp2
        go_ret
        exact ⟨ret_bool (HF.out (by simp)).symm, HB2.out⟩
      | true =>
        cases b2 with
        | false =>
          go_wp2
          go_ret
          exact ⟨ret_bool (HF.out (by simp)).symm, HB2.out⟩
        | true =>
          go_wp2
          go_roundw
          case rel => exact ⟨k + 1, by omega, by go_num, by rw [HT.out]; rfl, HB2.out⟩
          case measure => simp [intOf]; omega
    · obtain rfl : k = ds.length := by omega
      go_wp2
      go_ret
      exact ⟨ret_bool (by have h := HA.out; rw [List.take_length] at h; exact h.symm), hbel⟩

theorem OwnR.lit {α : Type} {K : RK α} (hK : K.Ok) (w : World) (l : List α) (cs : Array Value) (hcs : cs.toList = rV K l) (hl : l.length ≤ 1000000) : OwnR K (w.alloc (.cells cs K.T)) w.heap.size (.slice (some ⟨w.heap.size, 0, none⟩) l.length l.length) l := by
  refine ⟨rV_len hK l, .inr ⟨_, _, cs, rfl, Nat.le_refl _, heap_alloc_new _ _, Nat.le_refl _, by unfold maxLen; omega, ?_, ?_⟩⟩
  · rw [← rV_len hK l, ← hcs]
    simp
  · rw [hcs]
    exact List.take_of_length_le (by rw [rV_len hK l]; exact Nat.le_refl _)
theorem fs_take {ds : List De} {xs : List Vp} {k : Nat} (hk : k < ds.length) : fndL (ds.take (k + 1)) xs = fndL (ds.take k) xs ++ (match fndP xs ds[k] with | none => [] | some x => [x]) := by
  unfold fndL
  rw [List.take_succ_eq_append_getElem hk, List.filterMap_append]
  congr 1
  cases h : fndP xs ds[k] <;> simp [h]

set_option maxRecDepth 100000 in
set_option maxHeartbeats 3200000 in
theorem refExpand5_any (v1 v2 : Value) (ds : List De) (xs : List Vp) (w : World) (hl : ds.length ≤ 50) (hs : Srt ds) (hx : xs.length ≤ 1000) (hok : ∀ x ∈ xs, VOk x.1) (h1 : DepAt w v1 ds) (h2 : VRow w v2 xs) :
    Calls Try.prog 17 #[v1, v2] w fun e w' => ∃ u, e = .returned u ∧ DepAt w' u (expL ds (xs.map Prod.fst)) ∧ Below w.heap.size w w' := by
  have HV1 := Lib.hid h1
  have HV2 := Lib.hid h2
  have HOK := Lib.hid hok
  have HS := Lib.hid hs
  obtain ⟨a1, c1, rfl, _, _, _, _⟩ := h1
  obtain ⟨a2, c2, rfl, _, _⟩ := h2.shape
  have e0 : expL ds (xs.map Prod.fst) = mergeR (ds :: fpL ds xs) := by
    unfold expL expR
    rw [fpL_eq]
  rw [e0]
  clear h2 hok hs e0
  have HO0 : Hid (OwnR KP (w.alloc (.cells #[.slice a1 ds.length c1] 29)) w.heap.size (.slice (some ⟨w.heap.size, 0, none⟩) 1 1) [(a1, ds.length, c1)]) := Lib.hid (OwnR.lit kp_ok w [(a1, ds.length, c1)] #[.slice a1 ds.length c1] rfl (by simp))
  go_enter Try.func17, Try.ntmps17
  go_wp2
  go_loopw [5, 6] (fun o i wr => ∃ k : Nat, k ≤ ds.length ∧ i = .int .i64 k ∧ OwnR KP wr w.heap.size o ((a1, ds.length, c1) :: (fndL (ds.take k) xs).map psl) ∧ Below w.heap.size w wr) (fun _ i _ => ds.length - (intOf i).toNat)
  case atStart => exact ⟨0, by omega, rfl, by simpa [fndL] using HO0.out, balloc (Below.refl _ w) _⟩
  case round =>
    obtain ⟨k, hk, rfl, ho, hbel⟩ := hrel
    have hol : ((a1, ds.length, c1) :: (fndL (ds.take k) xs).map psl).length ≤ 51 := by
      rw [List.length_cons, List.length_map]
      have h1 := fndL_len (ds.take k) xs
      have h2 := List.length_take_le k ds
      omega
    generalize hacc : (a1, ds.length, c1) :: (fndL (ds.take k) xs).map psl = acc at ho hol
    have HACC := Lib.hid hacc
    have HO := Lib.hid ho
    obtain ⟨sa, sc, rfl⟩ := ho.shape
    have hbs := hbel.size
    clear ho hacc
    by_cases hlt : k < ds.length
    · obtain ⟨a', c', e', _, _, _, hdi⟩ := HV1.out.below hbel
      cases e'
      obtain ⟨b', off', rfl, hbl', d0, d1, d2⟩ := hdi k hlt
      have HT := Lib.hid (@fs_take ds xs k hlt)
      generalize ds[k] = d at d0 d1 d2 HT
      obtain ⟨x, y, z⟩ := d
      dsimp only at d0 d1 d2 HT
      have hC := fun W hW => refFind5_any (.slice a2 xs.length c2) xs x y z W (by omega) hW
      clear hdi
      cases hf : fndP xs (x, y, z) with
      | none =>
        rw [hf] at hC HT
        dsimp only [Option.getD, Option.isSome, vv, vcs, vz, ve0, pu, List.length_nil] at hC HT
        rw [List.append_nil] at HT
        clear hf
        go_wp2_with fail
        refine (hC _ (HV2.out.below hbel)).mono ?_
        rintro e w1 ⟨rfl, hb1⟩
        have HB1 := Lib.hid hb1
        clear hb1 hC
        go_wp2
        go_roundw
        case rel => exact ⟨k + 1, by omega, by go_num, by rw [HT.out, HACC.out]; exact (HO.out.below HB1.out).below (balloc (Below.refl _ _) _), balloc (bstep hbel HB1.out) _⟩
        case measure => simp [intOf]; omega
      | some r =>
        rw [hf] at hC HT
        clear hf
        have HT2 : Hid ((some (⟨b', off', none⟩ : Addr), ds.length, c1) :: (fndL (ds.take (k + 1)) xs).map psl = acc ++ [psl r]) := Lib.hid (by rw [HT.out, List.map_append, ← HACC.out]; rfl)
        clear HT
        obtain ⟨⟨key, val, gone, ⟨n1, s1⟩, past⟩, pa, pc⟩ := r
        dsimp only [Option.getD, Option.isSome, vv, vcs, pu, psl] at hC HT2
        go_wp2_with fail
        refine (hC _ (HV2.out.below hbel)).mono ?_
        rintro e w1 ⟨rfl, hb1⟩
        have HB1 : Hid (Below wr.heap.size wr (w1.alloc (.cells #[.string key, .string val, .bool gone, .int .i64 n1, .int .i64 s1, .slice pa past.length pc] 34))) := Lib.hid (balloc hb1 _)
        have hz1 : (w1.alloc (.cells #[.string key, .string val, .bool gone, .int .i64 n1, .int .i64 s1, .slice pa past.length pc] 34)).heap.size = w1.heap.size + 1 := by simp
        have HZ1 := Lib.hid hz1
        have hs1 : w.heap.size ≤ w1.heap.size := by have := hb1.size; omega
        clear hb1 hC hz1
        go_wp2_with (at_builtin; refine wp_pushR kp_ok (wr := w1.alloc (.cells #[.string key, .string val, .bool gone, .int .i64 n1, .int .i64 s1, .slice pa past.length pc] 34)) rfl _ _ rfl w.heap.size (.slice sa acc.length sc) acc (pa, past.length, pc) #[.slice pa past.length pc] rfl rfl (HO.out.below HB1.out) (by rw [HZ1.out]; rfl) (by omega) (by rw [HZ1.out]; omega) ?_; intro g2 cap2 w2 ho2 hb2 hk2 hat2 hlt2)
        go_wp2
        go_roundw
        case rel => exact ⟨k + 1, by omega, by go_num, by rw [HT2.out]; exact ho2, hbel.trans ((HB1.out.mono hbs).trans hb2)⟩
        case measure => simp [intOf]; omega
    · obtain rfl : k = ds.length := by omega
      have HRW : Hid (RowsAt wr sa (ds :: fpL ds xs)) := Lib.hid (by
        have h := HO.out
        rw [← HACC.out, List.take_length] at h
        refine RowsAt.of_own h (by unfold fpL; simp) (fun i h h' => ?_)
        cases i with
        | zero => exact HV1.out.below hbel
        | succ i =>
          have hi : i < (fndL ds xs).length := by simpa using h
          have hi' : i < (fpL ds xs).length := by simpa using h'
          simp only [List.getElem_cons_succ, List.getElem_map]
          have e1 : (fpL ds xs)[i] = (fndL ds xs)[i].1.past := by
            show ((fndL ds xs).map fun x => x.1.past)[i]'(by simpa using hi) = _
            exact List.getElem_map _
          rw [e1]
          exact (HV2.out.below hbel).2 _ (fndL_mem (List.getElem_mem hi)))
      have hM := refMerge_any sa sc (ds :: fpL ds xs) wr (by have := fpL_len ds xs; simp; omega) (by
        have h1 := tot_le (ls := ds :: fpL ds xs) (n := 50) (fun l h => by
          rcases List.mem_cons.1 h with rfl | h
          · exact hl
          · obtain ⟨x, hx, rfl⟩ := fpL_mem h
            exact (HOK.out x hx).len)
        have h2 := fpL_len ds xs
        have h3 : (ds :: fpL ds xs).length * 50 ≤ 51 * 50 := Nat.mul_le_mul_right _ (by simp; omega)
        omega) (fun l h => by
          rcases List.mem_cons.1 h with rfl | h
          · exact HS.out.szd
          · obtain ⟨x, hx, rfl⟩ := fpL_mem h
            exact (HOK.out x hx).srt.szd) HRW.out
      rw [show (ds :: fpL ds xs).length = acc.length by rw [← HACC.out, List.take_length]; unfold fpL; simp] at hM
      clear HACC
      go_wp2_with fail
      refine hM.mono ?_
      rintro e w1 ⟨u1, rfl, hd1, hb1⟩
      have HD1 := Lib.hid hd1
      obtain ⟨ua, uc, rfl, _, _, _, _⟩ := hd1
      go_wp2
      go_ret
      exact ⟨_, rfl, HD1.out, bstep hbel hb1⟩
end Go.Proofs.Ytfnfpanmbmkhmaa
/- What the laws' own 'dep' answers. -/
namespace Go.Proofs.Ytfnfpanmbmkhmaa
open Go.RowKit
set_option linter.unusedVariables false
set_option linter.unusedSimpArgs false

end Go.Proofs.Ytfnfpanmbmkhmaa
/- What past.Covers answers. -/
namespace Go.Proofs.Ytfnfpanmbmkhmaa
open Go.RowKit Go.Shelf Go.Maps
set_option linter.unusedVariables false
set_option linter.unusedSimpArgs false
attribute [local go_sem] Oper.semAt_some

def sdD (p : Int × Int) : DataW Unit := .agg [.lit (.int .i64 p.1), .lit (.int .i64 p.2)]
/-- How a stamp in the map reads. -/
def RS (v : Value) : Option (DataW Unit × List MemPlace) :=
  match v with
  | .agg c => (match c.toList with
    | [.int .i64 x, .int .i64 y] => some (sdD (x, y), [])
    | _ => none)
  | _ => none
theorem RS_mk (x y : Int) : RS (.agg #[.int .i64 x, .int .i64 y]) = some (sdD (x, y), []) := rfl
theorem RS_inv {v : Value} {p : Int × Int} {ps : List MemPlace} (h : RS v = some (sdD p, ps)) : v = .agg #[.int .i64 p.1, .int .i64 p.2] := by
  unfold RS at h
  split at h
  · rename_i c
    split at h
    · rename_i x y e
      simp [sdD] at h
      obtain ⟨⟨h1, h2⟩, _⟩ := h
      rw [← h1, ← h2]
      congr 1
      exact Array.toList_inj.1 e
    · cases h
  · cases h
def mpD (pre : List BackA) : DataW Unit := pre.foldl (fun D x => D.put (.string x.1.2.1.data.toList) (sdD x.1.2.2)) (.map [])
theorem mpD_snoc (pre : List BackA) (x : BackA) : mpD (pre ++ [x]) = (mpD pre).put (.string x.1.2.1.data.toList) (sdD x.1.2.2) := by simp [mpD]

/-- What the map tells. -/
theorem mpD_isMap (pre : List BackA) : IsMap (mpD pre) := by
  have key : ∀ (pre : List BackA) (D : DataW Unit), IsMap D → IsMap (pre.foldl (fun D x => D.put (.string x.1.2.1.data.toList) (sdD x.1.2.2)) D) := by
    intro pre
    induction pre with
    | nil => intro D h; exact h
    | cons x pre ih => intro D h; exact ih _ (h.put _ _)
  exact key pre _ isMap_empty
theorem mpD_snoc_at (pre : List BackA) (x : BackA) (key : ByteArray) (z : DataW Unit) : (mpD (pre ++ [x])).atKey (.string key.data.toList) z = if x.1.2.1 = key then sdD x.1.2.2 else (mpD pre).atKey (.string key.data.toList) z := by
  rw [mpD_snoc]
  by_cases h : x.1.2.1 = key
  · rw [if_pos h, ← h]
    exact atKey_put_same (mpD_isMap pre) (show WideAt.IsKeyLit (.string _) from trivial) _ _
  · rw [if_neg h]
    exact atKey_put_other (fun e => h (ba_inj (by simpa using e.symm))) _ _
theorem mpD_drop (l : List De) (hz : Szd l) (key : ByteArray) : ∀ k, k ≤ l.length → (mpD (bkL l hz k)).atKey (.string key.data.toList) (sdD (0, 0)) = sdD (gtD (l.drop (l.length - k)) key)
  | 0, _ => by simp [bkL, mpD, gtD, DataW.atKey]
  | k + 1, h => by
    rw [bkL_succ l hz k (by omega), mpD_snoc_at, mpD_drop l hz key k (by omega)]
    have e : l.drop (l.length - (k + 1)) = l[l.length - 1 - k]'(by omega) :: l.drop (l.length - k) := by
      rw [show l.length - (k + 1) = l.length - 1 - k by omega, List.drop_eq_getElem_cons (by omega), show l.length - 1 - k + 1 = l.length - k by omega]
    rw [e]
    unfold gtD
    rw [List.find?_cons]
    show (if (l[l.length - 1 - k]'(by omega)).1 = key then sdD (l[l.length - 1 - k]'(by omega)).2 else _) = _
    by_cases hk : (l[l.length - 1 - k]'(by omega)).1 = key
    · simp [hk]
    · simp [hk]
theorem mpD_at (l : List De) (hz : Szd l) (key : ByteArray) : (mpD (bkL l hz l.length)).atKey (.string key.data.toList) (sdD (0, 0)) = sdD (gtD l key) := by
  rw [mpD_drop l hz key l.length (Nat.le_refl _), Nat.sub_self, List.drop_zero]
theorem own_map_below {w w' : World} {b n : Nat} {D : DataW Unit} (h : w.ownsMap Try.prog 9 RS b n D) (hb : Below w.heap.size w w') : w'.ownsMap Try.prog 9 RS b n D := by
  obtain ⟨es, clock, h1, h2⟩ := h
  exact ⟨es, clock, (hb.block b (Array.getElem?_eq_some_iff.1 h1).1).trans h1, h2⟩

set_option maxRecDepth 100000 in
set_option maxHeartbeats 1600000 in
theorem coversC_any (l : List De) (hz : Szd l) (Hb M n : Nat) (x : ByteArray) (y z : Int) (w : World) (hs : x.size ≤ maxLen) (hc : w.cell? ⟨Hb, 0, none⟩ = some (.map (some M))) (hown : w.ownsMap Try.prog 9 RS M n (mpD (bkL l hz l.length))) :
    Calls Try.prog 71 #[.agg #[.string x, .int .i64 y, .int .i64 z], .pointer (some ⟨Hb, 0, none⟩)] w fun e w' => e = .returned (.bool (Sm.less (gtD l x) (y, z))) ∧ Below w.heap.size w w' := by
  have hb1 : Below w.heap.size w (w.alloc (.cells #[.string x, .int .i64 y, .int .i64 z] 26)) := balloc (Below.refl _ w) _
  obtain ⟨v, ps, hrun, hR⟩ := (own_map_below hown hb1).lookup (Maps.string_keyed Try.underlying9) Try.underlying95 (Try.zeroValue24 _) (RS_mk 0 0) (WideMaps.keyOf_string_mk Try.underlying9 hs)
  rw [mpD_at] at hR
  obtain rfl := RS_inv hR
  have hc' := kc hb1 hc
  have hne : Hb ≠ w.heap.size := by have := lt_of_cellN hc; omega
  have HL := Lib.hid (rfl : Sm.less (gtD l x) (y, z) = Sm.less (gtD l x) (y, z))
  clear hown hR hc
  generalize gtD l x = g at hrun ⊢
  obtain ⟨g0, g1⟩ := g
  dsimp only at hrun
  go_enter Try.func71, Try.ntmps71
  go_wp2_with fail
  refine (less_any g0 g1 y z _).mono ?_
  rintro e w1 ⟨rfl, hb⟩
  go_wp2
  go_ret
  exact ⟨rfl, bstep hb1 hb⟩

set_option maxRecDepth 100000 in
set_option maxHeartbeats 4000000 in
theorem covers_any (v1 v2 : Value) (l m : List De) (w : World) (hl : l.length ≤ 1000000) (hm : m.length ≤ 1000000) (hz : Szd l) (hz2 : Szd m) (h1 : DepAt w v1 l) (h2 : DepAt w v2 m) :
    Calls Try.prog 57 #[v1, v2] w fun e w' => e = .returned (.bool (!(m.any fun d => Sm.less (gtD l d.1) d.2))) ∧ Below w.heap.size w w' := by
  obtain ⟨a, cap, rfl, _, _, _, hr⟩ := h1
  obtain ⟨a2, cap2, rfl, _, _, _, hr2⟩ := h2
  have hmm : ∀ (n : Int) (w : World), (Instr.makeMap 95 (some (.int .i64 n))).run Try.prog w = .ok (.map (some w.heap.size)) (w.alloc (.map #[] 0)) := fun n w => by
    simp [Instr.makeMap, run_underlying Try.underlying95, asInt, asIntOf]
  have hmf : ∀ (fn : Fn) (first cap : Array Value) (w : World), (Instr.makeFunc fn first cap).run Try.prog w = .ok (.func fn first cap) w := fun _ _ _ _ => rfl
  refine (callsIn_wide (n := 5)).1 ?_
  have t20 : Fence.wide.fn 57 := trivial
  have t49 : Fence.wide.fn 70 := trivial
  have t50 : Fence.wide.fn 56 := trivial
  have t81 : Fence.wide.fn 87 := trivial
  refine callsIn_of_wp_marks Try.func57 rfl t20 ?_ rfl
  simp only [Try.ntmps57, List.size_toArray, List.length_cons, List.length_nil, Nat.reduceAdd, Nat.reduceSub, Array.replicate_succ, Array.replicate_zero, List.push_toArray, List.append_toArray, List.nil_append, List.cons_append]
  gi_wp2_with (gi_at_call 70; refine (backward_in Fence.wide 4 t49 rfl _ _ _ _).mono ?_; rintro e w' ⟨rfl, rfl⟩)
  obtain ⟨W0, hW0⟩ : ∃ W0, ((w.alloc (Obj.map #[] 0)).alloc (Obj.cells #[Value.map (some w.heap.size)] 95)).alloc (Obj.cells #[Value.slice a l.length cap] 29) = W0 := ⟨_, rfl⟩
  have hsz : W0.heap.size = w.heap.size + 3 := by rw [← hW0]; simp
  have hB0 : Below w.heap.size w W0 := by rw [← hW0]; exact balloc (balloc (balloc (Below.refl _ w) _) _) _
  have bH : W0.cell? ⟨w.heap.size + 1, 0, none⟩ = some (.map (some w.heap.size)) := by
    rw [← hW0]
    have s : ((w.alloc (Obj.map #[] 0)).alloc (Obj.cells #[Value.map (some w.heap.size)] 95)).heap.size = w.heap.size + 1 + 1 := by simp
    have s2 : (w.alloc (Obj.map #[] 0)).heap.size = w.heap.size + 1 := by simp
    rw [World.cell?_alloc_past _ _ _ (by rw [s]; omega), World.cell?_alloc_at _ _ _ _ s2.symm]; rfl
  have bS : W0.cell? ⟨w.heap.size + 1 + 1, 0, none⟩ = some (.slice a l.length cap) := by
    rw [← hW0]
    have s : ((w.alloc (Obj.map #[] 0)).alloc (Obj.cells #[Value.map (some w.heap.size)] 95)).heap.size = w.heap.size + 1 + 1 := by simp
    rw [World.cell?_alloc_at _ _ _ _ s.symm]; rfl
  have ho0 : W0.ownsMap Try.prog 9 RS w.heap.size 0 (mpD []) := by rw [← hW0]; exact ((World.ownsMap_made w Try.prog 9 RS).alloc _).alloc _
  rw [hW0]
  clear hW0
  refine wpIn_rangeFunc_ownH rfl (by omega) (gf := 87) (lb := #[.pointer (some ⟨w.heap.size + 1 + 1, 0, none⟩)]) rfl t81 (enters_of Try.func87 (by kernel_rfl) rfl)
    (back_stops Fence.wide (5 - 1) t81 rfl (by omega) (w.heap.size + 1 + 1) W0.heap.size w.heap.size cap a l hz hl W0 (by omega) (by omega) (by omega) bS (fun b off e h => by
      obtain ⟨b', off', e', hlt, _⟩ := hr 0 h
      rw [e] at e'
      cases e'
      omega) (hr.below hB0)) (fun h k => h.trans k) (fun W lq o o' h1 h2 h3 h4 => fun k hk _ => (belowK_b (w := W0) (Nat.le_refl _) W lq o o' h1 h2 h3 h4).block k hk) (Below.refl _ _) (fun _ => rfl)
    (fun pre W => ((W.cell? ⟨w.heap.size + 1, 0, none⟩ = some (.map (some w.heap.size)) ∧ W.ownsMap Try.prog 9 RS w.heap.size pre.length (mpD pre)) ∧ W0.heap.size ≤ W.heap.size) ∧ Below w.heap.size w W)
    (fun _ _ _ => False)
    (OwnFrom.and (fun s A B row hs hg hr => ⟨⟨cell_kept hs.1.1 hg (fun r e => (hr r e).2), hs.1.2.kept hg (fun e => by have := (hr _ e.symm).1; omega)⟩, Nat.le_trans hs.2 hg.size⟩) (ownFrom_below (Nat.le_refl _) (by omega)))
    (fun _ _ _ _ _ hs _ _ => hs)
    ⟨⟨⟨bH, ho0⟩, Nat.le_refl _⟩, hB0⟩
    (fun x a' W => ∃ Bx, W0.heap.size ≤ Bx ∧ (W.cell? ⟨Bx, 0, none⟩ = some (.string x.1.2.1) ∧ W.cell? ⟨Bx, 1, none⟩ = some (.int .i64 x.1.2.2.1) ∧ W.cell? ⟨Bx, 2, none⟩ = some (.int .i64 x.1.2.2.2)) ∧ a' = { tmps := #[.slice a l.length cap, .slice a2 m.length cap2, undef, undef, .bool false, .pointer (some ⟨w.heap.size + 1, 0, none⟩), undef, .pointer (some ⟨Bx, 0, none⟩), .slice a l.length cap, .int .i64 l.length, .map (some w.heap.size), .slice a l.length cap, .func (.func 87) #[] #[.pointer (some ⟨w.heap.size + 1 + 1, 0, none⟩)], .int .i64 x.1.1, .agg #[.string x.1.2.1, .int .i64 x.1.2.2.1, .int .i64 x.1.2.2.2], undef, undef, undef, undef, undef, undef, undef, undef, undef], defers := [] })
    (fun x a' _ X Y row hs hg hr => by
      obtain ⟨Bx, h1, ⟨k0, k1, k2⟩, h3⟩ := hs
      exact ⟨Bx, h1, ⟨cell_kept k0 hg (fun r e => (hr r e).2), cell_kept k1 hg (fun r e => (hr r e).2), cell_kept k2 hg (fun r e => (hr r e).2)⟩, h3⟩)
    ?assign ?body ?done ?stop
  case assign =>
    rintro lp pre x W K ⟨⟨⟨hc, hown⟩, hsW⟩, hB⟩ hK
    gi_wp2
    exact hK _ _ ((KeepsOthers.alloc _ _).from _) (fun k hk _ => Below.heap_alloc _ _ _ (by omega)) ⟨⟨⟨kc (balloc (Below.refl _ W) _) hc, hown.alloc _⟩, by simp; omega⟩, hB.alloc hB.size _⟩ ⟨W.heap.size, hsW, ⟨by simp, by simp, by simp⟩, rfl⟩
  case body =>
    rintro lp pre x a' W hlp ⟨r, hr'⟩ ⟨⟨⟨hc, hown⟩, hsW⟩, hB⟩ ⟨Bx, hBx, ⟨k0, k1, k2⟩, rfl⟩ hlt
    gi_wp2_with (gi_at_mapUpdate; refine wpListIn_mapUpdate_own _ rfl _ _ _ 95 rfl 9 24 (Maps.string_keyed Try.underlying9) Try.underlying95 RS w.heap.size pre.length _ rfl hown (by unfold maxLen; omega) _ _ _ rfl rfl (WideMaps.keyOf_string_mk Try.underlying9 x.2) _ [] (RS_mk _ _) ?_; intro w1 hown1 hgrow1)
    obtain ⟨es, ck, hh, _⟩ := hown
    have hg2 := hgrow1.size
    exact ⟨KeepsFrom.of_grownBy hgrow1 (fun j e => by cases e; omega), (fun k hk hne => hgrow1.block k (by omega) (fun e => hne (by cases e; rfl))), ⟨⟨cell_kept hc hgrow1 (fun r e => by cases e; exact ⟨_, hh, rfl⟩), by rw [mpD_snoc, List.length_append]; exact hown1⟩, by omega⟩, hB.grown hgrow1 hB.size (fun k e => by cases e; exact Nat.le_refl _)⟩
  case done =>
    rintro D ys W hD rfl ⟨⟨⟨hc, hown⟩, hsW⟩, hB⟩ hK
    have hDl : D < W.heap.size := (Array.getElem?_eq_some_iff.1 hK).1
    have hcon := contFunc_any 71 #[.pointer (some ⟨w.heap.size + 1, 0, none⟩)] (enters_of Try.func71 (by kernel_rfl) rfl) (fun d => Sm.less (gtD l d.1) d.2) a2 cap2 W.heap.size m W hm (hr2.below hB) (Nat.le_refl _)
      (fun W' d hd hb => coversC_any l hz _ _ _ d.1 d.2.1 d.2.2 W' (by have := hz2 d hd; unfold maxLen; omega) (kc hb hc) (own_map_below hown hb))
    generalize hrr : (m.any fun d => Sm.less (gtD l d.1) d.2) = rr at hcon
    have HRR := Lib.hid hrr
    clear hrr
    gi_wp2_with (gi_at_call 56; refine (callsIn_wide.2 hcon).mono ?_; rintro e w' ⟨rfl, hb'⟩)
    have hK' := (hb'.block D hDl).trans hK
    refine ⟨by simp, .inl ⟨_, _, rfl, run_takeDeferred hK', ?_⟩⟩
    refine ⟨_, results_tmp rfl _ _ _, ?_, (bstep hB hb').trans (belowK_b (w := w) (Nat.le_refl _) w' D _ _ (by omega) hK' rfl rfl)⟩
    rw [HRR.out]
    rfl
  case stop =>
    rintro D c pre W _ _ h _
    exact h.elim
end Go.Proofs.Ytfnfpanmbmkhmaa
/- What the laws' own 'awake' answers. -/
namespace Go.Proofs.Ytfnfpanmbmkhmaa
open Go.RowKit
set_option linter.unusedVariables false
set_option linter.unusedSimpArgs false

/-- A row that was just laid. -/
theorem DepAt.new (w : World) (l : List De) (T : TypeId) (hl : l.length ≤ 1000000) : DepAt (w.alloc (.cells (dV l).toArray T)) (.slice (some ⟨w.heap.size, 0, none⟩) l.length l.length) l := by
  refine ⟨_, _, rfl, Nat.le_refl _, by unfold maxLen; omega, by simp, fun i hi => ?_⟩
  have hc : ∀ j, (w.alloc (.cells (dV l).toArray T)).cell? ⟨w.heap.size, j, none⟩ = (dV l)[j]? := by
    intro j
    rw [Lib.cell_of_heap (heap_alloc_new w _)]
    simp
  obtain ⟨k0, k1, k2⟩ := dV_get l i hi
  refine ⟨w.heap.size, 0, rfl, by simp, ?_, ?_, ?_⟩
  · rw [hc, Nat.zero_add]; exact k0
  · rw [hc, Nat.zero_add]; exact k1
  · rw [hc, Nat.zero_add]; exact k2
/-- Two slices that were just laid, as a row of pasts. -/
theorem RowsAt.two {w : World} {v1 v2 : Value} {l m : List De} (T : TypeId) (h1 : DepAt w v1 l) (h2 : DepAt w v2 m) : RowsAt (w.alloc (.cells #[v1, v2] T)) (some ⟨w.heap.size, 0, none⟩) [l, m] := by
  refine ⟨[v1, v2], rfl, fun i hi => ⟨w.heap.size, 0, rfl, by simp, ?_⟩, fun i hi hi' => ?_⟩
  · rw [Lib.cell_of_heap (heap_alloc_new w _), Nat.zero_add]
    match i, hi with
    | 0, _ => rfl
    | 1, _ => rfl
  · match i, hi' with
    | 0, _ => exact h1.alloc _
    | 1, _ => exact h2.alloc _

def awA : List De := [(⟨#[97]⟩, 3, 0), (⟨#[98]⟩, 1, 0)]
def awB : List De := [(⟨#[97]⟩, 2, 0), (⟨#[99]⟩, 4, 0)]
def awM : List De := [(⟨#[97]⟩, 3, 0), (⟨#[98]⟩, 1, 0), (⟨#[99]⟩, 4, 0)]
theorem awM_is : mergeR [awA, awB] = awM := by decide +kernel
theorem awM_1 : (!(awA.any fun d => Sm.less (gtD awM d.1) d.2)) = true := by decide +kernel
theorem awM_2 : (!(awB.any fun d => Sm.less (gtD awM d.1) d.2)) = true := by decide +kernel
theorem awM_3 : chkD awM = true := by decide +kernel
theorem aw_szd : Szd awA ∧ Szd awB ∧ Szd awM := by
  refine ⟨?_, ?_, ?_⟩ <;> (intro d hd; simp [awA, awB, awM] at hd; rcases hd with rfl | hd; · decide)
  · subst hd; decide
  · subst hd; decide
  · rcases hd with rfl | rfl <;> decide

end Go.Proofs.Ytfnfpanmbmkhmaa
/- What the law's own 'all' answers. -/
namespace Go.Proofs.Ytfnfpanmbmkhmaa
open Go.RowKit Go.Maps
set_option linter.unusedVariables false
set_option linter.unusedSimpArgs false

theorem keepA4 {W w1 : World} {b o1 o2 o3 o4 : Nat} {x1 x2 x3 x4 : Value} (hb : Below W.heap.size W w1)
    (h : W.cell? ⟨b, o1, none⟩ = some x1 ∧ W.cell? ⟨b, o2, none⟩ = some x2 ∧ W.cell? ⟨b, o3, none⟩ = some x3 ∧ W.cell? ⟨b, o4, none⟩ = some x4) :
    w1.cell? ⟨b, o1, none⟩ = some x1 ∧ w1.cell? ⟨b, o2, none⟩ = some x2 ∧ w1.cell? ⟨b, o3, none⟩ = some x3 ∧ w1.cell? ⟨b, o4, none⟩ = some x4 :=
  ⟨kc hb h.1, kc hb h.2.1, kc hb h.2.2.1, kc hb h.2.2.2⟩
theorem allV_snoc (l : List Ve) (v : Ve) : allV (l ++ [v]) = mergeR [allV l, v.past, [v.dep]] := by simp [allV]
theorem merge3_len (p a : List De) (d : De) : (mergeR [p, a, [d]]).length ≤ p.length + a.length + 1 := by
  have h := mergeR_len [p, a, [d]] 3 (by simp)
  rw [List.take_of_length_le (by simp)] at h
  simp [tot] at h
  omega
theorem allV_len_le (l : List Ve) (h : ∀ v ∈ l, v.past.length ≤ 50) : (allV l).length ≤ l.length * 51 := by
  unfold allV
  have key : ∀ (l : List Ve) (p : List De), (∀ v ∈ l, v.past.length ≤ 50) → (l.foldl (fun p v => mergeR [p, v.past, [v.dep]]) p).length ≤ p.length + l.length * 51 := by
    intro l
    induction l with
    | nil => intro p _; simp
    | cons v l ih =>
      intro p hp
      have h1 := ih (mergeR [p, v.past, [v.dep]]) (fun u hu => hp u (by simp [hu]))
      have h2 := merge3_len p v.past v.dep
      have h3 := hp v (by simp)
      rw [List.foldl_cons, List.length_cons, Nat.succ_mul]
      omega
  have := key l [] h
  simpa using this
/-- Three slices that were just laid, as a row of pasts. -/
theorem RowsAt.lit3 {w : World} {a1 a2 a3 : Option Addr} {n1 n2 n3 c1 c2 c3 : Nat} {l1 l2 l3 : List De} (h1 : DepAt w (.slice a1 n1 c1) l1) (h2 : DepAt w (.slice a2 n2 c2) l2) (h3 : DepAt w (.slice a3 n3 c3) l3) :
    RowsAt (w.alloc (.cells #[.slice a1 n1 c1, .slice a2 n2 c2, .slice a3 n3 c3] 29)) (some ⟨w.heap.size, 0, none⟩) [l1, l2, l3] := by
  have ho := OwnR.lit kp_ok w [(a1, n1, c1), (a2, n2, c2), (a3, n3, c3)] #[.slice a1 n1 c1, .slice a2 n2 c2, .slice a3 n3 c3] rfl (by simp)
  refine RowsAt.of_own ho rfl (fun i h h' => ?_)
  match i, h with
  | 0, _ => exact h1.alloc _
  | 1, _ => exact h2.alloc _
  | 2, _ => exact h3.alloc _
  | (j + 3), hh => exact absurd hh (by simp)

set_option maxRecDepth 100000 in
set_option maxHeartbeats 3200000 in
theorem all5_any (v : Value) (xs : List Vp) (w : World) (hx : xs.length ≤ 50) (hok : ∀ x ∈ xs, VOk x.1) (hr : VRow w v xs) :
    Calls Try.prog 12 #[v] w fun e w' => ∃ u, e = .returned u ∧ DepAt w' u (allV (xs.map Prod.fst)) ∧ Below w.heap.size w w' := by
  have HR := Lib.hid hr
  have HOK := Lib.hid hok
  obtain ⟨a, c, rfl, _, _⟩ := hr.shape
  clear hr hok
  go_enter Try.func12, Try.ntmps12
  go_wp2
  go_loopw [3, 4] (fun o i wr => ∃ k : Nat, k ≤ xs.length ∧ i = .int .i64 k ∧ DepAt wr o (allV ((xs.take k).map Prod.fst)) ∧ Below w.heap.size w wr) (fun _ i _ => xs.length - (intOf i).toNat)
  case atStart => exact ⟨0, by omega, rfl, DepAt.nil w, Below.refl _ _⟩
  case round =>
    obtain ⟨k, hk, rfl, hd, hbel⟩ := hrel
    have hpl : (allV ((xs.take k).map Prod.fst)).length ≤ 2550 := by
      have h1 := allV_len_le ((xs.take k).map Prod.fst) (fun u hu => by
        obtain ⟨x, hx, rfl⟩ := List.mem_map.1 hu
        exact (HOK.out x (List.mem_of_mem_take hx)).len)
      rw [List.length_map] at h1
      have h2 := List.length_take_le k xs
      have h3 : (xs.take k).length * 51 ≤ 50 * 51 := Nat.mul_le_mul_right _ (by omega)
      omega
    have HPS := Lib.hid (allV_srt ((xs.take k).map Prod.fst))
    by_cases hlt : k < xs.length
    · obtain ⟨b, off, rfl, hbl, ⟨c0, c1, c2, c3, c4, c5⟩, hdp⟩ := (HR.out.below hbel).at k hlt
      have hvk := HOK.out _ (List.getElem_mem hlt)
      have HS : Hid (allV ((xs.take (k + 1)).map Prod.fst) = mergeR [allV ((xs.take k).map Prod.fst), xs[k].1.past, [xs[k].1.dep]]) := Lib.hid (by rw [List.take_succ_eq_append_getElem hlt, List.map_append, List.map_singleton, allV_snoc])
      generalize allV ((xs.take k).map Prod.fst) = p at hd hpl HPS HS
      generalize xs[k] = x at c0 c1 c2 c3 c4 c5 hdp hvk HS
      obtain ⟨⟨key, val, gone, ⟨n1, s1⟩, past⟩, pa, pc⟩ := x
      obtain ⟨hks, _, hsrt, hlen⟩ := hvk
      dsimp only [pu, Ve.dep] at c0 c1 c2 c3 c4 c5 hdp HS hks hsrt hlen
      obtain ⟨pa0, pc0, rfl, _, _, _, _⟩ := id hd
      have hdd := DepAt.new wr [(key, n1, s1)] 26 (by simp)
      have HROWS := RowsAt.lit3 (hd.drew.alloc (.cells #[.string key, .int .i64 n1, .int .i64 s1] 26)) (hdp.drew.alloc (.cells #[.string key, .int .i64 n1, .int .i64 s1] 26)) hdd.drew
      have hdd' : True := trivial
      have hbR : Below wr.heap.size wr ((wr.drew.alloc (.cells #[.string key, .int .i64 n1, .int .i64 s1] 26)).alloc (.cells #[.slice pa0 p.length pc0, .slice pa past.length pc, .slice (some ⟨wr.heap.size, 0, none⟩) 1 1] 29)) := balloc (balloc (Below.refl _ wr).drew _) _
      have hM := refMerge_any (some ⟨wr.heap.size + 1, 0, none⟩) 3 [p, past, [(key, n1, s1)]] ((wr.drew.alloc (.cells #[.string key, .int .i64 n1, .int .i64 s1] 26)).alloc (.cells #[.slice pa0 p.length pc0, .slice pa past.length pc, .slice (some ⟨wr.heap.size, 0, none⟩) 1 1] 29)) (by simp) (by simp [tot]; omega) (by
        intro l hl
        simp at hl
        rcases hl with rfl | rfl | rfl
        · exact HPS.out.szd
        · exact hsrt.szd
        · intro d hd
          simp at hd
          subst hd
          exact hks) (by
        have e : (wr.drew.alloc (.cells #[.string key, .int .i64 n1, .int .i64 s1] 26)).heap.size = wr.heap.size + 1 := by simp
        rw [e] at HROWS
        exact HROWS)
      have g0 : wr.cell? ⟨b, off + k * 6 + 5, none⟩ = some (.slice pa past.length pc) ∧ wr.cell? ⟨b, off + k * 6, none⟩ = some (.string key) ∧ wr.cell? ⟨b, off + k * 6 + 3, none⟩ = some (.int .i64 n1) ∧ wr.cell? ⟨b, off + k * 6 + 4, none⟩ = some (.int .i64 s1) := ⟨c5, c0, c3, c4⟩
      have g1 := keepA4 (balloc (Below.refl _ wr).drew (.cells #[.string key, .int .i64 n1, .int .i64 s1] 26)) g0
      have g2 := keepA4 hbR g0
      have HBR := Lib.hid hbR
      have hii : (k : Int) < (xs.length : Int) := by omega
      have hii0 : (0 : Int) ≤ (k : Int) := by omega
      clear hdd hdd' HROWS hbR c0 c1 c2 c3 c4 c5 hdp hd hsrt hks
      go_wp2_with fail
      refine wp_region_held_drew (S := fun w' => w'.cell? ⟨b, off + k * 6 + 5, none⟩ = some (.slice pa past.length pc) ∧ w'.cell? ⟨b, off + k * 6, none⟩ = some (.string key) ∧ w'.cell? ⟨b, off + k * 6 + 3, none⟩ = some (.int .i64 n1) ∧ w'.cell? ⟨b, off + k * 6 + 4, none⟩ = some (.int .i64 s1)) (by kernel_rfl) (g0) (fun hHeld => ?_)
      refine wpAnyH_take (i := 0) (v := ?v0) rfl (by kernel_rfl) (by kernel_rfl) (by kernel_rfl) (fun _ _ _ h => h) (Or.inl ⟨by rfl, ?y0⟩) (by assumption) ?r0
      case y0 => (intro w hSw; (try dsimp only at hSw); go_simp; try with_reducible rfl)
      try simp only [Act.put, List.setIfInBounds_toArray, List.set_cons_zero, List.set_cons_succ, List.getElem_toArray, List.getElem_cons_zero, List.getElem_cons_succ]
      refine wpAnyH_take (i := 1) (v := ?v1) rfl (by kernel_rfl) (by kernel_rfl) (by kernel_rfl) (fun _ _ _ h => h) (Or.inl ⟨by rfl, ?y1⟩) (by assumption) ?r1
      case y1 => (intro w hSw; (try dsimp only at hSw); go_simp; try with_reducible rfl)
      try simp only [Act.put, List.setIfInBounds_toArray, List.set_cons_zero, List.set_cons_succ, List.getElem_toArray, List.getElem_cons_zero, List.getElem_cons_succ]
      refine wpAnyH_take (i := 2) (v := ?v2) rfl (by kernel_rfl) (by kernel_rfl) (by kernel_rfl) (fun _ _ _ h => h) (Or.inl ⟨by rfl, ?y2⟩) (by assumption) ?r2
      case y2 => (intro w hSw; (try dsimp only at hSw); go_simp; try with_reducible rfl)
      try simp only [Act.put, List.setIfInBounds_toArray, List.set_cons_zero, List.set_cons_succ, List.getElem_toArray, List.getElem_cons_zero, List.getElem_cons_succ]
      refine wpAnyH_take (i := 3) (v := ?v3) rfl (by kernel_rfl) (by kernel_rfl) (by kernel_rfl) (fun _ _ _ h => h) (Or.inl ⟨by rfl, ?y3⟩) (by assumption) ?r3
      case y3 => (intro w hSw; (try dsimp only at hSw); go_simp; try with_reducible rfl)
      try simp only [Act.put, List.setIfInBounds_toArray, List.set_cons_zero, List.set_cons_succ, List.getElem_toArray, List.getElem_cons_zero, List.getElem_cons_succ]
      refine wpAnyH_take (i := 4) (v := ?v4) rfl (by kernel_rfl) (by kernel_rfl) (by kernel_rfl) (fun _ _ _ h => h) (Or.inl ⟨by rfl, ?y4⟩) (by assumption) ?r4
      case y4 => (intro w hSw; (try dsimp only at hSw); go_simp; try with_reducible rfl)
      try simp only [Act.put, List.setIfInBounds_toArray, List.set_cons_zero, List.set_cons_succ, List.getElem_toArray, List.getElem_cons_zero, List.getElem_cons_succ]
      refine wpAnyH_take (i := 5) (v := ?v5) rfl (by kernel_rfl) (by kernel_rfl) (by kernel_rfl) (fun _ _ _ h => h) (Or.inl ⟨by rfl, ?y5⟩) (by assumption) ?r5
      case y5 => (intro w hSw; (try dsimp only at hSw); go_simp; try with_reducible rfl)
      try simp only [Act.put, List.setIfInBounds_toArray, List.set_cons_zero, List.set_cons_succ, List.getElem_toArray, List.getElem_cons_zero, List.getElem_cons_succ]
      refine wpAnyH_take (i := 6) (v := ?v6) rfl (by kernel_rfl) (by kernel_rfl) (by kernel_rfl) (fun _ _ _ h => h) (Or.inl ⟨by rfl, ?y6⟩) (by assumption) ?r6
      case y6 => (intro w hSw; (try dsimp only at hSw); go_simp; try with_reducible rfl)
      try simp only [Act.put, List.setIfInBounds_toArray, List.set_cons_zero, List.set_cons_succ, List.getElem_toArray, List.getElem_cons_zero, List.getElem_cons_succ]
      refine wpAnyH_take (i := 7) (v := ?v7) rfl (by kernel_rfl) (by kernel_rfl) (by kernel_rfl) (fun _ _ _ h => h) (Or.inl ⟨by rfl, ?y7⟩) (by assumption) ?r7
      case y7 => (intro w hSw; (try dsimp only at hSw); go_simp; try with_reducible rfl)
      try simp only [Act.put, List.setIfInBounds_toArray, List.set_cons_zero, List.set_cons_succ, List.getElem_toArray, List.getElem_cons_zero, List.getElem_cons_succ]
      refine wpAnyH_take (i := 8) (v := ?v8) rfl (by kernel_rfl) (by kernel_rfl) (by kernel_rfl) (fun _ _ _ h => h) (Or.inl ⟨by rfl, ?y8⟩) (by assumption) ?r8
      case y8 => (intro w hSw; (try dsimp only at hSw); go_simp; try with_reducible rfl)
      try simp only [Act.put, List.setIfInBounds_toArray, List.set_cons_zero, List.set_cons_succ, List.getElem_toArray, List.getElem_cons_zero, List.getElem_cons_succ]
      refine wpAnyH_take (i := 9) (v := ?v9) rfl (by kernel_rfl) (by kernel_rfl) (by kernel_rfl) (fun _ _ _ h => h) (Or.inl ⟨by rfl, ?y9⟩) (by assumption) ?r9
      case y9 => (intro w hSw; (try dsimp only at hSw); go_simp; try with_reducible rfl)
      try simp only [Act.put, List.setIfInBounds_toArray, List.set_cons_zero, List.set_cons_succ, List.getElem_toArray, List.getElem_cons_zero, List.getElem_cons_succ]
      refine wpAnyH_take (i := 10) (v := ?v10) rfl (by kernel_rfl) (by kernel_rfl) (by kernel_rfl) (fun _ _ _ h => h) (Or.inl ⟨by rfl, ?y10⟩) (by assumption) ?r10
      case y10 => (intro w hSw; (try dsimp only at hSw); go_simp; try with_reducible rfl)
      try simp only [Act.put, List.setIfInBounds_toArray, List.set_cons_zero, List.set_cons_succ, List.getElem_toArray, List.getElem_cons_zero, List.getElem_cons_succ]
      refine wpAnyH_take (i := 11) (v := ?v11) rfl (by kernel_rfl) (by kernel_rfl) (by kernel_rfl) (fun _ _ _ h => h) (Or.inl ⟨by rfl, ?y11⟩) (by assumption) ?r11
      case y11 => (intro w hSw; (try dsimp only at hSw); go_simp; try with_reducible rfl)
      try simp only [Act.put, List.setIfInBounds_toArray, List.set_cons_zero, List.set_cons_succ, List.getElem_toArray, List.getElem_cons_zero, List.getElem_cons_succ]
      refine wpAnyH_take (i := 12) (v := ?v12) rfl (by kernel_rfl) (by kernel_rfl) (by kernel_rfl) (fun _ _ _ h => h) (Or.inl ⟨by rfl, ?y12⟩) (by assumption) ?r12
      case y12 => (intro w hSw; (try dsimp only at hSw); go_simp; try with_reducible rfl)
      try simp only [Act.put, List.setIfInBounds_toArray, List.set_cons_zero, List.set_cons_succ, List.getElem_toArray, List.getElem_cons_zero, List.getElem_cons_succ]
      refine wpAnyH_take (i := 13) (v := ?v13) rfl (by kernel_rfl) (by kernel_rfl) (by kernel_rfl) (fun _ _ _ h => h) (Or.inl ⟨by rfl, ?y13⟩) (by assumption) ?r13
      case y13 => (intro w hSw; (try dsimp only at hSw); go_simp; try with_reducible rfl)
      try simp only [Act.put, List.setIfInBounds_toArray, List.set_cons_zero, List.set_cons_succ, List.getElem_toArray, List.getElem_cons_zero, List.getElem_cons_succ]
      refine wpAnyH_take (i := 14) (v := ?v14) rfl (by kernel_rfl) (by kernel_rfl) (by kernel_rfl) (fun _ _ _ h => h) (Or.inl ⟨by rfl, ?y14⟩) (by assumption) ?r14
      case y14 => (intro w hSw; (try dsimp only at hSw); go_simp; try with_reducible rfl)
      try simp only [Act.put, List.setIfInBounds_toArray, List.set_cons_zero, List.set_cons_succ, List.getElem_toArray, List.getElem_cons_zero, List.getElem_cons_succ]
      refine wpAnyH_take (i := 15) (v := ?v15) rfl (by kernel_rfl) (by kernel_rfl) (by kernel_rfl) (fun _ _ _ h => h) (Or.inl ⟨by rfl, ?y15⟩) (by assumption) ?r15
      case y15 => (intro w hSw; (try dsimp only at hSw); go_simp; try with_reducible rfl)
      try simp only [Act.put, List.setIfInBounds_toArray, List.set_cons_zero, List.set_cons_succ, List.getElem_toArray, List.getElem_cons_zero, List.getElem_cons_succ]
      refine wpAnyH_take (i := 16) (v := ?v16) rfl (by kernel_rfl) (by kernel_rfl) (by kernel_rfl) (fun _ _ _ h => h) (Or.inl ⟨by rfl, ?y16⟩) (by assumption) ?r16
      case y16 => (intro w hSw; (try dsimp only at hSw); go_simp; try with_reducible rfl)
      try simp only [Act.put, List.setIfInBounds_toArray, List.set_cons_zero, List.set_cons_succ, List.getElem_toArray, List.getElem_cons_zero, List.getElem_cons_succ]
      refine wpAnyH_ready (rs := [17]) (by kernel_rfl) (by simp) ?_
      refine AllReadyH.cons rfl (fun K hK => ?_) AllReadyH.nil
      go_simp
      refine hK.out _ _ (g1) (fun hHeld => ?_)
      clear hK K
      try simp only [Act.put, List.setIfInBounds_toArray, List.set_cons_zero, List.set_cons_succ, List.getElem_toArray, List.getElem_cons_zero, List.getElem_cons_succ]
      refine wpAnyH_ready (rs := [18]) (by kernel_rfl) (by simp) ?_
      refine AllReadyH.cons rfl (fun K hK => ?_) AllReadyH.nil
      go_simp
      refine hK.out _ _ (g2) (fun hHeld => ?_)
      clear hK K
      try simp only [Act.put, List.setIfInBounds_toArray, List.set_cons_zero, List.set_cons_succ, List.getElem_toArray, List.getElem_cons_zero, List.getElem_cons_succ]
      refine wpAnyH_ready (rs := [19]) (by kernel_rfl) (by simp) ?_
      refine AllReadyH.cons rfl (fun K hK => ?_) AllReadyH.nil
      go_simp
      go_at_call 27
      refine (hM).mono ?_
      rintro e w3 ⟨u3, rfl, hd3, hb3⟩
      have g3 := keepA4 hb3 g2; have HD3 := Lib.hid hd3; obtain ⟨ua, uc, rfl, _, _, _, _⟩ := hd3
      go_wp2_with fail
      refine hK.out _ _ (g3) (fun hHeld => ?_)
      clear hK K
      try simp only [Act.put, List.setIfInBounds_toArray, List.set_cons_zero, List.set_cons_succ, List.getElem_toArray, List.getElem_cons_zero, List.getElem_cons_succ]
      refine wpAnyH_take (i := 20) (v := ?v20) rfl (by kernel_rfl) (by kernel_rfl) (by kernel_rfl) (fun _ _ _ h => h) (Or.inl ⟨by rfl, ?y20⟩) (by assumption) ?r20
      case y20 => (intro w hSw; (try dsimp only at hSw); go_simp; try with_reducible rfl)
      try simp only [Act.put, List.setIfInBounds_toArray, List.set_cons_zero, List.set_cons_succ, List.getElem_toArray, List.getElem_cons_zero, List.getElem_cons_succ]
      refine wpAnyH_done (by kernel_rfl) ?_ _
      go_wp2
      go_roundw
      case rel => exact ⟨k + 1, by omega, by go_num, by rw [HS.out]; exact HD3.out, hbel.trans ((HBR.out.mono hbel.size).trans (hb3.mono (by have := HBR.out.size; have := hbel.size; omega)))⟩
      case measure => simp [intOf]; omega
    · obtain rfl : k = xs.length := by omega
      obtain ⟨pa0, pc0, rfl, _, _, _, _⟩ := id hd
      have HD := Lib.hid hd
      clear hd
      go_wp2
      go_ret
      exact ⟨_, rfl, by have h := HD.out; rw [List.take_length] at h ⊢; exact h, hbel⟩
end Go.Proofs.Ytfnfpanmbmkhmaa
/- What the law's own 'few' answers. -/
namespace Go.Proofs.Ytfnfpanmbmkhmaa
open Go.RowKit
set_option linter.unusedVariables false
set_option linter.unusedSimpArgs false

theorem fwK_step (l : List De) (k : Nat) (h : k < l.length) : addAll [] ((l.take (k + 1)).map cutN) = addR (addAll [] ((l.take k).map cutN)) (cutN l[k]) := by
  rw [List.take_succ_eq_append_getElem h, List.map_append, List.map_singleton, addAll_snoc]
theorem fwK_all (l : List De) (k : Nat) (hk : k ≤ l.length) (hh : k ≤ 6) (hx : ¬ (k < l.length ∧ k < 6)) : addAll [] ((l.take k).map cutN) = fewD l := by
  unfold fewD
  by_cases e : k = 6
  · rw [e]
  · rw [List.take_of_length_le (by omega), List.take_of_length_le (by omega)]

set_option maxRecDepth 100000 in
set_option maxHeartbeats 3120000 in
theorem few_any5 (v : Value) (l : List De) (w : World) (hl : l.length ≤ 9223372036854775807) (hz : Szd l) (hr : DepAt w v l) :
    Calls Try.prog 11 #[v] w fun e w' => ∃ u, e = .returned u ∧ DepAt w' u (fewD l) ∧ Below w.heap.size w w' := by
  obtain ⟨a, cap, rfl, _, _, _, hr⟩ := hr
  have HR := Lib.hid hr
  have HZ := Lib.hid hz
  clear hr hz
  go_enter Try.func11, Try.ntmps11
  go_wp2
  go_loopw [3, 4] (fun o i wr => ∃ k : Nat, k ≤ l.length ∧ k ≤ 6 ∧ i = .int .i64 k ∧ DepAt wr o (addAll [] ((l.take k).map cutN)) ∧ Below w.heap.size w wr) (fun _ i _ => 6 - (intOf i).toNat)
  case atStart => exact ⟨0, by omega, by omega, rfl, DepAt.nil w, Below.refl _ _⟩
  case round =>
    obtain ⟨k, hk, hkh, rfl, hd, hbel⟩ := hrel
    obtain ⟨da, dc, rfl, _, _, _, _⟩ := id hd
    have HD := Lib.hid hd
    clear hd
    by_cases hlt : k < l.length ∧ k < 6
    · obtain ⟨h1, h2⟩ := hlt
      obtain ⟨b, off, rfl, hbl, c0, c1, c2⟩ := HR.out.below hbel k h1
      have HS := Lib.hid (fwK_step l k h1)
      have hsz := HZ.out l[k] (List.getElem_mem h1)
      have hal := addAll_len ((l.take k).map cutN) []
      have htl : ((l.take k).map cutN).length ≤ 6 := by simp; omega
      generalize l[k] = d at c0 c1 c2 HS hsz
      obtain ⟨x, y, z⟩ := d
      dsimp only at c0 c1 c2 hsz
      generalize hqq : addAll [] ((l.take k).map cutN) = q at HD HS hal
      clear hqq
      have hql : q.length ≤ 6 := by simp at hal; omega
      have h1i : (k : Int) < (l.length : Int) := by omega
      have h2i : (k : Int) < 6 := by omega
      have hd1 : decide (k < l.length) = true := by simpa using h1
      have hb1 : Below wr.heap.size wr (wr.alloc (.cells #[.string x, .int .i64 y, .int .i64 z] 26)) := balloc (Below.refl _ _) _
      by_cases H2 : 12 < x.size
      · have H2i : (12 : Int) < (x.size : Int) := by omega
        have hkh : k12 x = x.extract 0 12 := by simp [k12, H2]
        have hks := k12_size x
        rw [hkh] at hks
        have HC : Hid (cutN (x, y, z) = (x.extract 0 12, y, z)) := Lib.hid (by simp [cutN, hkh])
        clear hkh
        have hb3 : Below wr.heap.size wr (wr.alloc (.cells #[.string (x.extract 0 12), .int .i64 y, .int .i64 z] 26)) := balloc (Below.refl _ _) _
        go_wp2_with fail
        refine (refAddP_any _ q (x.extract 0 12) y z _ (by omega) (by omega) (HD.out.below hb3)).mono ?_
        rintro e w2 ⟨v2, rfl, hd2, hb2⟩
        obtain ⟨va, vc, rfl, _, _, _, _⟩ := id hd2
        have HD2 := Lib.hid hd2
        clear hd2
        go_wp2
        go_roundw
        case rel => exact ⟨k + 1, by omega, by omega, by go_num, by rw [HS.out, HC.out]; exact HD2.out, bstep hbel (bstep hb3 hb2)⟩
        case measure => simp [intOf]; omega
      · have H2i : ¬ (12 : Int) < (x.size : Int) := by omega
        have HC : Hid (cutN (x, y, z) = (x, y, z)) := Lib.hid (by simp [cutN, k12, H2])
        go_wp2_with fail
        refine (refAddP_any _ q x y z _ (by omega) hsz (HD.out.below hb1)).mono ?_
        rintro e w2 ⟨v2, rfl, hd2, hb2⟩
        obtain ⟨va, vc, rfl, _, _, _, _⟩ := id hd2
        have HD2 := Lib.hid hd2
        clear hd2
        go_wp2
        go_roundw
        case rel => exact ⟨k + 1, by omega, by omega, by go_num, by rw [HS.out, HC.out]; exact HD2.out, bstep hbel (bstep hb1 hb2)⟩
        case measure => simp [intOf]; omega
    · have HX := Lib.hid (fwK_all l k hk hkh hlt)
      rcases (show (decide (k < l.length) = false) ∨ (decide (k < l.length) = true ∧ decide ((k : Int) < 6) = false) by simp; omega) with hd | ⟨hd, hd2⟩
      all_goals
        go_wp2
        go_ret
        exact ⟨_, rfl, by rw [← HX.out]; exact HD.out, hbel⟩
end Go.Proofs.Ytfnfpanmbmkhmaa
