/- PastOnly, walked: those of a range are got, and just those; of all ranges it is the past. -/
import Derived.Test.YtplpeokmhomojaaPastAwake
import Derived.Test.YtplpeokmhomojaaPastMade
import Derived.Test.YtplpeokmhomojaaPastOnly
import Derived.Test.YtplpeokmhomojaaPastLawMath
import Derived.Test.YtplpeokmhomojaaStampLess
import Derived.Test.YtplpeokmhomojaaOpen4
import Derived.BigQuiet
namespace Go.Proofs.Ytplpeokmhomojaa
open Go.RowKit
set_option linter.unusedVariables false
set_option linter.unusedSimpArgs false

theorem outD_one (f t : ByteArray) (d : De) : outD [(f, t)] d = !Km.has f.data.toList t.data.toList d.1.data.toList := by
  unfold outD tls
  cases h : Km.has f.data.toList t.data.toList d.1.data.toList with
  | true =>
    rw [Km.fidx_hit (k := 0) (by simp) (fun j hj h => by omega) (by simpa using h)]
    simp
  | false =>
    rw [Km.fidx_none (fun j hj => by
      have : j = 0 := by simp at hj; omega
      subst this
      simpa using h)]
    simp
theorem only_get {l : List De} (h : Srt l) (f t : ByteArray) {d : De} (hd : d ∈ l) : gtD (onlyD [(f, t)] l) d.1 = if Km.has f.data.toList t.data.toList d.1.data.toList = true then d.2 else (0, 0) := by
  have h1 := part_get h (fun d => !outD [(f, t)] d) hd
  simp only [outD_one, Bool.not_not] at h1
  rw [← h1]
  unfold onlyD kept
  congr 2
  funext d
  rw [outD_one, Bool.not_not]
theorem only_all (l : List De) : onlyD [(⟨#[]⟩, ⟨#[]⟩)] l = l := by
  unfold onlyD kept
  rw [List.filter_eq_self]
  intro d _
  rw [outD_one]
  simp [Km.has, Km.bl_nil]
theorem only_none (l : List De) : onlyD [] l = [] := by
  unfold onlyD kept
  rw [List.filter_eq_nil_iff]
  intro d _
  simp [outD, tls, Km.fidx]
theorem rng_one (w : World) (f t : ByteArray) (T : TypeId) : RngIn (w.alloc (.cells #[.string f, .string t] T)) (some ⟨w.heap.size, 0, none⟩) [(f, t)] := by
  intro i hi
  refine ⟨w.heap.size, 0, rfl, by simp, ?_, ?_⟩
  all_goals
    match i, hi with
    | 0, _ => simp
theorem rng_nil (w : World) : RngIn w none [] := fun i h => absurd h (by simp)

set_option maxRecDepth 100000 in
set_option maxHeartbeats 6400000 in
theorem walkPastOnly (w : World) (v : Value) (l : List De) (hr : DepAt w v l) (hz : Szd l) (hi64 : ∀ d ∈ l, In64 d.2) (f t : ByteArray) (hf : f.size ≤ maxLen) (ht : t.size ≤ maxLen) :
    Calls Try.prog 7 #[v, .agg #[.string f, .string t]] w fun e w' => e = .returned (.bool true) ∧ Below w.heap.size w w' := by
  have heq : ∀ (w' : World) (n s m t : Int), (binOp .neq 24 (.agg #[.int .i64 n, .int .i64 s]) (.agg #[.int .i64 m, .int .i64 t])).run Try.prog w' = .ok (.bool (!decide ((n, s) = (m, t)))) w' := ne_stamp
  have hb0 : Below w.heap.size w (w.alloc (.cells #[.string f, .string t] 53)) := balloc (Below.refl _ _) _
  have HV := Lib.hid hr
  have hlen : l.length ≤ 9223372036854775807 := by obtain ⟨_, _, _, h1, h2, _⟩ := id hr; unfold maxLen at h2; omega
  obtain ⟨a, cap, rfl, hcap, hmx, _, _⟩ := hr
  have HZ := Lib.hid hz
  clear hz hi64
  have hml := mdD_len l
  have HS := Lib.hid (mdD_srt l)
  go_enter Try.func7, Try.ntmps7
  go_wp2_with fail
  refine (pawake_any _).mono ?_
  rintro e w1 ⟨rfl, hb1⟩
  obtain ⟨b0, b1, hlt1, _⟩ := box2 hb1
  have hbel1 := bstep hb0 hb1
  clear hb0 hb1
  go_wp2_with fail
  refine (made_any _ l w1 hlen HZ.out (HV.out.below hbel1)).mono ?_
  rintro e w2 ⟨u, rfl, hp2, hb2⟩
  have hbel2 := bstep hbel1 hb2
  have b0 := kcell hb2 hlt1 b0
  have b1 := kcell hb2 hlt1 b1
  have hlt2 : w.heap.size < w2.heap.size := by have := hb2.size; omega
  clear hbel1 hb2 HV HZ
  generalize mdD l = p at hml HS hp2
  have HP2 := Lib.hid hp2
  obtain ⟨pa, pc, rfl, _, _, _, _⟩ := hp2
  have hb3 : Below w2.heap.size w2 (w2.alloc (.cells #[.string f, .string t] 53)) := balloc (Below.refl _ _) _
  have hon := only_any _ p (some ⟨w2.heap.size, 0, none⟩) 1 [(f, t)] (w2.alloc (.cells #[.string f, .string t] 53)) (by omega) (by simp) (rng_one w2 f t _) (HP2.out.below hb3)
  go_wp2_with fail
  refine hon.mono ?_
  rintro e w3 ⟨u3, rfl, ho3, hb3'⟩
  have hb23 := bstep hb3 hb3'
  have hbel3 := bstep hbel2 hb23
  have b0 := kcell hb23 hlt2 b0
  have b1 := kcell hb23 hlt2 b1
  have hlt3 : w.heap.size < w3.heap.size := by have := hb23.size; omega
  have HP3 := Lib.hid (HP2.out.below hb23)
  have HO3 := Lib.hid (DepAt.of_own ho3)
  have HG : Hid (∀ d ∈ p, gtD (onlyD [(f, t)] p) d.1 = if Km.has f.data.toList t.data.toList d.1.data.toList = true then d.2 else (0, 0)) := Lib.hid (fun d hd => only_get HS.out f t hd)
  have HCOV : Hid ((!((onlyD [(f, t)] p).any fun x => Sm.less (gtD p x.1) x.2)) = true) := Lib.hid (part_covers HS.out _)
  have hol : (onlyD [(f, t)] p).length ≤ p.length := List.length_filter_le _ _
  have HSO : Hid (Szd (onlyD [(f, t)] p)) := Lib.hid (fun d hd => HS.out.szd d (List.mem_filter.1 hd).1)
  obtain ⟨oa, oc, rfl⟩ := ho3.shape
  generalize onlyD [(f, t)] p = q at HO3 HG HCOV hol HSO
  clear ho3 hb3 hb3' hb23 hbel2 HP2 hon
  go_wp2
  go_loopw [8] (fun i wr => ∃ k : Nat, k ≤ p.length ∧ i = .int .i64 k ∧ Below w3.heap.size w3 wr) (fun i _ => p.length - (intOf i).toNat)
  case atStart => exact ⟨0, by omega, rfl, Below.refl _ _⟩
  case round =>
    obtain ⟨k, hk, rfl, hbel⟩ := hrel
    have hbs := hbel.size
    by_cases hlt : k < p.length
    · obtain ⟨pa', pc', ep, _, _, _, hin⟩ := HP3.out.below hbel
      cases ep
      obtain ⟨b, off, rfl, hbl, c0, c1, c2⟩ := hin k hlt
      have HQ3 := Lib.hid (HO3.out.below hbel)
      have r0 := kcell hbel hlt3 b0
      have r1 := kcell hbel hlt3 b1
      have HG1 := Lib.hid (HG.out p[k] (List.getElem_mem hlt))
      generalize p[k] = d at c0 c1 c2 HG1
      obtain ⟨x, y, z⟩ := d
      dsimp only at c0 c1 c2 HG1
      have hki : (k : Int) < (p.length : Int) := by omega
      have hki0 : (0 : Int) ≤ (k : Int) := by omega
      have hg := fun W hW => pget_any (.slice oa q.length oc) q x W (by omega) hW
      generalize hgq : gtD q x = gx at hg HG1
      obtain ⟨g0, g1⟩ := gx
      clear hgq b0 b1
      have HTE : Hid ((t.toList == ([] : List UInt8)) = t.data.toList.isEmpty) := Lib.hid (by rw [Lib.toList_data]; cases t.data.toList <;> rfl)
      cases q1 : Op.bytesLess x.toList f.toList with
      | true =>
        have HH : (if Km.has f.data.toList t.data.toList x.data.toList = true then (y, z) else ((0 : Int), (0 : Int))) = (0, 0) := by
          rw [if_neg]
          rw [Lib.toList_data, Lib.toList_data] at q1
          simp [Km.has, q1]
        have hE : g0 = 0 ∧ g1 = 0 := by
          have h := HG1.out
          rw [HH] at h
          simpa using h
        obtain ⟨rfl, rfl⟩ := hE
        clear HH
        go_wp2_with fail
        go_quiet (fail)
        go_wp2_with fail
        refine (hg _ (HQ3.out.below (bdrewN wr nq))).mono ?_
        rintro e wa ⟨rfl, hba⟩
        have c1 := kc hba (kc (bdrewN wr nq) c1)
        have c2 := kc hba (kc (bdrewN wr nq) c2)
        have e1 := fun o1 o2 => kc (balloc (balloc (Below.refl _ wa) o1) o2) c1
        have e2 := fun o1 o2 => kc (balloc (balloc (Below.refl _ wa) o1) o2) c2
        have hlta := lt_of_cellN c1
        go_wp2
        go_roundw
        case rel => exact ⟨k + 1, by omega, by go_num, balloc (balloc (bstep (bstep hbel (bdrewN wr nq)) hba) _) _⟩
        case measure => simp [intOf]; omega
      | false =>
        cases q2 : (t.toList == ([] : List UInt8)) with
        | true =>
          have HH : (if Km.has f.data.toList t.data.toList x.data.toList = true then (y, z) else ((0 : Int), (0 : Int))) = (y, z) := by
            rw [if_pos]
            rw [HTE.out] at q2
            rw [Lib.toList_data, Lib.toList_data] at q1
            simp only [Km.has, q1, q2]
            rfl
          have hE : g0 = y ∧ g1 = z := by
            have h := HG1.out
            rw [HH] at h
            simpa using h
          obtain ⟨rfl, rfl⟩ := hE
          clear HH
          go_wp2_with fail
          go_quiet (fail)
          go_wp2_with fail
          refine (hg _ (HQ3.out.below (bdrewN wr nq))).mono ?_
          rintro e wa ⟨rfl, hba⟩
          have c1 := kc hba (kc (bdrewN wr nq) c1)
          have c2 := kc hba (kc (bdrewN wr nq) c2)
          have e1 := fun o1 o2 => kc (balloc (balloc (Below.refl _ wa) o1) o2) c1
          have e2 := fun o1 o2 => kc (balloc (balloc (Below.refl _ wa) o1) o2) c2
          have hlta := lt_of_cellN c1
          go_wp2
          go_roundw
          case rel => exact ⟨k + 1, by omega, by go_num, balloc (balloc (bstep (bstep hbel (bdrewN wr nq)) hba) _) _⟩
          case measure => simp [intOf]; omega
        | false =>
          cases q3 : Op.bytesLess x.toList t.toList with
          | true =>
            have HH : (if Km.has f.data.toList t.data.toList x.data.toList = true then (y, z) else ((0 : Int), (0 : Int))) = (y, z) := by
              rw [if_pos]
              rw [HTE.out] at q2
              rw [Lib.toList_data, Lib.toList_data] at q1 q3
              simp only [Km.has, q1, q2, q3]
              rfl
            have hE : g0 = y ∧ g1 = z := by
              have h := HG1.out
              rw [HH] at h
              simpa using h
            obtain ⟨rfl, rfl⟩ := hE
            clear HH
            go_wp2_with fail
            go_quiet (fail)
            go_wp2_with fail
            refine (hg _ (HQ3.out.below (bdrewN wr nq))).mono ?_
            rintro e wa ⟨rfl, hba⟩
            have c1 := kc hba (kc (bdrewN wr nq) c1)
            have c2 := kc hba (kc (bdrewN wr nq) c2)
            have e1 := fun o1 o2 => kc (balloc (balloc (Below.refl _ wa) o1) o2) c1
            have e2 := fun o1 o2 => kc (balloc (balloc (Below.refl _ wa) o1) o2) c2
            have hlta := lt_of_cellN c1
            go_wp2
            go_roundw
            case rel => exact ⟨k + 1, by omega, by go_num, balloc (balloc (bstep (bstep hbel (bdrewN wr nq)) hba) _) _⟩
            case measure => simp [intOf]; omega
          | false =>
            have HH : (if Km.has f.data.toList t.data.toList x.data.toList = true then (y, z) else ((0 : Int), (0 : Int))) = (0, 0) := by
              rw [if_neg]
              rw [HTE.out] at q2
              rw [Lib.toList_data, Lib.toList_data] at q1 q3
              simp only [Km.has, q1, q2, q3]
              simp
            have hE : g0 = 0 ∧ g1 = 0 := by
              have h := HG1.out
              rw [HH] at h
              simpa using h
            obtain ⟨rfl, rfl⟩ := hE
            clear HH
            go_wp2_with fail
            go_quiet (fail)
            go_wp2_with fail
            refine (hg _ (HQ3.out.below (bdrewN wr nq))).mono ?_
            rintro e wa ⟨rfl, hba⟩
            have c1 := kc hba (kc (bdrewN wr nq) c1)
            have c2 := kc hba (kc (bdrewN wr nq) c2)
            have e1 := fun o1 o2 => kc (balloc (balloc (Below.refl _ wa) o1) o2) c1
            have e2 := fun o1 o2 => kc (balloc (balloc (Below.refl _ wa) o1) o2) c2
            have hlta := lt_of_cellN c1
            go_wp2
            go_roundw
            case rel => exact ⟨k + 1, by omega, by go_num, balloc (balloc (bstep (bstep hbel (bdrewN wr nq)) hba) _) _⟩
            case measure => simp [intOf]; omega
    · obtain rfl : k = p.length := by omega
      have HP4 := Lib.hid (HP3.out.below hbel)
      have HO4 := Lib.hid (HO3.out.below hbel)
      have hbel4 := bstep hbel3 hbel
      have hqp : (q.length : Int) ≤ (p.length : Int) := by omega
      have HSP : Hid (Szd p) := Lib.hid HS.out.szd
      go_wp2_with fail
      refine (covers_any _ _ p q _ (by omega) (by omega) HSP.out HSO.out HP4.out HO4.out).mono ?_
      rintro e w5 ⟨rfl, hb5⟩
      rw [HCOV.out]
      have HP5 := Lib.hid (HP4.out.below hb5)
      have hbel5 := bstep hbel4 hb5
      have hb6 : Below w5.heap.size w5 (w5.alloc (.cells #[.string ⟨#[]⟩, .string ⟨#[]⟩] 53)) := balloc (Below.refl _ _) _
      have hon := only_any _ p (some ⟨w5.heap.size, 0, none⟩) 1 [(⟨#[]⟩, ⟨#[]⟩)] (w5.alloc (.cells #[.string ⟨#[]⟩, .string ⟨#[]⟩] 53)) (by omega) (by simp) (rng_one w5 _ _ _) (HP5.out.below hb6)
      rw [only_all] at hon
      clear hb5 HP4 HO4 hbel4
      go_wp2_with fail
      refine hon.mono ?_
      rintro e w7 ⟨u7, rfl, ho7, hb7⟩
      have hb67 := bstep hb6 hb7
      have HP7 := Lib.hid (HP5.out.below hb67)
      have HO7 := Lib.hid (DepAt.of_own ho7)
      have hbel7 := bstep hbel5 hb67
      obtain ⟨ua, uc, rfl⟩ := ho7.shape
      clear ho7 hb6 hb7 hb67 hon HP5 hbel5
      go_wp2_with fail
      refine (same_any _ _ p p w7 (by omega) HO7.out HP7.out).mono ?_
      rintro e w8 ⟨rfl, hb8⟩
      rw [show decide (p = p) = true from decide_eq_true rfl]
      have hbel8 := bstep hbel7 hb8
      have hno := only_any _ p none 0 [] w8 (by omega) (by simp) (rng_nil _) (HP7.out.below hb8)
      rw [only_none] at hno
      go_wp2_with fail
      refine hno.mono ?_
      rintro e w9 ⟨u9, rfl, ho9, hb9⟩
      obtain ⟨ua9, uc9, rfl⟩ := ho9.shape
      clear ho9
      go_wp2
      go_ret
      exact ⟨rfl, bstep hbel8 hb9⟩
end Go.Proofs.Ytplpeokmhomojaa
