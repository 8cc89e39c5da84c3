/- What the document's Bytes of a past answers. -/
import Derived.Test.YtplpeokmhomojaaPastBytesMath
import Derived.Test.YtplpeokmhomojaaPastRefCheck
import Derived.Test.YtplpeokmhomojaaRefTexts
import Derived.Test.YtplpeokmhomojaaStampRefBytes
import Derived.Test.YtplpeokmhomojaaPastBytes
import Derived.Deep.RegionHeld3
namespace Go.Proofs.Ytplpeokmhomojaa
open Go.RowKit
set_option linter.unusedVariables false
set_option linter.unusedSimpArgs false

theorem ba_size_list (S : ByteArray) : S.data.toList.length = S.size := rfl
theorem ba_app (S T : ByteArray) : (S ++ T).data.toList = S.data.toList ++ T.data.toList := by simp

set_option maxRecDepth 100000 in
set_option maxHeartbeats 3200000 in
theorem refPBytes_any (v : Value) (l : List De) (w : World) (hl : l.length ≤ 1000000) (hz : Szd l) (hr : DepAt w v l) :
    Calls Try.prog 26 #[v] w fun e w' => e = .returned (.string ⟨(pbV l).toArray⟩) ∧ Below w.heap.size w w' := by
  have hchk := refPCheck_any v l w hl hz hr
  have HV := Lib.hid hr
  obtain ⟨a, cap, rfl, _, _, _, hrr⟩ := hr
  have HR := Lib.hid hrr
  clear hrr hz
  cases hc : chkD l with
  | false =>
    have hp : pbV l = [] := by simp [pbV, hc]
    rw [hp]
    rw [hc] at hchk
    clear hc hp
    go_enter Try.func26, Try.ntmps26
    go_wp2_with fail
    refine hchk.mono ?_
    rintro e w1 ⟨rfl, hb1⟩
    go_wp2
    go_ret
    exact ⟨rfl, hb1⟩
  | true =>
    have hp : pbV l = Vm.enc l.length ++ pbody l := by simp [pbV, hc]
    rw [hp]
    rw [hc] at hchk
    obtain ⟨h24, hsrt⟩ := chkD_parts hc
    have HS := Lib.hid (srt_sizes hsrt)
    clear hc hp hsrt
    have hel := Vm.enc_len10 (n := l.length) (by omega)
    have hnum := fun W => refNumber l.length W (by omega)
    generalize Vm.enc l.length = en at hel hnum ⊢
    have hcv : (IntKind.u64.wrap (l.length : Int)) = (l.length : Int) := IntWalk.u64_in _ (by omega)
    obtain ⟨E0, hE0⟩ : ∃ E : ByteArray, E = ⟨en.toArray⟩ := ⟨_, rfl⟩
    rw [← hE0] at hnum
    have HE0 : Hid (E0.data.toList = en) := Lib.hid (by rw [hE0])
    clear hE0
    go_enter Try.func26, Try.ntmps26
    go_wp2_with fail
    refine hchk.mono ?_
    rintro e w1 ⟨rfl, hb1⟩
    clear hchk
    go_wp2_with fail
    refine (hnum _).mono ?_
    rintro e w2 ⟨rfl, hb2⟩
    have hbel2 := bstep hb1 hb2
    clear hb1 hb2 hnum
    go_wp2
    go_loopw [4, 5] (fun s i wr => ∃ (k : Nat) (S : ByteArray), k ≤ l.length ∧ i = .int .i64 k ∧ s = .string S ∧ S.data.toList = en ++ pbody (l.take k) ∧ Below w.heap.size w wr) (fun _ i _ => l.length - (intOf i).toNat)
    case atStart => exact ⟨0, E0, by omega, rfl, rfl, by rw [HE0.out]; simp [pbody], hbel2⟩
    case round =>
      obtain ⟨k, S, hk, rfl, rfl, hS, hbel⟩ := hrel
      have HSS := Lib.hid hS
      by_cases hlt : k < l.length
      · obtain ⟨b, off, rfl, hbl, c0, c1, c2⟩ := HR.out.below hbel k hlt
        have HT := Lib.hid (pbody_take l k hlt)
        have hsz := HS.out l[k] (List.getElem_mem hlt)
        have hpl := pbody_len (l.take k) (fun d hd => HS.out d (List.mem_of_mem_take hd))
        have htl : (l.take k).length ≤ 24 := by simp; omega
        have hdl := dbytes_len hsz
        have hSz : S.size ≤ 1600 := by rw [← ba_size_list, hS, List.length_append]; omega
        clear hS hpl htl
        generalize l[k] = d at c0 c1 c2 HT hsz hdl
        obtain ⟨x, y, z⟩ := d
        dsimp only at c0 c1 c2 hsz
        have HD : Hid (dbytes (x, y, z) = (Vm.enc x.size ++ x.data.toList) ++ sbytes y z) := Lib.hid rfl
        have htx := fun W => refText x W (by omega)
        have hby := fun W => refBytes_any y z W
        obtain ⟨T, hT⟩ : ∃ T : ByteArray, T = ⟨(Vm.enc x.size ++ x.data.toList).toArray⟩ := ⟨_, rfl⟩
        obtain ⟨U, hU⟩ : ∃ U : ByteArray, U = ⟨(sbytes y z).toArray⟩ := ⟨_, rfl⟩
        rw [← hT] at htx
        rw [← hU] at hby
        have hTU : T.size + U.size ≤ 62 := by
          rw [HD.out, List.length_append] at hdl
          rw [← ba_size_list, ← ba_size_list, hT, hU]
          exact hdl
        have HTU : Hid (dbytes (x, y, z) = T.data.toList ++ U.data.toList) := Lib.hid (by rw [HD.out, hT, hU])
        clear hT hU HD hdl
        have hki : (k : Int) < (l.length : Int) := by omega
        have hn1 : ¬ 9223372036854775807 < S.size + T.size := by omega
        have hn2 : ¬ 9223372036854775807 < S.size + T.size + U.size := by omega
        have g0 : wr.cell? ⟨b, off + k * 3, none⟩ = some (.string x) ∧ wr.cell? ⟨b, off + k * 3 + 1, none⟩ = some (.int .i64 y) ∧ wr.cell? ⟨b, off + k * 3 + 2, none⟩ = some (.int .i64 z) := ⟨c0, c1, c2⟩
        clear c0 c1 c2
        go_wp2_with fail
        go_region_held3 (fun w' => w'.cell? ⟨b, off + k * 3, none⟩ = some (.string x) ∧ w'.cell? ⟨b, off + k * 3 + 1, none⟩ = some (.int .i64 y) ∧ w'.cell? ⟨b, off + k * 3 + 2, none⟩ = some (.int .i64 z))
          (first | exact g0 | exact g1 | exact g2)
          (first
            | (go_at_call 61; ((with_reducible refine (htx _).mono ?_); rintro e wa ⟨rfl, ha⟩; have g1 := keepC3 ha g0))
            | (go_at_call 62; ((with_reducible refine (hby _).mono ?_); rintro e wb ⟨rfl, hb⟩; have g2 := keepC3 hb g1)))
        have hbF := bstep (bstep hbel.drew ha) hb
        clear g0 g1 g2 ha hb htx hby
        go_wp2
        go_roundw
        case rel => exact ⟨k + 1, _, by omega, by go_num, rfl, by rw [HT.out, HTU.out, ba_app, ba_app, HSS.out]; simp [List.append_assoc], hbF⟩
        case measure => simp [intOf]; omega
      · obtain rfl : k = l.length := by omega
        rw [List.take_length] at HSS
        clear hS
        go_wp2
        go_ret
        exact ⟨by rw [show S = ⟨(en ++ pbody l).toArray⟩ from ba_inj (by rw [HSS.out])]; rfl, hbel⟩
end Go.Proofs.Ytplpeokmhomojaa
