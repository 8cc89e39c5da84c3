/- The walk of the law VarySplit. -/
import Derived.Test.YtpmebbamkkoakaaVaryAwake
import Derived.Test.YtpmebbamkkoakaaVaryLong
import Derived.Test.YtpmebbamkkoakaaVarySame
namespace Go.Proofs.Ytpmebbamkkoakaa
open Go.RowKit
set_option linter.unusedVariables false

theorem sp_encs (zs : List Nat) (r : List UInt8) (h : ∀ z ∈ zs, z < 18446744073709551616) : Vm.sp (encs zs ++ r) = (Vm.sp r).map (zs ++ ·) := by
  induction zs with
  | nil => simp [encs]
  | cons z t ih =>
    have e : encs (z :: t) ++ r = Vm.enc z ++ (encs t ++ r) := by simp [encs]
    rw [e, Vm.sp_some (Vm.dec0_enc z _ (h z (by simp))), List.drop_left, ih (fun x hx => h x (by simp [hx]))]
    cases Vm.sp r <;> simp
theorem sp_join (zs : List Nat) (h : ∀ z ∈ zs, z < 18446744073709551616) : Vm.sp (encs zs) = some zs := by
  have := sp_encs zs [] h
  simpa [Vm.sp_nil] using this
theorem sp_more (zs : List Nat) (h : ∀ z ∈ zs, z < 18446744073709551616) : Vm.sp (encs zs ++ [128]) = none := by
  rw [sp_encs zs [128] h, Vm.sp_none (by simp) (by decide)]
  rfl

theorem split_some (zs : List Nat) (w : World) (hz : ∀ z ∈ zs, z < 18446744073709551616) (hl : zs.length ≤ 12) :
    Calls Try.prog 24 #[.string ⟨(encs zs).toArray⟩] w (SplitPost w zs) := by
  have hel := encs_len hz
  have h := split_any ⟨(encs zs).toArray⟩ w (by show (encs zs).toArray.size ≤ _; rw [List.size_toArray]; omega)
  have e : (⟨(encs zs).toArray⟩ : ByteArray).data.toList = encs zs := rfl
  rw [e, sp_join zs hz] at h
  exact h
theorem split_none (zs : List Nat) (w : World) (hz : ∀ z ∈ zs, z < 18446744073709551616) (hl : zs.length ≤ 12) :
    Calls Try.prog 24 #[.string (⟨(encs zs).toArray⟩ ++ ⟨#[128]⟩)] w fun e w' => e = .returned (.tuple #[.slice none 0 0, .bool false]) ∧ Below w.heap.size w w' := by
  have hel := encs_len hz
  rw [str_add]
  have h := split_any ⟨(encs zs ++ [128]).toArray⟩ w (by show (encs zs ++ [128]).toArray.size ≤ _; rw [List.size_toArray, List.length_append]; simp; omega)
  have e : (⟨(encs zs ++ [128]).toArray⟩ : ByteArray).data.toList = encs zs ++ [128] := rfl
  rw [e, sp_more zs hz] at h
  exact h

set_option maxRecDepth 100000 in
set_option maxHeartbeats 1000000 in
theorem walkVarySplit (w : World) (a : Option Addr) (len cap : Nat) (ys : List Int) (h0 : IsRow .u64 w a len cap ys) :
    Calls Try.prog 7 #[.slice a len cap] w fun e w' => e = .returned (.bool true) ∧ Below w.heap.size w w' := by
  obtain ⟨ns, hn1, hn2, hn3, hn4⟩ := isRow_nums h0
  have hz := hn2.take 12
  have hzl : (ns.take 12).length = min 12 len := by rw [List.length_take, hn1]
  generalize ns.take 12 = zs at hz hzl
  have HZ := Lib.hid hz
  have h12 : zs.length ≤ 12 := by omega
  have hel := encs_len hz.1
  have HZL := Lib.hid hzl
  clear hz hzl hn2 hn1 h0
  by_cases hc : (len : Int) > 12
  · have hl1 : zs.length ≤ 12 ∧ 12 ≤ zs.length := by have := HZL.out; omega
    have HLen : Hid (zs.length = 12) := by have := HZL.out; exact (by omega : zs.length = 12)
    clear HZL
    go_enter Try.func7, Try.ntmps7
    go_wp2_with fail
    refine (awake_any _).mono ?_
    rintro e w2 ⟨rfl, hb1⟩
    go_wp2_with fail
    refine (join_at _ _ _ zs _ HLen.out (HZ.out.below hb1) (by omega)).mono ?_
    rintro e w3 ⟨rfl, hb2⟩
    have hb2 := bstep hb1 hb2
    clear hb1
    go_wp2_with fail
    refine (split_some zs _ HZ.out.1 (by omega)).mono ?_
    rintro e w4 ⟨m, cm, rfl, hm, _, hb3⟩
    have HM := Lib.hid hm
    have hb3' := bstep hb2 hb3
    clear hb2 hb3 hm
    go_wp2_with fail
    refine (split_none zs _ HZ.out.1 (by omega)).mono ?_
    rintro e w5 ⟨rfl, hb4⟩
    have HM5 := Lib.hid (HM.out.below hb4)
    have hb5 := bstep hb3' hb4
    clear hb3' hb4 HM
    go_wp2_with fail
    go_loop [9, 10] (fun n i => ∃ k : Nat, k ≤ zs.length ∧ i = .int .i64 k ∧ n = .int .i64 ((encs (zs.take k)).length : Int)) (fun _ i => zs.length - (intOf i).toNat)
    case atStart => exact ⟨0, by omega, rfl, rfl⟩
    case round =>
      obtain ⟨k, hk, rfl, rfl⟩ := hrel
      have hsl := encs_len (zs := zs.take k) (fun z hz => HZ.out.1 z (List.mem_of_mem_take hz))
      rw [List.length_take] at hsl
      by_cases hlt : k < zs.length
      · obtain ⟨b, off, rfl, hcc⟩ := (HZ.out.below hb5).2 k hlt
        have hsn : (encs (zs.take (k + 1))).length = (encs (zs.take k)).length + (Vm.enc zs[k]).length := by rw [encs_snoc zs k hlt, List.length_append]
        have HSN := Lib.hid hsn
        have he := Vm.enc_len10 (HZ.out.1 zs[k] (by simp))
        clear hsn
        go_wp2_with fail
        refine (long_any zs[k] _ (HZ.out.1 _ (by simp))).mono ?_
        rintro e w6 ⟨rfl, rfl⟩
        go_wp2
        go_round
        case rel => exact ⟨k + 1, by omega, by go_num, by rw [HSN.out]; go_num⟩
        case measure => simp [intOf]; omega
      · obtain rfl : k = zs.length := by omega
        rw [List.take_length]
        go_wp2_with fail
        refine (same_at _ _ _ _ _ _ zs _ HLen.out rfl (HZ.out.below hb5) HM5.out (by omega)).mono ?_
        rintro e w6 ⟨rfl, hd⟩
        go_wp2
        go_ret
        exact ⟨rfl, bstep hb5 hd.below⟩
  · have hl1 : zs.length ≤ len ∧ len ≤ zs.length := by have := HZL.out; omega
    have HLen : Hid (zs.length = len) := by have := HZL.out; exact (by omega : zs.length = len)
    clear HZL
    go_enter Try.func7, Try.ntmps7
    go_wp2_with fail
    refine (awake_any _).mono ?_
    rintro e w2 ⟨rfl, hb1⟩
    go_wp2_with fail
    refine (join_at _ _ _ zs _ HLen.out (HZ.out.below hb1) (by omega)).mono ?_
    rintro e w3 ⟨rfl, hb2⟩
    have hb2 := bstep hb1 hb2
    clear hb1
    go_wp2_with fail
    refine (split_some zs _ HZ.out.1 (by omega)).mono ?_
    rintro e w4 ⟨m, cm, rfl, hm, _, hb3⟩
    have HM := Lib.hid hm
    have hb3' := bstep hb2 hb3
    clear hb2 hb3 hm
    go_wp2_with fail
    refine (split_none zs _ HZ.out.1 (by omega)).mono ?_
    rintro e w5 ⟨rfl, hb4⟩
    have HM5 := Lib.hid (HM.out.below hb4)
    have hb5 := bstep hb3' hb4
    clear hb3' hb4 HM
    go_wp2_with fail
    go_loop [9, 10] (fun n i => ∃ k : Nat, k ≤ zs.length ∧ i = .int .i64 k ∧ n = .int .i64 ((encs (zs.take k)).length : Int)) (fun _ i => zs.length - (intOf i).toNat)
    case atStart => exact ⟨0, by omega, rfl, rfl⟩
    case round =>
      obtain ⟨k, hk, rfl, rfl⟩ := hrel
      have hsl := encs_len (zs := zs.take k) (fun z hz => HZ.out.1 z (List.mem_of_mem_take hz))
      rw [List.length_take] at hsl
      by_cases hlt : k < zs.length
      · obtain ⟨b, off, rfl, hcc⟩ := (HZ.out.below hb5).2 k hlt
        have hsn : (encs (zs.take (k + 1))).length = (encs (zs.take k)).length + (Vm.enc zs[k]).length := by rw [encs_snoc zs k hlt, List.length_append]
        have HSN := Lib.hid hsn
        have he := Vm.enc_len10 (HZ.out.1 zs[k] (by simp))
        clear hsn
        go_wp2_with fail
        refine (long_any zs[k] _ (HZ.out.1 _ (by simp))).mono ?_
        rintro e w6 ⟨rfl, rfl⟩
        go_wp2
        go_round
        case rel => exact ⟨k + 1, by omega, by go_num, by rw [HSN.out]; go_num⟩
        case measure => simp [intOf]; omega
      · obtain rfl : k = zs.length := by omega
        rw [List.take_length]
        go_wp2_with fail
        refine (same_at _ _ _ _ _ _ zs _ HLen.out rfl (HZ.out.below hb5) HM5.out (by omega)).mono ?_
        rintro e w6 ⟨rfl, hd⟩
        go_wp2
        go_ret
        exact ⟨rfl, bstep hb5 hd.below⟩

end Go.Proofs.Ytpmebbamkkoakaa
