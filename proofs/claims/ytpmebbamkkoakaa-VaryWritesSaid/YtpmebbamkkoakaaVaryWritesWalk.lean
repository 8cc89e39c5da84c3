/- What the document's Join answers; the walk of the law VaryWrites. -/
import Derived.Test.YtpmebbamkkoakaaRefNumber
import Derived.Test.YtpmebbamkkoakaaVaryAwake
import Derived.Test.YtpmebbamkkoakaaVaryLong
import Derived.Test.YtpmebbamkkoakaaVarySame
namespace Go.Proofs.Ytpmebbamkkoakaa
open Go.RowKit
set_option linter.unusedVariables false

set_option maxRecDepth 100000 in
theorem refJoin_any (a : Option Addr) (cap : Nat) (zs : List Nat) (w : World) (hz : U64s w a zs) (hl : zs.length ≤ 1000000) :
    Calls Try.prog 19 #[.slice a zs.length cap] w fun e w' => e = .returned (.string ⟨(encs zs).toArray⟩) ∧ Below w.heap.size w w' := by
  have HZ := Lib.hid hz
  clear hz
  go_enter Try.func19, Try.ntmps19
  go_wp2
  go_loopw [3, 4] (fun s i wr => ∃ k : Nat, k ≤ zs.length ∧ i = .int .i64 k ∧ s = .string ⟨(encs (zs.take k)).toArray⟩ ∧ Below w.heap.size w wr) (fun _ i _ => zs.length - (intOf i).toNat)
  case atStart => exact ⟨0, by omega, rfl, rfl, Below.refl _ _⟩
  case round =>
    obtain ⟨k, hk, rfl, rfl, hb⟩ := hrel
    have hsl := encs_len (zs := zs.take k) (fun z hz => HZ.out.1 z (List.mem_of_mem_take hz))
    rw [List.length_take] at hsl
    by_cases hlt : k < zs.length
    · obtain ⟨b, off, rfl, hc⟩ := (HZ.out.below hb).2 k hlt
      have hn := encs_snoc zs k hlt
      have he := Vm.enc_len10 (HZ.out.1 zs[k] (by simp))
      generalize encs (zs.take k) = S at hsl hn ⊢
      have HN := Lib.hid hn
      clear hn
      go_wp2_with fail
      refine (refNumber zs[k] _ (HZ.out.1 _ (by simp))).mono ?_
      rintro e w2 ⟨rfl, hb2⟩
      go_wp2
      go_roundw
      case rel => exact ⟨k + 1, by omega, by go_num, by rw [HN.out, str_add], bstep hb hb2⟩
      case measure => simp [intOf]; omega
    · obtain rfl : k = zs.length := by omega
      rw [List.take_length]
      go_wp2
      go_ret
      exact ⟨rfl, hb⟩
theorem refJoin_at (a : Option Addr) (len cap : Nat) (zs : List Nat) (w : World) (hlen : zs.length = len) (hz : U64s w a zs) (hl : zs.length ≤ 1000000) :
    Calls Try.prog 19 #[.slice a len cap] w fun e w' => e = .returned (.string ⟨(encs zs).toArray⟩) ∧ Below w.heap.size w w' := by
  subst hlen
  exact refJoin_any a cap zs w hz hl

set_option maxRecDepth 100000 in
set_option maxHeartbeats 1000000 in
theorem walkVaryWrites (w : World) (a0 : Int) (w0 : (Lit.int .u64 a0).wf = true) (a1 : ByteArray) (w1 : a1.size ≤ maxLen) (a : Option Addr) (len cap : Nat) (ys : List Int) (h0 : IsRow .u64 w a len cap ys) :
    Calls Try.prog 3 #[.int .u64 a0, .string a1, .slice a len cap] w fun e w' => e = .returned (.bool true) ∧ Below w.heap.size w w' := by
  have hb0 := bounds_u64 w0
  obtain ⟨n, rfl⟩ := Int.eq_ofNat_of_zero_le hb0.1
  have Hn := Lib.hid (show n < 18446744073709551616 by omega)
  obtain ⟨ns, hn1, hn2, hn3, hn4⟩ := isRow_nums h0
  have hz := hn2.take 10
  have hzl : (ns.take 10).length = min 10 len := by rw [List.length_take, hn1]
  generalize ns.take 10 = zs at hz hzl
  have HZ := Lib.hid hz
  have h12 : zs.length ≤ 10 := by omega
  have HZL := Lib.hid hzl
  have hw1 : a1.size ≤ 9223372036854775807 := w1
  clear hz hzl hn2 hn1 h0 hb0 w0 w1
  obtain ⟨m, HLen, hm⟩ : ∃ m, Hid (zs.length = m) ∧ (((len : Int) > 10 ∧ m = 10) ∨ (¬ (len : Int) > 10 ∧ m = len)) := by
    have := HZL.out
    by_cases hc : (len : Int) > 10
    · exact ⟨10, (by omega : zs.length = 10), Or.inl ⟨hc, rfl⟩⟩
    · exact ⟨len, (by omega : zs.length = len), Or.inr ⟨hc, rfl⟩⟩
  clear HZL
  rcases hm with ⟨hc, rfl⟩ | ⟨hc, rfl⟩
  all_goals
    go_enter Try.func3, Try.ntmps3
    go_wp2_with fail
    refine (awake_any _).mono ?_
    rintro e w2 ⟨rfl, hb1⟩
    go_wp2_with fail
    refine (short_any a1 300 _ hw1 (by omega)).mono ?_
    rintro e w2' ⟨rfl, rfl⟩
    have hs := short_size a1.data.toList 300
    generalize (⟨(a1.data.toList.take 300).toArray⟩ : ByteArray) = s at hs ⊢
    go_wp2_with fail
    refine (number_any n _ Hn.out).mono ?_
    rintro e w3 ⟨rfl, hb2⟩
    have hb2 := bstep hb1 hb2
    clear hb1
    go_wp2_with fail
    refine (refNumber n _ Hn.out).mono ?_
    rintro e w4 ⟨rfl, hb3⟩
    have hb3 := bstep hb2 hb3
    clear hb2
    go_wp2_with fail
    refine (text_any s _ (by omega)).mono ?_
    rintro e w5 ⟨rfl, hb4⟩
    have hb4 := bstep hb3 hb4
    clear hb3
    go_wp2_with fail
    refine (refText s _ (by omega)).mono ?_
    rintro e w6 ⟨rfl, hb5⟩
    have hb5 := bstep hb4 hb5
    clear hb4
    go_wp2_with fail
    refine (long_any n _ Hn.out).mono ?_
    rintro e w6' ⟨rfl, rfl⟩
    go_wp2_with fail
    refine (refNumber n _ Hn.out).mono ?_
    rintro e w7 ⟨rfl, hb6⟩
    have hb6 := bstep hb5 hb6
    clear hb5
    go_wp2_with fail
    refine (join_at _ _ _ zs _ HLen.out (HZ.out.below hb6) (by omega)).mono ?_
    rintro e w8 ⟨rfl, hb7⟩
    have hb7 := bstep hb6 hb7
    clear hb6
    go_wp2_with fail
    refine (refJoin_at _ _ _ zs _ HLen.out (HZ.out.below hb7) (by omega)).mono ?_
    rintro e w9 ⟨rfl, hb8⟩
    go_wp2
    go_ret
    exact ⟨rfl, bstep hb7 hb8⟩

end Go.Proofs.Ytpmebbamkkoakaa
