/- Texts of this proof, one behind the other: RefRead, RefText, StampRefRead. -/
import Derived.Test.YtplpeokmhomojaaGPastReads13
import Derived.Deep.Cut
import Derived.LoopN
import Derived.Deep.DeepCutAuto
/- What the document's Read answers. -/
namespace Go.Proofs.Ytplpeokmhomojaa
open Go.RowKit
set_option linter.unusedVariables false

def m64 (n : Nat) : Nat := n % 18446744073709551616
theorem m64_lt (n : Nat) : m64 n < 18446744073709551616 := Nat.mod_lt _ (by omega)

/-- The answer of the document's Read. -/
def gotV : Option (Nat × Nat) → Value
  | none => .agg #[.int .u64 0, .int .i64 0]
  | some (n, e) => .agg #[.int .u64 (n : Int), .int .i64 (e : Int)]

theorem ret_got {n e : Nat} {y : Int} (hy : y = (e : Int)) : Ending.returned (.agg #[.int .u64 (n : Int), .int .i64 y]) = .returned (gotV (some (n, e))) := by
  subst hy; rfl
theorem wrap_nat (x : Nat) : IntKind.u64.wrap (x : Int) = (m64 x : Int) := by
  rw [IntKind.wrap_u64, m64]
  omega
theorem step_n (t : List UInt8) (k c nn bb : Nat) (hk : k < t.length) (hc : t[k].toNat = c) (hn : m64 (Vm.val (t.take k)) = nn) (hb : m64 (128 ^ k) = bb) :
    IntKind.u64.wrap ((nn : Int) + IntKind.u64.wrap ((c : Int) % 128 * (bb : Int))) = (m64 (Vm.val (t.take (k + 1))) : Int) := by
  have e1 : ((c : Int) % 128 * (bb : Int)) = ((c % 128 * bb : Nat) : Int) := by simp
  rw [e1, wrap_nat, ← Int.natCast_add, wrap_nat, List.take_succ_eq_append_getElem hk, Vm.val_snoc, hc, List.length_take, Nat.min_eq_left (by omega), ← hn, ← hb]
  congr 1
  simp only [m64]
  rw [Nat.add_mod, Nat.mod_mod, Nat.mod_mod, ← Nat.add_mod, Nat.add_mod _ (c % 128 * _), Nat.add_mod _ (c % 128 * 128 ^ k)]
  congr 2
  rw [Nat.mul_mod, Nat.mod_mod, ← Nat.mul_mod]
theorem step_b (k bb : Nat) (hb : m64 (128 ^ k) = bb) : IntKind.u64.wrap ((bb : Int) * 128) = (m64 (128 ^ (k + 1)) : Int) := by
  have e1 : ((bb : Int) * 128) = ((bb * 128 : Nat) : Int) := by simp
  rw [e1, wrap_nat, ← hb]
  congr 1
  simp only [m64]
  rw [Nat.pow_succ, Nat.mul_mod, Nat.mod_mod, ← Nat.mul_mod]

set_option maxRecDepth 100000 in
set_option maxHeartbeats 800000 in
theorem refRead_in (s : ByteArray) (a : Nat) (w : World) (hs : s.size ≤ 1000000) (h : a ≤ s.size) :
    Calls Try.prog 65 #[.string s, .int .i64 a] w fun e w' => e = .returned (gotV ((Vm.dec 0 (s.data.toList.drop a)).map fun x => (x.1, a + x.2))) ∧ Below w.heap.size w w' := by
  have h0 : decide ((a : Int) < 0) = false := by simp
  go_enter Try.func65, Try.ntmps65
  go_wp2
  go_loop [5, 6, 7] (fun n b i => ∃ k p : Nat, k ≤ 10 ∧ p ≤ s.size ∧ p = a + k ∧ i = .int .i64 (p : Int) ∧ n = .int .u64 (m64 (Vm.val ((s.data.toList.drop a).take k)) : Int) ∧ b = .int .u64 (m64 (128 ^ k) : Int) ∧
      ∀ j (hj : j < (s.data.toList.drop a).length), j < k → 128 ≤ (s.data.toList.drop a)[j].toNat) (fun _ _ i => s.size - (intOf i).toNat)
  case atStart => exact ⟨0, a, by omega, by omega, rfl, rfl, rfl, rfl, fun j hj h => absurd h (by omega)⟩
  case round =>
    obtain ⟨k, p, hk, hka, hp, rfl, rfl, rfl, hgo⟩ := hrel
    have HP := Lib.hid hp
    have HG := Lib.hid hgo
    clear hgo
    by_cases hlt : p < s.size ∧ p < a + 10
    · obtain ⟨hl1, hl2⟩ := hlt
      have hl3 : a ≤ p := by omega
      have HL2 := Lib.hid hl2
      have HL3 := Lib.hid hl3
      have g2 : decide ((p : Int) < (a : Int) + 10) = true := by simp; omega
      clear hp hl2 hl3
      generalize hN : m64 (Vm.val ((s.data.toList.drop a).take k)) = nn
      generalize hB : m64 (128 ^ k) = bb
      have hnn : (nn : Int) < 18446744073709551616 := by rw [← hN]; have := m64_lt (Vm.val ((s.data.toList.drop a).take k)); omega
      have hbb : (bb : Int) < 18446744073709551616 := by rw [← hB]; have := m64_lt (128 ^ k); omega
      have HN := Lib.hid hN
      have HB := Lib.hid hB
      have HNN := Lib.hid hnn
      have HBB := Lib.hid hbb
      clear hN hB hnn hbb
      go_upto_region 9 with (fail)
      clear g2
      rw [IntWalk.u64_in _ (by have := s[p].toNat_lt; omega)]
      have hc256 : s[p].toNat < 256 := s[p].toNat_lt
      have hkt : k < (s.data.toList.drop a).length := by simp; have := HP.out; have e : s.data.size = s.size := rfl; omega
      have htk : (s.data.toList.drop a)[k].toNat = s[p].toNat := by
        simp only [List.getElem_drop, ← HP.out]
        rfl
      generalize s[p].toNat = c at hc256 htk ⊢
      have en := step_n _ k c nn bb hkt htk HN.out HB.out
      have eb := step_b k bb HB.out
      have HT := Lib.hid (show ∃ h : k < (s.data.toList.drop a).length, (s.data.toList.drop a)[k].toNat = c from ⟨hkt, htk⟩)
      have EN := Lib.hid en
      have EB := Lib.hid eb
      clear htk hkt en eb
      go_upto_region 11 with (fail)
      rw [EN.out, EB.out]
      clear EN EB HN HB
      generalize hN2 : m64 (Vm.val ((s.data.toList.drop a).take (k + 1))) = n2
      generalize hB2 : m64 (128 ^ (k + 1)) = b2
      have HN2 := Lib.hid hN2
      have HB2 := Lib.hid hB2
      clear hN2 hB2
      have HBEL : Hid (Below w.heap.size w (w.alloc (.cells #[.int .u64 0, .int .i64 0] 93))) := (Below.refl _ w).alloc (Nat.le_refl _) _
      by_cases hc : c < 128
      · have hd : Vm.dec 0 (s.data.toList.drop a) = if Vm.enc n2 = (s.data.toList.drop a).take (k + 1) then some (n2, k + 1) else none := by
          have := Vm.dec_at HT.out.1 HG.out (by have := HT.out.2; omega)
          rw [this]
          have e : Vm.val ((s.data.toList.drop a).take (k + 1)) % 18446744073709551616 = n2 := HN2.out
          rw [e]
        have hn2 : n2 < 18446744073709551616 := by rw [← HN2.out]; exact m64_lt _
        have hq10 := Vm.enc_len10 hn2
        have HD := Lib.hid hd
        have HN := Lib.hid hn2
        have hx : (s.extract a (p + 1)).toList = (s.data.toList.drop a).take (k + 1) := by
          rw [ByteArray.toList_eq, Lib.extract_data]
          congr 1
          have := HP.out
          omega
        have HX := Lib.hid hx
        have hsl : ∀ w', (Instr.slice 9 (.string s) (some (.int .i64 (a : Int))) (some (.int .i64 ((p : Int) + 1))) none).run Try.prog w' = .ok (.string (s.extract a (p + 1))) w' := by
          intro w'
          have h := run_slice_string (P := Try.prog) (w := w') 9 s .i64 .i64 a ((p : Int) + 1) Try.underlying9 (by omega) (by have := HL3.out; omega) (by omega)
          rw [show ((p : Int) + 1).toNat = p + 1 from by omega, Int.toNat_natCast] at h
          exact h
        have hwr : IntKind.i64.wrap ((p : Int) + 1) = (p : Int) + 1 := IntWalk.i64_in _ (by omega)
        have hdc : decide ((c : Int) < 128) = true := by simp; omega
        clear hd hx hn2 hc hc256
        by_cases hq : Vm.enc n2 = (s.data.toList.drop a).take (k + 1)
        · have hne : (Vm.enc n2 == (s.extract a (p + 1)).toList) = true := by rw [HX.out, hq]; simp
          have HQ := Lib.hid hq
          clear hq
          go_upto_region 12 with (fail)
          go_region_held3 (fun w' => True) (trivial) (first | (go_at_call 60; ((with_reducible refine (refNumber n2 _ HN.out).mono ?_); rintro e w2 ⟨rfl, hb2⟩)))
          have c1 : w2.cell? ⟨w.heap.size, 0, none⟩ = some (.int .u64 0) := (hb2.cell (p := ⟨w.heap.size, 0, none⟩) (by simp)).trans (by simp)
          have c2 : w2.cell? ⟨w.heap.size, 1, none⟩ = some (.int .i64 0) := (hb2.cell (p := ⟨w.heap.size, 1, none⟩) (by simp)).trans (by simp)
          have f1 : w2.frozen? ⟨w.heap.size, 0, none⟩ = false := (hb2.frozen (p := ⟨w.heap.size, 0, none⟩) (by simp)).trans (by simp)
          have f2 : w2.frozen? ⟨w.heap.size, 1, none⟩ = false := (hb2.frozen (p := ⟨w.heap.size, 1, none⟩) (by simp)).trans (by simp)
          have hb3 := bstep HBEL.out.drew hb2
          clear hb2 hwr hsl
          go_wp2
          refine bodyPost_ret (v := .agg #[.int .u64 (n2 : Int), .int .i64 ((p : Int) + 1)]) (by simp [results, Try.results65, go_sem, c1, c2]) rfl ⟨?_, ?_⟩
          · rw [HD.out, if_pos HQ.out]
            exact ret_got (by have := HP.out; omega)
          · exact (hb3.setCell (Nat.le_refl _) _).setCell (Nat.le_refl _) _
        · have hne : (Vm.enc n2 == (s.extract a (p + 1)).toList) = false := by rw [HX.out]; simpa using hq
          have HQ := Lib.hid hq
          clear hq
          go_upto_region 12 with (fail)
          go_region_held3 (fun w' => True) (trivial) (first | (go_at_call 60; ((with_reducible refine (refNumber n2 _ HN.out).mono ?_); rintro e w2 ⟨rfl, hb2⟩)))
          have c1 : w2.cell? ⟨w.heap.size, 0, none⟩ = some (.int .u64 0) := (hb2.cell (p := ⟨w.heap.size, 0, none⟩) (by simp)).trans (by simp)
          have c2 : w2.cell? ⟨w.heap.size, 1, none⟩ = some (.int .i64 0) := (hb2.cell (p := ⟨w.heap.size, 1, none⟩) (by simp)).trans (by simp)
          have f1 : w2.frozen? ⟨w.heap.size, 0, none⟩ = false := (hb2.frozen (p := ⟨w.heap.size, 0, none⟩) (by simp)).trans (by simp)
          have f2 : w2.frozen? ⟨w.heap.size, 1, none⟩ = false := (hb2.frozen (p := ⟨w.heap.size, 1, none⟩) (by simp)).trans (by simp)
          have hb3 := bstep HBEL.out.drew hb2
          clear hb2 hwr hsl
          go_wp2
          refine bodyPost_ret (v := .agg #[.int .u64 0, .int .i64 0]) (by simp [results, Try.results65, go_sem, c1, c2]) rfl ⟨?_, ?_⟩
          · rw [HD.out, if_neg HQ.out]
            rfl
          · exact (hb3.setCell (Nat.le_refl _) _).setCell (Nat.le_refl _) _
      · clear hc256
        have hdc : decide ((c : Int) < 128) = false := by simp; omega
        have HC := Lib.hid hc
        clear hc
        go_wp2
        go_round
        case rel => exact ⟨k + 1, p + 1, by have := HP.out; have := HL2.out; omega, by omega, by have := HP.out; omega, by go_num, by rw [HN2.out], by rw [HB2.out], by
          intro j hj hjk
          rcases Nat.lt_or_ge j k with h1 | h1
          · exact HG.out j hj h1
          · obtain rfl : j = k := by omega
            have := HT.out.2
            have := HC.out
            omega⟩
        case measure => simp [intOf]; omega
    · have hnone : Vm.dec 0 (s.data.toList.drop a) = none := by
        refine Vm.dec_never (k := k) ?_ HG.out
        have e : (s.data.toList.drop a).length = s.size - a := by simp
        rw [e]
        omega
      have HNO := Lib.hid hnone
      have hcases : decide (p < s.size) = false ∨ (decide (p < s.size) = true ∧ decide ((p : Int) < (a : Int) + 10) = false) := by simp; omega
      have HBEL : Hid (Below w.heap.size w (w.alloc (.cells #[.int .u64 0, .int .i64 0] 93))) := (Below.refl _ w).alloc (Nat.le_refl _) _
      clear hnone hlt hp
      rcases hcases with g1 | ⟨g1, g2⟩
      all_goals
        go_wp2
        refine bodyPost_ret (v := .agg #[.int .u64 0, .int .i64 0]) (by simp [results, Try.results65, go_sem]) rfl ⟨?_, ?_⟩
        · rw [HNO.out]
          rfl
        · exact HBEL.out

set_option maxRecDepth 100000 in
theorem refRead_out (s : ByteArray) (at_ : Int) (w : World) (h : at_ < 0 ∨ (s.size : Int) < at_) :
    Calls Try.prog 65 #[.string s, .int .i64 at_] w fun e w' => e = .returned (gotV none) ∧ Below w.heap.size w w' := by
  have hbel : Below w.heap.size w (w.alloc (.cells #[.int .u64 0, .int .i64 0] 93)) := (Below.refl _ w).alloc (Nat.le_refl _) _
  have HB := Lib.hid hbel
  clear hbel
  rcases h with h | h
  · have g : decide (at_ < 0) = true := by simpa using h
    clear h
    go_enter Try.func65, Try.ntmps65
    go_wp2
    refine bodyPost_ret (v := .agg #[.int .u64 0, .int .i64 0]) (by simp [results, Try.results65, go_sem]) rfl ⟨rfl, ?_⟩
    exact HB.out
  · have g : decide (at_ < 0) = false := by simp; omega
    have g2 : decide (at_ < (s.size : Int)) = false := by simp; omega
    clear h
    go_enter Try.func65, Try.ntmps65
    go_wp2
    refine wp_loop_rounds 1 ?_
    rw [rounds_succ]
    go_wp2
    refine bodyPost_ret (v := .agg #[.int .u64 0, .int .i64 0]) (by simp [results, Try.results65, go_sem]) rfl ⟨rfl, ?_⟩
    exact HB.out

theorem refRead_any (s : ByteArray) (at_ : Int) (w : World) (hs : s.size ≤ 1000000) :
    Calls Try.prog 65 #[.string s, .int .i64 at_] w fun e w' => e = .returned (gotV (rd s.data.toList at_)) ∧ Below w.heap.size w w' := by
  by_cases h : at_ < 0 ∨ (s.size : Int) < at_
  · have e : rd s.data.toList at_ = none := by
      rw [rd, if_pos (by simpa using h)]
    rw [e]
    exact refRead_out s at_ w h
  · obtain ⟨a, rfl⟩ := Int.eq_ofNat_of_zero_le (show 0 ≤ at_ by omega)
    have e : rd s.data.toList (a : Int) = (Vm.dec 0 (s.data.toList.drop a)).map fun x => (x.1, a + x.2) := by
      rw [rd, if_neg (by simpa using h)]
      simp
    rw [e]
    exact refRead_in s a w hs (by omega)

end Go.Proofs.Ytplpeokmhomojaa
/- What the document's ReadText and Split answer. -/
namespace Go.Proofs.Ytplpeokmhomojaa
open Go.RowKit
set_option linter.unusedVariables false

def gotTV : Option (List UInt8 × Nat) → Value
  | none => .agg #[.string ⟨#[]⟩, .int .i64 0]
  | some (t, e) => .agg #[.string ⟨t.toArray⟩, .int .i64 (e : Int)]
theorem ret_gotT {x : ByteArray} {y : Int} {t : List UInt8} {e : Nat} (hx : x.data.toList = t) (hy : y = (e : Int)) : Ending.returned (.agg #[.string x, .int .i64 y]) = .returned (gotTV (some (t, e))) := by
  subst hx hy; rfl

set_option maxRecDepth 100000 in
set_option maxHeartbeats 800000 in
theorem refReadText_any (s : ByteArray) (at_ most : Int) (w : World) (hs : s.size ≤ 1000000) (hm : -9223372036854775808 ≤ most ∧ most ≤ 9223372036854775807) :
    Calls Try.prog 66 #[.string s, .int .i64 at_, .int .i64 most] w fun e w' => e = .returned (gotTV (rdt s.data.toList at_ most)) ∧ Below w.heap.size w w' := by
  cases hr : rd s.data.toList at_ with
  | none =>
    have hf : rdt s.data.toList at_ most = none := by rw [rdt, hr]
    have HF := Lib.hid hf
    have HR := Lib.hid hr
    clear hf hr
    go_enter Try.func66, Try.ntmps66
    go_wp2_with fail
    refine (refRead_any s at_ _ hs).mono ?_
    rintro e w1 ⟨rfl, hb⟩
    rw [HR.out]
    simp only [gotV]
    have c1 : w1.cell? ⟨w.heap.size, 0, none⟩ = some (.string ⟨#[]⟩) := (hb.cell (p := ⟨w.heap.size, 0, none⟩) (by simp)).trans (by simp)
    have c2 : w1.cell? ⟨w.heap.size, 1, none⟩ = some (.int .i64 0) := (hb.cell (p := ⟨w.heap.size, 1, none⟩) (by simp)).trans (by simp)
    have f1 : w1.frozen? ⟨w.heap.size, 0, none⟩ = false := (hb.frozen (p := ⟨w.heap.size, 0, none⟩) (by simp)).trans (by simp)
    have f2 : w1.frozen? ⟨w.heap.size, 1, none⟩ = false := (hb.frozen (p := ⟨w.heap.size, 1, none⟩) (by simp)).trans (by simp)
    have hz : w.heap.size < w1.heap.size := by have := hb.size; simp at this; omega
    have hbw : Below w.heap.size w w1 := bstep ((Below.refl _ w).alloc (Nat.le_refl _) _) hb
    clear hb
    go_wp2
    refine bodyPost_ret (v := .agg #[.string ⟨#[]⟩, .int .i64 0]) (by simp [results, Try.results66, go_sem, c1, c2, hz]) rfl ⟨?_, ?_⟩
    · rw [HF.out]
      rfl
    · exact balloc ((hbw.setCell (Nat.le_refl _) _).setCell (Nat.le_refl _) _) _
  | some x =>
    obtain ⟨n, k⟩ := x
    obtain ⟨h1, h2, h3, h4⟩ := rd_some hr
    have h2 : k ≤ s.size := by simpa using h2
    have hk0 : ((k : Int) == 0) = false := by simp; omega
    have HR := Lib.hid hr
    by_cases c : most < (n : Int) ∨ s.size < k + n
    · have hf : rdt s.data.toList at_ most = none := by rw [rdt, hr]; simp only; rw [if_pos (by simpa using c)]
      have HF := Lib.hid hf
      clear hf hr
      by_cases g1 : most < 0
      · clear c h1
        go_enter Try.func66, Try.ntmps66
        go_wp2_with fail
        refine (refRead_any s at_ _ hs).mono ?_
        rintro e w1 ⟨rfl, hb⟩
        rw [HR.out]
        simp only [gotV]
        have c1 : w1.cell? ⟨w.heap.size, 0, none⟩ = some (.string ⟨#[]⟩) := (hb.cell (p := ⟨w.heap.size, 0, none⟩) (by simp)).trans (by simp)
        have c2 : w1.cell? ⟨w.heap.size, 1, none⟩ = some (.int .i64 0) := (hb.cell (p := ⟨w.heap.size, 1, none⟩) (by simp)).trans (by simp)
        have f1 : w1.frozen? ⟨w.heap.size, 0, none⟩ = false := (hb.frozen (p := ⟨w.heap.size, 0, none⟩) (by simp)).trans (by simp)
        have f2 : w1.frozen? ⟨w.heap.size, 1, none⟩ = false := (hb.frozen (p := ⟨w.heap.size, 1, none⟩) (by simp)).trans (by simp)
        have hz : w.heap.size < w1.heap.size := by have := hb.size; simp at this; omega
        have hbw : Below w.heap.size w w1 := bstep ((Below.refl _ w).alloc (Nat.le_refl _) _) hb
        clear hb
        go_wp2
        refine bodyPost_ret (v := .agg #[.string ⟨#[]⟩, .int .i64 0]) (by simp [results, Try.results66, go_sem, c1, c2, hz]) rfl ⟨?_, ?_⟩
        · rw [HF.out]
          rfl
        · exact balloc ((hbw.setCell (Nat.le_refl _) _).setCell (Nat.le_refl _) _) _
      · by_cases g2 : most < (n : Int)
        · clear c
          go_enter Try.func66, Try.ntmps66
          go_wp2_with fail
          refine (refRead_any s at_ _ hs).mono ?_
          rintro e w1 ⟨rfl, hb⟩
          rw [HR.out]
          simp only [gotV]
          have c1 : w1.cell? ⟨w.heap.size, 0, none⟩ = some (.string ⟨#[]⟩) := (hb.cell (p := ⟨w.heap.size, 0, none⟩) (by simp)).trans (by simp)
          have c2 : w1.cell? ⟨w.heap.size, 1, none⟩ = some (.int .i64 0) := (hb.cell (p := ⟨w.heap.size, 1, none⟩) (by simp)).trans (by simp)
          have f1 : w1.frozen? ⟨w.heap.size, 0, none⟩ = false := (hb.frozen (p := ⟨w.heap.size, 0, none⟩) (by simp)).trans (by simp)
          have f2 : w1.frozen? ⟨w.heap.size, 1, none⟩ = false := (hb.frozen (p := ⟨w.heap.size, 1, none⟩) (by simp)).trans (by simp)
          have hz : w.heap.size < w1.heap.size := by have := hb.size; simp at this; omega
          have hbw : Below w.heap.size w w1 := bstep ((Below.refl _ w).alloc (Nat.le_refl _) _) hb
          clear hb
          go_wp2
          refine bodyPost_ret (v := .agg #[.string ⟨#[]⟩, .int .i64 0]) (by simp [results, Try.results66, go_sem, c1, c2, hz]) rfl ⟨?_, ?_⟩
          · rw [HF.out]
            rfl
          · exact balloc ((hbw.setCell (Nat.le_refl _) _).setCell (Nat.le_refl _) _) _
        · have g3 : (s.size : Int) - k < n := by omega
          clear c
          go_enter Try.func66, Try.ntmps66
          go_wp2_with fail
          refine (refRead_any s at_ _ hs).mono ?_
          rintro e w1 ⟨rfl, hb⟩
          rw [HR.out]
          simp only [gotV]
          have c1 : w1.cell? ⟨w.heap.size, 0, none⟩ = some (.string ⟨#[]⟩) := (hb.cell (p := ⟨w.heap.size, 0, none⟩) (by simp)).trans (by simp)
          have c2 : w1.cell? ⟨w.heap.size, 1, none⟩ = some (.int .i64 0) := (hb.cell (p := ⟨w.heap.size, 1, none⟩) (by simp)).trans (by simp)
          have f1 : w1.frozen? ⟨w.heap.size, 0, none⟩ = false := (hb.frozen (p := ⟨w.heap.size, 0, none⟩) (by simp)).trans (by simp)
          have f2 : w1.frozen? ⟨w.heap.size, 1, none⟩ = false := (hb.frozen (p := ⟨w.heap.size, 1, none⟩) (by simp)).trans (by simp)
          have hz : w.heap.size < w1.heap.size := by have := hb.size; simp at this; omega
          have hbw : Below w.heap.size w w1 := bstep ((Below.refl _ w).alloc (Nat.le_refl _) _) hb
          clear hb
          go_wp2
          refine bodyPost_ret (v := .agg #[.string ⟨#[]⟩, .int .i64 0]) (by simp [results, Try.results66, go_sem, c1, c2, hz]) rfl ⟨?_, ?_⟩
          · rw [HF.out]
            rfl
          · exact balloc ((hbw.setCell (Nat.le_refl _) _).setCell (Nat.le_refl _) _) _
    · have hf : rdt s.data.toList at_ most = some ((s.data.toList.drop k).take n, k + n) := by rw [rdt, hr]; simp only; rw [if_neg (by simpa using c)]
      have HF := Lib.hid hf
      clear hf hr
      have g0 : 0 ≤ most := by omega
      have g1 : (n : Int) ≤ most := by omega
      have g2 : k + n ≤ s.size := by omega
      have hsl : ∀ w', (Instr.slice 9 (.string s) (some (.int .i64 (k : Int))) (some (.int .i64 ((k : Int) + n))) none).run Try.prog w' = .ok (.string (s.extract k (k + n))) w' := by
        intro w'
        have h := run_slice_string (P := Try.prog) (w := w') 9 s .i64 .i64 k (k + n) Try.underlying9 (by omega) (by omega) (by omega)
        rw [show ((k : Int) + n).toNat = k + n from by omega, Int.toNat_natCast] at h
        exact h
      have HS := Lib.hid hsl
      clear c hsl
      go_enter Try.func66, Try.ntmps66
      go_wp2_with fail
      refine (refRead_any s at_ _ hs).mono ?_
      rintro e w1 ⟨rfl, hb⟩
      rw [HR.out]
      simp only [gotV]
      have c1 : w1.cell? ⟨w.heap.size, 0, none⟩ = some (.string ⟨#[]⟩) := (hb.cell (p := ⟨w.heap.size, 0, none⟩) (by simp)).trans (by simp)
      have c2 : w1.cell? ⟨w.heap.size, 1, none⟩ = some (.int .i64 0) := (hb.cell (p := ⟨w.heap.size, 1, none⟩) (by simp)).trans (by simp)
      have f1 : w1.frozen? ⟨w.heap.size, 0, none⟩ = false := (hb.frozen (p := ⟨w.heap.size, 0, none⟩) (by simp)).trans (by simp)
      have f2 : w1.frozen? ⟨w.heap.size, 1, none⟩ = false := (hb.frozen (p := ⟨w.heap.size, 1, none⟩) (by simp)).trans (by simp)
      have hz : w.heap.size < w1.heap.size := by have := hb.size; simp at this; omega
      have hbw : Below w.heap.size w w1 := bstep ((Below.refl _ w).alloc (Nat.le_refl _) _) hb
      clear hb
      have hsl := HS.out
      go_wp2
      refine bodyPost_ret (v := .agg #[.string (s.extract k (k + n)), .int .i64 ((k : Int) + n)]) (by simp [results, Try.results66, go_sem, c1, c2, hz]) rfl ⟨?_, ?_⟩
      · rw [HF.out]
        exact ret_gotT (by rw [Lib.extract_data]; simp) (by omega)
      · exact balloc ((hbw.setCell (Nat.le_refl _) _).setCell (Nat.le_refl _) _) _

end Go.Proofs.Ytplpeokmhomojaa
/- What the document's own Read of stamps answers. -/
namespace Go.Proofs.Ytplpeokmhomojaa
open Go.RowKit
set_option linter.unusedVariables false

/-- The answer of the document's Read, as a value. -/
def sgV : Option ((Int × Int) × Nat) → Value
  | none => .agg #[.int .i64 0, .int .i64 0, .int .i64 0]
  | some (p, e) => .agg #[.int .i64 p.1, .int .i64 p.2, .int .i64 (e : Int)]

/-- A variable of three cells: block b holds it, and may be written. -/
structure Var3 (w : World) (b : Nat) (x y z : Value) : Prop where
  c0 : w.cell? ⟨b, 0, none⟩ = some x
  c1 : w.cell? ⟨b, 1, none⟩ = some y
  c2 : w.cell? ⟨b, 2, none⟩ = some z
  f0 : w.frozen? ⟨b, 0, none⟩ = false
  f1 : w.frozen? ⟨b, 1, none⟩ = false
  f2 : w.frozen? ⟨b, 2, none⟩ = false
theorem Var3.keep {w w' : World} {b : Nat} {x y z : Value} (hb : Below w.heap.size w w') (h : Var3 w b x y z) : Var3 w' b x y z :=
  ⟨kc hb h.c0, kc hb h.c1, kc hb h.c2, (hb.frozen (p := ⟨b, 0, none⟩) (lt_of_cellN h.c0)).trans h.f0, (hb.frozen (p := ⟨b, 1, none⟩) (lt_of_cellN h.c0)).trans h.f1, (hb.frozen (p := ⟨b, 2, none⟩) (lt_of_cellN h.c0)).trans h.f2⟩
theorem Var3.new (w : World) (T : TypeId) (x y z : Value) : Var3 (w.alloc (.cells #[x, y, z] T)) w.heap.size x y z := ⟨by simp, by simp, by simp, by simp, by simp, by simp⟩
theorem Var3.put {w : World} {b : Nat} {x y z : Value} (h : Var3 w b x y z) (x' y' z' : Value) : Var3 (((w.setCell ⟨b, 0, none⟩ x').setCell ⟨b, 1, none⟩ y').setCell ⟨b, 2, none⟩ z') b x' y' z' := by
  have s0 : (w.setCell ⟨b, 0, none⟩ x').cell? ⟨b, 0, none⟩ = some x' := World.cell?_setCell_same _ _ _ h.c0
  have s1 : (w.setCell ⟨b, 0, none⟩ x').cell? ⟨b, 1, none⟩ = some y := by
    rw [World.cell?_setCell_other _ _ _ _ (by simp)]; exact h.c1
  have t1 : ((w.setCell ⟨b, 0, none⟩ x').setCell ⟨b, 1, none⟩ y').cell? ⟨b, 1, none⟩ = some y' := World.cell?_setCell_same _ _ _ s1
  have t2 : ((w.setCell ⟨b, 0, none⟩ x').setCell ⟨b, 1, none⟩ y').cell? ⟨b, 2, none⟩ = some z := by
    rw [World.cell?_setCell_other _ _ _ _ (by simp), World.cell?_setCell_other _ _ _ _ (by simp)]; exact h.c2
  refine ⟨?_, ?_, World.cell?_setCell_same _ _ _ t2, by simpa using h.f0, by simpa using h.f1, by simpa using h.f2⟩
  · rw [World.cell?_setCell_other _ _ _ _ (by simp), World.cell?_setCell_other _ _ _ _ (by simp)]; exact s0
  · rw [World.cell?_setCell_other _ _ _ _ (by simp)]; exact t1
theorem below_put3S {w w' : World} {n b : Nat} (hb : Below n w w') (h : n ≤ b) (x y z : Value) : Below n w (((w'.setCell ⟨b, 0, none⟩ x).setCell ⟨b, 1, none⟩ y).setCell ⟨b, 2, none⟩ z) := ((hb.setCell h _).setCell h _).setCell h _

set_option maxRecDepth 100000 in
set_option maxHeartbeats 1000000 in
theorem refSRead_any (s : ByteArray) (at_ : Int) (w : World) (hs : s.size ≤ 1000000) :
    Calls Try.prog 67 #[.string s, .int .i64 at_] w fun e w' => e = .returned (sgV (Sm.rdS (rd s.data.toList) at_)) ∧ Below w.heap.size w w' := by
  cases h : rd s.data.toList at_ with
  | none =>
    have he : Sm.rdS (rd s.data.toList) at_ = none := by simp [Sm.rdS, h]
    rw [he]
    have H := Lib.hid h
    clear h he
    go_enter Try.func67, Try.ntmps67
    go_wp2_with fail
    refine (refRead_any s at_ _ hs).mono ?_
    rintro _ w1 ⟨rfl, hb⟩
    rw [H.out, gotV]
    have hv := (Var3.new w 99 (.int .i64 0) (.int .i64 0) (.int .i64 0)).keep hb
    have hz := lt_of_cellN hv.c0
    have hb2 := bstep (balloc (Below.refl _ w) _) hb
    have HV := Lib.hid hv
    obtain ⟨c0, c1, c2, f0, f1, f2⟩ := hv
    clear hb
    go_wp2
    have hw := (HV.out.put (.int .i64 0) (.int .i64 0) (.int .i64 0)).keep (balloc (Below.refl _ _) (.cells #[.int .u64 0, .int .i64 0] 93))
    refine bodyPost_ret (v := sgV none) (by simp [results, Try.results67, go_sem, sgV, hw.c0, hw.c1, hw.c2]) rfl ⟨rfl, balloc (below_put3S hb2 (Nat.le_refl _) _ _ _) _⟩
  | some x =>
    obtain ⟨n, m⟩ := x
    obtain ⟨hn, hm, hge, hgt⟩ := rd_bounds h
    have hm' : m ≤ s.size := by simpa using hm
    have hm0 : ((m : Int) == 0) = false := by simp; omega
    have hm1 : (m == 0) = false := by simp; omega
    have H := Lib.hid h
    clear hge hgt
    cases h2 : rd s.data.toList (m : Int) with
    | none =>
      have he : Sm.rdS (rd s.data.toList) at_ = none := by simp [Sm.rdS, h, h2]
      rw [he]
      have H2 := Lib.hid h2
      clear h h2 he hm hn
      go_enter Try.func67, Try.ntmps67
      go_wp2_with fail
      refine (refRead_any s at_ _ hs).mono ?_
      rintro _ w1 ⟨rfl, hb⟩
      rw [H.out, gotV]
      have hv := (Var3.new w 99 (.int .i64 0) (.int .i64 0) (.int .i64 0)).keep hb
      have hz := lt_of_cellN hv.c0
      have hb2 := bstep (balloc (Below.refl _ w) _) hb
      have HV := Lib.hid hv
      clear hb hv
      go_wp2_with fail
      refine (refRead_any s m _ hs).mono ?_
      rintro _ w2 ⟨rfl, hb⟩
      rw [H2.out, gotV]
      have hv := (HV.out.keep (balloc (Below.refl _ _) (.cells #[.int .u64 n, .int .i64 m] 93))).keep hb
      have d0 : w2.cell? ⟨w1.heap.size, 0, none⟩ = some (.int .u64 n) := kc hb (by simp)
      have d1 : w2.cell? ⟨w1.heap.size, 1, none⟩ = some (.int .i64 m) := kc hb (by simp)
      have hz2 := lt_of_cellN d0
      have hz3 : w.heap.size < w2.heap.size := by omega
      have hb3 := bstep (balloc hb2 _) hb
      have HV2 := Lib.hid hv
      obtain ⟨c0, c1, c2, f0, f1, f2⟩ := hv
      clear hb hb2 HV
      go_wp2
      have hw := (HV2.out.put (.int .i64 0) (.int .i64 0) (.int .i64 0)).keep (balloc (Below.refl _ _) (.cells #[.int .u64 0, .int .i64 0] 93))
      refine bodyPost_ret (v := sgV none) (by simp [results, Try.results67, go_sem, sgV, hw.c0, hw.c1, hw.c2]) rfl ⟨rfl, balloc (below_put3S hb3 (Nat.le_refl _) _ _ _) _⟩
    | some y =>
      obtain ⟨k, e⟩ := y
      obtain ⟨hk, hq, hge, hgt⟩ := rd_bounds h2
      have hq' : e ≤ s.size := by simpa using hq
      have he0 : ((e : Int) == 0) = false := by simp; omega
      have he1 : (e == 0) = false := by simp; omega
      have he : Sm.rdS (rd s.data.toList) at_ = if Sm.ok n k = true then some (((n : Int), (k : Int)), e) else none := by simp [Sm.rdS, h, h2]
      have H2 := Lib.hid h2
      clear h h2 hm hq hk hn hge hgt
      by_cases hbig : n ≤ 1099511627776 ∧ k ≤ 5
      · obtain ⟨g1, g2⟩ := hbig
        have t1 : decide ((1099511627776 : Int) < (n : Int)) = false := by simp; omega
        have t1' : decide (1099511627776 < n) = false := by simp; omega
        have t2 : decide ((5 : Int) < (k : Int)) = false := by simp; omega
        have t2' : decide (5 < k) = false := by simp; omega
        cases ho : Sm.ok n k with
        | false =>
          rw [ho, if_neg (by simp)] at he
          rw [he]
          have HO := Lib.hid ho
          clear he ho
          go_enter Try.func67, Try.ntmps67
          go_wp2_with fail
          refine (refRead_any s at_ _ hs).mono ?_
          rintro _ w1 ⟨rfl, hb⟩
          rw [H.out, gotV]
          have hv := (Var3.new w 99 (.int .i64 0) (.int .i64 0) (.int .i64 0)).keep hb
          have hz := lt_of_cellN hv.c0
          have hb2 := bstep (balloc (Below.refl _ w) _) hb
          have HV := Lib.hid hv
          clear hb hv
          go_wp2_with fail
          refine (refRead_any s m _ hs).mono ?_
          rintro _ w2 ⟨rfl, hb⟩
          rw [H2.out, gotV]
          have hv := (HV.out.keep (balloc (Below.refl _ _) (.cells #[.int .u64 n, .int .i64 m] 93))).keep hb
          have d0 : w2.cell? ⟨w1.heap.size, 0, none⟩ = some (.int .u64 n) := kc hb (by simp)
          have d1 : w2.cell? ⟨w1.heap.size, 1, none⟩ = some (.int .i64 m) := kc hb (by simp)
          have hz2 := lt_of_cellN d0
          have hz3 : w.heap.size < w2.heap.size := by omega
          have hb3 := bstep (balloc hb2 _) hb
          have HV2 := Lib.hid hv
          clear hb hb2 HV hv
          go_wp2_with fail
          refine (refSCheck_any n k _).mono ?_
          rintro _ w3 ⟨rfl, hb⟩
          rw [HO.out]
          have a1 := balloc (Below.refl _ w2) (.cells #[.int .u64 k, .int .i64 e] 93)
          have a2 := balloc a1 (.cells #[.int .i64 n, .int .i64 k] 24)
          have a3 := bstep a2 hb
          have hv := HV2.out.keep a3
          have d0 : w3.cell? ⟨w2.heap.size, 0, none⟩ = some (.int .u64 k) := kc hb (by simp)
          have d1 : w3.cell? ⟨w2.heap.size, 1, none⟩ = some (.int .i64 e) := kc hb (by simp)
          have d2 : w3.cell? ⟨w2.heap.size + 1, 0, none⟩ = some (.int .i64 n) := kc hb (by simp)
          have d3 : w3.cell? ⟨w2.heap.size + 1, 1, none⟩ = some (.int .i64 k) := kc hb (by simp)
          have hz4 := lt_of_cellN d2
          have hz5 : w.heap.size < w3.heap.size := by omega
          have hb4 := bstep hb3 a3
          have HV3 := Lib.hid hv
          obtain ⟨c0, c1, c2, f0, f1, f2⟩ := hv
          clear hb hb3 HV2 a1 a2 a3
          go_wp2
          have hw := (HV3.out.put (.int .i64 0) (.int .i64 0) (.int .i64 0))
          refine bodyPost_ret (v := sgV none) (by simp [results, Try.results67, go_sem, sgV, hw.c0, hw.c1, hw.c2]) rfl ⟨rfl, below_put3S hb4 (Nat.le_refl _) _ _ _⟩
        | true =>
          rw [ho, if_pos rfl] at he
          rw [he]
          have HO := Lib.hid ho
          clear he ho
          go_enter Try.func67, Try.ntmps67
          go_wp2_with fail
          refine (refRead_any s at_ _ hs).mono ?_
          rintro _ w1 ⟨rfl, hb⟩
          rw [H.out, gotV]
          have hv := (Var3.new w 99 (.int .i64 0) (.int .i64 0) (.int .i64 0)).keep hb
          have hz := lt_of_cellN hv.c0
          have hb2 := bstep (balloc (Below.refl _ w) _) hb
          have HV := Lib.hid hv
          clear hb hv
          go_wp2_with fail
          refine (refRead_any s m _ hs).mono ?_
          rintro _ w2 ⟨rfl, hb⟩
          rw [H2.out, gotV]
          have hv := (HV.out.keep (balloc (Below.refl _ _) (.cells #[.int .u64 n, .int .i64 m] 93))).keep hb
          have d0 : w2.cell? ⟨w1.heap.size, 0, none⟩ = some (.int .u64 n) := kc hb (by simp)
          have d1 : w2.cell? ⟨w1.heap.size, 1, none⟩ = some (.int .i64 m) := kc hb (by simp)
          have hz2 := lt_of_cellN d0
          have hz3 : w.heap.size < w2.heap.size := by omega
          have hb3 := bstep (balloc hb2 _) hb
          have HV2 := Lib.hid hv
          clear hb hb2 HV hv
          go_wp2_with fail
          refine (refSCheck_any n k _).mono ?_
          rintro _ w3 ⟨rfl, hb⟩
          rw [HO.out]
          have a1 := balloc (Below.refl _ w2) (.cells #[.int .u64 k, .int .i64 e] 93)
          have a2 := balloc a1 (.cells #[.int .i64 n, .int .i64 k] 24)
          have a3 := bstep a2 hb
          have hv := HV2.out.keep a3
          have d0 : w3.cell? ⟨w2.heap.size, 0, none⟩ = some (.int .u64 k) := kc hb (by simp)
          have d1 : w3.cell? ⟨w2.heap.size, 1, none⟩ = some (.int .i64 e) := kc hb (by simp)
          have d2 : w3.cell? ⟨w2.heap.size + 1, 0, none⟩ = some (.int .i64 n) := kc hb (by simp)
          have d3 : w3.cell? ⟨w2.heap.size + 1, 1, none⟩ = some (.int .i64 k) := kc hb (by simp)
          have hz4 := lt_of_cellN d2
          have hz5 : w.heap.size < w3.heap.size := by omega
          have hb4 := bstep hb3 a3
          have HV3 := Lib.hid hv
          obtain ⟨c0, c1, c2, f0, f1, f2⟩ := hv
          clear hb hb3 HV2 a1 a2 a3
          go_wp2
          have hw := (HV3.out.put (.int .i64 n) (.int .i64 k) (.int .i64 e))
          refine bodyPost_ret (v := sgV (some ((n, k), e))) (by simp [results, Try.results67, go_sem, sgV, hw.c0, hw.c1, hw.c2]) rfl ⟨rfl, below_put3S hb4 (Nat.le_refl _) _ _ _⟩
      · have ho : Sm.ok n k = false := by
          simp only [Sm.ok, decide_eq_false_iff_not]
          omega
        rw [ho, if_neg (by simp)] at he
        rw [he]
        clear he ho
        have hcs : (decide ((1099511627776 : Int) < (n : Int)) = true ∧ decide (1099511627776 < n) = true) ∨ ((decide ((1099511627776 : Int) < (n : Int)) = false ∧ decide (1099511627776 < n) = false) ∧ decide ((5 : Int) < (k : Int)) = true ∧ decide (5 < k) = true) := by
          simp only [decide_eq_true_eq, decide_eq_false_iff_not]
          omega
        clear hbig
        rcases hcs with ⟨t1, t1'⟩ | ⟨⟨t1, t1'⟩, t2, t2'⟩
        all_goals
          go_enter Try.func67, Try.ntmps67
          go_wp2_with fail
          refine (refRead_any s at_ _ hs).mono ?_
          rintro _ w1 ⟨rfl, hb⟩
          rw [H.out, gotV]
          have hv := (Var3.new w 99 (.int .i64 0) (.int .i64 0) (.int .i64 0)).keep hb
          have hz := lt_of_cellN hv.c0
          have hb2 := bstep (balloc (Below.refl _ w) _) hb
          have HV := Lib.hid hv
          clear hb hv
          go_wp2_with fail
          refine (refRead_any s m _ hs).mono ?_
          rintro _ w2 ⟨rfl, hb⟩
          rw [H2.out, gotV]
          have hv := (HV.out.keep (balloc (Below.refl _ _) (.cells #[.int .u64 n, .int .i64 m] 93))).keep hb
          have d0 : w2.cell? ⟨w1.heap.size, 0, none⟩ = some (.int .u64 n) := kc hb (by simp)
          have d1 : w2.cell? ⟨w1.heap.size, 1, none⟩ = some (.int .i64 m) := kc hb (by simp)
          have hz2 := lt_of_cellN d0
          have hz3 : w.heap.size < w2.heap.size := by omega
          have hb3 := bstep (balloc hb2 _) hb
          have HV2 := Lib.hid hv
          obtain ⟨c0, c1, c2, f0, f1, f2⟩ := hv
          clear hb hb2 HV
          go_wp2
          have hw := (HV2.out.put (.int .i64 0) (.int .i64 0) (.int .i64 0)).keep (balloc (Below.refl _ _) (.cells #[.int .u64 k, .int .i64 e] 93))
          refine bodyPost_ret (v := sgV none) (by simp [results, Try.results67, go_sem, sgV, hw.c0, hw.c1, hw.c2]) rfl ⟨rfl, balloc (below_put3S hb3 (Nat.le_refl _) _ _ _) _⟩
end Go.Proofs.Ytplpeokmhomojaa
