/- What the document's Read answers. -/
import Derived.Test.YtllagelopdedfaaGW27
import Derived.Test.YtllagelopdedfaaRefMath
import Derived.Deep.Cut
import Derived.LoopN
import Derived.Deep.DeepCutAuto
namespace Go.Proofs.Ytllagelopdedfaa
open Go.RowKit
set_option linter.unusedVariables false

def m64 (n : Nat) : Nat := n % 18446744073709551616
theorem m64_lt (n : Nat) : m64 n < 18446744073709551616 := Nat.mod_lt _ (by omega)

/-- The answer of the document's Read. -/
def gotV : Option (Nat × Nat) → Value
  | none => .agg #[.int .u64 0, .int .i64 0]
  | some (n, e) => .agg #[.int .u64 (n : Int), .int .i64 (e : Int)]

theorem ret_got {n e : Nat} {y : Int} (hy : y = (e : Int)) : Ending.returned (.agg #[.int .u64 (n : Int), .int .i64 y]) = .returned (gotV (some (n, e))) := by
  subst hy; rfl
theorem wrap_nat (x : Nat) : IntKind.u64.wrap (x : Int) = (m64 x : Int) := by
  rw [IntKind.wrap_u64, m64]
  omega
theorem step_n (t : List UInt8) (k c nn bb : Nat) (hk : k < t.length) (hc : t[k].toNat = c) (hn : m64 (Vm.val (t.take k)) = nn) (hb : m64 (128 ^ k) = bb) :
    IntKind.u64.wrap ((nn : Int) + IntKind.u64.wrap ((c : Int) % 128 * (bb : Int))) = (m64 (Vm.val (t.take (k + 1))) : Int) := by
  have e1 : ((c : Int) % 128 * (bb : Int)) = ((c % 128 * bb : Nat) : Int) := by simp
  rw [e1, wrap_nat, ← Int.natCast_add, wrap_nat, List.take_succ_eq_append_getElem hk, Vm.val_snoc, hc, List.length_take, Nat.min_eq_left (by omega), ← hn, ← hb]
  congr 1
  simp only [m64]
  rw [Nat.add_mod, Nat.mod_mod, Nat.mod_mod, ← Nat.add_mod, Nat.add_mod _ (c % 128 * _), Nat.add_mod _ (c % 128 * 128 ^ k)]
  congr 2
  rw [Nat.mul_mod, Nat.mod_mod, ← Nat.mul_mod]
theorem step_b (k bb : Nat) (hb : m64 (128 ^ k) = bb) : IntKind.u64.wrap ((bb : Int) * 128) = (m64 (128 ^ (k + 1)) : Int) := by
  have e1 : ((bb : Int) * 128) = ((bb * 128 : Nat) : Int) := by simp
  rw [e1, wrap_nat, ← hb]
  congr 1
  simp only [m64]
  rw [Nat.pow_succ, Nat.mul_mod, Nat.mod_mod, ← Nat.mul_mod]

set_option maxRecDepth 100000 in
set_option maxHeartbeats 800000 in
theorem refRead_in (s : ByteArray) (a : Nat) (w : World) (hs : s.size ≤ 1000000) (h : a ≤ s.size) :
    Calls Try.prog 95 #[.string s, .int .i64 a] w fun e w' => e = .returned (gotV ((Vm.dec 0 (s.data.toList.drop a)).map fun x => (x.1, a + x.2))) ∧ Below w.heap.size w w' := by
  have h0 : decide ((a : Int) < 0) = false := by simp
  go_enter Try.func95, Try.ntmps95
  go_wp2
  go_loop [5, 6, 7] (fun n b i => ∃ k p : Nat, k ≤ 10 ∧ p ≤ s.size ∧ p = a + k ∧ i = .int .i64 (p : Int) ∧ n = .int .u64 (m64 (Vm.val ((s.data.toList.drop a).take k)) : Int) ∧ b = .int .u64 (m64 (128 ^ k) : Int) ∧
      ∀ j (hj : j < (s.data.toList.drop a).length), j < k → 128 ≤ (s.data.toList.drop a)[j].toNat) (fun _ _ i => s.size - (intOf i).toNat)
  case atStart => exact ⟨0, a, by omega, by omega, rfl, rfl, rfl, rfl, fun j hj h => absurd h (by omega)⟩
  case round =>
    obtain ⟨k, p, hk, hka, hp, rfl, rfl, rfl, hgo⟩ := hrel
    have HP := Lib.hid hp
    have HG := Lib.hid hgo
    clear hgo
    by_cases hlt : p < s.size ∧ p < a + 10
    · obtain ⟨hl1, hl2⟩ := hlt
      have hl3 : a ≤ p := by omega
      have HL2 := Lib.hid hl2
      have HL3 := Lib.hid hl3
      have g2 : decide ((p : Int) < (a : Int) + 10) = true := by simp; omega
      clear hp hl2 hl3
      generalize hN : m64 (Vm.val ((s.data.toList.drop a).take k)) = nn
      generalize hB : m64 (128 ^ k) = bb
      have hnn : (nn : Int) < 18446744073709551616 := by rw [← hN]; have := m64_lt (Vm.val ((s.data.toList.drop a).take k)); omega
      have hbb : (bb : Int) < 18446744073709551616 := by rw [← hB]; have := m64_lt (128 ^ k); omega
      have HN := Lib.hid hN
      have HB := Lib.hid hB
      have HNN := Lib.hid hnn
      have HBB := Lib.hid hbb
      clear hN hB hnn hbb
      go_upto_region 9 with (fail)
      clear g2
      rw [IntWalk.u64_in _ (by have := s[p].toNat_lt; omega)]
      have hc256 : s[p].toNat < 256 := s[p].toNat_lt
      have hkt : k < (s.data.toList.drop a).length := by simp; have := HP.out; have e : s.data.size = s.size := rfl; omega
      have htk : (s.data.toList.drop a)[k].toNat = s[p].toNat := by
        simp only [List.getElem_drop, ← HP.out]
        rfl
      generalize s[p].toNat = c at hc256 htk ⊢
      have en := step_n _ k c nn bb hkt htk HN.out HB.out
      have eb := step_b k bb HB.out
      have HT := Lib.hid (show ∃ h : k < (s.data.toList.drop a).length, (s.data.toList.drop a)[k].toNat = c from ⟨hkt, htk⟩)
      have EN := Lib.hid en
      have EB := Lib.hid eb
      clear htk hkt en eb
      go_upto_region 11 with (fail)
      rw [EN.out, EB.out]
      clear EN EB HN HB
      generalize hN2 : m64 (Vm.val ((s.data.toList.drop a).take (k + 1))) = n2
      generalize hB2 : m64 (128 ^ (k + 1)) = b2
      have HN2 := Lib.hid hN2
      have HB2 := Lib.hid hB2
      clear hN2 hB2
      have HBEL : Hid (Below w.heap.size w (w.alloc (.cells #[.int .u64 0, .int .i64 0] 132))) := (Below.refl _ w).alloc (Nat.le_refl _) _
      by_cases hc : c < 128
      · have hd : Vm.dec 0 (s.data.toList.drop a) = if Vm.enc n2 = (s.data.toList.drop a).take (k + 1) then some (n2, k + 1) else none := by
          have := Vm.dec_at HT.out.1 HG.out (by have := HT.out.2; omega)
          rw [this]
          have e : Vm.val ((s.data.toList.drop a).take (k + 1)) % 18446744073709551616 = n2 := HN2.out
          rw [e]
        have hn2 : n2 < 18446744073709551616 := by rw [← HN2.out]; exact m64_lt _
        have hq10 := Vm.enc_len10 hn2
        have HD := Lib.hid hd
        have HN := Lib.hid hn2
        have hx : (s.extract a (p + 1)).toList = (s.data.toList.drop a).take (k + 1) := by
          rw [ByteArray.toList_eq, Lib.extract_data]
          congr 1
          have := HP.out
          omega
        have HX := Lib.hid hx
        have hsl : ∀ w', (Instr.slice 9 (.string s) (some (.int .i64 (a : Int))) (some (.int .i64 ((p : Int) + 1))) none).run Try.prog w' = .ok (.string (s.extract a (p + 1))) w' := by
          intro w'
          have h := run_slice_string (P := Try.prog) (w := w') 9 s .i64 .i64 a ((p : Int) + 1) Try.underlying9 (by omega) (by have := HL3.out; omega) (by omega)
          rw [show ((p : Int) + 1).toNat = p + 1 from by omega, Int.toNat_natCast] at h
          exact h
        have hwr : IntKind.i64.wrap ((p : Int) + 1) = (p : Int) + 1 := IntWalk.i64_in _ (by omega)
        have hdc : decide ((c : Int) < 128) = true := by simp; omega
        clear hd hx hn2 hc hc256
        by_cases hq : Vm.enc n2 = (s.data.toList.drop a).take (k + 1)
        · have hne : (Vm.enc n2 == (s.extract a (p + 1)).toList) = true := by rw [HX.out, hq]; simp
          have HQ := Lib.hid hq
          clear hq
          go_upto_region 12 with (fail)
          go_region_held3 (fun w' => True) (trivial) (first | (go_at_call 65; ((with_reducible refine (refNumber n2 _ HN.out).mono ?_); rintro e w2 ⟨rfl, hb2⟩)))
          have c1 : w2.cell? ⟨w.heap.size, 0, none⟩ = some (.int .u64 0) := (hb2.cell (p := ⟨w.heap.size, 0, none⟩) (by simp)).trans (by simp)
          have c2 : w2.cell? ⟨w.heap.size, 1, none⟩ = some (.int .i64 0) := (hb2.cell (p := ⟨w.heap.size, 1, none⟩) (by simp)).trans (by simp)
          have f1 : w2.frozen? ⟨w.heap.size, 0, none⟩ = false := (hb2.frozen (p := ⟨w.heap.size, 0, none⟩) (by simp)).trans (by simp)
          have f2 : w2.frozen? ⟨w.heap.size, 1, none⟩ = false := (hb2.frozen (p := ⟨w.heap.size, 1, none⟩) (by simp)).trans (by simp)
          have hb3 := bstep HBEL.out.drew hb2
          clear hb2 hwr hsl
          go_wp2
          refine bodyPost_ret (v := .agg #[.int .u64 (n2 : Int), .int .i64 ((p : Int) + 1)]) (by simp [results, Try.results95, go_sem, c1, c2]) rfl ⟨?_, ?_⟩
          · rw [HD.out, if_pos HQ.out]
            exact ret_got (by have := HP.out; omega)
          · exact (hb3.setCell (Nat.le_refl _) _).setCell (Nat.le_refl _) _
        · have hne : (Vm.enc n2 == (s.extract a (p + 1)).toList) = false := by rw [HX.out]; simpa using hq
          have HQ := Lib.hid hq
          clear hq
          go_upto_region 12 with (fail)
          go_region_held3 (fun w' => True) (trivial) (first | (go_at_call 65; ((with_reducible refine (refNumber n2 _ HN.out).mono ?_); rintro e w2 ⟨rfl, hb2⟩)))
          have c1 : w2.cell? ⟨w.heap.size, 0, none⟩ = some (.int .u64 0) := (hb2.cell (p := ⟨w.heap.size, 0, none⟩) (by simp)).trans (by simp)
          have c2 : w2.cell? ⟨w.heap.size, 1, none⟩ = some (.int .i64 0) := (hb2.cell (p := ⟨w.heap.size, 1, none⟩) (by simp)).trans (by simp)
          have f1 : w2.frozen? ⟨w.heap.size, 0, none⟩ = false := (hb2.frozen (p := ⟨w.heap.size, 0, none⟩) (by simp)).trans (by simp)
          have f2 : w2.frozen? ⟨w.heap.size, 1, none⟩ = false := (hb2.frozen (p := ⟨w.heap.size, 1, none⟩) (by simp)).trans (by simp)
          have hb3 := bstep HBEL.out.drew hb2
          clear hb2 hwr hsl
          go_wp2
          refine bodyPost_ret (v := .agg #[.int .u64 0, .int .i64 0]) (by simp [results, Try.results95, go_sem, c1, c2]) rfl ⟨?_, ?_⟩
          · rw [HD.out, if_neg HQ.out]
            rfl
          · exact (hb3.setCell (Nat.le_refl _) _).setCell (Nat.le_refl _) _
      · clear hc256
        have hdc : decide ((c : Int) < 128) = false := by simp; omega
        have HC := Lib.hid hc
        clear hc
        go_wp2
        go_round
        case rel => exact ⟨k + 1, p + 1, by have := HP.out; have := HL2.out; omega, by omega, by have := HP.out; omega, by go_num, by rw [HN2.out], by rw [HB2.out], by
          intro j hj hjk
          rcases Nat.lt_or_ge j k with h1 | h1
          · exact HG.out j hj h1
          · obtain rfl : j = k := by omega
            have := HT.out.2
            have := HC.out
            omega⟩
        case measure => simp [intOf]; omega
    · have hnone : Vm.dec 0 (s.data.toList.drop a) = none := by
        refine Vm.dec_never (k := k) ?_ HG.out
        have e : (s.data.toList.drop a).length = s.size - a := by simp
        rw [e]
        omega
      have HNO := Lib.hid hnone
      have hcases : decide (p < s.size) = false ∨ (decide (p < s.size) = true ∧ decide ((p : Int) < (a : Int) + 10) = false) := by simp; omega
      have HBEL : Hid (Below w.heap.size w (w.alloc (.cells #[.int .u64 0, .int .i64 0] 132))) := (Below.refl _ w).alloc (Nat.le_refl _) _
      clear hnone hlt hp
      rcases hcases with g1 | ⟨g1, g2⟩
      all_goals
        go_wp2
        refine bodyPost_ret (v := .agg #[.int .u64 0, .int .i64 0]) (by simp [results, Try.results95, go_sem]) rfl ⟨?_, ?_⟩
        · rw [HNO.out]
          rfl
        · exact HBEL.out

set_option maxRecDepth 100000 in
theorem refRead_out (s : ByteArray) (at_ : Int) (w : World) (h : at_ < 0 ∨ (s.size : Int) < at_) :
    Calls Try.prog 95 #[.string s, .int .i64 at_] w fun e w' => e = .returned (gotV none) ∧ Below w.heap.size w w' := by
  have hbel : Below w.heap.size w (w.alloc (.cells #[.int .u64 0, .int .i64 0] 132)) := (Below.refl _ w).alloc (Nat.le_refl _) _
  have HB := Lib.hid hbel
  clear hbel
  rcases h with h | h
  · have g : decide (at_ < 0) = true := by simpa using h
    clear h
    go_enter Try.func95, Try.ntmps95
    go_wp2
    refine bodyPost_ret (v := .agg #[.int .u64 0, .int .i64 0]) (by simp [results, Try.results95, go_sem]) rfl ⟨rfl, ?_⟩
    exact HB.out
  · have g : decide (at_ < 0) = false := by simp; omega
    have g2 : decide (at_ < (s.size : Int)) = false := by simp; omega
    clear h
    go_enter Try.func95, Try.ntmps95
    go_wp2
    refine wp_loop_rounds 1 ?_
    rw [rounds_succ]
    go_wp2
    refine bodyPost_ret (v := .agg #[.int .u64 0, .int .i64 0]) (by simp [results, Try.results95, go_sem]) rfl ⟨rfl, ?_⟩
    exact HB.out

theorem refRead_any (s : ByteArray) (at_ : Int) (w : World) (hs : s.size ≤ 1000000) :
    Calls Try.prog 95 #[.string s, .int .i64 at_] w fun e w' => e = .returned (gotV (rd s.data.toList at_)) ∧ Below w.heap.size w w' := by
  by_cases h : at_ < 0 ∨ (s.size : Int) < at_
  · have e : rd s.data.toList at_ = none := by
      rw [rd, if_pos (by simpa using h)]
    rw [e]
    exact refRead_out s at_ w h
  · obtain ⟨a, rfl⟩ := Int.eq_ofNat_of_zero_le (show 0 ≤ at_ by omega)
    have e : rd s.data.toList (a : Int) = (Vm.dec 0 (s.data.toList.drop a)).map fun x => (x.1, a + x.2) := by
      rw [rd, if_neg (by simpa using h)]
      simp
    rw [e]
    exact refRead_in s a w hs (by omega)

end Go.Proofs.Ytllagelopdedfaa
