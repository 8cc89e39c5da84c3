/- The walk of the law KeysRunes. -/
import Derived.Test.YtmmgicdnbedmdaaKeysRef2
import Derived.Test.YtmmgicdnbedmdaaKeysRunesMath
import Derived.Test.YtmmgicdnbedmdaaOpen
namespace Go.Proofs.Ytmmgicdnbedmdaa
open Go.RowKit
set_option linter.unusedVariables false

/-- A slice of ints that came in: its elements, in any world that is not below. -/
theorem isRow_cell {k : IntKind} {w w1 : World} {a : Option Addr} {len cap : Nat} {zs : List Int} (h : IsRow k w a len cap zs) (hb : Below w.heap.size w w1) (i : Nat) (hi : i < len) :
    ∃ b off, a = some ⟨b, off, none⟩ ∧ w1.cell? ⟨b, off + i, none⟩ = some (.int k (zs.getD i 0)) ∧ b < w.heap.size ∧ (Lit.int k (zs.getD i 0)).wf = true := by
  rcases h with ⟨rfl, rfl, rfl, rfl⟩ | ⟨x, rfl, hl, hm, hz, hcell, hwz⟩
  · omega
  · obtain ⟨b, off, spot⟩ := x
    have hc := hcell i (by omega)
    have hspot : spot = none := by simpa [Addr.add] using World.cell?_spot (hcell 0 (by omega))
    subst hspot
    rw [Addr.add_lit] at hc
    have hlt : b < w.heap.size := by
      unfold World.cell? at hc
      split at hc
      · rename_i hb
        exact (Array.getElem?_eq_some_iff.1 hb).1
      · cases hc
    refine ⟨b, off, rfl, (hb.cell (p := ⟨b, off + i, none⟩) hlt).trans hc, hlt, ?_⟩
    have hi' : i < zs.length := by omega
    have : zs.getD i 0 = zs[i] := by simp [hi']
    rw [this]
    exact hwz _ (by simp)
theorem isRow_len {k : IntKind} {w : World} {a : Option Addr} {len cap : Nat} {zs : List Int} (h : IsRow k w a len cap zs) : len ≤ 9223372036854775807 := by
  rcases h with ⟨rfl, rfl, rfl, rfl⟩ | ⟨x, rfl, hl, hm, hz, hcell, hwz⟩
  · omega
  · unfold maxLen at hm; omega

theorem run_size {n : Nat} {u : List UInt8} (h : Km.run n u) (hn : n ≤ 12) : (⟨u.toArray⟩ : ByteArray).size ≤ 48 := by
  show u.toArray.size ≤ 48
  have := h.1
  rw [List.size_toArray]
  omega
theorem run_size1 {n : Nat} {u : List UInt8} (h : Km.run n u) (hn : n ≤ 12) (c : UInt8) : ((⟨u.toArray⟩ : ByteArray) ++ ⟨#[c]⟩).size ≤ 49 := by
  have := run_size h hn
  rw [ByteArray.size_append]
  have e : (⟨#[c]⟩ : ByteArray).size = 1 := rfl
  omega
theorem add_list (u : List UInt8) (c : UInt8) : ((⟨u.toArray⟩ : ByteArray) ++ ⟨#[c]⟩).data.toList = u ++ [c] := by
  rw [str_add]
theorem r_all {n : Nat} {u : List UInt8} (h : Km.run n u) (hn : n ≤ 12) (w : World) :
    Calls Try.prog 15 #[.string ⟨u.toArray⟩] w fun e w' => e = .returned (.int .i64 n) ∧ Below w.heap.size w w' := by
  have k := runes_any ⟨u.toArray⟩ w (by have := run_size h hn; omega)
  have e : Km.runesV (⟨u.toArray⟩ : ByteArray).data.toList = n := Km.run_runes h
  rw [e] at k
  exact k
theorem c_all {n : Nat} {u : List UInt8} {b : Bool} (h : Km.run n u) (hn : n ≤ 12) (hb : (decide (1 ≤ n) && decide (n ≤ 8)) = b) (w : World) :
    Calls Try.prog 13 #[.string ⟨u.toArray⟩] w fun e w' => e = .returned (.bool b) ∧ Below w.heap.size w w' := by
  have k := check_any ⟨u.toArray⟩ w (by have := run_size h hn; omega)
  have e : Km.chk (⟨u.toArray⟩ : ByteArray).data.toList = b := by rw [← hb]; exact Km.run_chk h
  rw [e] at k
  exact k
theorem r_ff {n : Nat} {u : List UInt8} (h : Km.run n u) (hn : n ≤ 12) (w : World) :
    Calls Try.prog 15 #[.string (⟨u.toArray⟩ ++ ⟨#[255]⟩)] w fun e w' => e = .returned (.int .i64 (-1)) ∧ Below w.heap.size w w' := by
  have k := runes_any (⟨u.toArray⟩ ++ ⟨#[255]⟩) w (by have := run_size1 h hn 255; omega)
  rw [add_list, Km.run_ff h] at k
  exact k
theorem c_sp {n : Nat} {u : List UInt8} (h : Km.run n u) (hn : n ≤ 12) (w : World) :
    Calls Try.prog 13 #[.string (⟨u.toArray⟩ ++ ⟨#[32]⟩)] w fun e w' => e = .returned (.bool false) ∧ Below w.heap.size w w' := by
  have k := check_any (⟨u.toArray⟩ ++ ⟨#[32]⟩) w (by have := run_size1 h hn 32; omega)
  rw [add_list, Km.run_sp h] at k
  exact k
theorem c_c3 {n : Nat} {u : List UInt8} (h : Km.run n u) (hn : n ≤ 12) (w : World) :
    Calls Try.prog 13 #[.string (⟨u.toArray⟩ ++ ⟨#[195]⟩)] w fun e w' => e = .returned (.bool false) ∧ Below w.heap.size w w' := by
  have k := check_any (⟨u.toArray⟩ ++ ⟨#[195]⟩) w (by have := run_size1 h hn 195; omega)
  rw [add_list, Km.run_c3 h] at k
  exact k

set_option maxRecDepth 100000 in
set_option maxHeartbeats 800000 in
theorem walkKeysRunes (w : World) (a : Option Addr) (len cap : Nat) (zs : List Int) (h0 : IsRow .i64 w a len cap zs) :
    Calls Try.prog 7 #[.slice a len cap] w fun e w' => e = .returned (.bool true) ∧ Below w.heap.size w w' := by
  have hlen := isRow_len h0
  have H0 := Lib.hid h0
  clear h0
  go_enter Try.func7, Try.ntmps7
  go_wp2_with fail
  refine (kawake_any _).mono ?_
  rintro e w1 ⟨rfl, hb1⟩
  go_wp2
  go_loop [5, 6, 7] (fun s n i => ∃ (k : Nat) (u : List UInt8), k ≤ len ∧ k ≤ 12 ∧ i = .int .i64 k ∧ n = .int .i64 k ∧ s = .string ⟨u.toArray⟩ ∧ Km.run k u) (fun _ _ i => 12 - (intOf i).toNat)
  case atStart => exact ⟨0, [], by omega, by omega, rfl, rfl, rfl, Km.run_nil⟩
  case round =>
    obtain ⟨k, u, hk, hk12, rfl, rfl, rfl, hrun⟩ := hrel
    have HR := Lib.hid hrun
    clear hrun
    by_cases hlt : k < len ∧ k < 12
    · obtain ⟨hk1, hk2⟩ := hlt
      obtain ⟨b, off, rfl, hc, hbl, hwf⟩ := isRow_cell H0.out hb1 k hk1
      have hul := HR.out.1
      generalize zs.getD k 0 = x at hc hwf
      have hbl1 : b < w1.heap.size := by have := hb1.size; omega
      have hy1 : -5 ≤ x.tmod 6 := by have := Int.lt_tmod_of_pos x (show (0 : Int) < 6 by omega); omega
      have hy2 : x.tmod 6 ≤ 5 := by have := Int.tmod_lt_of_pos x (show (0 : Int) < 6 by omega); omega
      clear hwf
      have hz : 0 ≤ (x.tmod 6 + 6).tmod 6 ∧ (x.tmod 6 + 6).tmod 6 ≤ 5 := by
        rw [Int.tmod_eq_emod_of_nonneg (by omega)]
        omega
      rcases (show (x.tmod 6 + 6).tmod 6 = 0 ∨ (x.tmod 6 + 6).tmod 6 = 1 ∨ (x.tmod 6 + 6).tmod 6 = 2 ∨ (x.tmod 6 + 6).tmod 6 = 3 ∨ (x.tmod 6 + 6).tmod 6 = 4 ∨ (x.tmod 6 + 6).tmod 6 = 5 by omega) with h | h | h | h | h | h
      · have h2 : (x.tmod 6 + 6) % 6 = 0 := by rw [← Int.tmod_eq_emod_of_nonneg (by omega)]; exact h
        go_wp2
        go_round
        case rel => exact ⟨k + 1, u ++ [97], by omega, by omega, by go_num, by go_num, by rw [str_add], Km.run_snoc HR.out Km.rune_a (by decide)⟩
        case measure => simp [intOf]; omega
      · have h2 : (x.tmod 6 + 6) % 6 = 1 := by rw [← Int.tmod_eq_emod_of_nonneg (by omega)]; exact h
        go_wp2
        go_round
        case rel => exact ⟨k + 1, u ++ [195, 169], by omega, by omega, by go_num, by go_num, by rw [str_add], Km.run_snoc HR.out Km.rune_e (by decide)⟩
        case measure => simp [intOf]; omega
      · have h2 : (x.tmod 6 + 6) % 6 = 2 := by rw [← Int.tmod_eq_emod_of_nonneg (by omega)]; exact h
        go_wp2
        go_round
        case rel => exact ⟨k + 1, u ++ [226, 130, 172], by omega, by omega, by go_num, by go_num, by rw [str_add], Km.run_snoc HR.out Km.rune_euro (by decide)⟩
        case measure => simp [intOf]; omega
      · have h2 : (x.tmod 6 + 6) % 6 = 3 := by rw [← Int.tmod_eq_emod_of_nonneg (by omega)]; exact h
        go_wp2
        go_round
        case rel => exact ⟨k + 1, u ++ [240, 159, 152, 128], by omega, by omega, by go_num, by go_num, by rw [str_add], Km.run_snoc HR.out Km.rune_grin (by decide)⟩
        case measure => simp [intOf]; omega
      · have h2 : (x.tmod 6 + 6) % 6 = 4 := by rw [← Int.tmod_eq_emod_of_nonneg (by omega)]; exact h
        go_wp2
        go_round
        case rel => exact ⟨k + 1, u ++ [126], by omega, by omega, by go_num, by go_num, by rw [str_add], Km.run_snoc HR.out Km.rune_tilde (by decide)⟩
        case measure => simp [intOf]; omega
      · have h2 : (x.tmod 6 + 6) % 6 = 5 := by rw [← Int.tmod_eq_emod_of_nonneg (by omega)]; exact h
        go_wp2
        go_round
        case rel => exact ⟨k + 1, u ++ [239, 191, 191], by omega, by omega, by go_num, by go_num, by rw [str_add], Km.run_snoc HR.out Km.rune_ffff (by decide)⟩
        case measure => simp [intOf]; omega
    · have hul := HR.out.1
      have hab : Below w.heap.size w (w1.alloc (.cells #[.string ⟨#[97]⟩, .string ⟨#[195, 169]⟩, .string ⟨#[226, 130, 172]⟩, .string ⟨#[240, 159, 152, 128]⟩, .string ⟨#[126]⟩, .string ⟨#[239, 191, 191]⟩] 45)) := balloc hb1 _
      rcases (show (decide (k < len) = false) ∨ (decide (k < len) = true ∧ decide ((k : Int) < 12) = false) by simp; omega) with hd | ⟨hd, hd2⟩
      all_goals
        go_wp2_with fail
        refine (r_all HR.out hk12 _).mono ?_
        rintro e w3 ⟨rfl, hb⟩
        have hb3 := bstep hab hb
        clear hb hab
        have hkk : ((k : Int) == (k : Int)) = true := by simp
        have hkn : (k == k) = true := by simp
        by_cases h1 : 1 ≤ k
        · by_cases h8 : k ≤ 8
          · have q1 : decide ((1 : Int) ≤ (k : Int)) = true := by simp; omega
            have q2 : decide ((k : Int) ≤ 8) = true := by simp; omega
            go_wp2_with fail
            refine (c_all (b := true) HR.out hk12 (by simp; omega) _).mono ?_
            rintro e w4 ⟨rfl, hb⟩
            have hb4 := bstep hb3 hb
            clear hb hb3
            go_wp2_with fail
            refine (r_ff HR.out hk12 _).mono ?_
            rintro e w5 ⟨rfl, hb⟩
            have hb5 := bstep hb4 hb
            clear hb hb4
            go_wp2_with fail
            refine (c_sp HR.out hk12 _).mono ?_
            rintro e w6 ⟨rfl, hb⟩
            have hb6 := bstep hb5 hb
            clear hb hb5
            go_wp2_with fail
            refine (c_c3 HR.out hk12 _).mono ?_
            rintro e w7 ⟨rfl, hb⟩
            have hb7 := bstep hb6 hb
            clear hb hb6
            go_wp2
            go_ret
            exact ⟨rfl, hb7⟩
          · have q1 : decide ((1 : Int) ≤ (k : Int)) = true := by simp; omega
            have q2 : decide ((k : Int) ≤ 8) = false := by simp; omega
            go_wp2_with fail
            refine (c_all (b := false) HR.out hk12 (by simp; omega) _).mono ?_
            rintro e w4 ⟨rfl, hb⟩
            have hb4 := bstep hb3 hb
            clear hb hb3
            go_wp2_with fail
            refine (r_ff HR.out hk12 _).mono ?_
            rintro e w5 ⟨rfl, hb⟩
            have hb5 := bstep hb4 hb
            clear hb hb4
            go_wp2_with fail
            refine (c_sp HR.out hk12 _).mono ?_
            rintro e w6 ⟨rfl, hb⟩
            have hb6 := bstep hb5 hb
            clear hb hb5
            go_wp2_with fail
            refine (c_c3 HR.out hk12 _).mono ?_
            rintro e w7 ⟨rfl, hb⟩
            have hb7 := bstep hb6 hb
            clear hb hb6
            go_wp2
            go_ret
            exact ⟨rfl, hb7⟩
        · have q1 : decide ((1 : Int) ≤ (k : Int)) = false := by simp; omega
          go_wp2_with fail
          refine (c_all (b := false) HR.out hk12 (by simp; omega) _).mono ?_
          rintro e w4 ⟨rfl, hb⟩
          have hb4 := bstep hb3 hb
          clear hb hb3
          go_wp2_with fail
          refine (r_ff HR.out hk12 _).mono ?_
          rintro e w5 ⟨rfl, hb⟩
          have hb5 := bstep hb4 hb
          clear hb hb4
          go_wp2_with fail
          refine (c_sp HR.out hk12 _).mono ?_
          rintro e w6 ⟨rfl, hb⟩
          have hb6 := bstep hb5 hb
          clear hb hb5
          go_wp2_with fail
          refine (c_c3 HR.out hk12 _).mono ?_
          rintro e w7 ⟨rfl, hb⟩
          have hb7 := bstep hb6 hb
          clear hb hb6
          go_wp2
          go_ret
          exact ⟨rfl, hb7⟩
end Go.Proofs.Ytmmgicdnbedmdaa
