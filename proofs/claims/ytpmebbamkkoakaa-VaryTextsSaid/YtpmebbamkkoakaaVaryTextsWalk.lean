/- The walk of the law VaryTexts. -/
import Derived.Test.YtpmebbamkkoakaaVaryAwake
import Derived.Test.YtpmebbamkkoakaaVaryText
import Derived.Test.YtpmebbamkkoakaaOpen
namespace Go.Proofs.Ytpmebbamkkoakaa
open Go.RowKit
set_option linter.unusedVariables false

/-- The texts' bytes, one behind the other. -/
def code (ts : List (List UInt8)) : List UInt8 := ts.flatMap fun t => Vm.enc t.length ++ t
theorem code_snoc (ts : List (List UInt8)) (k : Nat) (hk : k < ts.length) : code (ts.take (k + 1)) = code (ts.take k) ++ (Vm.enc ts[k].length ++ ts[k]) := by
  unfold code
  rw [List.take_succ_eq_append_getElem hk, List.flatMap_append, List.flatMap_singleton]
theorem code_split (ts : List (List UInt8)) (k m : Nat) (hk : k < m) (hm : m ≤ ts.length) : ∃ r, code (ts.take m) = code (ts.take k) ++ (Vm.enc (ts[k]'(by omega)).length ++ ts[k]'(by omega)) ++ r := by
  refine ⟨code ((ts.take m).drop (k + 1)), ?_⟩
  have e : ts.take m = ts.take (k + 1) ++ (ts.take m).drop (k + 1) := by
    have := List.take_append_drop (k + 1) (ts.take m)
    rw [List.take_take, Nat.min_eq_left (by omega)] at this
    exact this.symm
  rw [← code_snoc ts k (by omega)]
  conv => lhs; rw [e]
  simp [code]
theorem code_len (ts : List (List UInt8)) (h : ∀ t ∈ ts, t.length ≤ 30) : (code ts).length ≤ 40 * ts.length := by
  induction ts with
  | nil => simp [code]
  | cons t r ih =>
    have h1 := h t (by simp)
    have h2 := Vm.enc_len10 (n := t.length) (by omega)
    have h3 := ih (fun x hx => h x (by simp [hx]))
    simp [code] at h3 ⊢
    omega

def cut30 (ss : List ByteArray) : List (List UInt8) := ss.map fun s => s.data.toList.take 30

theorem txt_at (ss : List ByteArray) (k j : Nat) (hj : j < k) (hk : k ≤ ss.length) (hk6 : k ≤ 6) (w : World) :
    Calls Try.prog 22 #[.string ⟨(code ((cut30 ss).take k)).toArray⟩, .int .i64 ((code ((cut30 ss).take j)).length : Int), .int .i64 30] w
      fun e w' => e = .returned (.tuple #[.string ⟨((ss[j]'(by omega)).data.toList.take 30).toArray⟩, .int .i64 ((code ((cut30 ss).take (j + 1))).length : Int), .bool true]) ∧ w = w' := by
  have h30 : ∀ t ∈ cut30 ss, t.length ≤ 30 := by
    intro t ht
    simp [cut30] at ht
    obtain ⟨s, _, rfl⟩ := ht
    simp
    omega
  have hl : (cut30 ss).length = ss.length := by simp [cut30]
  have hcl : (code ((cut30 ss).take k)).length ≤ 240 := by
    have := code_len ((cut30 ss).take k) (fun t ht => h30 t (List.mem_of_mem_take ht))
    rw [List.length_take] at this
    omega
  obtain ⟨r, hr⟩ := code_split (cut30 ss) j k hj (by omega)
  have ej : (cut30 ss)[j]'(by omega) = (ss[j]'(by omega)).data.toList.take 30 := by simp [cut30]
  have hT := h30 ((cut30 ss)[j]'(by omega)) (by simp)
  have h := readText_any ⟨(code ((cut30 ss).take k)).toArray⟩ ((code ((cut30 ss).take j)).length : Int) 30 w (by show (code ((cut30 ss).take k)).toArray.size ≤ _; rw [List.size_toArray]; omega) (by omega)
  have e2 : (⟨(code ((cut30 ss).take k)).toArray⟩ : ByteArray).data.toList = code ((cut30 ss).take k) := rfl
  rw [e2, hr, rdt_back _ r _ 30 (by omega) (by omega), ej] at h
  rw [code_snoc (cut30 ss) j (by omega), hr, ej]
  simp only [List.length_append, ← Nat.add_assoc]
  exact h
theorem code_grows (ss : List ByteArray) (j : Nat) (hj : j < ss.length) : (code ((cut30 ss).take j)).length < (code ((cut30 ss).take (j + 1))).length := by
  rw [code_snoc _ _ (by simpa [cut30] using hj)]
  have := Vm.enc_pos ((cut30 ss)[j]'(by simpa [cut30] using hj)).length
  simp only [List.length_append]
  omega
theorem code_le (ss : List ByteArray) (j : Nat) (hj : j ≤ 6) : (code ((cut30 ss).take j)).length ≤ 240 := by
  have h30 : ∀ t ∈ cut30 ss, t.length ≤ 30 := by
    intro t ht
    simp [cut30] at ht
    obtain ⟨s, _, rfl⟩ := ht
    simp
    omega
  have := code_len ((cut30 ss).take j) (fun t ht => h30 t (List.mem_of_mem_take ht))
  rw [List.length_take] at this
  omega

set_option maxRecDepth 100000 in
set_option maxHeartbeats 800000 in
theorem walkVaryTexts (w : World) (a : Option Addr) (len cap : Nat) (ss : List ByteArray) (h0 : StrsIn w a len ss) :
    Calls Try.prog 10 #[.slice a len cap] w fun e w' => e = .returned (.bool true) ∧ Below w.heap.size w w' := by
  have hlen : (cut30 ss).length = len := by simp [cut30, h0.1]
  have h30 : ∀ t ∈ cut30 ss, t.length ≤ 30 := by
    intro t ht
    simp [cut30] at ht
    obtain ⟨s, _, rfl⟩ := ht
    simp
    omega
  have hl63 := h0.2.1
  have HL := Lib.hid hlen
  have H30 := Lib.hid h30
  have H0 := Lib.hid h0
  clear hlen h30 h0
  go_enter Try.func10, Try.ntmps10
  go_wp2_with fail
  refine (awake_any _).mono ?_
  rintro e w2 ⟨rfl, hb1⟩
  go_wp2_with fail
  go_loopw [4, 5, 6] (fun s n i wr => ∃ k : Nat, k ≤ len ∧ k ≤ 6 ∧ i = .int .i64 k ∧ n = .int .i64 k ∧ s = .string ⟨(code ((cut30 ss).take k)).toArray⟩ ∧ Below w.heap.size w wr) (fun _ _ i _ => 6 - (intOf i).toNat)
  case atStart => exact ⟨0, by omega, by omega, rfl, rfl, rfl, hb1⟩
  case round =>
    obtain ⟨k, hk, hk6, rfl, rfl, rfl, hb⟩ := hrel
    by_cases hlt : k < len ∧ k < 6
    · obtain ⟨hk1, hk2⟩ := hlt
      have hks : k < ss.length := by have := H0.out.1; omega
      obtain ⟨b, off, rfl, hc⟩ := H0.out.2.2.2 k hks
      have hcr : wr.cell? ⟨b, off + k, none⟩ = some (.string ss[k]) := (hb.cell (p := ⟨b, off + k, none⟩) (lt_of_cell? hc)).trans hc
      have hsz : ss[k].size ≤ 9223372036854775807 := H0.out.2.2.1 _ (by simp)
      clear hc
      have hcl : (code ((cut30 ss).take k)).length ≤ 240 := by
        have := code_len ((cut30 ss).take k) (fun t ht => H30.out t (List.mem_of_mem_take ht))
        rw [List.length_take] at this
        omega
      generalize hS : code ((cut30 ss).take k) = S at hcl ⊢
      go_wp2_with fail
      refine (short_any ss[k] 30 _ hsz (by omega)).mono ?_
      rintro e wr' ⟨rfl, rfl⟩
      have hT30 : (ss[k].data.toList.take 30).length ≤ 30 := List.length_take_le _ _
      have hnext : code ((cut30 ss).take (k + 1)) = S ++ (Vm.enc (ss[k].data.toList.take 30).length ++ ss[k].data.toList.take 30) := by
        rw [code_snoc _ _ (by rw [HL.out]; exact hk1), hS]
        simp [cut30]
      generalize ss[k].data.toList.take 30 = T at hT30 hnext ⊢
      have HN := Lib.hid hnext
      clear hS hnext
      go_wp2_with fail
      refine (text_any ⟨T.toArray⟩ _ ?_).mono ?_
      · show T.toArray.size ≤ _
        rw [List.size_toArray]
        omega
      rintro e w3 ⟨rfl, hb3⟩
      have he10 := Vm.enc_len10 (n := T.length) (by omega)
      go_wp2
      go_roundw
      case rel =>
        refine ⟨k + 1, by omega, by omega, by go_num, by go_num, ?_, bstep hb hb3⟩
        rw [HN.out, str_add]
      case measure => simp [intOf]; omega
    · have hcl : (code ((cut30 ss).take k)).length ≤ 240 := by
        have := code_len ((cut30 ss).take k) (fun t ht => H30.out t (List.mem_of_mem_take ht))
        rw [List.length_take] at this
        omega
      have hks : k ≤ ss.length := by have := H0.out.1; omega
      rcases (show (decide (k < len) = false) ∨ (decide (k < len) = true ∧ decide ((k : Int) < 6) = false) by simp; omega) with hd | ⟨hd, hd2⟩
      all_goals
        go_wp2_with fail
        go_loop [7, 8] (fun t i => ∃ j : Nat, j ≤ k ∧ i = .int .i64 j ∧ t = .int .i64 ((code ((cut30 ss).take j)).length : Int)) (fun _ i => k - (intOf i).toNat)
        case atStart => exact ⟨0, by omega, rfl, rfl⟩
        case round =>
          obtain ⟨j, hj, rfl, rfl⟩ := hrel
          by_cases hjk : j < k
          · have hjs : j < ss.length := by omega
            obtain ⟨b, off, rfl, hc⟩ := H0.out.2.2.2 j hjs
            have hcr : wr.cell? ⟨b, off + j, none⟩ = some (.string ss[j]) := (hb.cell (p := ⟨b, off + j, none⟩) (lt_of_cell? hc)).trans hc
            have hsz : ss[j].size ≤ 9223372036854775807 := H0.out.2.2.1 _ (by simp)
            clear hc
            have hg := code_grows ss j hjs
            have hg2 := code_le ss (j + 1) (by omega)
            go_wp2_with fail
            refine (txt_at ss k j hjk hks hk6 _).mono ?_
            rintro e wr' ⟨rfl, rfl⟩
            generalize hT : ss[j].data.toList.take 30 = T
            go_wp2_with fail
            refine (short_any ss[j] 30 _ hsz (by omega)).mono ?_
            rintro e wr' ⟨rfl, rfl⟩
            rw [hT]
            clear hT
            go_wp2
            go_round
            case rel => exact ⟨j + 1, by omega, by go_num, rfl⟩
            case measure => simp [intOf]; omega
          · obtain rfl : j = k := by omega
            go_wp2
            go_ret
            exact ⟨rfl, hb⟩

end Go.Proofs.Ytpmebbamkkoakaa
