/- What the document's ReadText and Split answer. -/
import Derived.Test.YtllagelopdedfaaGW27
import Derived.Test.YtllagelopdedfaaRefRead
namespace Go.Proofs.Ytllagelopdedfaa
open Go.RowKit
set_option linter.unusedVariables false

def gotTV : Option (List UInt8 × Nat) → Value
  | none => .agg #[.string ⟨#[]⟩, .int .i64 0]
  | some (t, e) => .agg #[.string ⟨t.toArray⟩, .int .i64 (e : Int)]
theorem ret_gotT {x : ByteArray} {y : Int} {t : List UInt8} {e : Nat} (hx : x.data.toList = t) (hy : y = (e : Int)) : Ending.returned (.agg #[.string x, .int .i64 y]) = .returned (gotTV (some (t, e))) := by
  subst hx hy; rfl

set_option maxRecDepth 100000 in
set_option maxHeartbeats 800000 in
theorem refReadText_any (s : ByteArray) (at_ most : Int) (w : World) (hs : s.size ≤ 1000000) (hm : -9223372036854775808 ≤ most ∧ most ≤ 9223372036854775807) :
    Calls Try.prog 96 #[.string s, .int .i64 at_, .int .i64 most] w fun e w' => e = .returned (gotTV (rdt s.data.toList at_ most)) ∧ Below w.heap.size w w' := by
  cases hr : rd s.data.toList at_ with
  | none =>
    have hf : rdt s.data.toList at_ most = none := by rw [rdt, hr]
    have HF := Lib.hid hf
    have HR := Lib.hid hr
    clear hf hr
    go_enter Try.func96, Try.ntmps96
    go_wp2_with fail
    refine (refRead_any s at_ _ hs).mono ?_
    rintro e w1 ⟨rfl, hb⟩
    rw [HR.out]
    simp only [gotV]
    have c1 : w1.cell? ⟨w.heap.size, 0, none⟩ = some (.string ⟨#[]⟩) := (hb.cell (p := ⟨w.heap.size, 0, none⟩) (by simp)).trans (by simp)
    have c2 : w1.cell? ⟨w.heap.size, 1, none⟩ = some (.int .i64 0) := (hb.cell (p := ⟨w.heap.size, 1, none⟩) (by simp)).trans (by simp)
    have f1 : w1.frozen? ⟨w.heap.size, 0, none⟩ = false := (hb.frozen (p := ⟨w.heap.size, 0, none⟩) (by simp)).trans (by simp)
    have f2 : w1.frozen? ⟨w.heap.size, 1, none⟩ = false := (hb.frozen (p := ⟨w.heap.size, 1, none⟩) (by simp)).trans (by simp)
    have hz : w.heap.size < w1.heap.size := by have := hb.size; simp at this; omega
    have hbw : Below w.heap.size w w1 := bstep ((Below.refl _ w).alloc (Nat.le_refl _) _) hb
    clear hb
    go_wp2
    refine bodyPost_ret (v := .agg #[.string ⟨#[]⟩, .int .i64 0]) (by simp [results, Try.results96, go_sem, c1, c2, hz]) rfl ⟨?_, ?_⟩
    · rw [HF.out]
      rfl
    · exact balloc ((hbw.setCell (Nat.le_refl _) _).setCell (Nat.le_refl _) _) _
  | some x =>
    obtain ⟨n, k⟩ := x
    obtain ⟨h1, h2, h3, h4⟩ := rd_some hr
    have h2 : k ≤ s.size := by simpa using h2
    have hk0 : ((k : Int) == 0) = false := by simp; omega
    have HR := Lib.hid hr
    by_cases c : most < (n : Int) ∨ s.size < k + n
    · have hf : rdt s.data.toList at_ most = none := by rw [rdt, hr]; simp only; rw [if_pos (by simpa using c)]
      have HF := Lib.hid hf
      clear hf hr
      by_cases g1 : most < 0
      · clear c h1
        go_enter Try.func96, Try.ntmps96
        go_wp2_with fail
        refine (refRead_any s at_ _ hs).mono ?_
        rintro e w1 ⟨rfl, hb⟩
        rw [HR.out]
        simp only [gotV]
        have c1 : w1.cell? ⟨w.heap.size, 0, none⟩ = some (.string ⟨#[]⟩) := (hb.cell (p := ⟨w.heap.size, 0, none⟩) (by simp)).trans (by simp)
        have c2 : w1.cell? ⟨w.heap.size, 1, none⟩ = some (.int .i64 0) := (hb.cell (p := ⟨w.heap.size, 1, none⟩) (by simp)).trans (by simp)
        have f1 : w1.frozen? ⟨w.heap.size, 0, none⟩ = false := (hb.frozen (p := ⟨w.heap.size, 0, none⟩) (by simp)).trans (by simp)
        have f2 : w1.frozen? ⟨w.heap.size, 1, none⟩ = false := (hb.frozen (p := ⟨w.heap.size, 1, none⟩) (by simp)).trans (by simp)
        have hz : w.heap.size < w1.heap.size := by have := hb.size; simp at this; omega
        have hbw : Below w.heap.size w w1 := bstep ((Below.refl _ w).alloc (Nat.le_refl _) _) hb
        clear hb
        go_wp2
        refine bodyPost_ret (v := .agg #[.string ⟨#[]⟩, .int .i64 0]) (by simp [results, Try.results96, go_sem, c1, c2, hz]) rfl ⟨?_, ?_⟩
        · rw [HF.out]
          rfl
        · exact balloc ((hbw.setCell (Nat.le_refl _) _).setCell (Nat.le_refl _) _) _
      · by_cases g2 : most < (n : Int)
        · clear c
          go_enter Try.func96, Try.ntmps96
          go_wp2_with fail
          refine (refRead_any s at_ _ hs).mono ?_
          rintro e w1 ⟨rfl, hb⟩
          rw [HR.out]
          simp only [gotV]
          have c1 : w1.cell? ⟨w.heap.size, 0, none⟩ = some (.string ⟨#[]⟩) := (hb.cell (p := ⟨w.heap.size, 0, none⟩) (by simp)).trans (by simp)
          have c2 : w1.cell? ⟨w.heap.size, 1, none⟩ = some (.int .i64 0) := (hb.cell (p := ⟨w.heap.size, 1, none⟩) (by simp)).trans (by simp)
          have f1 : w1.frozen? ⟨w.heap.size, 0, none⟩ = false := (hb.frozen (p := ⟨w.heap.size, 0, none⟩) (by simp)).trans (by simp)
          have f2 : w1.frozen? ⟨w.heap.size, 1, none⟩ = false := (hb.frozen (p := ⟨w.heap.size, 1, none⟩) (by simp)).trans (by simp)
          have hz : w.heap.size < w1.heap.size := by have := hb.size; simp at this; omega
          have hbw : Below w.heap.size w w1 := bstep ((Below.refl _ w).alloc (Nat.le_refl _) _) hb
          clear hb
          go_wp2
          refine bodyPost_ret (v := .agg #[.string ⟨#[]⟩, .int .i64 0]) (by simp [results, Try.results96, go_sem, c1, c2, hz]) rfl ⟨?_, ?_⟩
          · rw [HF.out]
            rfl
          · exact balloc ((hbw.setCell (Nat.le_refl _) _).setCell (Nat.le_refl _) _) _
        · have g3 : (s.size : Int) - k < n := by omega
          clear c
          go_enter Try.func96, Try.ntmps96
          go_wp2_with fail
          refine (refRead_any s at_ _ hs).mono ?_
          rintro e w1 ⟨rfl, hb⟩
          rw [HR.out]
          simp only [gotV]
          have c1 : w1.cell? ⟨w.heap.size, 0, none⟩ = some (.string ⟨#[]⟩) := (hb.cell (p := ⟨w.heap.size, 0, none⟩) (by simp)).trans (by simp)
          have c2 : w1.cell? ⟨w.heap.size, 1, none⟩ = some (.int .i64 0) := (hb.cell (p := ⟨w.heap.size, 1, none⟩) (by simp)).trans (by simp)
          have f1 : w1.frozen? ⟨w.heap.size, 0, none⟩ = false := (hb.frozen (p := ⟨w.heap.size, 0, none⟩) (by simp)).trans (by simp)
          have f2 : w1.frozen? ⟨w.heap.size, 1, none⟩ = false := (hb.frozen (p := ⟨w.heap.size, 1, none⟩) (by simp)).trans (by simp)
          have hz : w.heap.size < w1.heap.size := by have := hb.size; simp at this; omega
          have hbw : Below w.heap.size w w1 := bstep ((Below.refl _ w).alloc (Nat.le_refl _) _) hb
          clear hb
          go_wp2
          refine bodyPost_ret (v := .agg #[.string ⟨#[]⟩, .int .i64 0]) (by simp [results, Try.results96, go_sem, c1, c2, hz]) rfl ⟨?_, ?_⟩
          · rw [HF.out]
            rfl
          · exact balloc ((hbw.setCell (Nat.le_refl _) _).setCell (Nat.le_refl _) _) _
    · have hf : rdt s.data.toList at_ most = some ((s.data.toList.drop k).take n, k + n) := by rw [rdt, hr]; simp only; rw [if_neg (by simpa using c)]
      have HF := Lib.hid hf
      clear hf hr
      have g0 : 0 ≤ most := by omega
      have g1 : (n : Int) ≤ most := by omega
      have g2 : k + n ≤ s.size := by omega
      have hsl : ∀ w', (Instr.slice 9 (.string s) (some (.int .i64 (k : Int))) (some (.int .i64 ((k : Int) + n))) none).run Try.prog w' = .ok (.string (s.extract k (k + n))) w' := by
        intro w'
        have h := run_slice_string (P := Try.prog) (w := w') 9 s .i64 .i64 k (k + n) Try.underlying9 (by omega) (by omega) (by omega)
        rw [show ((k : Int) + n).toNat = k + n from by omega, Int.toNat_natCast] at h
        exact h
      have HS := Lib.hid hsl
      clear c hsl
      go_enter Try.func96, Try.ntmps96
      go_wp2_with fail
      refine (refRead_any s at_ _ hs).mono ?_
      rintro e w1 ⟨rfl, hb⟩
      rw [HR.out]
      simp only [gotV]
      have c1 : w1.cell? ⟨w.heap.size, 0, none⟩ = some (.string ⟨#[]⟩) := (hb.cell (p := ⟨w.heap.size, 0, none⟩) (by simp)).trans (by simp)
      have c2 : w1.cell? ⟨w.heap.size, 1, none⟩ = some (.int .i64 0) := (hb.cell (p := ⟨w.heap.size, 1, none⟩) (by simp)).trans (by simp)
      have f1 : w1.frozen? ⟨w.heap.size, 0, none⟩ = false := (hb.frozen (p := ⟨w.heap.size, 0, none⟩) (by simp)).trans (by simp)
      have f2 : w1.frozen? ⟨w.heap.size, 1, none⟩ = false := (hb.frozen (p := ⟨w.heap.size, 1, none⟩) (by simp)).trans (by simp)
      have hz : w.heap.size < w1.heap.size := by have := hb.size; simp at this; omega
      have hbw : Below w.heap.size w w1 := bstep ((Below.refl _ w).alloc (Nat.le_refl _) _) hb
      clear hb
      have hsl := HS.out
      go_wp2
      refine bodyPost_ret (v := .agg #[.string (s.extract k (k + n)), .int .i64 ((k : Int) + n)]) (by simp [results, Try.results96, go_sem, c1, c2, hz]) rfl ⟨?_, ?_⟩
      · rw [HF.out]
        exact ret_gotT (by rw [Lib.extract_data]; simp) (by omega)
      · exact balloc ((hbw.setCell (Nat.le_refl _) _).setCell (Nat.le_refl _) _) _

end Go.Proofs.Ytllagelopdedfaa
