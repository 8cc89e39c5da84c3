/- What the document's ReadText and Split answer. -/
import Derived.Test.YtpmebbamkkoakaaRefRead
import Derived.Test.YtpmebbamkkoakaaVarySplit
namespace Go.Proofs.Ytpmebbamkkoakaa
open Go.RowKit
set_option linter.unusedVariables false

def gotTV : Option (List UInt8 × Nat) → Value
  | none => .agg #[.string ⟨#[]⟩, .int .i64 0]
  | some (t, e) => .agg #[.string ⟨t.toArray⟩, .int .i64 (e : Int)]
theorem ret_gotT {x : ByteArray} {y : Int} {t : List UInt8} {e : Nat} (hx : x.data.toList = t) (hy : y = (e : Int)) : Ending.returned (.agg #[.string x, .int .i64 y]) = .returned (gotTV (some (t, e))) := by
  subst hx hy; rfl

/-- What the loop has stays as it was while new memory is made. -/
theorem sp_below {w wr w1 : World} {l : List UInt8} {p : Nat} {xs : List Nat} {v : Value} (h : Sp w l p xs v wr) (hb : Below wr.heap.size wr w1) : Sp w l p xs v w1 := by
  refine ⟨h.le, h.few, h.fit, ?_, bstep h.bel hb, h.eq⟩
  obtain ⟨h1, h2⟩ := h.own
  refine ⟨h1, ?_⟩
  rcases h2 with h2 | ⟨g, cap, cur, hv, hg, hh, r⟩
  · exact Or.inl h2
  · exact Or.inr ⟨g, cap, cur, hv, hg, (hb.block g (lt_of_block hh)).trans hh, r⟩
theorem sp_alloc {w wr : World} {l : List UInt8} {p : Nat} {xs : List Nat} {v : Value} (h : Sp w l p xs v wr) (o : Obj) : Sp w l p xs v (wr.alloc o) :=
  sp_below h ((Below.refl _ wr).alloc (Nat.le_refl _) o)

set_option maxRecDepth 100000 in
set_option maxHeartbeats 800000 in
theorem refReadText_any (s : ByteArray) (at_ most : Int) (w : World) (hs : s.size ≤ 1000000) (hm : -9223372036854775808 ≤ most ∧ most ≤ 9223372036854775807) :
    Calls Try.prog 23 #[.string s, .int .i64 at_, .int .i64 most] w fun e w' => e = .returned (gotTV (rdt s.data.toList at_ most)) ∧ Below w.heap.size w w' := by
  cases hr : rd s.data.toList at_ with
  | none =>
    have hf : rdt s.data.toList at_ most = none := by rw [rdt, hr]
    have HF := Lib.hid hf
    have HR := Lib.hid hr
    clear hf hr
    go_enter Try.func23, Try.ntmps23
    go_wp2_with fail
    refine (refRead_any s at_ _ hs).mono ?_
    rintro e w1 ⟨rfl, hb⟩
    rw [HR.out]
    simp only [gotV]
    have c1 : w1.cell? ⟨w.heap.size, 0, none⟩ = some (.string ⟨#[]⟩) := (hb.cell (p := ⟨w.heap.size, 0, none⟩) (by simp)).trans (by simp)
    have c2 : w1.cell? ⟨w.heap.size, 1, none⟩ = some (.int .i64 0) := (hb.cell (p := ⟨w.heap.size, 1, none⟩) (by simp)).trans (by simp)
    have f1 : w1.frozen? ⟨w.heap.size, 0, none⟩ = false := (hb.frozen (p := ⟨w.heap.size, 0, none⟩) (by simp)).trans (by simp)
    have f2 : w1.frozen? ⟨w.heap.size, 1, none⟩ = false := (hb.frozen (p := ⟨w.heap.size, 1, none⟩) (by simp)).trans (by simp)
    have hz : w.heap.size < w1.heap.size := by have := hb.size; simp at this; omega
    have hbw : Below w.heap.size w w1 := bstep ((Below.refl _ w).alloc (Nat.le_refl _) _) hb
    clear hb
    go_wp2
    refine bodyPost_ret (v := .agg #[.string ⟨#[]⟩, .int .i64 0]) (by simp [results, Try.results23, go_sem, c1, c2, hz]) rfl ⟨?_, ?_⟩
    · rw [HF.out]
      rfl
    · exact balloc ((hbw.setCell (Nat.le_refl _) _).setCell (Nat.le_refl _) _) _
  | some x =>
    obtain ⟨n, k⟩ := x
    obtain ⟨h1, h2, h3, h4⟩ := rd_some hr
    have h2 : k ≤ s.size := by simpa using h2
    have hk0 : ((k : Int) == 0) = false := by simp; omega
    have HR := Lib.hid hr
    by_cases c : most < (n : Int) ∨ s.size < k + n
    · have hf : rdt s.data.toList at_ most = none := by rw [rdt, hr]; simp only; rw [if_pos (by simpa using c)]
      have HF := Lib.hid hf
      clear hf hr
      by_cases g1 : most < 0
      · clear c h1
        go_enter Try.func23, Try.ntmps23
        go_wp2_with fail
        refine (refRead_any s at_ _ hs).mono ?_
        rintro e w1 ⟨rfl, hb⟩
        rw [HR.out]
        simp only [gotV]
        have c1 : w1.cell? ⟨w.heap.size, 0, none⟩ = some (.string ⟨#[]⟩) := (hb.cell (p := ⟨w.heap.size, 0, none⟩) (by simp)).trans (by simp)
        have c2 : w1.cell? ⟨w.heap.size, 1, none⟩ = some (.int .i64 0) := (hb.cell (p := ⟨w.heap.size, 1, none⟩) (by simp)).trans (by simp)
        have f1 : w1.frozen? ⟨w.heap.size, 0, none⟩ = false := (hb.frozen (p := ⟨w.heap.size, 0, none⟩) (by simp)).trans (by simp)
        have f2 : w1.frozen? ⟨w.heap.size, 1, none⟩ = false := (hb.frozen (p := ⟨w.heap.size, 1, none⟩) (by simp)).trans (by simp)
        have hz : w.heap.size < w1.heap.size := by have := hb.size; simp at this; omega
        have hbw : Below w.heap.size w w1 := bstep ((Below.refl _ w).alloc (Nat.le_refl _) _) hb
        clear hb
        go_wp2
        refine bodyPost_ret (v := .agg #[.string ⟨#[]⟩, .int .i64 0]) (by simp [results, Try.results23, go_sem, c1, c2, hz]) rfl ⟨?_, ?_⟩
        · rw [HF.out]
          rfl
        · exact balloc ((hbw.setCell (Nat.le_refl _) _).setCell (Nat.le_refl _) _) _
      · by_cases g2 : most < (n : Int)
        · clear c
          go_enter Try.func23, Try.ntmps23
          go_wp2_with fail
          refine (refRead_any s at_ _ hs).mono ?_
          rintro e w1 ⟨rfl, hb⟩
          rw [HR.out]
          simp only [gotV]
          have c1 : w1.cell? ⟨w.heap.size, 0, none⟩ = some (.string ⟨#[]⟩) := (hb.cell (p := ⟨w.heap.size, 0, none⟩) (by simp)).trans (by simp)
          have c2 : w1.cell? ⟨w.heap.size, 1, none⟩ = some (.int .i64 0) := (hb.cell (p := ⟨w.heap.size, 1, none⟩) (by simp)).trans (by simp)
          have f1 : w1.frozen? ⟨w.heap.size, 0, none⟩ = false := (hb.frozen (p := ⟨w.heap.size, 0, none⟩) (by simp)).trans (by simp)
          have f2 : w1.frozen? ⟨w.heap.size, 1, none⟩ = false := (hb.frozen (p := ⟨w.heap.size, 1, none⟩) (by simp)).trans (by simp)
          have hz : w.heap.size < w1.heap.size := by have := hb.size; simp at this; omega
          have hbw : Below w.heap.size w w1 := bstep ((Below.refl _ w).alloc (Nat.le_refl _) _) hb
          clear hb
          go_wp2
          refine bodyPost_ret (v := .agg #[.string ⟨#[]⟩, .int .i64 0]) (by simp [results, Try.results23, go_sem, c1, c2, hz]) rfl ⟨?_, ?_⟩
          · rw [HF.out]
            rfl
          · exact balloc ((hbw.setCell (Nat.le_refl _) _).setCell (Nat.le_refl _) _) _
        · have g3 : (s.size : Int) - k < n := by omega
          clear c
          go_enter Try.func23, Try.ntmps23
          go_wp2_with fail
          refine (refRead_any s at_ _ hs).mono ?_
          rintro e w1 ⟨rfl, hb⟩
          rw [HR.out]
          simp only [gotV]
          have c1 : w1.cell? ⟨w.heap.size, 0, none⟩ = some (.string ⟨#[]⟩) := (hb.cell (p := ⟨w.heap.size, 0, none⟩) (by simp)).trans (by simp)
          have c2 : w1.cell? ⟨w.heap.size, 1, none⟩ = some (.int .i64 0) := (hb.cell (p := ⟨w.heap.size, 1, none⟩) (by simp)).trans (by simp)
          have f1 : w1.frozen? ⟨w.heap.size, 0, none⟩ = false := (hb.frozen (p := ⟨w.heap.size, 0, none⟩) (by simp)).trans (by simp)
          have f2 : w1.frozen? ⟨w.heap.size, 1, none⟩ = false := (hb.frozen (p := ⟨w.heap.size, 1, none⟩) (by simp)).trans (by simp)
          have hz : w.heap.size < w1.heap.size := by have := hb.size; simp at this; omega
          have hbw : Below w.heap.size w w1 := bstep ((Below.refl _ w).alloc (Nat.le_refl _) _) hb
          clear hb
          go_wp2
          refine bodyPost_ret (v := .agg #[.string ⟨#[]⟩, .int .i64 0]) (by simp [results, Try.results23, go_sem, c1, c2, hz]) rfl ⟨?_, ?_⟩
          · rw [HF.out]
            rfl
          · exact balloc ((hbw.setCell (Nat.le_refl _) _).setCell (Nat.le_refl _) _) _
    · have hf : rdt s.data.toList at_ most = some ((s.data.toList.drop k).take n, k + n) := by rw [rdt, hr]; simp only; rw [if_neg (by simpa using c)]
      have HF := Lib.hid hf
      clear hf hr
      have g0 : 0 ≤ most := by omega
      have g1 : (n : Int) ≤ most := by omega
      have g2 : k + n ≤ s.size := by omega
      have hsl : ∀ w', (Instr.slice 9 (.string s) (some (.int .i64 (k : Int))) (some (.int .i64 ((k : Int) + n))) none).run Try.prog w' = .ok (.string (s.extract k (k + n))) w' := by
        intro w'
        have h := run_slice_string (P := Try.prog) (w := w') 9 s .i64 .i64 k (k + n) Try.underlying9 (by omega) (by omega) (by omega)
        rw [show ((k : Int) + n).toNat = k + n from by omega, Int.toNat_natCast] at h
        exact h
      have HS := Lib.hid hsl
      clear c hsl
      go_enter Try.func23, Try.ntmps23
      go_wp2_with fail
      refine (refRead_any s at_ _ hs).mono ?_
      rintro e w1 ⟨rfl, hb⟩
      rw [HR.out]
      simp only [gotV]
      have c1 : w1.cell? ⟨w.heap.size, 0, none⟩ = some (.string ⟨#[]⟩) := (hb.cell (p := ⟨w.heap.size, 0, none⟩) (by simp)).trans (by simp)
      have c2 : w1.cell? ⟨w.heap.size, 1, none⟩ = some (.int .i64 0) := (hb.cell (p := ⟨w.heap.size, 1, none⟩) (by simp)).trans (by simp)
      have f1 : w1.frozen? ⟨w.heap.size, 0, none⟩ = false := (hb.frozen (p := ⟨w.heap.size, 0, none⟩) (by simp)).trans (by simp)
      have f2 : w1.frozen? ⟨w.heap.size, 1, none⟩ = false := (hb.frozen (p := ⟨w.heap.size, 1, none⟩) (by simp)).trans (by simp)
      have hz : w.heap.size < w1.heap.size := by have := hb.size; simp at this; omega
      have hbw : Below w.heap.size w w1 := bstep ((Below.refl _ w).alloc (Nat.le_refl _) _) hb
      clear hb
      have hsl := HS.out
      go_wp2
      refine bodyPost_ret (v := .agg #[.string (s.extract k (k + n)), .int .i64 ((k : Int) + n)]) (by simp [results, Try.results23, go_sem, c1, c2, hz]) rfl ⟨?_, ?_⟩
      · rw [HF.out]
        exact ret_gotT (by rw [Lib.extract_data]; simp) (by omega)
      · exact balloc ((hbw.setCell (Nat.le_refl _) _).setCell (Nat.le_refl _) _) _

set_option maxRecDepth 100000 in
set_option maxHeartbeats 800000 in
theorem refSplit_any (s : ByteArray) (w : World) (hs : s.size ≤ 1000000) :
    Calls Try.prog 25 #[.string s] w (SplitEnd w (Vm.sp s.data.toList)) := by
  obtain ⟨i0, hi, hz0, hz1, hz2⟩ := info_parts info_u64
  go_enter Try.func25, Try.ntmps25
  go_wp2
  go_loopw [4, 5] (fun v a wr => ∃ (p : Nat) (xs : List Nat), a = .int .i64 p ∧ Sp w s.data.toList p xs v wr) (fun _ a _ => s.size - (intOf a).toNat)
  case atStart => exact ⟨0, [], rfl, ⟨by simp, by simp, by simp, World.ownsRow_nil _ _ _ _, Below.refl _ _, by simp⟩⟩
  case round =>
    obtain ⟨p, xs, rfl, h⟩ := hrel
    have hp : p ≤ s.size := by simpa using h.le
    have hx := h.few
    have hsz := h.bel.size
    by_cases hlt : p < s.size
    · cases hd : Vm.dec 0 (s.data.toList.drop p) with
      | none =>
        have he : rd s.data.toList (p : Int) = none := by rw [rd, if_neg (by simp; omega)]; simp [hd]
        have HE := Lib.hid he
        have HD := Lib.hid hd
        clear he hd
        go_wp2_with fail
        refine (refRead_any s p _ hs).mono ?_
        rintro e w1 ⟨rfl, hb1⟩
        rw [HE.out]
        simp only [gotV]
        go_wp2
        go_ret2
        have hne : s.data.toList.drop p ≠ [] := by
          intro e
          have := congrArg List.length e
          simp at this
          omega
        have hnone : Vm.sp s.data.toList = none := by rw [h.eq, Vm.sp_none hne HD.out]; rfl
        rw [hnone]
        exact ⟨rfl, balloc (bstep h.bel hb1) _⟩
      | some x =>
        obtain ⟨n, k⟩ := x
        have hk := Vm.dec_pos hd
        have he : rd s.data.toList (p : Int) = some (n, p + k) := by rw [rd, if_neg (by simp; omega)]; simp [hd]
        have HE := Lib.hid he
        have HD := Lib.hid hd
        simp only [List.length_drop, Array.length_toList] at hk
        obtain ⟨hk1, hk2⟩ := hk
        have hk3 : p + k ≤ s.size := by
          have e : s.data.size = s.size := rfl
          omega
        have hk0 : (((p + k : Nat) : Int) == 0) = false := by simp; omega
        clear he hd hk2
        go_wp2_with fail
        refine (refRead_any s p _ hs).mono ?_
        rintro e w1 ⟨rfl, hb1⟩
        rw [HE.out]
        simp only [gotV]
        have h1 : Sp w s.data.toList p xs _ w1 := sp_below h hb1
        have h2 := sp_alloc h1 (.cells #[.int .u64 (n : Int), .int .i64 ((p + k : Nat) : Int)] 35)
        have hown := h2.own
        have hsz1 := h1.bel.size
        go_wp2_with (at_builtin; refine wpList_append_own _ rfl _ _ 23 rfl w.heap.size 22 i0 (.int .u64 0) 1 8 Try.underlying23 hi hz0 hz1 hz2 rfl (by decide) _ _ _ rfl (hown.alloc _) ⟨w1.heap.size + 1, 0, none⟩ 1 1 [.int .u64 (n : Int)] rfl rfl ?c1 ?c2 ?c3 ?c4 ?c5 ?_)
        case c1 =>
          intro j u hj
          match j, hj with
          | 0, hj => simp at hj; subst hj; simp [Addr.add]
        case c2 => intro u hu; simp at hu; subst hu; rfl
        case c3 => unfold maxLen; omega
        case c4 => omega
        case c5 => simp; omega
        · intro v' w2 ho' hg _
          have R := sp_push h2 HD.out ho' hg
          have hcell : w2.cell? ⟨w1.heap.size, 1, none⟩ = some (.int .i64 ((p + k : Nat) : Int)) := by
            refine hg.cell ?_ ?_
            · simp
            · intro e
              have := (h1.own.lt _ e.symm).2
              simp at this
          clear ho' hg hown
          go_wp2
          go_roundw
          case rel => exact ⟨p + k, xs ++ [n], by go_num, R⟩
          case measure => simp [intOf]; omega
    · have hps : p = s.size := by omega
      have hsome : Vm.sp s.data.toList = some xs := by
        rw [h.eq, List.drop_eq_nil_of_le (by simp; omega), Vm.sp_nil]
        simp
      obtain ⟨a, cap, hv, hu⟩ := owned_nums h.own h.fit
      have hb := h.bel
      have HU := Lib.hid hu
      have HS := Lib.hid hsome
      clear hu hsome h hps
      subst hv
      go_wp2
      go_ret2
      rw [HS.out]
      exact ⟨a, cap, rfl, HU.out, by omega, hb⟩

end Go.Proofs.Ytpmebbamkkoakaa
