/- The walk of the law VaryReads. -/
import Derived.Test.YtpmebbamkkoakaaRefText
import Derived.Test.YtpmebbamkkoakaaVaryAwake
import Derived.Test.YtpmebbamkkoakaaVarySame
namespace Go.Proofs.Ytpmebbamkkoakaa
open Go.RowKit
set_option linter.unusedVariables false

theorem read_u (l : List UInt8) (at_ : Int) : ∃ (N E : Nat) (ok : Bool), ok = decide (0 < (E : Int)) ∧ rdV (rd l at_) = .tuple #[.int .u64 (N : Int), .int .i64 (E : Int), .bool ok] ∧ gotV (rd l at_) = .agg #[.int .u64 (N : Int), .int .i64 (E : Int)] := by
  cases h : rd l at_ with
  | none => exact ⟨0, 0, false, by decide, rfl, rfl⟩
  | some x =>
    obtain ⟨n, e⟩ := x
    have := rd_some h
    exact ⟨n, e, true, by simp; omega, rfl, rfl⟩
theorem text_u (l : List UInt8) (at_ most : Int) : ∃ (T : ByteArray) (E : Nat) (ok : Bool), ok = decide (0 < (E : Int)) ∧ rdtV (rdt l at_ most) = .tuple #[.string T, .int .i64 (E : Int), .bool ok] ∧ gotTV (rdt l at_ most) = .agg #[.string T, .int .i64 (E : Int)] := by
  rw [rdt]
  cases h : rd l at_ with
  | none => exact ⟨⟨#[]⟩, 0, false, by decide, rfl, rfl⟩
  | some x =>
    obtain ⟨n, e⟩ := x
    have := rd_some h
    simp only
    split
    · exact ⟨⟨#[]⟩, 0, false, by decide, rfl, rfl⟩
    · exact ⟨⟨((l.drop e).take n).toArray⟩, e + n, true, by simp; omega, rfl, rfl⟩
theorem split_u {w w' : World} {x : Option (List Nat)} {e : Ending} (h : SplitEnd w x e w') : ∃ a cap, e = .returned (.tuple #[.slice a (x.getD []).length cap, .bool x.isSome]) ∧ U64s w' a (x.getD []) ∧ (x.getD []).length ≤ 1099511627776 ∧ Below w.heap.size w w' := by
  cases x with
  | none => exact ⟨none, 0, h.1, ⟨by simp, fun i hi => absurd hi (by simp)⟩, by simp, h.2⟩
  | some zs => exact h

set_option maxRecDepth 100000 in
set_option maxHeartbeats 1000000 in
theorem walkVaryReads (w : World) (a0 : ByteArray) (w0 : a0.size ≤ maxLen) (a1 : Int) (w1 : (Lit.int .i64 a1).wf = true) (a2 : Int) (w2 : (Lit.int .i64 a2).wf = true) :
    Calls Try.prog 4 #[.string a0, .int .i64 a1, .int .i64 a2] w fun e w' => e = .returned (.bool true) ∧ Below w.heap.size w w' := by
  have hb2 := bounds_i64 w2
  have HM := Lib.hid hb2
  have hw0 : a0.size ≤ 9223372036854775807 := w0
  clear w0 w1 w2 hb2
  go_enter Try.func4, Try.ntmps4
  go_wp2_with fail
  refine (awake_any _).mono ?_
  rintro e w1 ⟨rfl, hb1⟩
  go_wp2_with fail
  refine (short_any a0 40 _ hw0 (by omega)).mono ?_
  rintro e w1' ⟨rfl, rfl⟩
  have hs := short_size a0.data.toList 40
  generalize (⟨(a0.data.toList.take 40).toArray⟩ : ByteArray) = s at hs ⊢
  obtain ⟨N, E, ok, hok, e1, e2⟩ := read_u s.data.toList a1
  obtain ⟨T, F, is, his, e3, e4⟩ := text_u s.data.toList a1 a2
  have HOK := Lib.hid hok
  have HIS := Lib.hid his
  have H1 := Lib.hid e1
  have H2 := Lib.hid e2
  have H3 := Lib.hid e3
  have H4 := Lib.hid e4
  clear hok his e1 e2 e3 e4
  go_wp2_with fail
  refine (read_any s a1 _ (by omega)).mono ?_
  rintro e w1' ⟨rfl, rfl⟩
  rw [H1.out]
  go_wp2_with fail
  refine (refRead_any s a1 _ (by omega)).mono ?_
  rintro e w3 ⟨rfl, hb3⟩
  rw [H2.out]
  go_wp2_with fail
  refine (readText_any s a1 a2 _ (by omega) ⟨HM.out.1, HM.out.2⟩).mono ?_
  rintro e w3' ⟨rfl, rfl⟩
  rw [H3.out]
  go_wp2_with fail
  refine (refReadText_any s a1 a2 _ (by omega) ⟨HM.out.1, HM.out.2⟩).mono ?_
  rintro e w4 ⟨rfl, hb4⟩
  rw [H4.out]
  go_wp2_with fail
  refine (split_any s _ (by omega)).mono ?_
  intro e w5 hsp
  obtain ⟨la, lc, rfl, hu5, hl5, hb5⟩ := split_u hsp
  go_wp2_with fail
  refine (refSplit_any s _ (by omega)).mono ?_
  intro e w6 hsp6
  obtain ⟨ma, mc, rfl, hu6, hl6, hb6⟩ := split_u hsp6
  clear hsp hsp6
  generalize hX : Vm.sp s.data.toList = X at hu5 hl5 hu6 hl6 ⊢
  go_wp2_with fail
  refine (same_at _ _ _ _ _ _ (X.getD []) _ rfl rfl (hu5.below hb6) hu6 hl6).mono ?_
  rintro e w7 ⟨rfl, hd⟩
  have hb7 := hd.below
  have hG : Below _ _ w7 := bstep (bstep (bstep (balloc hb4 _) hb5) hb6) hb7
  have hH : Below _ _ w7 := bstep (bstep hb5 hb6) hb7
  have c1 : w7.cell? ⟨w3.heap.size, 0, none⟩ = some (.int .u64 (N : Int)) := (hG.cell (p := ⟨w3.heap.size, 0, none⟩) (by simp)).trans (by simp)
  have c2 : w7.cell? ⟨w3.heap.size, 1, none⟩ = some (.int .i64 (E : Int)) := (hG.cell (p := ⟨w3.heap.size, 1, none⟩) (by simp)).trans (by simp)
  have c3 : w7.cell? ⟨w4.heap.size, 0, none⟩ = some (.string T) := (hH.cell (p := ⟨w4.heap.size, 0, none⟩) (by simp)).trans (by simp)
  have c4 : w7.cell? ⟨w4.heap.size, 1, none⟩ = some (.int .i64 (F : Int)) := (hH.cell (p := ⟨w4.heap.size, 1, none⟩) (by simp)).trans (by simp)
  have hW : Below w.heap.size w w7 := bstep (balloc (bstep hb1 hb3) _) hG
  have hok := HOK.out
  have his := HIS.out
  subst hok his
  clear hG hH hb1 hb3 hb4 hb5 hb6 hb7 hu5 hu6 hl5 hl6 hX HOK HIS H1 H2 H3 H4 hd
  go_wp2
  go_ret
  exact ⟨rfl, hW⟩

end Go.Proofs.Ytpmebbamkkoakaa
