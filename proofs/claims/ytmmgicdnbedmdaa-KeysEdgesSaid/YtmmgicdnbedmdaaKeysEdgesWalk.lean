/- The walk of the law KeysEdges. -/
import Derived.Test.YtmmgicdnbedmdaaKeysAwake
namespace Go.Proofs.Ytmmgicdnbedmdaa
open Go.RowKit
set_option linter.unusedVariables false

namespace Km
theorem has_all (k : List UInt8) : has [] [] k = true := by
  unfold has
  rw [bl_nil]
  rfl
theorem good_nil : good [] [] = true := by unfold good bound; rfl
theorem has_from {f t : List UInt8} (h : good f t = true) : has f t f = true := by
  unfold good at h
  unfold has
  rw [bl_irrefl]
  simp at h ⊢
  exact h.2
theorem has_to {f t : List UInt8} (h : t ≠ []) : has f t t = false := by
  unfold has
  rw [bl_irrefl]
  have : t.isEmpty = false := by simpa using h
  rw [this]
  simp
theorem has_ge {f t k : List UInt8} (h : has f t k = true) : Op.bytesLess k f = false := by
  unfold has at h
  simp at h
  exact h.1
theorem meet_all {f t : List UInt8} (h : good f t = true) : meet f t [] [] = true := by
  unfold meet
  rw [h, good_nil, has_all]
  simp
end Km

theorem has_empty (k : ByteArray) (w : World) :
    Calls Try.prog 20 #[.agg #[.string ⟨#[]⟩, .string ⟨#[]⟩], .string k] w fun e w' => e = .returned (.bool true) ∧ Below w.heap.size w w' := by
  have h := has_any ⟨#[]⟩ ⟨#[]⟩ k w
  have e : Km.has (⟨#[]⟩ : ByteArray).data.toList (⟨#[]⟩ : ByteArray).data.toList k.data.toList = true := Km.has_all _
  rw [e] at h
  exact h
theorem has_b (f t k : ByteArray) (b : Bool) (w : World) (hb : Km.has f.data.toList t.data.toList k.data.toList = b) :
    Calls Try.prog 20 #[.agg #[.string f, .string t], .string k] w fun e w' => e = .returned (.bool b) ∧ Below w.heap.size w w' := by
  rw [← hb]
  exact has_any f t k w
theorem meet_empty (f t : ByteArray) (w : World) (hf : f.size ≤ 1099511627776) (ht : t.size ≤ 1099511627776) (hg : Km.good f.data.toList t.data.toList = true) :
    Calls Try.prog 22 #[.agg #[.string f, .string t], .agg #[.string ⟨#[]⟩, .string ⟨#[]⟩]] w fun e w' => e = .returned (.bool true) ∧ Below w.heap.size w w' := by
  have h := meet_any f t ⟨#[]⟩ ⟨#[]⟩ w hf ht (by decide) (by decide)
  have e : Km.meet f.data.toList t.data.toList (⟨#[]⟩ : ByteArray).data.toList (⟨#[]⟩ : ByteArray).data.toList = true := Km.meet_all hg
  rw [e] at h
  exact h

set_option maxRecDepth 100000 in
set_option maxHeartbeats 1600000 in
theorem walkKeysEdges (w : World) (f t k : ByteArray) (hf : f.size ≤ maxLen) (ht : t.size ≤ maxLen) (hk : k.size ≤ maxLen) :
    Calls Try.prog 8 #[.agg #[.string f, .string t], .string k] w fun e w' => e = .returned (.bool true) ∧ Below w.heap.size w w' := by
  unfold maxLen at hf ht hk
  go_enter Try.func8, Try.ntmps8
  go_wp2_with fail
  refine (kawake_any _).mono ?_
  rintro e w1 ⟨rfl, hb⟩
  have f0 : w1.frozen? ⟨w.heap.size, 0, none⟩ = false := by rw [hb.frozen (p := ⟨w.heap.size, 0, none⟩) (by simp)]; simp
  have f1 : w1.frozen? ⟨w.heap.size, 1, none⟩ = false := by rw [hb.frozen (p := ⟨w.heap.size, 1, none⟩) (by simp)]; simp
  obtain ⟨c0, c1, z1, hb1⟩ := box2 hb
  clear hb
  go_wp2_with fail
  refine (kcut_any f 20 _ hf (by omega)).mono ?_
  rintro e w2 ⟨rfl, rfl⟩
  have hf' := kcut_size 20 f
  generalize kcut 20 f = f' at hf'
  go_wp2_with fail
  refine (kcut_any t 20 _ ht (by omega)).mono ?_
  rintro e w2 ⟨rfl, rfl⟩
  have ht' := kcut_size 20 t
  generalize kcut 20 t = t' at ht'
  go_wp2_with fail
  have d0 : ((w1.setCell ⟨w.heap.size, 0, none⟩ (.string f')).setCell ⟨w.heap.size, 1, none⟩ (.string t')).cell? ⟨w.heap.size, 0, none⟩ = some (.string f') := by
    go_simp
  have d1 : ((w1.setCell ⟨w.heap.size, 0, none⟩ (.string f')).setCell ⟨w.heap.size, 1, none⟩ (.string t')).cell? ⟨w.heap.size, 1, none⟩ = some (.string t') := by
    go_simp
  have hb2 : Below w.heap.size w ((w1.setCell ⟨w.heap.size, 0, none⟩ (.string f')).setCell ⟨w.heap.size, 1, none⟩ (.string t')) := (hb1.setCell (Nat.le_refl _) _).setCell (Nat.le_refl _) _
  have z2 : w.heap.size < ((w1.setCell ⟨w.heap.size, 0, none⟩ (.string f')).setCell ⟨w.heap.size, 1, none⟩ (.string t')).heap.size := by simp; omega
  clear c0 c1 f0 f1 hb1 z1 hf ht hk
  generalize ((w1.setCell ⟨w.heap.size, 0, none⟩ (.string f')).setCell ⟨w.heap.size, 1, none⟩ (.string t')) = w2 at *
  refine (good_any f' t' _ (by omega) (by omega)).mono ?_
  rintro e w3 ⟨rfl, hb⟩
  have q0 := kcell hb z2 d0
  have q1 := kcell hb z2 d1
  have zq : w.heap.size < w3.heap.size := by have := hb.size; omega
  have hbq := bstep hb2 hb
  clear d0 d1 z2 hb2 hb
  have d0 := q0
  have d1 := q1
  have z2 := zq
  have hb2 := hbq
  clear q0 q1 zq hbq
  cases hg : Km.good f'.data.toList t'.data.toList with
  | false =>
    clear hg
    go_wp2_with fail
    refine (has_empty k _).mono ?_
    rintro e w4 ⟨rfl, hb⟩
    go_wp2
    go_ret
    exact ⟨rfl, bstep hb2 hb⟩
  | true =>
    have HG := Lib.hid hg
    clear hg
    go_wp2_with fail
    refine (has_b f' t' f' true _ (Km.has_from HG.out)).mono ?_
    rintro e w4 ⟨rfl, hb⟩
    have q0 := kcell hb z2 d0
    have q1 := kcell hb z2 d1
    have zq : w.heap.size < w4.heap.size := by have := hb.size; omega
    have hbq := bstep hb2 hb
    clear d0 d1 z2 hb2 hb
    have d0 := q0
    have d1 := q1
    have z2 := zq
    have hb2 := hbq
    clear q0 q1 zq hbq
    by_cases hte : t'.data.toList = []
    · have hte1 : t'.toList = [] := by rw [Lib.toList_data]; exact hte
      have hte2 : t'.toList.isEmpty = true := by rw [hte1]; rfl
      clear hte
      go_wp2_with fail
      refine (has_empty k _).mono ?_
      rintro e w6 ⟨rfl, hb⟩
      have q0 := kcell hb z2 d0
      have q1 := kcell hb z2 d1
      have zq : w.heap.size < w6.heap.size := by have := hb.size; omega
      have hbq := bstep hb2 hb
      clear d0 d1 z2 hb2 hb
      have d0 := q0
      have d1 := q1
      have z2 := zq
      have hb2 := hbq
      clear q0 q1 zq hbq
      go_wp2_with fail
      refine (has_any f' t' k _).mono ?_
      rintro e w7 ⟨rfl, hb⟩
      have q0 := kcell hb z2 d0
      have q1 := kcell hb z2 d1
      have zq : w.heap.size < w7.heap.size := by have := hb.size; omega
      have hbq := bstep hb2 hb
      clear d0 d1 z2 hb2 hb
      have d0 := q0
      have d1 := q1
      have z2 := zq
      have hb2 := hbq
      clear q0 q1 zq hbq
      cases hh : Km.has f'.data.toList t'.data.toList k.data.toList with
      | false =>
        clear hh
        go_wp2_with fail
        refine (meet_empty f' t' _ (by omega) (by omega) HG.out).mono ?_
        rintro e w8 ⟨rfl, hb⟩
        go_wp2
        go_ret
        exact ⟨rfl, bstep hb2 hb⟩
      | true =>
        have hge : Op.bytesLess k.toList f'.toList = false := by rw [Lib.toList_data, Lib.toList_data]; exact Km.has_ge hh
        clear hh
        go_wp2_with fail
        refine (meet_empty f' t' _ (by omega) (by omega) HG.out).mono ?_
        rintro e w8 ⟨rfl, hb⟩
        go_wp2
        go_ret
        exact ⟨rfl, bstep hb2 hb⟩
    · have HTE := Lib.hid hte
      have hte1 : ¬ t'.toList = [] := by rw [Lib.toList_data]; exact hte
      have hte2 : t'.toList.isEmpty = false := by simpa using hte1
      clear hte
      go_wp2_with fail
      refine (has_b f' t' t' false _ (Km.has_to HTE.out)).mono ?_
      rintro e w5 ⟨rfl, hb⟩
      have q0 := kcell hb z2 d0
      have q1 := kcell hb z2 d1
      have zq : w.heap.size < w5.heap.size := by have := hb.size; omega
      have hbq := bstep hb2 hb
      clear d0 d1 z2 hb2 hb
      have d0 := q0
      have d1 := q1
      have z2 := zq
      have hb2 := hbq
      clear q0 q1 zq hbq
      go_wp2_with fail
      refine (has_empty k _).mono ?_
      rintro e w6 ⟨rfl, hb⟩
      have q0 := kcell hb z2 d0
      have q1 := kcell hb z2 d1
      have zq : w.heap.size < w6.heap.size := by have := hb.size; omega
      have hbq := bstep hb2 hb
      clear d0 d1 z2 hb2 hb
      have d0 := q0
      have d1 := q1
      have z2 := zq
      have hb2 := hbq
      clear q0 q1 zq hbq
      go_wp2_with fail
      refine (has_any f' t' k _).mono ?_
      rintro e w7 ⟨rfl, hb⟩
      have q0 := kcell hb z2 d0
      have q1 := kcell hb z2 d1
      have zq : w.heap.size < w7.heap.size := by have := hb.size; omega
      have hbq := bstep hb2 hb
      clear d0 d1 z2 hb2 hb
      have d0 := q0
      have d1 := q1
      have z2 := zq
      have hb2 := hbq
      clear q0 q1 zq hbq
      cases hh : Km.has f'.data.toList t'.data.toList k.data.toList with
      | false =>
        clear hh
        go_wp2_with fail
        refine (meet_empty f' t' _ (by omega) (by omega) HG.out).mono ?_
        rintro e w8 ⟨rfl, hb⟩
        go_wp2
        go_ret
        exact ⟨rfl, bstep hb2 hb⟩
      | true =>
        have hge : Op.bytesLess k.toList f'.toList = false := by rw [Lib.toList_data, Lib.toList_data]; exact Km.has_ge hh
        clear hh
        go_wp2_with fail
        refine (meet_empty f' t' _ (by omega) (by omega) HG.out).mono ?_
        rintro e w8 ⟨rfl, hb⟩
        go_wp2
        go_ret
        exact ⟨rfl, bstep hb2 hb⟩
end Go.Proofs.Ytmmgicdnbedmdaa
