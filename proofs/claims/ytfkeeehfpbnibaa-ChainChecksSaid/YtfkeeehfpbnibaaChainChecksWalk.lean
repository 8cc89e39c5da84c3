/- ChainChecks, walked: which chains may be. -/
import Derived.Test.YtfkeeehfpbnibaaGC24
namespace Go.Proofs.Ytfkeeehfpbnibaa
open Go.RowKit Go.Shelf
set_option linter.unusedVariables false
set_option linter.unusedSimpArgs false

/-- A version without a past, its value cut. -/
def cutA (x : Vw) : Vw := (⟨x.1.key, if 40 < x.1.val.size then x.1.val.extract 0 40 else x.1.val, x.1.gone, x.1.st, []⟩, none, 0)
theorem cutA_bd {x : Vw} (h : (x.1.key.size ≤ 9223372036854775807 ∧ x.1.val.size ≤ 9223372036854775807) ∧ In64 x.1.st) (w : World) : VwB w (cutA x) := by
  refine ⟨⟨h.1.1, ?_, by simp [cutA], (fun d hd => by simp [cutA] at hd), DepAt.nil _⟩, h.2⟩
  show (if 40 < x.1.val.size then x.1.val.extract 0 40 else x.1.val).size ≤ _
  split
  · rw [ByteArray.size_extract]; omega
  · exact h.1.2
theorem cut_take {l : List Vw} {k : Nat} (h : k < l.length) : (l.take (k + 1)).map cutA = (l.take k).map cutA ++ [cutA l[k]] := by
  rw [List.take_succ_eq_append_getElem h, List.map_append]
  rfl

set_option maxRecDepth 100000 in
set_option maxHeartbeats 3200000 in
theorem walkChainChecks (w : World) (a : Option Addr) (l : List Vw) (cap : Nat) (hlen : l.length ≤ 9223372036854775807) (hbd : ∀ y ∈ l, (y.1.key.size ≤ 9223372036854775807 ∧ y.1.val.size ≤ 9223372036854775807) ∧ In64 y.1.st) (hrow : RowIn KW w a l) :
    Calls Try.prog 3 #[.slice a l.length cap] w fun e w' => e = .returned (.bool true) ∧ Below w.heap.size w w' := by
  have HROW := Lib.hid hrow
  have HBD := Lib.hid hbd
  clear hrow hbd
  go_enter Try.func3, Try.ntmps3
  go_wp2_with fail
  refine (awake12_any _).mono ?_
  rintro e w1 ⟨rfl, hb1⟩
  have HB1 := Lib.hid hb1
  clear hb1
  go_wp2
  go_loopw [4, 5] (fun o i wr => ∃ k : Nat, k ≤ l.length ∧ k ≤ 8 ∧ i = .int .i64 k ∧ OwnR KW wr w1.heap.size o ((l.take k).map cutA) ∧ Below w1.heap.size w1 wr) (fun _ i _ => 8 - (intOf i).toNat)
  case atStart => exact ⟨0, by omega, by omega, rfl, OwnR.nil _ _ _, Below.refl _ _⟩
  case round =>
    obtain ⟨k, hk, hk8, rfl, ho, hbel⟩ := hrel
    obtain ⟨sa, sc, rfl⟩ := ho.shape
    have HO := Lib.hid ho
    have HB := Lib.hid hbel
    have HBW := Lib.hid (bstep HB1.out hbel)
    have hbs := hbel.size
    have hml : ((l.take k).map cutA).length ≤ 8 := by rw [List.length_map, List.length_take]; omega
    clear ho
    have fin : (k < l.length ∧ k < 8) ∨ ¬ (k < l.length ∧ k < 8) := by omega
    rcases fin with ⟨hlt, hlt8⟩ | hend
    · obtain ⟨b, off, rfl, hbl, hcs⟩ := HROW.out.below HBW.out k hlt
      have HST := Lib.hid (cut_take hlt)
      have HBK := Lib.hid (HBD.out _ (List.getElem_mem hlt))
      have hq := VwQ.of_row hcs
      obtain ⟨M2, hM2⟩ : ∃ M2, (l.take (k + 1)).map cutA = M2 := ⟨_, rfl⟩
      have HM2 := Lib.hid hM2
      rw [hM2] at HST
      clear hM2 hcs
      generalize l[k] = x at hq HST HBK
      obtain ⟨c0, c1, c2, c3, c4, c5⟩ := hq
      obtain ⟨⟨key, val, gone, ⟨m, t⟩, past⟩, pa, pc⟩ := x
      dsimp only [pw, KW] at c0 c1 c2 c3 c4 c5
      have hki : (k : Int) < (l.length : Int) := by omega
      have hki8 : (k : Int) < 8 := by omega
      have hvs := HBK.out.1.2
      dsimp only at hvs
      generalize ((l.take k).map cutA) = P at HO HST hml ⊢
      by_cases h40 : 40 < val.size
      · have h40i : (40 : Int) < (val.size : Int) := by omega
        have hcut : cutA (⟨key, val, gone, (m, t), past⟩, pa, pc) = (⟨key, val.extract 0 40, gone, (m, t), []⟩, none, 0) := by unfold cutA; simp [h40]
        rw [hcut] at HST
        clear hcut
        go_upto_region 10 with fail
        obtain ⟨w2, hw2⟩ : ∃ w2, wr.alloc (.cells #[.string key, .string (val.extract 0 40), .bool gone, .int .i64 m, .int .i64 t, .slice none 0 0] 28) = w2 := ⟨_, rfl⟩
        have hb2 : Below wr.heap.size wr w2 := by rw [← hw2]; exact balloc (Below.refl _ wr) _
        have hv2 : VwP w2 wr.heap.size ⟨key, (val.extract 0 40), gone, (m, t), []⟩ (.slice none 0 0) := by rw [← hw2]; exact VwP.new wr ⟨key, (val.extract 0 40), gone, (m, t), []⟩ (.slice none 0 0) 28
        try rw [hw2]
        clear hw2
        have HO2 := Lib.hid (HO.out.below hb2)
        have HB2 := Lib.hid hb2
        have hbs2 : w1.heap.size ≤ w2.heap.size := by have := hb2.size; omega
        obtain ⟨x0, x1, x2, x3, x4, x5, _⟩ := hv2
        dsimp only at x0 x1 x2 x3 x4 x5
        clear hb2
        go_wp2_with (at_builtin; refine wp_pushR kw_ok (wr := w2) rfl _ _ rfl w1.heap.size (.slice sa P.length sc) P (⟨key, (val.extract 0 40), gone, (m, t), []⟩, none, 0) #[.string key, .string (val.extract 0 40), .bool gone, .int .i64 m, .int .i64 t, .slice none 0 0] rfl rfl HO2.out rfl (by omega) hbs2 ?_; intro g3 cap3 w8 ho8 hb8 hk8 hat8 hlt8)
        go_roundw
        case rel => exact ⟨k + 1, by omega, by omega, by go_num, by rw [HM2.out, HST.out]; simpa using ho8, (HB.out.trans ((HB2.out).mono hbs)).trans hb8⟩
        case measure => simp [intOf]; omega
      · have h40i : ¬ (40 : Int) < (val.size : Int) := by omega
        have hcut : cutA (⟨key, val, gone, (m, t), past⟩, pa, pc) = (⟨key, val, gone, (m, t), []⟩, none, 0) := by unfold cutA; simp [h40]
        rw [hcut] at HST
        clear hcut
        go_upto_region 10 with fail
        obtain ⟨w2, hw2⟩ : ∃ w2, wr.alloc (.cells #[.string key, .string val, .bool gone, .int .i64 m, .int .i64 t, .slice none 0 0] 28) = w2 := ⟨_, rfl⟩
        have hb2 : Below wr.heap.size wr w2 := by rw [← hw2]; exact balloc (Below.refl _ wr) _
        have hv2 : VwP w2 wr.heap.size ⟨key, val, gone, (m, t), []⟩ (.slice none 0 0) := by rw [← hw2]; exact VwP.new wr ⟨key, val, gone, (m, t), []⟩ (.slice none 0 0) 28
        try rw [hw2]
        clear hw2
        have HO2 := Lib.hid (HO.out.below hb2)
        have HB2 := Lib.hid hb2
        have hbs2 : w1.heap.size ≤ w2.heap.size := by have := hb2.size; omega
        obtain ⟨x0, x1, x2, x3, x4, x5, _⟩ := hv2
        dsimp only at x0 x1 x2 x3 x4 x5
        clear hb2
        go_wp2_with (at_builtin; refine wp_pushR kw_ok (wr := w2) rfl _ _ rfl w1.heap.size (.slice sa P.length sc) P (⟨key, val, gone, (m, t), []⟩, none, 0) #[.string key, .string val, .bool gone, .int .i64 m, .int .i64 t, .slice none 0 0] rfl rfl HO2.out rfl (by omega) hbs2 ?_; intro g3 cap3 w8 ho8 hb8 hk8 hat8 hlt8)
        go_roundw
        case rel => exact ⟨k + 1, by omega, by omega, by go_num, by rw [HM2.out, HST.out]; simpa using ho8, (HB.out.trans ((HB2.out).mono hbs)).trans hb8⟩
        case measure => simp [intOf]; omega
    · have hbdm : ∀ W, ∀ y ∈ (l.take k).map cutA, VwB W y := fun W y hy => by
        obtain ⟨x, hx, rfl⟩ := List.mem_map.1 hy
        exact cutA_bd (HBD.out x (List.mem_of_mem_take hx)) W
      have hr := WRow.of_own HO.out (hbdm _)
      have hck := fun W (h : Below wr.heap.size wr W) => ccheck_any _ _ W (by omega) (hr.below h)
      have hrk := fun W (h : Below wr.heap.size wr W) => rcheck_any _ _ W (by omega) (hr.below h)
      rw [chk_same] at hck
      generalize chk2 (hdK ((l.take k).map cutA)) none ((l.take k).map cutA) = r at hck hrk
      generalize ((l.take k).map cutA).length = ml at hck hrk hml ⊢
      have hbe : ∀ W, Below wr.heap.size wr W → Below w.heap.size w W := fun W h => bstep HBW.out h
      have HBE := Lib.hid hbe
      clear hr hbdm hbe
      by_cases hkl : k < l.length
      · have h8 : ¬ (k : Int) < 8 := by omega
        have hki : (k : Int) < (l.length : Int) := by omega
        clear hend hk8 hk
        go_wp2_with fail
        refine (hck _ (Below.refl _ _)).mono ?_
        rintro e w5 ⟨rfl, hb5⟩
        go_wp2_with fail
        refine (hrk _ hb5).mono ?_
        rintro e w6 ⟨rfl, hb6⟩
        go_wp2
        go_ret
        exact ⟨ret_bool (by simp), HBE.out _ (bstep hb5 hb6)⟩
      · have hki : ¬ (k : Int) < (l.length : Int) := by omega
        clear hend hk8 hk
        go_wp2_with fail
        refine (hck _ (Below.refl _ _)).mono ?_
        rintro e w5 ⟨rfl, hb5⟩
        go_wp2_with fail
        refine (hrk _ hb5).mono ?_
        rintro e w6 ⟨rfl, hb6⟩
        go_wp2
        go_ret
        exact ⟨ret_bool (by simp), HBE.out _ (bstep hb5 hb6)⟩
end Go.Proofs.Ytfkeeehfpbnibaa
