/- Texts of this proof, one behind the other: ChMade, ChAwake, Struct5, Open4. -/
import Derived.Test.YtfkeeehfpbnibaaGC21
import Derived.Lib.ConvBytes
import Derived.Laws.IdiomStrings
import Derived.Lib.SlBytesRow
import Derived.Lib.RabinKarpLaws
import Derived.Deep.Strs
/- What the law's ver and made answer; the chapter's example. -/
namespace Go.Proofs.Ytfkeeehfpbnibaa
open Go.RowKit Go.Shelf
set_option linter.unusedVariables false
set_option linter.unusedSimpArgs false

theorem kconv12 (w : World) (b off : Nat) (c : UInt8) (x : Int) (hx : x = (c.toNat : Int)) (h : w.cell? ⟨b, off, none⟩ = some (.int .u8 x)) :
    (convert 53 9 (.slice (some ⟨b, off, none⟩) 1 1)).run Try.prog w = .ok (.string ⟨#[c]⟩) w := by
  subst hx
  exact run_convert_bytes_back (P := Try.prog) w 53 9 5 ⟨b, off, none⟩ 1 [c] Try.underlying53 Try.underlying5 Try.underlying9 (by
    intro j hj
    obtain rfl : j = 0 := by simpa using hj
    rw [Addr.add_lit]
    simp [h])
def verN (n : Int) : Vw := mkA (n, 0) ⟨#[]⟩

set_option maxRecDepth 100000 in
theorem ver_any (n : Int) (w : World) :
    Calls Try.prog 21 #[.int .i64 n] w fun e w' => e = .returned (wV (verN n)) ∧ Below w.heap.size w w' := by
  unfold verN mkA kA
  dsimp only [wV, wcs, wvs, pw, List.length_nil]
  go_enter Try.func21, Try.ntmps21
  go_wp2
  refine bodyPost_ret (v := .agg #[.string ⟨#[97]⟩, .string ⟨#[]⟩, .bool false, .int .i64 n, .int .i64 0, .slice none 0 0]) (by simp [results, Try.results21, go_sem]) rfl ⟨rfl, balloc (Below.refl _ w) _⟩

set_option maxRecDepth 100000 in
set_option maxHeartbeats 1600000 in
theorem madeN_any (v : Value) (l : List (Int × Int)) (w : World) (hl : l.length ≤ 9223372036854775807) (hr : RowAt KT w v l) (h64 : ∀ d ∈ l, In64 d) :
    Calls Try.prog 16 #[v] w fun e w' => ∃ v', e = .returned v' ∧ OwnR KW w' w.heap.size v' (madeK l (madeN l)) ∧ WRow w' v' (madeK l (madeN l)) ∧ Below w.heap.size w w' := by
  have HP := Lib.hid hr
  obtain ⟨a, cap, rfl, _, _, _, _⟩ := id hr
  clear hr
  have HNL : Hid (madeN l ≤ l.length ∧ madeN l ≤ 16 ∧ (madeN l < l.length → madeN l = 16)) := Lib.hid (by unfold madeN; omega)
  obtain ⟨N, hN⟩ : ∃ N, madeN l = N := ⟨_, rfl⟩
  have HN := Lib.hid hN
  rw [hN] at HNL ⊢
  clear hN
  go_enter Try.func16, Try.ntmps16
  go_wp2
  go_loopw [3, 4] (fun o i wr => ∃ k : Nat, k ≤ N ∧ i = .int .i64 k ∧ OwnR KW wr w.heap.size o (madeK l k) ∧ WRow wr o (madeK l k) ∧ Below w.heap.size w wr) (fun _ i _ => l.length - (intOf i).toNat)
  case atStart => exact ⟨0, by omega, rfl, OwnR.nil _ _ _, WRow.nil _, Below.refl _ _⟩
  case round =>
    obtain ⟨k, hk, rfl, hown, ho, hbel⟩ := hrel
    have HOW := Lib.hid hown
    clear hown
    obtain ⟨sa, sc, rfl, _, _, _⟩ := ho.shape
    have HO := Lib.hid ho
    have HB := Lib.hid hbel
    have HLL := Lib.hid (madeK_len l k)
    clear ho
    obtain ⟨n1, n2, n3⟩ := HNL.out
    by_cases hlt : k < N
    · have hkl : k < l.length := by omega
      have hk16 : k < 16 := by omega
      obtain ⟨b, off, rfl, hbl, d0, d1⟩ := RowIn.st (w := wr) (a := a) (l := l) (by obtain ⟨a', c', e, _, _, _, h⟩ := HP.out.below hbel; cases e; exact h) k hkl
      have hi64 := h64 _ (List.getElem_mem hkl)
      have HMK : Hid (madeK l (k + 1) = putR (madeK l k) (mkA l[k] (letterA k))) := Lib.hid (by
        show putR (madeK l k) (mkA (l.getD k (0, 0)) (letterA k)) = _
        rw [List.getD_eq_getElem?_getD, List.getElem?_eq_getElem hkl]; rfl)
      have hput := fun W v (h : WRow W v (madeK l k)) => rputN_any v (madeK l k) (mkA l[k] (letterA k)) W (by have := HLL.out; omega) h (mkA_bd (by show (1 : Nat) ≤ 32; omega) hi64)
      generalize l[k] = d at d0 d1 HMK hput
      obtain ⟨y, z⟩ := d
      dsimp only at d0 d1
      have hw1 : IntKind.i64.wrap (97 + (k : Int)) = 97 + (k : Int) := IntWalk.i64_in _ (by omega)
      have hw2 : IntKind.u8.wrap (97 + (k : Int)) = 97 + (k : Int) := IntWalk.u8_in _ (by omega)
      obtain ⟨c, hc⟩ : ∃ c : UInt8, c.toNat = 97 + k ∧ letterA k = ⟨#[c]⟩ := ⟨UInt8.ofNat (97 + k), by rw [UInt8.toNat_ofNat']; omega, rfl⟩
      have hcv : ∀ (w' : World) (b off : Nat), w'.cell? ⟨b, off, none⟩ = some (.int .u8 (97 + (k : Int))) → _ := fun w' b off h => kconv12 w' b off c _ (by omega) h
      rw [hc.2] at HMK hput
      have HC := Lib.hid hc
      clear hc
      have hki : (k : Int) < (l.length : Int) := by omega
      have hki16 : (k : Int) < 16 := by omega
      go_upto_region 5 with fail
      go_cut [5] (fun s5 wx => ∃ B, s5 = .pointer (some ⟨B, 0, none⟩) ∧ VwP wx B ⟨kA, ⟨#[c]⟩, false, (y, z), []⟩ (.slice none 0 0) ∧ Below wr.heap.size wr wx)
      case first =>
        go_region
        all_goals
          go_wp2
          go_meet
          exact ⟨_, rfl, ⟨by simp [kA], by simp, by simp, by simp, by simp, by simp, fun j hj => by simp⟩, (balloc (balloc (Below.refl _ wr) _) _).drew⟩
      case rest =>
        obtain ⟨B, rfl, hV, hbx⟩ := hcut
        have hput1 := hput wc (.slice sa (madeK l k).length sc) (HO.out.below hbx)
        have HB2 := Lib.hid (bstep HB.out hbx)
        have HBX := Lib.hid hbx
        unfold mkA at hput1
        dsimp only [wV, wcs, wvs, pw, List.length_nil] at hput1
        obtain ⟨x0, x1, x2, x3, x4, x5, _⟩ := hV
        dsimp only at x0 x1 x2 x3 x4 x5
        clear hput hcv hbx HO hbel
        have HPUT := Lib.hid hput1
        clear hput1
        go_wp2_with fail
        refine HPUT.out.mono ?_
        rintro e w4 ⟨v4, rfl, hown4, ho4, hb4⟩
        obtain ⟨ta, tc, rfl, _, _, _⟩ := ho4.shape
        have HO4 := Lib.hid ho4
        have HOW4 : Hid (OwnR KW w4 w.heap.size (.slice ta (putR (madeK l k) (mkA (y, z) ⟨#[c]⟩)).length tc) (madeK l (k + 1))) := Lib.hid (by
          rw [HMK.out]
          unfold mkA
          rcases hown4 with h | ⟨h1, h2⟩
          · exact h.mono (by have := HBX.out.size; have := HB.out.size; omega)
          · have h3 := (HOW.out.below HBX.out).below hb4
            rw [h1, h2]
            exact h3)
        clear ho4 hown4
        go_wp2
        go_roundw
        case rel => exact ⟨k + 1, by omega, by go_num, HOW4.out, by rw [HMK.out]; exact HO4.out, bstep HB2.out hb4⟩
        case measure => simp [intOf]; omega
    · obtain rfl : k = N := by omega
      by_cases hkl : k < l.length
      · have h16 : k = 16 := n3 hkl
        have hki : (k : Int) < (l.length : Int) := by omega
        have hki16 : ¬ (k : Int) < 16 := by omega
        have H16 := Lib.hid h16
        clear h16 n1 n2 n3 hlt hk
        go_wp2
        go_ret
        exact ⟨_, rfl, HOW.out, HO.out, HB.out⟩
      · have hki : ¬ (k : Int) < (l.length : Int) := by omega
        clear n1 n2 n3 hlt hk
        go_wp2
        go_ret
        exact ⟨_, rfl, HOW.out, HO.out, HB.out⟩

theorem made_any (v : Value) (l : List (Int × Int)) (w : World) (hl : l.length ≤ 9223372036854775807) (hr : RowAt KT w v l) (h64 : ∀ d ∈ l, In64 d) :
    Calls Try.prog 16 #[v] w fun e w' => ∃ v', e = .returned v' ∧ WRow w' v' (madeK l (madeN l)) ∧ Below w.heap.size w w' :=
  (madeN_any v l w hl hr h64).mono fun e w' ⟨v', h1, _, h2, h3⟩ => ⟨v', h1, h2, h3⟩
/-- What is made is within bounds, whatever the memory. -/
theorem madeK_bd {l : List (Int × Int)} (h64 : ∀ d ∈ l, In64 d) (W : World) : ∀ k, ∀ x ∈ madeK l k, VwB W x
  | 0 => by simp [madeK]
  | k + 1 => fun x hx => by
    rcases putR_mem hx with rfl | h
    · refine mkA_bd (by show (1 : Nat) ≤ 32; omega) ?_
      rw [List.getD_eq_getElem?_getD]
      cases e : l[k]? with
      | none => unfold In64; decide
      | some d => exact h64 d (List.mem_of_getElem? e)
    · exact madeK_bd h64 W k x h
end Go.Proofs.Ytfkeeehfpbnibaa
/- The chapter's example. -/
namespace Go.Proofs.Ytfkeeehfpbnibaa
open Go.RowKit Go.Shelf
set_option linter.unusedVariables false
set_option linter.unusedSimpArgs false

theorem own_litK {α : Type} {K : RK α} (hK : K.Ok) (w : World) (base n : Nat) (l : List α) (cs : Array Value) (hcs : cs.toList = rV K l) (hn : l.length = n) (hb : base ≤ w.heap.size) (hm : n ≤ 1000) : OwnR K (w.alloc (.cells cs K.T)) base (.slice (some ⟨w.heap.size, 0, none⟩) n n) l := by
  have hl : (rV K l).length = l.length * K.sz := rV_len hK l
  have hcz : cs.size = n * K.sz := by rw [← hn, ← hl, ← hcs]; simp
  refine ⟨hl, .inr ⟨w.heap.size, n, cs, by rw [hn], hb, heap_alloc_new _ _, by omega, by unfold maxLen; omega, hcz, ?_⟩⟩
  rw [hcs, List.take_of_length_le (by rw [hl]; exact Nat.le_refl _)]
def exL : List Vw := [verN 1, verN 3, verN 4, verN 7]
def exD : List Vw := [verN 1, verN 4, verN 7]
theorem verN_ok (n : Int) (h : 1 ≤ n ∧ n ≤ 1000) : okW (verN n).1 = true := by
  unfold verN
  rw [mkA_ok _ _ (by decide)]
  simp [Sm.ok]
  omega
theorem exL_chn : Chn exL := by
  refine ⟨fun x hx => ?_, fun x hx => ?_, ?_⟩
  · simp [exL] at hx
    rcases hx with rfl | rfl | rfl | rfl <;> exact verN_ok _ (by decide)
  · simp [exL] at hx
    rcases hx with rfl | rfl | rfl | rfl <;> rfl
  · simp [riseW, exL, verN, mkA, Sm.less]
theorem exL_clean : cleanL exL (5, 0) [(1, 0)] = exD := by
  simp [cleanL, exL, exD, keepB, isW, lastP, notA, sameW, verN, mkA, Sm.less, List.filter_cons]
theorem exL_bd {w : World} : ∀ x ∈ exL, VwB w x := by
  intro x hx
  simp [exL] at hx
  rcases hx with rfl | rfl | rfl | rfl <;> exact mkA_bd (by decide) (by unfold In64; decide)
theorem exD_bd {w : World} : ∀ x ∈ exD, VwB w x := by
  intro x hx
  simp [exD] at hx
  rcases hx with rfl | rfl | rfl <;> exact mkA_bd (by decide) (by unfold In64; decide)

set_option maxRecDepth 100000 in
set_option maxHeartbeats 3200000 in
theorem awake12_any (w : World) :
    Calls Try.prog 8 #[] w fun e w' => e = .returned (.bool true) ∧ Below w.heap.size w w' := by
  have hver : ∀ (n : Int) (W : World), Calls Try.prog 21 #[.int .i64 n] W fun e w' => e = .returned (.agg #[.string ⟨#[97]⟩, .string ⟨#[]⟩, .bool false, .int .i64 n, .int .i64 0, .slice none 0 0]) ∧ Below W.heap.size W w' := ver_any
  go_enter Try.func8, Try.ntmps8
  go_wp2_with fail
  refine (hver 1 _).mono ?_
  rintro e w1 ⟨rfl, hb1⟩
  go_wp2_with fail
  refine (hver 3 _).mono ?_
  rintro e w2 ⟨rfl, hb2⟩
  go_wp2_with fail
  refine (hver 4 _).mono ?_
  rintro e w3 ⟨rfl, hb3⟩
  go_wp2_with fail
  refine (hver 7 _).mono ?_
  rintro e w4 ⟨rfl, hb4⟩
  have HB4 := Lib.hid (bstep (bstep (bstep hb1 hb2) hb3) hb4)
  clear hb1 hb2 hb3 hb4
  go_upto_region 2 with fail
  obtain ⟨w5, hw5⟩ : ∃ w5, w4.alloc (.cells #[.string ⟨#[97]⟩, .string ⟨#[]⟩, .bool false, .int .i64 1, .int .i64 0, .slice none 0 0, .string ⟨#[97]⟩, .string ⟨#[]⟩, .bool false, .int .i64 3, .int .i64 0, .slice none 0 0, .string ⟨#[97]⟩, .string ⟨#[]⟩, .bool false, .int .i64 4, .int .i64 0, .slice none 0 0, .string ⟨#[97]⟩, .string ⟨#[]⟩, .bool false, .int .i64 7, .int .i64 0, .slice none 0 0] 28) = w5 := ⟨_, rfl⟩
  have ho5 : OwnR KW w5 w4.heap.size (.slice (some ⟨w4.heap.size, 0, none⟩) 4 4) exL := by
    rw [← hw5]
    exact own_litK kw_ok w4 w4.heap.size 4 exL _ rfl rfl (Nat.le_refl _) (by omega)
  have hb5 : Below w4.heap.size w4 w5 := by rw [← hw5]; exact balloc (Below.refl _ w4) _
  try rw [hw5]
  clear hw5
  have HO5 := Lib.hid (WRow.of_own ho5 exL_bd)
  have HB5 := Lib.hid (bstep HB4.out hb5)
  clear ho5 hb5 HB4
  have hcl : ∀ W v pv, WRow W v exL → RowAt KT W pv [((1 : Int), (0 : Int))] → _ := fun W v pv h1 h2 => clean_any v pv exL (5, 0) [(1, 0)] W (by decide) (by decide) h1 h2 (by intro d hd; simp at hd; subst hd; unfold In64; decide)
  rw [exL_clean] at hcl
  have hs6 : OwnR KT (w5.alloc (.cells #[.int .i64 1, .int .i64 0] 25)) w5.heap.size (.slice (some ⟨w5.heap.size, 0, none⟩) 1 1) [((1 : Int), (0 : Int))] := own_litK kt_ok w5 w5.heap.size 1 _ _ rfl rfl (Nat.le_refl _) (by omega)
  have hb6 : Below w5.heap.size w5 (w5.alloc (.cells #[.int .i64 1, .int .i64 0] 25)) := balloc (Below.refl _ w5) _
  have hcl6 := hcl _ _ _ (HO5.out.below hb6) (RowAt.of_own kt_ok hs6)
  have HCL := Lib.hid hcl6
  have HB6 := Lib.hid hb6
  clear hcl hs6 hb6 hcl6
  go_wp2_with fail
  refine HCL.out.mono ?_
  rintro e w7 ⟨v7, rfl, ho7, hb7⟩
  have hr7 := WRow.of_own ho7 exD_bd
  obtain ⟨sa, sc, rfl, _, _, _⟩ := hr7.shape
  have HO7 := Lib.hid hr7
  have HB7 := Lib.hid (bstep HB6.out hb7)
  clear ho7 hr7 hb7 HCL HB6
  go_wp2_with fail
  refine (hver 1 _).mono ?_
  rintro e w8 ⟨rfl, hb8⟩
  go_wp2_with fail
  refine (hver 4 _).mono ?_
  rintro e w9 ⟨rfl, hb9⟩
  go_wp2_with fail
  refine (hver 7 _).mono ?_
  rintro e w10 ⟨rfl, hb10⟩
  have HB10 := Lib.hid (bstep HB7.out (bstep (bstep hb8 hb9) hb10))
  have HO10 := Lib.hid (HO7.out.below (bstep (bstep hb8 hb9) hb10))
  clear hb8 hb9 hb10 HB7 HO7
  have ho11 : OwnR KW (w10.alloc (.cells #[.string ⟨#[97]⟩, .string ⟨#[]⟩, .bool false, .int .i64 1, .int .i64 0, .slice none 0 0, .string ⟨#[97]⟩, .string ⟨#[]⟩, .bool false, .int .i64 4, .int .i64 0, .slice none 0 0, .string ⟨#[97]⟩, .string ⟨#[]⟩, .bool false, .int .i64 7, .int .i64 0, .slice none 0 0] 28)) w10.heap.size (.slice (some ⟨w10.heap.size, 0, none⟩) 3 3) exD := own_litK kw_ok w10 w10.heap.size 3 exD _ rfl rfl (Nat.le_refl _) (by omega)
  have hb11 : Below w10.heap.size w10 (w10.alloc (.cells #[.string ⟨#[97]⟩, .string ⟨#[]⟩, .bool false, .int .i64 1, .int .i64 0, .slice none 0 0, .string ⟨#[97]⟩, .string ⟨#[]⟩, .bool false, .int .i64 4, .int .i64 0, .slice none 0 0, .string ⟨#[97]⟩, .string ⟨#[]⟩, .bool false, .int .i64 7, .int .i64 0, .slice none 0 0] 28)) := balloc (Below.refl _ w10) _
  have hsame := rsame_any _ _ exD exD _ (by decide) (by decide) (HO10.out.below hb11) (WRow.of_own ho11 exD_bd)
  rw [sameL_self] at hsame
  have HSM := Lib.hid hsame
  have HB11 := Lib.hid (bstep HB10.out hb11)
  clear hsame ho11 hb11 HB10
  go_wp2_with fail
  refine HSM.out.mono ?_
  rintro e w12 ⟨rfl, hb12⟩
  have hchk := ccheck_any _ exL w12 (by decide) (HO5.out.below (bstep HB11.out hb12))
  rw [exL_chn.chk] at hchk
  have HB12 := Lib.hid (bstep HB5.out (bstep HB11.out hb12))
  have HCH := Lib.hid hchk
  clear hchk hb12 HSM HB11
  go_wp2_with fail
  refine HCH.out.mono ?_
  rintro e w13 ⟨rfl, hb13⟩
  go_wp2
  go_ret
  exact ⟨rfl, bstep HB12.out hb13⟩
end Go.Proofs.Ytfkeeehfpbnibaa
/- Structs of five fields among the arguments. -/
namespace Go.Proofs.Ytfkeeehfpbnibaa
open Go.ChangeShapes Go.WideShapes Go.ChangeAt Go.RowKit Go.Joins Go.Deep
set_option linter.unusedVariables false

section
variable {H : Type} {enc : TypeId × Value → H} {P : Program} {w : World} {base : Nat} {spare : Nat → Bool} {held : Bool}
theorem trod_struct5 {t : TypeId} {f0 f1 f2 f3 f4 : Field} {fuel : Nat} {cs : List Value} {x : DataW H × List MemPlace} (ht : P.underlying t = some (.struct #[f0, f1, f2, f3, f4])) (h : DataW.trod enc P w base spare held fuel t cs = some x) :
    ∃ y0 y1 y2 y3 y4 n, cs.length = P.cellsOf t ∧ DataW.trod enc P w base spare held n f0.type ((cs.drop f0.offset).take (P.cellsOf f0.type)) = some y0 ∧
      DataW.trod enc P w base spare held n f1.type ((cs.drop f1.offset).take (P.cellsOf f1.type)) = some y1 ∧ DataW.trod enc P w base spare held n f2.type ((cs.drop f2.offset).take (P.cellsOf f2.type)) = some y2 ∧
      DataW.trod enc P w base spare held n f3.type ((cs.drop f3.offset).take (P.cellsOf f3.type)) = some y3 ∧ DataW.trod enc P w base spare held n f4.type ((cs.drop f4.offset).take (P.cellsOf f4.type)) = some y4 := by
  obtain ⟨xs, n, _, rfl, hl, hlen, hf⟩ := DataW.trod_struct ht h
  match xs, hlen with
  | [y0, y1, y2, y3, y4], _ => exact ⟨y0, y1, y2, y3, y4, n, hl, by simpa using hf 0 f0 rfl, by simpa using hf 1 f1 rfl, by simpa using hf 2 f2 rfl, by simpa using hf 3 f3 rfl, by simpa using hf 4 f4 rfl⟩

end
end Go.Proofs.Ytfkeeehfpbnibaa
/- Dependencies, rows of them, a dependency with ranges, and three ints among the arguments, opened. -/
namespace Go.Proofs.Ytfkeeehfpbnibaa
open Go.ChangeShapes Go.WideShapes Go.ChangeAt Go.RowKit Go.Joins Go.Deep
set_option linter.unusedVariables false

section
variable {H : Type} {enc : TypeId × Value → H} {P : Program} {w : World} {base : Nat} {spare : Nat → Bool} {held : Bool}

/-- Cells that read as a text and a struct of two ints. -/
theorem trod_dep {e : TypeId} {f0 f1 g0 g1 : Field} {fuel : Nat} {cs : List Value} {x : DataW H × List MemPlace} (he : P.underlying e = some (.struct #[f0, f1])) (hf : f0.offset = 0 ∧ f1.offset = 1 ∧ P.cellsOf f0.type = 1 ∧ P.cellsOf f1.type = 2)
    (hC : P.cellsOf e = 3) (h0 : P.underlying f0.type = some .string) (h1 : P.underlying f1.type = some (.struct #[g0, g1])) (hg : g0.offset = 0 ∧ g1.offset = 1 ∧ P.cellsOf g0.type = 1 ∧ P.cellsOf g1.type = 1)
    (h2 : P.underlying g0.type = some (.int .i64)) (h3 : P.underlying g1.type = some (.int .i64)) (h : DataW.trod enc P w base spare held fuel e cs = some x) :
    ∃ (k : ByteArray) (n s : Int), cs = [.string k, .int .i64 n, .int .i64 s] ∧ k.size ≤ maxLen ∧ In64 (n, s) := by
  obtain ⟨y0, y1, n', hx, hcl, k0, k1⟩ := trod_struct2 he h
  obtain ⟨a1, a2, a3, a4⟩ := hf
  obtain ⟨b1, b2, b3, b4⟩ := hg
  rw [hC] at hcl
  match cs, hcl with
  | [c0, c1, c2], _ =>
    rw [a1, a3] at k0
    rw [a2, a4] at k1
    obtain ⟨z0, z1, n2, hx2, hcl2, m0, m1⟩ := trod_struct2 h1 k1
    rw [b1, b3] at m0
    rw [b2, b4] at m1
    obtain ⟨k, e0, _, z0⟩ := DataW.trod_string h0 k0
    obtain ⟨n, e1, _, z1⟩ := DataW.trod_int h2 m0
    obtain ⟨s, e2, _, z2⟩ := DataW.trod_int h3 m1
    simp at e0 e1 e2
    subst e0 e1 e2
    exact ⟨k, n, s, rfl, z0, bounds_i64 z1, bounds_i64 z2⟩

/-- A dependency, by value. -/
theorem open_dep {r : Reach} {b0 : Nat} {e : TypeId} {f0 f1 g0 g1 : Field} {v : Value} {d : DataW H} {p : List MemPlace} (he : P.underlying e = some (.struct #[f0, f1])) (hf : f0.offset = 0 ∧ f1.offset = 1 ∧ P.cellsOf f0.type = 1 ∧ P.cellsOf f1.type = 2)
    (hC : P.cellsOf e = 3) (h0 : P.underlying f0.type = some .string) (h1 : P.underlying f1.type = some (.struct #[g0, g1])) (hg : g0.offset = 0 ∧ g1.offset = 1 ∧ P.cellsOf g0.type = 1 ∧ P.cellsOf g1.type = 1)
    (h2 : P.underlying g0.type = some (.int .i64)) (h3 : P.underlying g1.type = some (.int .i64)) (hv : Value.okWide P w r b0 e v) (h : DataW.Trod enc P w base spare held e v d p) :
    ∃ (k : ByteArray) (n s : Int), v = .agg #[.string k, .int .i64 n, .int .i64 s] ∧ k.size ≤ maxLen ∧ In64 (n, s) := by
  obtain ⟨cs, rfl, hsz⟩ := okWide_struct he hv
  obtain ⟨fuel, hf'⟩ := h
  obtain ⟨k, n, s, e1, hk, hb⟩ := trod_dep he hf hC h0 h1 hg h2 h3 hf'
  have e2 : cs = #[.string k, .int .i64 n, .int .i64 s] := by
    apply Array.ext'
    simpa [Value.cells] using e1
  subst e2
  exact ⟨k, n, s, rfl, hk, hb⟩

/-- A row of dependencies. -/
theorem open_deps {t e : TypeId} {f0 f1 g0 g1 : Field} {fuel : Nat} {v : Value} {x : DataW H × List MemPlace} (ht : P.underlying t = some (.slice e)) (he : P.underlying e = some (.struct #[f0, f1])) (hf : f0.offset = 0 ∧ f1.offset = 1 ∧ P.cellsOf f0.type = 1 ∧ P.cellsOf f1.type = 2)
    (hC : P.cellsOf e = 3) (h0 : P.underlying f0.type = some .string) (h1 : P.underlying f1.type = some (.struct #[g0, g1])) (hg : g0.offset = 0 ∧ g1.offset = 1 ∧ P.cellsOf g0.type = 1 ∧ P.cellsOf g1.type = 1)
    (h2 : P.underlying g0.type = some (.int .i64)) (h3 : P.underlying g1.type = some (.int .i64))
    (h : DataW.trod enc P w base spare held fuel t v.cells.toList = some x) (hv : ∃ a n c, v = .slice a n c) :
    ∃ l : List De, DepAt w v l ∧ Szd l ∧ ∀ d ∈ l, In64 d.2 := by
  obtain ⟨a, len, cap, rfl⟩ := hv
  rcases open_slice ht h with ⟨hcs, _⟩ | ⟨x, l, c, m, n, D, Pl, hcs, _, hl, hm, hmm, _, hi⟩
  · simp [Value.cells] at hcs
    obtain ⟨rfl, rfl, rfl⟩ := hcs
    exact ⟨[], DepAt.nil w, by simp [Szd], by simp⟩
  · simp [Value.cells] at hcs
    obtain ⟨rfl, rfl, rfl⟩ := hcs
    have hlm : len ≤ m := by rw [hmm]; split <;> omega
    have all : ∀ i, ∃ d : De, i < len → (d.1.size ≤ maxLen ∧ In64 d.2) ∧ w.cell? (x.add (i * 3)) = some (.string d.1) ∧ w.cell? (x.add (i * 3 + 1)) = some (.int .i64 d.2.1) ∧ w.cell? (x.add (i * 3 + 2)) = some (.int .i64 d.2.2) := by
      intro i
      by_cases hil : i < len
      · obtain ⟨cs', hc, ht'⟩ := hi i (by omega)
        rw [hC] at hc
        obtain ⟨k, n, s, rfl, hk, hb⟩ := trod_dep he hf hC h0 h1 hg h2 h3 ht'
        obtain ⟨_, hcl', hat⟩ := World.cells?_some hc
        refine ⟨(k, n, s), fun _ => ⟨⟨hk, hb⟩, ?_, ?_, ?_⟩⟩
        · have := hat 0 (by omega)
          simpa [Go.Deep.add_add] using this
        · have := hat 1 (by omega)
          simpa [Go.Deep.add_add] using this
        · have := hat 2 (by omega)
          simpa [Go.Deep.add_add] using this
      · exact ⟨(ByteArray.empty, 0, 0), fun hh => absurd hh hil⟩
    obtain ⟨F, hF⟩ : ∃ F : Nat → De, ∀ i, i < len → ((F i).1.size ≤ maxLen ∧ In64 (F i).2) ∧ w.cell? (x.add (i * 3)) = some (.string (F i).1) ∧ w.cell? (x.add (i * 3 + 1)) = some (.int .i64 (F i).2.1) ∧ w.cell? (x.add (i * 3 + 2)) = some (.int .i64 (F i).2.2) :=
      ⟨fun i => (all i).choose, fun i => (all i).choose_spec⟩
    obtain ⟨b, off, spot⟩ := x
    refine ⟨(List.range len).map F, ⟨some ⟨b, off, spot⟩, cap, by simp, by simpa using hl, hm, by simp, ?_⟩, ?_, ?_⟩
    · intro i hi
      have hi' : i < len := by simpa using hi
      have hspot : spot = none := by
        have := (hF 0 (by omega)).2.1
        simpa [Addr.add] using World.cell?_spot this
      subst hspot
      have q0 := (hF i hi').2.1
      have q1 := (hF i hi').2.2.1
      have q2 := (hF i hi').2.2.2
      rw [Addr.add_lit] at q0 q1 q2
      refine ⟨b, off, rfl, World.block_lt_of_cell? w _ q0, ?_, ?_, ?_⟩
      · simp only [List.getElem_map, List.getElem_range]
        exact q0
      · simp only [List.getElem_map, List.getElem_range]
        rw [Nat.add_assoc]
        exact q1
      · simp only [List.getElem_map, List.getElem_range]
        rw [Nat.add_assoc]
        exact q2
    · intro d hd
      simp at hd
      obtain ⟨i, hi, rfl⟩ := hd
      have := (hF i hi).1.1
      unfold maxLen at this
      exact this
    · intro d hd
      simp at hd
      obtain ⟨i, hi, rfl⟩ := hd
      exact (hF i hi).1.2

/-- A struct of a dependency and a row of ranges, by value. -/
theorem open_ask {r : Reach} {b0 : Nat} {t : TypeId} {f0 f1 g0 g1 : Field} {F G : Field} {R : TypeId} {r0 r1 : Field} {v : Value} {d : DataW H} {p : List MemPlace} (ht : P.underlying t = some (.struct #[F, G])) (hF : F.offset = 0 ∧ G.offset = 3 ∧ P.cellsOf G.type = 1) (hT : P.cellsOf t = 4)
    (he : P.underlying F.type = some (.struct #[f0, f1])) (hf : f0.offset = 0 ∧ f1.offset = 1 ∧ P.cellsOf f0.type = 1 ∧ P.cellsOf f1.type = 2)
    (hC : P.cellsOf F.type = 3) (h0 : P.underlying f0.type = some .string) (h1 : P.underlying f1.type = some (.struct #[g0, g1])) (hg : g0.offset = 0 ∧ g1.offset = 1 ∧ P.cellsOf g0.type = 1 ∧ P.cellsOf g1.type = 1)
    (h2 : P.underlying g0.type = some (.int .i64)) (h3 : P.underlying g1.type = some (.int .i64))
    (hG : P.underlying G.type = some (.slice R)) (hR : P.underlying R = some (.struct #[r0, r1])) (hone : oneCellFields P #[r0, r1] = true) (hRC : P.cellsOf R = 2) (hr0 : P.underlying r0.type = some .string) (hr1 : P.underlying r1.type = some .string)
    (hv : Value.okWide P w r b0 t v) (h : DataW.Trod enc P w base spare held t v d p) :
    ∃ (k : ByteArray) (n s : Int) (a : Option Addr) (rs : List (ByteArray × ByteArray)) (cap : Nat), v = .agg #[.string k, .int .i64 n, .int .i64 s, .slice a rs.length cap] ∧ k.size ≤ maxLen ∧ In64 (n, s) ∧
      rs.length ≤ 9223372036854775807 ∧ (∀ r ∈ rs, r.1.size ≤ maxLen ∧ r.2.size ≤ maxLen) ∧ RngIn w a rs ∧ rs.length ≤ cap := by
  obtain ⟨cs, rfl, hsz⟩ := okWide_struct ht hv
  obtain ⟨fuel, hf'⟩ := h
  obtain ⟨y0, y1, n', hx, hcl, k0, k1⟩ := trod_struct2 ht hf'
  rw [hF.1, hC] at k0
  rw [hF.2.1, hF.2.2] at k1
  have e0 : (Value.agg cs).cells.toList = cs.toList := rfl
  rw [e0] at k0 k1
  obtain ⟨k, n, s, e1, hk, hb⟩ := trod_dep he hf hC h0 h1 hg h2 h3 k0
  rw [hT] at hsz
  obtain ⟨l⟩ := cs
  match l, hsz with
  | [c0, c1, c2, c3], _ =>
    simp at e1
    obtain ⟨rfl, rfl, rfl⟩ := e1
    have k2 : DataW.trod enc P w base spare held n' G.type [c3] = some y1 := by simpa using k1
    have hs : ∃ a n c, c3 = .slice a n c ∧ n ≤ c := by
      rcases open_slice hG k2 with ⟨hcs, _⟩ | ⟨x, l, c, m, n, D, Pl, hcs, _, hl, _⟩
      · simp at hcs
        exact ⟨none, 0, 0, hcs, Nat.le_refl _⟩
      · simp at hcs
        exact ⟨_, _, _, hcs, hl⟩
    obtain ⟨a, len, cap, rfl, hlc⟩ := hs
    obtain ⟨a', rs, cap', e4, q1, q2, q3⟩ := open_ranges (v := .slice a len cap) hG hR hone hRC hr0 hr1 (by simpa [Value.cells] using k2) ⟨_, _, _, rfl⟩
    cases e4
    exact ⟨k, n, s, a, rs, cap, rfl, hk, hb, q1, q2, q3, hlc⟩

/-- An array of three ints. -/
theorem open_ints3 {r : Reach} {b0 : Nat} {t e : TypeId} {v : Value} {d : DataW H} {p : List MemPlace}
    (ht : P.underlying t = some (.array 3 e)) (he : P.underlying e = some (.int .i64)) (hc : P.cellsOf t = 3) (hce : P.cellsOf e = 1)
    (hv : Value.okWide P w r b0 t v) (h : DataW.Trod enc P w base spare held t v d p) :
    ∃ q0 q1 q2 : Int, v = .agg #[.int .i64 q0, .int .i64 q1, .int .i64 q2] ∧ (-9223372036854775808 ≤ q0 ∧ q0 ≤ 9223372036854775807) ∧ (-9223372036854775808 ≤ q1 ∧ q1 ≤ 9223372036854775807) ∧ (-9223372036854775808 ≤ q2 ∧ q2 ≤ 9223372036854775807) := by
  obtain ⟨cs, rfl, hl, hx⟩ := open_arr ht hc hce hv h
  match cs, hl with
  | [c0, c1, c2], _ =>
    obtain ⟨_, _, k0⟩ := hx 0 (by simp)
    obtain ⟨_, _, k1⟩ := hx 1 (by simp)
    obtain ⟨_, _, k2⟩ := hx 2 (by simp)
    obtain ⟨n0, e0, _, w0⟩ := DataW.trod_int he k0
    obtain ⟨n1, e1, _, w1⟩ := DataW.trod_int he k1
    obtain ⟨n2, e2, _, w2⟩ := DataW.trod_int he k2
    simp at e0 e1 e2
    subst e0 e1 e2
    exact ⟨n0, n1, n2, rfl, bounds_i64 w0, bounds_i64 w1, bounds_i64 w2⟩
end
end Go.Proofs.Ytfkeeehfpbnibaa
