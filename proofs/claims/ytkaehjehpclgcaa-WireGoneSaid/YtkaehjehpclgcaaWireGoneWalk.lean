/- WireGone, walked: a version that is gone has no value; one with more than 32 bytes may not be. -/
import Derived.Test.YtkaehjehpclgcaaGW20
namespace Go.Proofs.Ytkaehjehpclgcaa
open Go.RowKit
set_option linter.unusedVariables false
set_option linter.unusedSimpArgs false

theorem mod41 (q : Int) : ∃ k : Nat, (wrap64 (q.tmod 41 + 41)).tmod 41 = (k : Int) ∧ k < 41 := by
  have a1 := Int.tmod_lt_of_pos q (b := 41) (by omega)
  have a2 : -41 < q.tmod 41 := Int.lt_tmod_of_pos q (b := 41) (by omega)
  have a3 : wrap64 (q.tmod 41 + 41) = q.tmod 41 + 41 := by unfold wrap64; omega
  rw [a3]
  have b1 := Int.tmod_lt_of_pos (q.tmod 41 + 41) (b := 41) (by omega)
  have b2 := Int.tmod_nonneg 41 (a := q.tmod 41 + 41) (by omega)
  exact ⟨((q.tmod 41 + 41).tmod 41).toNat, by omega, by omega⟩
def zeros (k : Nat) : ByteArray := ⟨(List.replicate k (0 : UInt8)).toArray⟩
theorem zeros_size (k : Nat) : (zeros k).size = k := by
  show (Array.size _) = k
  rw [List.size_toArray, List.length_replicate]
/-- So many bytes, made; read as a text. -/
theorem make_bytes (k : Nat) (hk : k < 41) (w : World) : ∃ w1, (Instr.makeSlice 33 (.int .i64 (k : Int)) (.int .i64 (k : Int))).run Try.prog w = .ok (.slice (some ⟨w.heap.size, 0, none⟩) k k) w1 ∧ Below w.heap.size w w1 ∧
    (convert 33 9 (.slice (some ⟨w.heap.size, 0, none⟩) k k)).run Try.prog w1 = .ok (.string (zeros k)) w1 := by
  obtain ⟨i0, hi, hz0, hz1, hz2⟩ := info_parts info_u8
  have h := run_makeSlice (P := Try.prog) (w := w) 33 5 i0 _ Try.underlying33 hi hz0 .i64 .i64 (k : Int) (k : Int) (by omega) (Int.le_refl _) (by rw [hz1]; simp; omega) (by rw [hz2]; omega) (by omega)
  rw [Int.toNat_natCast] at h
  refine ⟨_, h, balloc (Below.refl _ _) _, ?_⟩
  have hl : (List.replicate k (0 : UInt8)).length = k := List.length_replicate
  have hc := run_convert_bytes_back (P := Try.prog) (w.alloc (.cells (madeCells (Value.cells (.int .u8 0)) (k * i0.size)) 5)) 33 9 5 ⟨w.heap.size, 0, none⟩ k (List.replicate k 0) Try.underlying33 Try.underlying5 Try.underlying9 (fun j hj => by
    have hj' : j < k := by simpa using hj
    rw [Addr.add_lit, Lib.cell_of_heap (heap_alloc_new w _), hz1]
    simp [madeCells, Value.cells, hj']
    rw [Nat.mod_one]
    rfl)
  rw [hl] at hc
  exact hc
def gv (k : Nat) (g : Bool) : Wv := ⟨⟨#[107]⟩, zeros k, g, (1, 0), []⟩
theorem gv_ok (k : Nat) (g : Bool) : okW (gv k g) = (decide (k ≤ 32) && (decide (k = 0) || !g)) := by
  have h1 : Km.chk [107] = true := chk_letter 107 (by decide) (by decide)
  have h2 : Sm.ok 1 0 = true := by decide
  have e : okW (gv k g) = ((decide ((zeros k).size ≤ 32) && (decide ((zeros k).size = 0) || !g)) && Km.chk [107] && Sm.ok 1 0 && chkD []) := rfl
  rw [e, h1, h2, chkD_nil, zeros_size]
  simp
theorem readW_nil : readW [] = none := by
  unfold readW
  rw [rdW_nil]
  rfl

set_option maxRecDepth 100000 in
set_option maxHeartbeats 3200000 in
theorem walkWireGone (w : World) (n : Int) (hwf : (Lit.int .i64 n).wf = true) (gone : Bool) :
    Calls Try.prog 9 #[.int .i64 n, .bool gone] w fun e w' => e = .returned (.bool true) ∧ Below w.heap.size w w' := by
  obtain ⟨k, hk, hk41⟩ := mod41 n
  have hmk := fun W => make_bytes k hk41 W
  have hok := gv_ok k gone
  have hwo : ∀ W u, DepAt W u [] → WvOk W (gv k gone) u := fun W u h => ⟨by show (1 : Nat) ≤ _; omega, by show (zeros k).size ≤ _; rw [zeros_size]; omega, by simp [gv], by simp [gv, Szd], h⟩
  have hsz := zeros_size k
  have HWO := Lib.hid hwo
  have HOK := Lib.hid hok
  clear hok hwo hwf
  go_enter Try.func9, Try.ntmps9
  go_wp2_with fail
  refine (wawake_any _).mono ?_
  rintro e w1 ⟨rfl, hb1⟩
  obtain ⟨w2, hm1, hm2, hm3⟩ := hmk w1
  clear hmk
  have hb2 := bstep hb1 hm2
  have hA := VwP.new w2 (gv k gone) (.slice none 0 0) 26
  have hbn := balloc (Below.refl _ w2) (.cells (wvs (gv k gone) (.slice none 0 0)) 26)
  have hb3 := bstep hb2 hbn
  have hbt := fun W => wbytes_any (gv k gone) (.slice none 0 0) W (HWO.out _ _ (DepAt.nil _))
  have hck := fun W => wcheck_any (gv k gone) (.slice none 0 0) W (HWO.out _ _ (DepAt.nil _))
  have hsm := fun W u (h : DepAt W u []) => wsame_any (gv k gone) (gv k gone) (.slice none 0 0) u W (HWO.out _ _ (DepAt.nil _)) (HWO.out _ _ h)
  rw [sameW_self] at hsm
  have hd1 : Hid (zeros k = zeros k) := Lib.hid rfl
  go_upto_region 5 with fail
  dsimp only [wvs, gv] at hA hbn hb3
  generalize hw3 : w2.alloc (.cells #[.string ⟨#[107]⟩, .string (zeros k), .bool gone, .int .i64 1, .int .i64 0, .slice none 0 0] 26) = w3 at *
  generalize w2.heap.size = B at *
  have HA := Lib.hid hA
  have HB3 := Lib.hid hb3
  clear hA hbn hb3 hw3 hm1 hm2 hm3 hb1 hb2 hk hd1
  go_cut [9] (fun s9 wx => s9 = .bool (okW (gv k gone)) ∧ wx = w3)
  case first =>
    by_cases h32 : k ≤ 32
    · have h32i : (k : Int) ≤ 32 := by omega
      cases gone with
      | false =>
        have e : okW (gv k false) = true := by rw [HOK.out]; simp [h32]
        have HE := Lib.hid e
        clear e h32
        go_wp2
        go_meet
        exact ⟨by rw [HE.out], rfl⟩
      | true =>
        by_cases h0 : k = 0
        · subst h0
          have e : okW (gv 0 true) = true := by rw [HOK.out]; simp
          have HE := Lib.hid e
          clear e h32
          go_wp2
          go_meet
          exact ⟨by rw [HE.out], rfl⟩
        · have e : okW (gv k true) = false := by rw [HOK.out]; simp [h0]
          have h0i : ((k : Int) == 0) = false := by rw [beq_eq_false_iff_ne]; omega
          have h0d : decide ((k : Int) = 0) = false := decide_eq_false (by omega)
          have HE := Lib.hid e
          clear e h32
          go_wp2
          go_meet
          exact ⟨by rw [HE.out], rfl⟩
    · have h32i : ¬ (k : Int) ≤ 32 := by omega
      have e : okW (gv k gone) = false := by rw [HOK.out]; simp [h32]
      have HE := Lib.hid e
      clear e h32
      go_wp2
      go_meet
      exact ⟨by rw [HE.out], rfl⟩
  case rest =>
    obtain ⟨rfl, rfl⟩ := hcut
    obtain ⟨S, hS⟩ : ∃ S : ByteArray, S = ⟨(wbV (gv k gone)).toArray⟩ := ⟨_, rfl⟩
    rw [← hS] at hbt
    have hSl : S.data.toList = wbV (gv k gone) := by rw [hS]
    have hSz : S.size ≤ 100000 := by
      cases hq : okW (gv k gone) with
      | true =>
        obtain ⟨T1, G, T2, U, P, hBW⟩ := bytesW hq
        have e := congrArg List.length hBW.eq
        simp only [List.length_append] at e
        have h1 := hBW.s1
        have h2 := hBW.s2
        have h3 := hBW.s3
        have h4 := hBW.s4
        have h5 := hBW.s5
        have k1 : T1.data.toList.length = T1.size := rfl
        have k2 : G.data.toList.length = G.size := rfl
        have k3 : T2.data.toList.length = T2.size := rfl
        have k4 : U.data.toList.length = U.size := rfl
        have k5 : P.data.toList.length = P.size := rfl
        show S.data.toList.length ≤ _
        rw [hSl]
        omega
      | false =>
        show S.data.toList.length ≤ _
        rw [hSl, wbV_no hq]
        simp
    have hrd := fun W => wread_any S W (by omega)
    rw [hSl] at hrd
    cases hq : okW (gv k gone) with
    | true =>
      rw [readW_back hq] at hrd
      rw [hq] at hck
      clear hq hS hSl hSz HOK
      dsimp only [gotW, gv, wvs, Option.isSome] at hrd hbt hck hsm HA
      obtain ⟨x0, x1, x2, x3, x4, x5, _⟩ := HA.out
      dsimp only at x0 x1 x2 x3 x4
      go_wp2_with fail
      refine (hbt _).mono ?_
      rintro e w4 ⟨rfl, hb4⟩
      go_wp2_with fail
      refine (hrd _).mono ?_
      rintro e w5 ⟨u, rfl, hd5, hb5⟩
      obtain ⟨pa, pc, rfl, _⟩ := id hd5
      have hA5 := (HA.out.keep hb4).keep hb5
      have hN := VwP.new w5 (gv k gone) (.slice pa ([] : List De).length pc) 26
      have hbn := balloc (Below.refl _ w5) (.cells (wvs (gv k gone) (.slice pa ([] : List De).length pc)) 26)
      have hA6 := hA5.keep hbn
      have HD6 := Lib.hid (hd5.below hbn)
      have HB6 := Lib.hid (bstep (bstep (bstep HB3.out hb4) hb5) hbn)
      clear x0 x1 x2 x3 x4 x5 hA5 hb4 hb5 hd5 hrd hbt
      go_upto_region 7 with fail
      dsimp only [gv, wvs] at hN hbn hA6 HD6 HB6
      generalize w5.alloc (.cells #[.string ⟨#[107]⟩, .string (zeros k), .bool gone, .int .i64 1, .int .i64 0, .slice pa ([] : List De).length pc] 26) = w6 at *
      generalize w5.heap.size = B6 at *
      have HA6 := Lib.hid hA6
      have HN6 := Lib.hid hN
      obtain ⟨x0, x1, x2, x3, x4, x5, _⟩ := hA6
      obtain ⟨y0, y1, y2, y3, y4, y5, _⟩ := hN
      dsimp only at x0 x1 x2 x3 x4 y0 y1 y2 y3 y4
      clear hbn
      go_wp2_with fail
      refine (hck _).mono ?_
      rintro e w7 ⟨rfl, hb7⟩
      have hA7 := HA6.out.keep hb7
      have hN7 := HN6.out.keep hb7
      have HN7 := Lib.hid hN7
      have HD7 := Lib.hid (HD6.out.below hb7)
      clear x0 x1 x2 x3 x4 x5 y0 y1 y2 y3 y4 y5
      obtain ⟨x0, x1, x2, x3, x4, x5, _⟩ := hA7
      obtain ⟨y0, y1, y2, y3, y4, y5, _⟩ := hN7
      dsimp only at x0 x1 x2 x3 x4 y0 y1 y2 y3 y4
      go_wp2_with fail
      refine (hsm _ _ HD7.out).mono ?_
      rintro e w8 ⟨rfl, hb8⟩
      have hN8 := HN7.out.keep hb8
      have y2' := hN8.c2
      dsimp only at y2'
      have HBF := Lib.hid (bstep (bstep HB6.out hb7) hb8)
      clear x0 x1 x2 x3 x4 x5 y0 y1 y2 y3 y4 y5 hN8 hb7 hb8
      go_wp2
      go_ret
      exact ⟨rfl, HBF.out⟩
    | false =>
      rw [wbV_no hq] at hSl hrd
      rw [readW_nil] at hrd
      rw [hq] at hck
      clear hq hS hSl hSz HOK
      dsimp only [gotW, gv, wvs, wz, Option.isSome] at hrd hbt hck HA
      obtain ⟨x0, x1, x2, x3, x4, x5, _⟩ := HA.out
      dsimp only at x0 x1 x2 x3 x4
      go_wp2_with fail
      refine (hbt _).mono ?_
      rintro e w4 ⟨rfl, hb4⟩
      go_wp2_with fail
      refine (hrd _).mono ?_
      rintro e w5 ⟨u, rfl, hd5, hb5⟩
      obtain ⟨pa, pc, rfl, _⟩ := id hd5
      have hbn := balloc (Below.refl _ w5) (.cells #[.string ⟨#[]⟩, .string ⟨#[]⟩, .bool false, .int .i64 0, .int .i64 0, .slice pa ([] : List De).length pc] 26)
      have hA6 := ((HA.out.keep hb4).keep hb5).keep hbn
      have HB6 := Lib.hid (bstep (bstep (bstep HB3.out hb4) hb5) hbn)
      clear x0 x1 x2 x3 x4 x5 hb4 hb5 hd5 hrd hbt
      go_upto_region 7 with fail
      generalize w5.alloc (.cells #[.string ⟨#[]⟩, .string ⟨#[]⟩, .bool false, .int .i64 0, .int .i64 0, .slice pa ([] : List De).length pc] 26) = w6 at *
      obtain ⟨x0, x1, x2, x3, x4, x5, _⟩ := hA6
      dsimp only at x0 x1 x2 x3 x4
      clear hbn
      go_wp2_with fail
      refine (hck _).mono ?_
      rintro e w7 ⟨rfl, hb7⟩
      have HBF := Lib.hid (bstep HB6.out hb7)
      go_wp2
      go_ret
      exact ⟨rfl, HBF.out⟩
end Go.Proofs.Ytkaehjehpclgcaa
