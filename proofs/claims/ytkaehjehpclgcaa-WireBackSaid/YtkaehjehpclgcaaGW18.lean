/- Texts of this proof, one behind the other: WireSame, KeysWord, WireAwake, PastRefAdd. -/
import Derived.Test.YtkaehjehpclgcaaGW17
import Derived.Laws.BitsLemmas
/- What wire.Same and the document's Same answer of two versions. -/
namespace Go.Proofs.Ytkaehjehpclgcaa
open Go.RowKit
set_option linter.unusedVariables false
set_option linter.unusedSimpArgs false

def sameW (a b : Wv) : Bool := decide (a.key = b.key) && (decide (a.val = b.val) && (decide (a.gone = b.gone) && (decide (a.st = b.st) && decide (a.past = b.past))))
theorem sameW_iff (a b : Wv) : sameW a b = true ↔ a = b := by
  obtain ⟨k, v, g, s, p⟩ := a
  obtain ⟨k', v', g', s', p'⟩ := b
  simp [sameW]
theorem sameW_self (a : Wv) : sameW a a = true := (sameW_iff a a).2 rfl

set_option maxRecDepth 100000 in
set_option maxHeartbeats 800000 in
theorem wsame_any (v1 v2 : Wv) (u1 u2 : Value) (w : World) (h1 : WvOk w v1 u1) (h2 : WvOk w v2 u2) :
    Calls Try.prog 17 #[.agg (wvs v1 u1), .agg (wvs v2 u2)] w fun e w' => e = .returned (.bool (sameW v1 v2)) ∧ Below w.heap.size w w' := by
  have hb1 : Below w.heap.size w (w.alloc (.cells (wvs v1 u1) 26)) := balloc (Below.refl _ w) _
  have hV1 := VwP.new w v1 u1 26
  have hb2 := balloc (Below.refl _ (w.alloc (.cells (wvs v1 u1) 26))) (.cells (wvs v2 u2) 26)
  have hV2 := VwP.new (w.alloc (.cells (wvs v1 u1) 26)) v2 u2 26
  have hV1' := hV1.keep hb2
  have hA := (h1.below hb1).below hb2
  have hB := (h2.below hb1).below hb2
  have hbw := bstep hb1 hb2
  rw [World.size_alloc] at hV2
  have hps := fun W (k1 : WvOk W v1 u1) (k2 : WvOk W v2 u2) => same_any u1 u2 v1.past v2.past W h1.len k1.at_ k2.at_
  have heq := eq_stamp
  obtain ⟨a1, c1, hu1, _⟩ := h1.at_
  obtain ⟨a2, c2, hu2, _⟩ := h2.at_
  subst hu1 hu2
  clear h1 h2 hb1 hb2 hV1
  unfold sameW
  obtain ⟨key1, val1, gone1, ⟨n1, t1⟩, past1⟩ := v1
  obtain ⟨key2, val2, gone2, ⟨n2, t2⟩, past2⟩ := v2
  dsimp only [wvs] at *
  have heq1 := fun w' => heq w' n1 t1 n2 t2
  generalize decide (((n1, t1) : Int × Int) = (n2, t2)) = sb at *
  generalize decide (past1 = past2) = pb at *
  clear heq
  go_enter Try.func17, Try.ntmps17
  go_upto_region 1 with fail
  generalize (w.alloc (.cells #[.string key1, .string val1, .bool gone1, .int .i64 n1, .int .i64 t1, .slice a1 past1.length c1] 26)).alloc (.cells #[.string key2, .string val2, .bool gone2, .int .i64 n2, .int .i64 t2, .slice a2 past2.length c2] 26) = w2 at *
  have HA := Lib.hid hA
  have HB := Lib.hid hB
  have HBW := Lib.hid hbw
  have HV1 := Lib.hid hV1'
  have HV2 := Lib.hid hV2
  clear hA hB hbw hV1' hV2
  obtain ⟨x0, x1, x2, x3, x4, x5, _⟩ := HV1.out
  obtain ⟨y0, y1, y2, y3, y4, y5, _⟩ := HV2.out
  dsimp only at x0 x1 x2 x3 x4 y0 y1 y2 y3 y4
  by_cases hk : key1 = key2
  · subst hk
    by_cases hv : val1 = val2
    · subst hv
      rcases (show gone1 = gone2 ∨ (gone1 = true ∧ gone2 = false) ∨ (gone1 = false ∧ gone2 = true) by cases gone1 <;> cases gone2 <;> simp) with rfl | ⟨rfl, rfl⟩ | ⟨rfl, rfl⟩
      · cases sb with
        | false =>
          go_wp2
          go_ret
          exact ⟨ret_bool (by simp_all), HBW.out⟩
        | true =>
          go_wp2_with fail
          refine (hps _ HA.out HB.out).mono ?_
          rintro e w3 ⟨rfl, hb3⟩
          go_wp2
          go_ret
          exact ⟨ret_bool (by simp), bstep HBW.out hb3⟩
      · skip
        go_wp2
        go_ret
        exact ⟨ret_bool (by simp_all), HBW.out⟩
      · skip
        go_wp2
        go_ret
        exact ⟨ret_bool (by simp_all), HBW.out⟩
    · have hvl : ¬ val1.toList = val2.toList := fun h => hv (ba_inj (by rw [← Lib.toList_data, ← Lib.toList_data]; exact h))
      go_wp2
      go_ret
      exact ⟨ret_bool (by simp_all), HBW.out⟩
  · have hkl : ¬ key1.toList = key2.toList := fun h => hk (ba_inj (by rw [← Lib.toList_data, ← Lib.toList_data]; exact h))
    go_wp2
    go_ret
    exact ⟨ret_bool (by simp_all), HBW.out⟩

set_option maxRecDepth 100000 in
set_option maxHeartbeats 800000 in
theorem refWSame_any (v1 v2 : Wv) (u1 u2 : Value) (w : World) (h1 : WvOk w v1 u1) (h2 : WvOk w v2 u2) :
    Calls Try.prog 18 #[.agg (wvs v1 u1), .agg (wvs v2 u2)] w fun e w' => e = .returned (.bool (sameW v1 v2)) ∧ Below w.heap.size w w' := by
  have hb1 : Below w.heap.size w (w.alloc (.cells (wvs v1 u1) 26)) := balloc (Below.refl _ w) _
  have hV1 := VwP.new w v1 u1 26
  have hb2 := balloc (Below.refl _ (w.alloc (.cells (wvs v1 u1) 26))) (.cells (wvs v2 u2) 26)
  have hV2 := VwP.new (w.alloc (.cells (wvs v1 u1) 26)) v2 u2 26
  have hV1' := hV1.keep hb2
  have hA := (h1.below hb1).below hb2
  have hB := (h2.below hb1).below hb2
  have hbw := bstep hb1 hb2
  rw [World.size_alloc] at hV2
  have hps := fun W (k1 : WvOk W v1 u1) (k2 : WvOk W v2 u2) => refPSame_any u1 u2 v1.past v2.past W h1.len k1.at_ k2.at_
  have heq := eq_stamp
  obtain ⟨a1, c1, hu1, _⟩ := h1.at_
  obtain ⟨a2, c2, hu2, _⟩ := h2.at_
  subst hu1 hu2
  clear h1 h2 hb1 hb2 hV1
  unfold sameW
  obtain ⟨key1, val1, gone1, ⟨n1, t1⟩, past1⟩ := v1
  obtain ⟨key2, val2, gone2, ⟨n2, t2⟩, past2⟩ := v2
  dsimp only [wvs] at *
  have heq1 := fun w' => heq w' n1 t1 n2 t2
  generalize decide (((n1, t1) : Int × Int) = (n2, t2)) = sb at *
  generalize decide (past1 = past2) = pb at *
  clear heq
  go_enter Try.func18, Try.ntmps18
  go_upto_region 1 with fail
  generalize (w.alloc (.cells #[.string key1, .string val1, .bool gone1, .int .i64 n1, .int .i64 t1, .slice a1 past1.length c1] 26)).alloc (.cells #[.string key2, .string val2, .bool gone2, .int .i64 n2, .int .i64 t2, .slice a2 past2.length c2] 26) = w2 at *
  have HA := Lib.hid hA
  have HB := Lib.hid hB
  have HBW := Lib.hid hbw
  have HV1 := Lib.hid hV1'
  have HV2 := Lib.hid hV2
  clear hA hB hbw hV1' hV2
  obtain ⟨x0, x1, x2, x3, x4, x5, _⟩ := HV1.out
  obtain ⟨y0, y1, y2, y3, y4, y5, _⟩ := HV2.out
  dsimp only at x0 x1 x2 x3 x4 y0 y1 y2 y3 y4
  go_wp2_with fail
  refine (hps _ HA.out HB.out).mono ?_
  rintro e w3 ⟨rfl, hb3⟩
  have HV1' := Lib.hid (HV1.out.keep hb3)
  have HV2' := Lib.hid (HV2.out.keep hb3)
  have HBW' := Lib.hid (bstep HBW.out hb3)
  clear x0 x1 x2 x3 x4 x5 y0 y1 y2 y3 y4 y5 HV1 HV2 HBW HA HB hb3 hps
  obtain ⟨x0, x1, x2, x3, x4, x5, _⟩ := HV1'.out
  obtain ⟨y0, y1, y2, y3, y4, y5, _⟩ := HV2'.out
  dsimp only at x0 x1 x2 x3 x4 y0 y1 y2 y3 y4
  cases pb with
  | false =>
    go_wp2
    go_ret
    exact ⟨ret_bool (by simp), HBW'.out⟩
  | true =>
    by_cases hk : key1 = key2
    · subst hk
      by_cases hv : val1 = val2
      · subst hv
        rcases (show gone1 = gone2 ∨ (gone1 = true ∧ gone2 = false) ∨ (gone1 = false ∧ gone2 = true) by cases gone1 <;> cases gone2 <;> simp) with rfl | ⟨rfl, rfl⟩ | ⟨rfl, rfl⟩
        · cases sb with
          | false =>
            go_wp2
            go_ret
            exact ⟨ret_bool (by simp_all), HBW'.out⟩
          | true =>
            go_wp2
            go_ret
            exact ⟨ret_bool (by simp_all), HBW'.out⟩
        · skip
          go_wp2
          go_ret
          exact ⟨ret_bool (by simp_all), HBW'.out⟩
        · skip
          go_wp2
          go_ret
          exact ⟨ret_bool (by simp_all), HBW'.out⟩
      · have hvl : ¬ val1.toList = val2.toList := fun h => hv (ba_inj (by rw [← Lib.toList_data, ← Lib.toList_data]; exact h))
        go_wp2
        go_ret
        exact ⟨ret_bool (by simp_all), HBW'.out⟩
    · have hkl : ¬ key1.toList = key2.toList := fun h => hk (ba_inj (by rw [← Lib.toList_data, ← Lib.toList_data]; exact h))
      go_wp2
      go_ret
      exact ⟨ret_bool (by simp_all), HBW'.out⟩
end Go.Proofs.Ytkaehjehpclgcaa
/- What the laws' own helper 'word' answers: some key of one to five runes. -/
namespace Go.Proofs.Ytkaehjehpclgcaa
open Go.RowKit
set_option linter.unusedVariables false

/-- What is left of a number behind '& 4095'. -/
theorem and_small (n : Int) : ∃ m : Nat, bits .and .i64 n 4095 = (m : Int) ∧ m < 4096 := by
  have hb : (BitVec.ofInt 64 n &&& BitVec.ofInt 64 4095).toNat < 4096 := by
    rw [BitVec.toNat_and]
    have h1 : (BitVec.ofInt 64 4095).toNat = 4095 := by decide
    have h2 := Nat.and_le_right (n := (BitVec.ofInt 64 n).toNat) (m := (BitVec.ofInt 64 4095).toNat)
    omega
  refine ⟨_, ?_, hb⟩
  show IntKind.i64.wrap ((BitVec.ofInt 64 n &&& BitVec.ofInt 64 4095).toNat : Nat) = _
  rw [IntKind.wrap_i64]
  omega

theorem kconv_one (w : World) (b off : Nat) (c : UInt8) (x : Int) (hx : x = (c.toNat : Int)) (h : w.cell? ⟨b, off, none⟩ = some (.int .u8 x)) :
    (convert 33 9 (.slice (some ⟨b, off, none⟩) 1 1)).run Try.prog w = .ok (.string ⟨#[c]⟩) w := by
  subst hx
  exact run_convert_bytes_back (P := Try.prog) w 33 9 5 ⟨b, off, none⟩ 1 [c] Try.underlying33 Try.underlying5 Try.underlying9 (by
    intro j hj
    obtain rfl : j = 0 := by simpa using hj
    rw [Addr.add_lit]
    simp [h])

theorem word_step {j m : Nat} (h : m < 8 ^ (4 - j)) (h0 : 0 < m) (hj : j ≤ 4) : j < 4 ∧ m / 8 < 8 ^ (4 - (j + 1)) := by
  rcases (show j = 0 ∨ j = 1 ∨ j = 2 ∨ j = 3 ∨ j = 4 by omega) with rfl | rfl | rfl | rfl | rfl <;> simp at h ⊢ <;> omega

namespace Km
theorem rune_letter (c : UInt8) (h1 : 97 ≤ c.toNat) (h2 : c.toNat ≤ 122) : isRune [c] := by
  refine ⟨by simp, ?_, fun v => ?_⟩
  · show 33 ≤ c.toNat
    omega
  · rw [wid_eq (by simp)]
    have e : nth ([c] ++ v) 0 = c.toNat := rfl
    rw [e]
    unfold widN
    rw [if_pos (by omega)]
    rfl
end Km

/-- Some word: a key. -/
def WordPost (w : World) (e : Ending) (w' : World) : Prop := ∃ (u : List UInt8) (m : Nat), e = .returned (.string ⟨u.toArray⟩) ∧ Km.run m u ∧ 1 ≤ m ∧ m ≤ 5 ∧ Below w.heap.size w w'

end Go.Proofs.Ytkaehjehpclgcaa
/- The chapter's example, by the law's own function. -/
namespace Go.Proofs.Ytkaehjehpclgcaa
open Go.RowKit
set_option linter.unusedVariables false
set_option linter.unusedSimpArgs false

def ex6 : Wv := ⟨⟨#[97]⟩, ⟨#[98]⟩, false, (3, 2), []⟩
theorem srt_nil : Srt [] := Srt.nil
theorem chk_letter (c : UInt8) (h1 : 97 ≤ c.toNat) (h2 : c.toNat ≤ 122) : Km.chk [c] = true := by
  have h : Km.run 1 ([] ++ [c]) := Km.run_snoc Km.run_nil (Km.rune_letter c h1 h2) (by simp)
  have := Km.run_chk h
  rw [List.nil_append] at this
  rw [this]
  rfl
theorem chkD_nil : chkD [] = true := by
  unfold chkD
  simp [srt_nil]
theorem ex6_ok : okW ex6 = true := by
  have h1 : Km.chk [97] = true := chk_letter 97 (by decide) (by decide)
  have e : okW ex6 = ((true && true) && Km.chk [97] && Sm.ok 3 2 && chkD []) := rfl
  rw [e, h1, chkD_nil]
  rfl
theorem ex6_bytes : wbV ex6 = [1, 97, 0, 1, 98, 3, 2, 0] := by
  rw [wbV_ok ex6_ok]
  have h2 := chkD_nil
  have e : ∀ n : Nat, n < 128 → Vm.enc n = [UInt8.ofNat n] := fun n h => Vm.enc_lt h
  simp only [wb0, ex6, txt, gN, sbytes, pbV, h2, Sm.ok]
  simp [e, pbody]
theorem ex6_read : readW [1, 97, 0, 1, 98, 3, 2, 0] = some ex6 := by
  rw [← ex6_bytes]
  exact readW_back ex6_ok

set_option maxRecDepth 100000 in
set_option maxHeartbeats 800000 in
theorem wawake_any (w : World) :
    Calls Try.prog 11 #[] w fun e w' => e = .returned (.bool true) ∧ Below w.heap.size w w' := by
  have hb1 : Below w.heap.size w (w.alloc (.cells (wvs ex6 (.slice none 0 0)) 26)) := balloc (Below.refl _ w) _
  have hv1 := VwP.new w ex6 (.slice none 0 0) 26
  have hrd := fun W => wread_any ⟨#[1, 97, 0, 1, 98, 3, 2, 0]⟩ W (by decide)
  rw [show (⟨#[1, 97, 0, 1, 98, 3, 2, 0]⟩ : ByteArray).data.toList = [1, 97, 0, 1, 98, 3, 2, 0] from rfl, ex6_read] at hrd
  have hbt := fun W (h : WvOk W ex6 (.slice none 0 0)) => wbytes_any ex6 (.slice none 0 0) W h
  rw [ex6_bytes] at hbt
  have hok : ∀ W u, DepAt W u [] → WvOk W ex6 u := fun W u h => ⟨by decide, by decide, by simp [ex6], by simp [ex6, Szd], h⟩
  have hsm := fun W u (h : DepAt W u []) => wsame_any ex6 ex6 (.slice none 0 0) u W (hok _ _ (DepAt.nil _)) (hok _ _ h)
  rw [sameW_self] at hsm
  dsimp only [gotW, ex6, wvs, Option.isSome] at *
  have HOK := Lib.hid hok
  clear hok
  go_enter Try.func11, Try.ntmps11
  go_wp2_with fail
  refine (hrd _).mono ?_
  rintro e w1 ⟨u, rfl, hd, hb2⟩
  obtain ⟨a, cp, rfl, _⟩ := id hd
  have hv2 := hv1.keep hb2
  have hb3 := bstep hb1 hb2
  have hbn := balloc (Below.refl _ w1) (.cells #[.string ⟨#[97]⟩, .string ⟨#[98]⟩, .bool false, .int .i64 3, .int .i64 2, .slice a ([] : List De).length cp] 26)
  have hlt2 : w.heap.size ≠ w1.heap.size := by have := hv2.lt; omega
  have hv4 := hv2.keep hbn
  have hv3 := VwP.new w1 ex6 (.slice a ([] : List De).length cp) 26
  dsimp only [ex6, wvs] at hv3
  have hd4 := hd.below hbn
  have hb4 := bstep hb3 hbn
  go_upto_region 3 with fail
  generalize w1.alloc (.cells #[.string ⟨#[97]⟩, .string ⟨#[98]⟩, .bool false, .int .i64 3, .int .i64 2, .slice a ([] : List De).length cp] 26) = w4 at *
  clear hv1 hv2 hb1 hb2 hb3 hbn hrd hd
  have HV4 := Lib.hid hv4
  have HV3 := Lib.hid hv3
  have HD4 := Lib.hid hd4
  obtain ⟨x0, x1, x2, x3, x4, x5, _⟩ := hv4
  obtain ⟨y0, y1, y2, y3, y4, y5, _⟩ := hv3
  dsimp only at x0 x1 x2 x3 x4 y0 y1 y2 y3 y4
  clear hd4
  go_wp2_with fail
  refine (hbt _ (HOK.out _ _ (DepAt.nil _))).mono ?_
  rintro e w5 ⟨rfl, hb5⟩
  have hv5 := HV4.out.keep hb5
  have hv6 := HV3.out.keep hb5
  have HD5 := Lib.hid (HD4.out.below hb5)
  have hbw := bstep hb4 hb5
  clear x0 x1 x2 x3 x4 x5 y0 y1 y2 y3 y4 y5
  obtain ⟨x0, x1, x2, x3, x4, x5, _⟩ := hv5
  obtain ⟨y0, y1, y2, y3, y4, y5, _⟩ := hv6
  dsimp only at x0 x1 x2 x3 x4 y0 y1 y2 y3 y4
  clear hb5 hb4
  go_wp2_with fail
  refine (hsm _ _ HD5.out).mono ?_
  rintro e w6 ⟨rfl, hb6⟩
  go_wp2
  go_ret
  exact ⟨rfl, bstep hbw hb6⟩
end Go.Proofs.Ytkaehjehpclgcaa
/- What the document's Add of pasts answers. -/
namespace Go.Proofs.Ytkaehjehpclgcaa
open Go.RowKit
set_option linter.unusedVariables false
set_option linter.unusedSimpArgs false

/-- The document's loop: d put into a row. -/
def addGo (d : De) : Bool → List De → List De
  | put, [] => if put then [] else [d]
  | put, x :: r => if x.1 = d.1 then (if Sm.less x.2 d.2 = true then d else x) :: addGo d true r else if !put && klt d.1 x.1 then d :: x :: addGo d true r else x :: addGo d put r
def addR (l : List De) (d : De) : List De := if okD d = true then addGo d false l else l
theorem addGo_len (d : De) (l : List De) : ∀ put, (addGo d put l).length ≤ l.length + 1 ∧ (addGo d true l).length = l.length := by
  induction l with
  | nil => intro put; cases put <;> simp [addGo]
  | cons x r ih =>
    intro put
    have h1 := (ih put).1
    have h2 := (ih put).2
    constructor
    · rw [addGo]
      split
      · simp; omega
      · split
        · simp; omega
        · simp; omega
    · rw [addGo]
      split
      · simp; omega
      · simp; omega
theorem addR_len (l : List De) (d : De) : (addR l d).length ≤ l.length + 1 := by
  unfold addR
  split
  · exact (addGo_len d l false).1
  · omega

theorem keyeq (x k : ByteArray) : (x = k) ↔ (x.toList == k.toList) = true := by
  rw [Lib.toList_data, Lib.toList_data, beq_iff_eq]
  exact ⟨fun h => by rw [h], ba_inj⟩

/-- The rest of the document's loop, step by step. -/
theorem addGo_eq {d x : De} {put : Bool} {r : List De} (h : x.1 = d.1) (hl : Sm.less x.2 d.2 = true) : addGo d put (x :: r) = d :: addGo d true r := by rw [addGo, if_pos h, if_pos hl]
theorem addGo_eq' {d x : De} {put : Bool} {r : List De} (h : x.1 = d.1) (hl : Sm.less x.2 d.2 = false) : addGo d put (x :: r) = x :: addGo d true r := by rw [addGo, if_pos h, if_neg (by rw [hl]; simp)]
theorem addGo_put {d x : De} {r : List De} (h : x.1 ≠ d.1) : addGo d true (x :: r) = x :: addGo d true r := by rw [addGo, if_neg h]; simp
theorem addGo_gt {d x : De} {r : List De} (h : x.1 ≠ d.1) (hg : klt d.1 x.1 = true) : addGo d false (x :: r) = d :: x :: addGo d true r := by rw [addGo, if_neg h]; simp [hg]
theorem addGo_le {d x : De} {r : List De} (h : x.1 ≠ d.1) (hg : klt d.1 x.1 = false) : addGo d false (x :: r) = x :: addGo d false r := by rw [addGo, if_neg h]; simp [hg]

theorem refCheck_b (k : ByteArray) (c : Bool) (w : World) (hk : k.size ≤ 9223372036854775807) (h : Km.chk k.data.toList = c) :
    Calls Try.prog 31 #[.string k] w fun e w' => e = .returned (.bool c) ∧ w = w' := by
  rw [← h]
  exact refCheck_any k w hk
theorem refSCheck_b (n s : Int) (c : Bool) (w : World) (h : Sm.ok n s = c) :
    Calls Try.prog 32 #[.agg #[.int .i64 n, .int .i64 s]] w fun e w' => e = .returned (.bool c) ∧ Below w.heap.size w w' := by
  rw [← h]
  exact refSCheck_any n s w
theorem refLess_b (n s m t : Int) (c : Bool) (w : World) (h : Sm.less (n, s) (m, t) = c) :
    Calls Try.prog 69 #[.agg #[.int .i64 n, .int .i64 s], .agg #[.int .i64 m, .int .i64 t]] w fun e w' => e = .returned (.bool c) ∧ Below w.heap.size w w' := by
  rw [← h]
  exact refLess_any n s m t w

set_option maxRecDepth 100000 in
set_option maxHeartbeats 3200000 in
theorem refAddP_no (v : Value) (l : List De) (k : ByteArray) (n s : Int) (kc sc : Bool) (w : World) (hk : k.size ≤ 9223372036854775807) (hr : DepAt w v l) (hkc : Km.chk k.data.toList = kc) (hsc : Sm.ok n s = sc) (hno : (kc && sc) = false) :
    Calls Try.prog 27 #[v, .agg #[.string k, .int .i64 n, .int .i64 s]] w fun e w' => e = .returned v ∧ DepAt w' v l ∧ Below w.heap.size w w' := by
  have HV := Lib.hid hr
  obtain ⟨a, cap, rfl, hcap, hmx, _, hr⟩ := hr
  have HK := Lib.hid hkc
  have HC := Lib.hid hsc
  clear hr hkc hsc
  cases kc <;> cases sc <;> simp at hno
  all_goals
    go_enter Try.func27, Try.ntmps27
    go_wp2_with fail
    refine (refCheck_b k _ _ hk HK.out).mono ?_
    rintro e w1 ⟨rfl, rfl⟩
    go_wp2_with fail
    refine (refSCheck_b n s _ _ HC.out).mono ?_
    rintro e w2 ⟨rfl, hb⟩
    have HB := Lib.hid (box3 hb).2.2.2.2
    clear hb
    go_wp2
    go_ret
    exact ⟨rfl, HV.out.below HB.out, HB.out⟩

set_option maxRecDepth 100000 in
set_option maxHeartbeats 6400000 in
theorem refAddP_yes (v : Value) (l : List De) (k : ByteArray) (n s : Int) (w : World) (hl : l.length ≤ 100000) (hk : k.size ≤ 9223372036854775807) (hr : DepAt w v l) (hkc : Km.chk k.data.toList = true) (hsc : Sm.ok n s = true) :
    Calls Try.prog 27 #[v, .agg #[.string k, .int .i64 n, .int .i64 s]] w fun e w' => ∃ u, e = .returned u ∧ OwnD w' w.heap.size u (addGo (k, n, s) false l) ∧ Below w.heap.size w w' := by
  obtain ⟨a, cap, rfl, hcap, hmx, _, hr⟩ := hr
  have HR := Lib.hid hr
  have HK := Lib.hid hkc
  have HC := Lib.hid hsc
  have HLN := Lib.hid (addGo_len (k, n, s) l false).1
  generalize hfull : addGo (k, n, s) false l = full at HLN ⊢
  have HFULL := Lib.hid hfull
  clear hr hkc hsc hfull
  go_enter Try.func27, Try.ntmps27
  go_wp2_with fail
  refine (refCheck_b k _ _ hk HK.out).mono ?_
  rintro e w1 ⟨rfl, rfl⟩
  go_wp2_with fail
  refine (refSCheck_b n s _ _ HC.out).mono ?_
  rintro e w2 ⟨rfl, hb⟩
  have hB0 := (VarD.new w k n s 58).keep hb
  have HB := Lib.hid (box3 hb).2.2.2.2
  have HB0 := Lib.hid hB0
  have hz0 : w.heap.size < w2.heap.size := hB0.lt
  have HR2 := Lib.hid (HR.out.below HB.out)
  clear hb hB0 HR
  go_wp2
  go_loopw [7, 8, 9] (fun o pt i wr => ∃ (j : Nat) (acc : List De) (put : Bool), j ≤ l.length ∧ i = .int .i64 j ∧ pt = .bool put ∧ acc ++ addGo (k, n, s) put (l.drop j) = full ∧ OwnD wr w2.heap.size o acc ∧ Below w2.heap.size w2 wr) (fun _ _ i _ => l.length - (intOf i).toNat)
  case atStart => exact ⟨0, [], false, by omega, rfl, rfl, by rw [List.drop_zero, List.nil_append]; exact HFULL.out, OwnD.nil _ _, Below.refl _ _⟩
  case round =>
    obtain ⟨j, acc, put, hj, rfl, rfl, hacc, ho, hbel⟩ := hrel
    have hal : acc.length ≤ 100001 := by
      have h1 := HLN.out
      have h2 := congrArg List.length hacc
      rw [List.length_append] at h2
      omega
    have HAC := Lib.hid hacc
    have hbs : w2.heap.size ≤ wr.heap.size := hbel.size
    obtain ⟨sa, sc, rfl⟩ := ho.shape
    have HO := Lib.hid ho
    clear hacc ho
    obtain ⟨d0, d1, d2, _, _, _⟩ := HB0.out.keep hbel
    have hne : w.heap.size ≠ wr.heap.size := by omega
    have d0' : ∀ o, (wr.alloc o).cell? ⟨w.heap.size, 0, none⟩ = some (.string k) := fun o => kc (balloc (Below.refl _ _) o) d0
    have d1' : ∀ o, (wr.alloc o).cell? ⟨w.heap.size, 1, none⟩ = some (.int .i64 n) := fun o => kc (balloc (Below.refl _ _) o) d1
    have d2' : ∀ o, (wr.alloc o).cell? ⟨w.heap.size, 2, none⟩ = some (.int .i64 s) := fun o => kc (balloc (Below.refl _ _) o) d2
    by_cases hlt : j < l.length
    · obtain ⟨b, off, rfl, hbl, c0, c1, c2⟩ := HR2.out.below hbel j hlt
      have HD := Lib.hid (List.drop_eq_getElem_cons hlt)
      generalize l[j] = x at c0 c1 c2 HD
      obtain ⟨x, y, z⟩ := x
      dsimp only at c0 c1 c2
      have HX := Lib.hid (VarD.new wr x y z 58)
      have hb1 : Below wr.heap.size wr (wr.alloc (.cells #[.string x, .int .i64 y, .int .i64 z] 58)) := balloc (Below.refl _ _) _
      have HKE := Lib.hid (keyeq x k)
      cases hq : (x.toList == k.toList) with
      | true =>
        have hq' : x.toList = k.toList := by simpa using hq
        have HQ := Lib.hid (HKE.out.2 hq)
        clear hq
        cases hle : Sm.less (y, z) (n, s) with
        | true =>
          have HL := Lib.hid hle
          clear hle
          go_wp2_with fail
          refine (refLess_b y z n s _ _ HL.out).mono ?_
          rintro e w3 ⟨rfl, hb⟩
          have hX := HX.out.keep hb
          have hb3 := bstep hb1 hb
          obtain ⟨e0, e1, e2, _, _, _⟩ := HB0.out.keep (hbel.trans (hb3.mono hbs))
          obtain ⟨x0, x1, x2, f0, f1, f2⟩ := hX
          have hX : VarD w3 wr.heap.size x y z := ⟨x0, x1, x2, f0, f1, f2⟩
          have HP := Lib.hid (hX.put k n s)
          have HO3 := Lib.hid ((HO.out.below hb3).put3 (HO.out.lt' (Nat.le_refl _)) (.string k) (.int .i64 n) (.int .i64 s))
          have HB3 := Lib.hid (below_put3 (hbel.trans (hb3.mono hbs)) hbs (.string k) (.int .i64 n) (.int .i64 s))
          have hz3 : (World.put3 w3 wr.heap.size (.string k) (.int .i64 n) (.int .i64 s)).heap.size = w3.heap.size := put3_size _ _ _ _ _
          have hs3 : w2.heap.size ≤ w3.heap.size := by have := hb3.size; omega
          obtain ⟨p0, p1, p2, _, _, _⟩ := HP.out
          clear hb hb3 hb1 hX d0 d1 d2 c0 c1 c2
          go_wp2_with (at_builtin; refine wp_pushD (wr := World.put3 w3 wr.heap.size (.string k) (.int .i64 n) (.int .i64 s)) rfl _ _ rfl w2.heap.size (.slice sa acc.length sc) acc k n s rfl HO3.out (by rw [hz3]; rfl) (by omega) (by rw [hz3]; exact hs3) ?_; intro g gcap w4 ho4 hb4 hk4 hg4)
          go_wp2
          go_roundw
          case rel => exact ⟨j + 1, acc ++ [(k, n, s)], true, by omega, by go_num, rfl, by rw [← HAC.out, HD.out, addGo_eq HQ.out HL.out, List.append_assoc]; rfl, by simpa using ho4, HB3.out.trans hb4⟩
          case measure => simp [intOf]; omega
        | false =>
          have HL := Lib.hid hle
          clear hle
          go_wp2_with fail
          refine (refLess_b y z n s _ _ HL.out).mono ?_
          rintro e w3 ⟨rfl, hb⟩
          have hX := HX.out.keep hb
          have hb3 := bstep hb1 hb
          obtain ⟨x0, x1, x2, f0, f1, f2⟩ := hX
          have HO3 := Lib.hid (HO.out.below hb3)
          have HB3 := Lib.hid (hbel.trans (hb3.mono hbs))
          have hs3 : w2.heap.size ≤ w3.heap.size := by have := hb3.size; omega
          clear hb hb3 hb1 d0 d1 d2 c0 c1 c2
          go_wp2_with (at_builtin; refine wp_pushD (wr := w3) rfl _ _ rfl w2.heap.size (.slice sa acc.length sc) acc x y z rfl HO3.out rfl (by omega) hs3 ?_; intro g gcap w4 ho4 hb4 hk4 hg4)
          go_wp2
          go_roundw
          case rel => exact ⟨j + 1, acc ++ [(x, y, z)], true, by omega, by go_num, rfl, by rw [← HAC.out, HD.out, addGo_eq' HQ.out HL.out, List.append_assoc]; rfl, by simpa using ho4, HB3.out.trans hb4⟩
          case measure => simp [intOf]; omega
      | false =>
        have hq' : ¬ x.toList = k.toList := by simpa using hq
        have HQ : Hid (x ≠ k) := Lib.hid (fun h => by rw [HKE.out.1 h] at hq; cases hq)
        have HO1 := Lib.hid (HO.out.below hb1)
        have HB1 := Lib.hid (hbel.trans (hb1.mono hbs))
        have hz1 : (wr.alloc (.cells #[.string x, .int .i64 y, .int .i64 z] 58)).heap.size = wr.heap.size + 1 := by simp
        have HZ1 := Lib.hid hz1
        clear hz1 hb1
        cases put with
        | true =>
          go_wp2_with (at_builtin; refine wp_pushD (wr := wr.alloc (.cells #[.string x, .int .i64 y, .int .i64 z] 58)) rfl _ _ rfl w2.heap.size (.slice sa acc.length sc) acc x y z rfl HO1.out (by rw [HZ1.out]; rfl) (by omega) (by rw [HZ1.out]; omega) ?_; intro g gcap w4 ho4 hb4 hk4 hg4)
          go_wp2
          go_roundw
          case rel => exact ⟨j + 1, acc ++ [(x, y, z)], true, by omega, by go_num, rfl, by rw [← HAC.out, HD.out, addGo_put HQ.out, List.append_assoc]; rfl, by simpa using ho4, HB1.out.trans hb4⟩
          case measure => simp [intOf]; omega
        | false =>
          cases hg : Op.bytesLess x.toList k.toList with
          | true =>
            have hg2 : Op.bytesLess k.toList x.toList = false := Km.bl_asymm hg
            have HG : Hid (klt k x = false) := Lib.hid (by unfold klt; rw [← Lib.toList_data, ← Lib.toList_data]; exact hg2)
            go_wp2_with (at_builtin; refine wp_pushD (wr := wr.alloc (.cells #[.string x, .int .i64 y, .int .i64 z] 58)) rfl _ _ rfl w2.heap.size (.slice sa acc.length sc) acc x y z rfl HO1.out (by rw [HZ1.out]; rfl) (by omega) (by rw [HZ1.out]; omega) ?_; intro g gcap w4 ho4 hb4 hk4 hg4)
            go_wp2
            go_roundw
            case rel => exact ⟨j + 1, acc ++ [(x, y, z)], false, by omega, by go_num, rfl, by rw [← HAC.out, HD.out, addGo_le HQ.out HG.out, List.append_assoc]; rfl, by simpa using ho4, HB1.out.trans hb4⟩
            case measure => simp [intOf]; omega
          | false =>
            have hg2 : Op.bytesLess k.toList x.toList = true := by
              cases h : Op.bytesLess k.toList x.toList with
              | true => rfl
              | false => exact absurd (Km.bl_tri hg h) hq'
            have HG : Hid (klt k x = true) := Lib.hid (by unfold klt; rw [← Lib.toList_data, ← Lib.toList_data]; exact hg2)
            go_wp2_with (first
              | (at_builtin; refine wp_pushD (wr := wr.alloc (.cells #[.string x, .int .i64 y, .int .i64 z] 58)) rfl _ _ rfl w2.heap.size (.slice sa acc.length sc) acc k n s rfl HO1.out (by rw [HZ1.out]; rfl) (by omega) (by rw [HZ1.out]; omega) ?_; intro g gcap w4 ho4 hb4 hk4 hg4; obtain ⟨x0, x1, x2, f0, f1, f2⟩ := HX.out.block (hk4 wr.heap.size (by rw [HZ1.out]; omega) (HO.out.lt' (Nat.le_refl _))); have HO4 := Lib.hid ho4; have hs4 : w2.heap.size ≤ w4.heap.size := (by have := (HB1.out.trans hb4).size; omega); clear ho4 hk4)
              | (at_builtin; refine wp_pushD (wr := w4) rfl _ _ rfl w2.heap.size (.slice (some ⟨g, 0, none⟩) (acc.length + 1) gcap) (acc ++ [(k, n, s)]) x y z rfl (by simpa using HO4.out) rfl (by simp; omega) hs4 ?_; intro g5 gcap5 w5 ho5 hb5 hk5 hg5))
            go_wp2
            go_roundw
            case rel => exact ⟨j + 1, acc ++ [(k, n, s)] ++ [(x, y, z)], true, by omega, by go_num, rfl, by rw [← HAC.out, HD.out, addGo_gt HQ.out HG.out]; simp, by simpa using ho5, (HB1.out.trans hb4).trans hb5⟩
            case measure => simp [intOf]; omega
    · have HE : Hid (acc ++ (if put then [] else [(k, n, s)]) = full) := Lib.hid (by have h := HAC.out; rw [List.drop_eq_nil_of_le (by omega)] at h; simpa [addGo] using h)
      have hge : ¬ (j : Int) < (l.length : Int) := by omega
      cases put with
      | true =>
        go_wp2
        go_ret
        exact ⟨_, rfl, by have h := HE.out; simp at h; rw [← h]; exact OwnD.mono HO.out HB.out.size, HB.out.trans (hbel.mono (by omega))⟩
      | false =>
        go_wp2_with (at_builtin; refine wp_pushD (wr := wr) rfl _ _ rfl w2.heap.size (.slice sa acc.length sc) acc k n s rfl HO.out rfl (by omega) hbs ?_; intro g gcap w4 ho4 hb4 hk4 hg4)
        go_wp2
        go_ret
        exact ⟨_, rfl, by have h := HE.out; simp at h; rw [← h]; have := OwnD.mono ho4 HB.out.size; simpa using this, HB.out.trans ((hbel.trans hb4).mono (by omega))⟩

/-- What is answered is what came in, or lies in new memory. -/
theorem refAddP_new (v : Value) (l : List De) (k : ByteArray) (n s : Int) (w : World) (hl : l.length ≤ 100000) (hk : k.size ≤ 9223372036854775807) (hr : DepAt w v l) :
    Calls Try.prog 27 #[v, .agg #[.string k, .int .i64 n, .int .i64 s]] w fun e w' => ∃ u, e = .returned u ∧ DepAt w' u (addR l (k, n, s)) ∧ (u = v ∨ ∀ b, u.ownBlock = some b → w.heap.size ≤ b) ∧ Below w.heap.size w w' := by
  cases hkc : Km.chk k.data.toList <;> cases hsc : Sm.ok n s
  · rw [show addR l (k, n, s) = l by simp [addR, okD, hkc]]; exact (refAddP_no v l k n s _ _ w hk hr hkc hsc rfl).mono fun e w' ⟨h1, h2, h3⟩ => ⟨v, h1, h2, .inl rfl, h3⟩
  · rw [show addR l (k, n, s) = l by simp [addR, okD, hkc]]; exact (refAddP_no v l k n s _ _ w hk hr hkc hsc rfl).mono fun e w' ⟨h1, h2, h3⟩ => ⟨v, h1, h2, .inl rfl, h3⟩
  · rw [show addR l (k, n, s) = l by simp [addR, okD, hkc, hsc]]; exact (refAddP_no v l k n s _ _ w hk hr hkc hsc rfl).mono fun e w' ⟨h1, h2, h3⟩ => ⟨v, h1, h2, .inl rfl, h3⟩
  · rw [show addR l (k, n, s) = addGo (k, n, s) false l by simp [addR, okD, hkc, hsc]]
    exact (refAddP_yes v l k n s w hl hk hr hkc hsc).mono fun e w' ⟨u, h1, h2, h3⟩ => ⟨u, h1, DepAt.of_own h2, .inr (fun b hb => (World.ownsRow.lt h2 b hb).1), h3⟩
theorem refAddP_any (v : Value) (l : List De) (k : ByteArray) (n s : Int) (w : World) (hl : l.length ≤ 100000) (hk : k.size ≤ 9223372036854775807) (hr : DepAt w v l) :
    Calls Try.prog 27 #[v, .agg #[.string k, .int .i64 n, .int .i64 s]] w fun e w' => ∃ u, e = .returned u ∧ DepAt w' u (addR l (k, n, s)) ∧ Below w.heap.size w w' :=
  (refAddP_new v l k n s w hl hk hr).mono fun e w' ⟨u, h1, h2, _, h3⟩ => ⟨u, h1, h2, h3⟩
end Go.Proofs.Ytkaehjehpclgcaa
