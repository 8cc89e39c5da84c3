/- What the law's own helper few answers: a row of 9 ranges at most, texts of 12 bytes at most. -/
import Derived.Test.YtllagelopdedfaaTabHelp
namespace Go.Proofs.Ytllagelopdedfaa
open Go.RowKit
set_option linter.unusedVariables false
set_option linter.unusedSimpArgs false

def FewPost7 (a1 a2 : Option Addr) (p1 p2 m1 m2 : Nat) (w : World) (e : Ending) (w' : World) : Prop := ∃ u0 l n1 n2, e = .returned (.agg #[u0, .slice a1 n1 p1, .slice a2 n2 p2]) ∧ n1 ≤ m1 ∧ n2 ≤ m2 ∧ OwnR KR w' w.heap.size u0 l ∧ Szs l ∧ l.length ≤ 9 ∧ Below w.heap.size w w'
theorem cut12 (p : ByteArray) : (p.extract 0 12).size ≤ 12 := by
  rw [ByteArray.size_extract]
  omega
theorem Szs.snoc7 {l : List (ByteArray × ByteArray)} {p q : ByteArray} (h : Szs l) (hp : p.size ≤ 12) (hq : q.size ≤ 12) : Szs (l ++ [(p, q)]) := by
  intro r hr
  rcases List.mem_append.1 hr with h1 | h1
  · exact h r h1
  · obtain rfl : r = (p, q) := by simpa using h1
    dsimp only
    omega
/-- The first ones of a row. -/
theorem RowAt.take7 {w : World} {a : Option Addr} {cap n : Nat} {l : List Int} (h : RowAt KI w (.slice a l.length cap) l) (hn : n ≤ l.length) : RowAt KI w (.slice a n cap) (l.take n) := by
  obtain ⟨a', cap', e, h1, h2, h3, hr⟩ := h
  cases e
  have hl : (l.take n).length = n := by simp; omega
  refine ⟨a, cap, by rw [hl], by omega, h2, h3, fun i hi => ?_⟩
  have hi' : i < l.length := by omega
  obtain ⟨b, off, e, hlt, hc⟩ := hr i hi'
  exact ⟨b, off, e, hlt, fun j u hu => hc j u (by simpa using hu)⟩

/-- Behind the loop: the row that was made, the result's variable. -/
structure F7 (w W : World) (B : Nat) (u0 : Value) (l : List (ByteArray × ByteArray)) : Prop where
  b : Below w.heap.size w W
  o : OwnR KR W B u0 l
  v : VrP W (w.heap.size + 1) (.slice none 0 0) (.slice none 0 0) (.slice none 0 0)
  h : w.heap.size + 1 < B
theorem F7.put {w W : World} {B : Nat} {u0 : Value} {l : List (ByteArray × ByteArray)} (h : F7 w W B u0 l) (j : Nat) (x : Value) : F7 w (W.setCell ⟨w.heap.size, j, none⟩ x) B u0 l :=
  ⟨h.b.setCell (p := ⟨w.heap.size, j, none⟩) (Nat.le_refl _) x, h.o.put7 (h.o.lo (by have := h.h; omega)), h.v.block (Below.heap_setCell _ _ _ _ (by simp)), h.h⟩
theorem F7.fin {w W : World} {B : Nat} {u0 : Value} {l : List (ByteArray × ByteArray)} (h : F7 w W B u0 l) (u1 u2 : Value) :
    OwnR KR (((W.setCell ⟨w.heap.size + 1, 0, none⟩ u0).setCell ⟨w.heap.size + 1, 1, none⟩ u1).setCell ⟨w.heap.size + 1, 2, none⟩ u2) w.heap.size u0 l ∧
      VrP (((W.setCell ⟨w.heap.size + 1, 0, none⟩ u0).setCell ⟨w.heap.size + 1, 1, none⟩ u1).setCell ⟨w.heap.size + 1, 2, none⟩ u2) (w.heap.size + 1) u0 u1 u2 ∧
      Below w.heap.size w (((W.setCell ⟨w.heap.size + 1, 0, none⟩ u0).setCell ⟨w.heap.size + 1, 1, none⟩ u1).setCell ⟨w.heap.size + 1, 2, none⟩ u2) := by
  have hb := ((h.b.setCell (p := ⟨w.heap.size + 1, 0, none⟩) (by simp) u0).setCell (p := ⟨w.heap.size + 1, 1, none⟩) (by simp) u1).setCell (p := ⟨w.heap.size + 1, 2, none⟩) (by simp) u2
  have n0 := h.o.lo h.h
  exact ⟨(((h.o.put7 n0).put7 n0).put7 n0).mono (by have := h.h; omega), ((h.v.put0 u0).put1 u1).put2 u2, hb⟩

set_option maxRecDepth 100000 in
set_option maxHeartbeats 3200000 in
theorem few7_any (u0 : Value) (a1 a2 : Option Addr) (p1 p2 : Nat) (rs : List (ByteArray × ByteArray)) (ow pa : List Int) (w : World) (h0 : RowAt KR w u0 rs) (hz : ∀ r ∈ rs, r.1.size ≤ maxLen ∧ r.2.size ≤ maxLen) (h1 : RowAt KI w (.slice a1 ow.length p1) ow) (h2 : RowAt KI w (.slice a2 pa.length p2) pa) :
    Calls Try.prog 13 #[.agg #[u0, .slice a1 ow.length p1, .slice a2 pa.length p2]] w (FewPost7 a1 a2 p1 p2 ow.length pa.length w) := by
  obtain ⟨a0, p0, rfl, hq0, hm0, _, hi0⟩ := h0
  obtain ⟨_, _, e1, hq1, hm1, _⟩ := h1
  cases e1
  obtain ⟨_, _, e2, hq2, hm2, _⟩ := h2
  cases e2
  unfold maxLen at hm0 hm1 hm2
  have HI := Lib.hid hi0
  have HZ := Lib.hid hz
  clear hi0 hz
  have hV := VrP.new w (.slice a0 rs.length p0) (.slice a1 ow.length p1) (.slice a2 pa.length p2) 25
  have hb1 := balloc (Below.refl _ w) (.cells #[.slice a0 rs.length p0, .slice a1 ow.length p1, .slice a2 pa.length p2] 25)
  have hb2 := balloc (Below.refl _ (w.alloc (.cells #[.slice a0 rs.length p0, .slice a1 ow.length p1, .slice a2 pa.length p2] 25))) (.cells #[.slice none 0 0, .slice none 0 0, .slice none 0 0] 25)
  have hW := VrP.new (w.alloc (.cells #[.slice a0 rs.length p0, .slice a1 ow.length p1, .slice a2 pa.length p2] 25)) (.slice none 0 0) (.slice none 0 0) (.slice none 0 0) 25
  rw [World.size_alloc] at hW
  have HV := Lib.hid (hV.keep hb2)
  have HW := Lib.hid hW
  have HB := Lib.hid (bstep hb1 hb2)
  have HS : Hid (((w.alloc (.cells #[.slice a0 rs.length p0, .slice a1 ow.length p1, .slice a2 pa.length p2] 25)).alloc (.cells #[.slice none 0 0, .slice none 0 0, .slice none 0 0] 25)).heap.size = w.heap.size + 2) := Lib.hid (by simp)
  clear hV hb1 hb2 hW
  go_enter Try.func13, Try.ntmps13
  go_wp2_with fail
  generalize (w.alloc (.cells #[.slice a0 rs.length p0, .slice a1 ow.length p1, .slice a2 pa.length p2] 25)).alloc (.cells #[.slice none 0 0, .slice none 0 0, .slice none 0 0] 25) = w2 at *
  go_loopw [3, 4] (fun o i wr => ∃ (k : Nat) (l : List (ByteArray × ByteArray)), k ≤ rs.length ∧ k ≤ 9 ∧ i = .int .i64 k ∧ OwnR KR wr w2.heap.size o l ∧ l.length = k ∧ Szs l ∧ Below w2.heap.size w2 wr) (fun _ i _ => 9 - (intOf i).toNat)
  case atStart => exact ⟨0, [], by omega, by omega, rfl, OwnR.nil _ _ _, rfl, (fun r hr => by simp at hr), Below.refl _ _⟩
  case round =>
    obtain ⟨k, l, hk1, hk9, rfl, ho, hlk, hsz, hbel⟩ := hrel
    have HLK := Lib.hid hlk
    have hl9 : l.length ≤ 9 := by omega
    have HSZ := Lib.hid hsz
    have HBL := Lib.hid hbel
    have HBR := Lib.hid (bstep HB.out hbel)
    have hbs : w2.heap.size ≤ wr.heap.size := hbel.size
    obtain ⟨sa, sc, rfl⟩ := ho.shape
    have HO := Lib.hid ho
    have hVr := HV.out.keep hbel
    have hVl := hVr.lt
    have HVR := Lib.hid hVr
    have HWR := Lib.hid (HW.out.keep hbel)
    obtain ⟨c0, c1, c2, hf⟩ := hVr
    clear ho hlk hsz hbel
    by_cases hgo : k < rs.length ∧ k < 9
    · obtain ⟨hk2, hk3⟩ := hgo
      obtain ⟨b, off, rfl, hbl, d0, d1⟩ := (RowIn.rng (HI.out.below HBR.out)) k hk2
      obtain ⟨hs1, hs2⟩ := HZ.out rs[k] (List.getElem_mem hk2)
      unfold maxLen at hs1 hs2
      generalize rs[k].1 = p at d0 hs1
      generalize rs[k].2 = q at d1 hs2
      have hki : (k : Int) < (rs.length : Int) := by omega
      have hki9 : (k : Int) < 9 := by omega
      have hlen : ∀ x : ByteArray × ByteArray, (l ++ [x]).length = k + 1 := fun x => by simp [HLK.out]
      have HLEN := Lib.hid hlen
      clear hlen
      by_cases h1 : 12 < p.size
      · have h1i : (12 : Int) < (p.size : Int) := by omega
        by_cases h2 : 12 < q.size
        · have h2i : (12 : Int) < (q.size : Int) := by omega
          have HSN := Lib.hid (HSZ.out.snoc7 (p := (p.extract 0 12)) (q := (q.extract 0 12)) (cut12 p) (cut12 q))
          have hb3 := balloc (Below.refl _ wr) (.cells #[.string (p.extract 0 12), .string (q.extract 0 12)] 44)
          have HOX := Lib.hid (HO.out.below hb3)
          have hbs3 : w2.heap.size ≤ (wr.alloc (.cells #[.string (p.extract 0 12), .string (q.extract 0 12)] 44)).heap.size := by simp; omega
          have HB3 := Lib.hid (bstep HBL.out hb3)
          have e0 : (wr.alloc (.cells #[.string (p.extract 0 12), .string (q.extract 0 12)] 44)).cell? ⟨wr.heap.size, 0, none⟩ = some (.string (p.extract 0 12)) := by simp
          have e1 : (wr.alloc (.cells #[.string (p.extract 0 12), .string (q.extract 0 12)] 44)).cell? ⟨wr.heap.size, 1, none⟩ = some (.string (q.extract 0 12)) := by simp
          clear hb3
          go_upto_region 10 with fail
          generalize wr.alloc (.cells #[.string (p.extract 0 12), .string (q.extract 0 12)] 44) = wx at *
          go_wp2_with (at_builtin; refine wp_pushR kr_ok (wr := wx) rfl _ _ rfl w2.heap.size (.slice sa l.length sc) l ((p.extract 0 12), (q.extract 0 12)) #[.string (p.extract 0 12), .string (q.extract 0 12)] rfl rfl HOX.out rfl (by omega) hbs3 ?_; intro g4 cap4 w4 ho4 hb4 hk4 hat4 hlt4)
          go_wp2
          go_roundw
          case rel => exact ⟨k + 1, l ++ [((p.extract 0 12), (q.extract 0 12))], by omega, by omega, by go_num, ho4, HLEN.out _, HSN.out, HB3.out.trans hb4⟩
          case measure => simp [intOf]; omega
        · have h2i : ¬ (12 : Int) < (q.size : Int) := by omega
          have HSN := Lib.hid (HSZ.out.snoc7 (p := (p.extract 0 12)) (q := q) (cut12 p) (by omega))
          have hb3 := balloc (Below.refl _ wr) (.cells #[.string (p.extract 0 12), .string q] 44)
          have HOX := Lib.hid (HO.out.below hb3)
          have hbs3 : w2.heap.size ≤ (wr.alloc (.cells #[.string (p.extract 0 12), .string q] 44)).heap.size := by simp; omega
          have HB3 := Lib.hid (bstep HBL.out hb3)
          have e0 : (wr.alloc (.cells #[.string (p.extract 0 12), .string q] 44)).cell? ⟨wr.heap.size, 0, none⟩ = some (.string (p.extract 0 12)) := by simp
          have e1 : (wr.alloc (.cells #[.string (p.extract 0 12), .string q] 44)).cell? ⟨wr.heap.size, 1, none⟩ = some (.string q) := by simp
          clear hb3
          go_upto_region 10 with fail
          generalize wr.alloc (.cells #[.string (p.extract 0 12), .string q] 44) = wx at *
          go_wp2_with (at_builtin; refine wp_pushR kr_ok (wr := wx) rfl _ _ rfl w2.heap.size (.slice sa l.length sc) l ((p.extract 0 12), q) #[.string (p.extract 0 12), .string q] rfl rfl HOX.out rfl (by omega) hbs3 ?_; intro g4 cap4 w4 ho4 hb4 hk4 hat4 hlt4)
          go_wp2
          go_roundw
          case rel => exact ⟨k + 1, l ++ [((p.extract 0 12), q)], by omega, by omega, by go_num, ho4, HLEN.out _, HSN.out, HB3.out.trans hb4⟩
          case measure => simp [intOf]; omega
      · have h1i : ¬ (12 : Int) < (p.size : Int) := by omega
        by_cases h2 : 12 < q.size
        · have h2i : (12 : Int) < (q.size : Int) := by omega
          have HSN := Lib.hid (HSZ.out.snoc7 (p := p) (q := (q.extract 0 12)) (by omega) (cut12 q))
          have hb3 := balloc (Below.refl _ wr) (.cells #[.string p, .string (q.extract 0 12)] 44)
          have HOX := Lib.hid (HO.out.below hb3)
          have hbs3 : w2.heap.size ≤ (wr.alloc (.cells #[.string p, .string (q.extract 0 12)] 44)).heap.size := by simp; omega
          have HB3 := Lib.hid (bstep HBL.out hb3)
          have e0 : (wr.alloc (.cells #[.string p, .string (q.extract 0 12)] 44)).cell? ⟨wr.heap.size, 0, none⟩ = some (.string p) := by simp
          have e1 : (wr.alloc (.cells #[.string p, .string (q.extract 0 12)] 44)).cell? ⟨wr.heap.size, 1, none⟩ = some (.string (q.extract 0 12)) := by simp
          clear hb3
          go_upto_region 10 with fail
          generalize wr.alloc (.cells #[.string p, .string (q.extract 0 12)] 44) = wx at *
          go_wp2_with (at_builtin; refine wp_pushR kr_ok (wr := wx) rfl _ _ rfl w2.heap.size (.slice sa l.length sc) l (p, (q.extract 0 12)) #[.string p, .string (q.extract 0 12)] rfl rfl HOX.out rfl (by omega) hbs3 ?_; intro g4 cap4 w4 ho4 hb4 hk4 hat4 hlt4)
          go_wp2
          go_roundw
          case rel => exact ⟨k + 1, l ++ [(p, (q.extract 0 12))], by omega, by omega, by go_num, ho4, HLEN.out _, HSN.out, HB3.out.trans hb4⟩
          case measure => simp [intOf]; omega
        · have h2i : ¬ (12 : Int) < (q.size : Int) := by omega
          have HSN := Lib.hid (HSZ.out.snoc7 (p := p) (q := q) (by omega) (by omega))
          have hb3 := balloc (Below.refl _ wr) (.cells #[.string p, .string q] 44)
          have HOX := Lib.hid (HO.out.below hb3)
          have hbs3 : w2.heap.size ≤ (wr.alloc (.cells #[.string p, .string q] 44)).heap.size := by simp; omega
          have HB3 := Lib.hid (bstep HBL.out hb3)
          have e0 : (wr.alloc (.cells #[.string p, .string q] 44)).cell? ⟨wr.heap.size, 0, none⟩ = some (.string p) := by simp
          have e1 : (wr.alloc (.cells #[.string p, .string q] 44)).cell? ⟨wr.heap.size, 1, none⟩ = some (.string q) := by simp
          clear hb3
          go_upto_region 10 with fail
          generalize wr.alloc (.cells #[.string p, .string q] 44) = wx at *
          go_wp2_with (at_builtin; refine wp_pushR kr_ok (wr := wx) rfl _ _ rfl w2.heap.size (.slice sa l.length sc) l (p, q) #[.string p, .string q] rfl rfl HOX.out rfl (by omega) hbs3 ?_; intro g4 cap4 w4 ho4 hb4 hk4 hat4 hlt4)
          go_wp2
          go_roundw
          case rel => exact ⟨k + 1, l ++ [(p, q)], by omega, by omega, by go_num, ho4, HLEN.out _, HSN.out, HB3.out.trans hb4⟩
          case measure => simp [intOf]; omega
    · have HG : Hid (¬ (k < rs.length ∧ k < 9)) := Lib.hid hgo
      have hol : l.length ≤ 9 := hl9
      have hf0 := hf 0 (by decide)
      have hf1 := hf 1 (by decide)
      have hf2 := hf 2 (by decide)
      have hV3 := HVR.out.put0 (.slice sa l.length sc)
      have hfw := HWR.out.f
      have g0 := HWR.out.c0
      have g1 := HWR.out.c1
      have g2 := HWR.out.c2
      have q0 := hfw 0 (by decide)
      have q1 := hfw 1 (by decide)
      have q2 := hfw 2 (by decide)
      have hws : w.heap.size + 1 < wr.heap.size := HWR.out.lt
      have hn2 : w.heap.size + 2 ≤ w2.heap.size := by rw [HS.out]; exact Nat.le_refl _
      have HF : Hid (F7 w wr w2.heap.size (.slice sa l.length sc) l) := Lib.hid ⟨HBR.out, HO.out, HWR.out, by omega⟩
      clear hf hfw hV3
      rcases (show (decide (k < rs.length) = false) ∨ (decide (k < rs.length) = true ∧ decide ((k : Int) < 9) = false) by simp; omega) with hd | ⟨hd, hd2⟩
      all_goals
        clear hgo
        by_cases h1 : 9 < ow.length
        · have h1i : (9 : Int) < (ow.length : Int) := by omega
          by_cases h2 : 9 < pa.length
          · have h2i : (9 : Int) < (pa.length : Int) := by omega
            go_wp2
            obtain ⟨e1, e2, e3⟩ := (((HF.out.put 0 (.slice sa l.length sc)).put 1 (.slice a1 9 p1)).put 2 (.slice a2 9 p2)).fin (.slice a1 9 p1) (.slice a2 9 p2)
            obtain ⟨r0, r1, r2, _⟩ := e2
            exact bodyPost_ret (v := .agg #[.slice sa l.length sc, .slice a1 9 p1, .slice a2 9 p2]) (by simp [results, Try.results13, go_sem, r0, r1, r2]) rfl ⟨_, l, _, _, rfl, by omega, by omega, e1, HSZ.out, hol, e3⟩
          · have h2i : ¬ (9 : Int) < (pa.length : Int) := by omega
            go_wp2
            obtain ⟨e1, e2, e3⟩ := ((HF.out.put 0 (.slice sa l.length sc)).put 1 (.slice a1 9 p1)).fin (.slice a1 9 p1) (.slice a2 pa.length p2)
            obtain ⟨r0, r1, r2, _⟩ := e2
            exact bodyPost_ret (v := .agg #[.slice sa l.length sc, .slice a1 9 p1, .slice a2 pa.length p2]) (by simp [results, Try.results13, go_sem, r0, r1, r2]) rfl ⟨_, l, _, _, rfl, by omega, by omega, e1, HSZ.out, hol, e3⟩
        · have h1i : ¬ (9 : Int) < (ow.length : Int) := by omega
          by_cases h2 : 9 < pa.length
          · have h2i : (9 : Int) < (pa.length : Int) := by omega
            go_wp2
            obtain ⟨e1, e2, e3⟩ := ((HF.out.put 0 (.slice sa l.length sc)).put 2 (.slice a2 9 p2)).fin (.slice a1 ow.length p1) (.slice a2 9 p2)
            obtain ⟨r0, r1, r2, _⟩ := e2
            exact bodyPost_ret (v := .agg #[.slice sa l.length sc, .slice a1 ow.length p1, .slice a2 9 p2]) (by simp [results, Try.results13, go_sem, r0, r1, r2]) rfl ⟨_, l, _, _, rfl, by omega, by omega, e1, HSZ.out, hol, e3⟩
          · have h2i : ¬ (9 : Int) < (pa.length : Int) := by omega
            go_wp2
            obtain ⟨e1, e2, e3⟩ := (HF.out.put 0 (.slice sa l.length sc)).fin (.slice a1 ow.length p1) (.slice a2 pa.length p2)
            obtain ⟨r0, r1, r2, _⟩ := e2
            exact bodyPost_ret (v := .agg #[.slice sa l.length sc, .slice a1 ow.length p1, .slice a2 pa.length p2]) (by simp [results, Try.results13, go_sem, r0, r1, r2]) rfl ⟨_, l, _, _, rfl, by omega, by omega, e1, HSZ.out, hol, e3⟩
end Go.Proofs.Ytllagelopdedfaa
