/- What queue.Drop and the document's Drop answer. -/
import Derived.Test.YtfmedinhlmiaeaaGQ27
import Derived.Test.YtfmedinhlmiaeaaChDel
namespace Go.Proofs.Ytfmedinhlmiaeaa
open Go.RowKit
set_option linter.unusedVariables false
set_option linter.unusedSimpArgs false

/-- Outside all ranges, by the key. -/
def outK (rs : List (ByteArray × ByteArray)) (k : ByteArray) : Bool := decide (Km.fidx (tls rs) k.data.toList < 0)
theorem outD_K (rs : List (ByteArray × ByteArray)) (d : De) : outD rs d = outK rs d.1 := rfl
/-- What is not dropped. -/
def dropL (rs : List (ByteArray × ByteArray)) (l : List Vw) : List Vw := keptW (fun x => outK rs x.1.key) l
theorem onlyD_one (rs : List (ByteArray × ByteArray)) (d : De) : onlyD rs [d] = if outK rs d.1 then [] else [d] := by
  unfold onlyD kept
  rw [List.filter_cons, outD_K]
  cases outK rs d.1 <;> rfl

set_option maxRecDepth 100000 in
set_option maxHeartbeats 1600000 in
theorem dropC_any (a : Option Addr) (cap : Nat) (rs : List (ByteArray × ByteArray)) (B : Nat) (x : Vw) (w : World) (hl : rs.length ≤ 100) (hr : RngIn w a rs) (hc : w.cell? ⟨B, 0, none⟩ = some (.slice a rs.length cap)) :
    Calls Try.prog 42 #[wV x, .pointer (some ⟨B, 0, none⟩)] w fun e w' => e = .returned (.bool (outK rs x.1.key)) ∧ Below w.heap.size w w' := by
  have hb1 : Below w.heap.size w (w.alloc (.cells (wcs x) 27)) := balloc (Below.refl _ w) _
  have hV := VwP.new w x.1 (pw x) 27
  have hone := onlyD_one rs (x.1.key, x.1.st)
  obtain ⟨⟨key, val, gone, ⟨m, t⟩, past⟩, pa, pc⟩ := x
  dsimp only [wV, wcs, wvs, pw] at *
  have hB : B < w.heap.size := lt_of_cellN hc
  have hne : B ≠ w.heap.size := by omega
  have hc1 := kc hb1 hc
  have HB1 := Lib.hid hb1
  have HR1 := Lib.hid (hr.below hb1)
  clear hb1 hr hc
  generalize outK rs key = c at hone ⊢
  go_enter Try.func42, Try.ntmps42
  go_upto_region 1 with fail
  obtain ⟨c0, _, _, c3, c4, _, _⟩ := hV
  dsimp only at c0 c3 c4
  generalize w.alloc (.cells #[.string key, .string val, .bool gone, .int .i64 m, .int .i64 t, .slice pa past.length pc] 27) = w1 at *
  have hb2 : Below w1.heap.size w1 (w1.alloc (.cells #[.string key, .int .i64 m, .int .i64 t] 34)) := balloc (Below.refl _ w1) _
  have hB1 : B < w1.heap.size := lt_of_cellN hc1
  have hc2 := kc hb2 hc1
  have hon := only_any (.slice (some ⟨w1.heap.size, 0, none⟩) 1 1) [(key, m, t)] a cap rs (w1.alloc (.cells #[.string key, .int .i64 m, .int .i64 t] 34)) (by simp) hl (HR1.out.below hb2) (DepAt.new w1 [(key, m, t)] 34 (by simp))
  rw [hone] at hon
  have HB2 := Lib.hid (bstep HB1.out hb2)
  clear hone hb2
  go_wp2_with fail
  refine hon.mono ?_
  rintro e w3 ⟨v3, rfl, ho3, hb3⟩
  obtain ⟨sa, sc, rfl⟩ := ho3.shape
  have HB3 := Lib.hid (bstep HB2.out hb3)
  clear ho3 hb3 hon
  cases c with
  | false =>
    go_wp2
    go_ret
    exact ⟨rfl, HB3.out⟩
  | true =>
    go_wp2
    go_ret
    exact ⟨rfl, HB3.out⟩

set_option maxRecDepth 100000 in
set_option maxHeartbeats 1600000 in
theorem qdrop_any (v : Value) (l : List Vw) (a : Option Addr) (cap : Nat) (rs : List (ByteArray × ByteArray)) (w : World) (hl : l.length ≤ 100000) (hv : RowAt KW w v l) (hrs : rs.length ≤ 100) (hr : RngIn w a rs) :
    Calls Try.prog 24 #[v, .slice a rs.length cap] w fun e w' => ∃ v', e = .returned v' ∧ OwnR KW w' w.heap.size v' (dropL rs l) ∧ Below w.heap.size w w' := by
  have hmf : ∀ (fn : Fn) (first cap : Array Value) (w : World), (Instr.makeFunc fn first cap).run Try.prog w = .ok (.func fn first cap) w := fun _ _ _ _ => rfl
  have hb0 : Below w.heap.size w (w.alloc (.cells #[.slice a rs.length cap] 36)) := balloc (Below.refl _ _) _
  have hcl := cloneW_any v l (w.alloc (.cells #[.slice a rs.length cap] 36)) hl (hv.below hb0)
  have hsz : (w.alloc (.cells #[.slice a rs.length cap] 36)).heap.size = w.heap.size + 1 := by simp
  rw [hsz] at hcl
  obtain ⟨dl, hdl⟩ : ∃ dl, dl = dropL rs l := ⟨_, rfl⟩
  have HDL : Hid (dl = keptW (fun x => outK rs x.1.key) l) := Lib.hid hdl
  rw [← hdl]
  have HB0 := Lib.hid hb0
  have HR := Lib.hid hr
  obtain ⟨va, vc, rfl, _, _, _, _⟩ := hv
  clear hdl hb0 hr hsz
  go_enter Try.func24, Try.ntmps24
  go_wp2_with fail
  refine hcl.mono ?_
  rintro e w1 ⟨v1, rfl, ho1, hb1⟩
  have hc1 : w1.cell? ⟨w.heap.size, 0, none⟩ = some (.slice a rs.length cap) := by
    rw [hb1.cell (p := ⟨w.heap.size, 0, none⟩) (by simp)]
    simp
  have hB1 : Below w.heap.size w w1 := HB0.out.trans (hb1.mono (by omega))
  have hdel := delFuncW_any 42 #[.pointer (some ⟨w.heap.size, 0, none⟩)] (enters_of Try.func42 (by kernel_rfl) rfl) (fun x => outK rs x.1.key) v1 (w.heap.size + 1) l w1 (by omega) ho1 (by have := hb1.size; simp at this; omega) (fun W x _ hb =>
    dropC_any a cap rs w.heap.size x W hrs (HR.out.below (hB1.trans (hb.mono (by omega)))) (by
      rw [hb.cell (p := ⟨w.heap.size, 0, none⟩) (by simp)]
      exact hc1))
  rw [← HDL.out] at hdel
  obtain ⟨sa, sc, rfl⟩ := ho1.shape
  have HB1 := Lib.hid hB1
  clear ho1 hcl hb1 hB1 hc1
  go_wp2_with fail
  refine hdel.mono ?_
  rintro e w2 ⟨v2, rfl, ho2, hb2⟩
  have HO2 := Lib.hid ho2
  obtain ⟨sa2, sc2, rfl⟩ := ho2.shape
  clear ho2
  go_wp2
  go_ret
  have ho3 := HO2.out.mono (show w.heap.size ≤ w.heap.size + 1 by omega)
  exact ⟨_, rfl, ho3, HB1.out.trans (hb2.mono (by omega))⟩

set_option maxRecDepth 100000 in
set_option maxHeartbeats 1600000 in
theorem rdrop_any (v : Value) (l : List Vw) (a : Option Addr) (cap : Nat) (rs : List (ByteArray × ByteArray)) (w : World) (hl : l.length ≤ 100000) (hv : RowAt KW w v l) (hrs : rs.length ≤ 100) (hr : RngIn w a rs) :
    Calls Try.prog 25 #[v, .slice a rs.length cap] w fun e w' => ∃ v', e = .returned v' ∧ OwnR KW w' w.heap.size v' (dropL rs l) ∧ Below w.heap.size w w' := by
  obtain ⟨va, vc, rfl, _, _, _, hv⟩ := hv
  have HR := Lib.hid hr
  have HV := Lib.hid hv
  obtain ⟨dl, hdl⟩ : ∃ dl, dl = dropL rs l := ⟨_, rfl⟩
  have HDL : Hid (dl = keptW (fun x => outK rs x.1.key) l) := Lib.hid hdl
  rw [← hdl]
  clear hr hv hdl
  go_enter Try.func25, Try.ntmps25
  go_wp2
  go_loopw [5, 6] (fun o i wr => ∃ k : Nat, k ≤ l.length ∧ i = .int .i64 k ∧ OwnR KW wr w.heap.size o (keptW (fun x => outK rs x.1.key) (l.take k)) ∧ Below w.heap.size w wr) (fun _ i _ => l.length - (intOf i).toNat)
  case atStart => exact ⟨0, by omega, rfl, OwnR.nil _ _ _, Below.refl _ _⟩
  case round =>
    obtain ⟨k, hk, rfl, ho, hbel⟩ := hrel
    obtain ⟨sa, sc, rfl⟩ := ho.shape
    have HO := Lib.hid ho
    clear ho
    by_cases hlt : k < l.length
    · obtain ⟨b, off, rfl, hbl, hq⟩ := HV.out.below hbel k hlt
      have HQ : Hid (VwQ wr b (off + k * 6) l[k]) := Lib.hid (VwQ.of_row hq)
      have HS := Lib.hid (keptW_step (fun x => outK rs x.1.key) l k hlt)
      have hln : (keptW (fun x => outK rs x.1.key) (l.take k)).length ≤ 100000 := by
        have h1 : (keptW (fun x => outK rs x.1.key) (l.take k)).length ≤ (l.take k).length := List.length_filter_le _ _
        have h2 : (l.take k).length ≤ l.length := by simp; omega
        omega
      have HENC : Hid ((wcs l[k]).toList = KW.enc l[k]) := Lib.hid rfl
      clear hq
      generalize l[k] = x at HQ HS HENC
      obtain ⟨⟨key, val, gone, ⟨m, t⟩, past⟩, pa, pc⟩ := x
      dsimp only at HS
      dsimp only [wcs, wvs, pw] at HENC
      generalize keptW (fun x => outK rs x.1.key) (l.take k) = q at HO HS hln
      have hfnd := refFind_any a cap rs key wr hrs (HR.out.below hbel)
      have hbs : w.heap.size ≤ wr.heap.size := hbel.size
      have HK0 : Hid (outK rs key = decide (Km.fidx (tls rs) key.data.toList < 0)) := Lib.hid rfl
      generalize hf : Km.fidx (tls rs) key.data.toList = f at hfnd HK0
      clear hf
      obtain ⟨c0, c1, c2, c3, c4, c5⟩ := HQ.out
      dsimp only [pw] at c0 c1 c2 c3 c4 c5
      by_cases hneg : f < 0
      · have hd1 : decide (0 ≤ f) = false := by simp; omega
        have hd2 : ¬ (0 ≤ f) := by omega
        go_wp2_with fail
        refine hfnd.mono ?_
        rintro e w2 ⟨rfl, hb2⟩
        go_wp2
        go_roundw
        case rel => exact ⟨k + 1, by omega, by go_num, by rw [HS.out, HK0.out, decide_eq_true hneg, if_pos rfl, List.append_nil]; exact OwnR.below HO.out hb2, bstep hbel hb2⟩
        case measure => simp [intOf]; omega
      · have hd1 : decide (0 ≤ f) = true := by simp; omega
        have hd2 : (0 ≤ f) := by omega
        go_wp2_with fail
        refine hfnd.mono ?_
        rintro e w2 ⟨rfl, hb2⟩
        have e0 := kc hb2 c0
        have e1 := kc hb2 c1
        have e2 := kc hb2 c2
        have e3 := kc hb2 c3
        have e4 := kc hb2 c4
        have e5 := kc hb2 c5
        have HO2 := Lib.hid (OwnR.below HO.out hb2)
        have hbs2 : w.heap.size ≤ w2.heap.size := by have := hb2.size; omega
        have HB2 := Lib.hid hb2
        clear c0 c1 c2 c3 c4 c5 hb2 hfnd
        go_wp2_with (at_builtin; refine wp_pushR kw_ok (wr := w2) rfl _ _ rfl w.heap.size (.slice sa q.length sc) q (⟨key, val, gone, (m, t), past⟩, pa, pc) #[.string key, .string val, .bool gone, .int .i64 m, .int .i64 t, .slice pa past.length pc] HENC.out rfl HO2.out rfl (by omega) hbs2 ?_; intro g gcap w4 ho4 hb4 hk4 hat4 hg4)
        go_wp2
        go_roundw
        case rel => exact ⟨k + 1, by omega, by go_num, by rw [HS.out, HK0.out, decide_eq_false (show ¬ f < 0 by omega), if_neg (by simp)]; exact ho4, (bstep hbel HB2.out).trans hb4⟩
        case measure => simp [intOf]; omega
    · obtain rfl : k = l.length := by omega
      go_wp2
      go_ret
      refine ⟨_, rfl, ?_, hbel⟩
      have h := HO.out
      rw [List.take_length] at h ⊢
      rw [HDL.out]
      exact h
end Go.Proofs.Ytfmedinhlmiaeaa
