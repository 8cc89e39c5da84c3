/- The walk of the law StampTells. -/
import Derived.Test.YtmfjoiajghmeoaaStampRows
import Derived.Test.YtmfjoiajghmeoaaStampOrderBase
import Derived.Test.YtmfjoiajghmeoaaOpen3
import Derived.Test.YtmfjoiajghmeoaaStampRefMax
import Derived.Test.YtmfjoiajghmeoaaStampRefBytes
import Derived.Test.YtmfjoiajghmeoaaStampRefRead
import Derived.Deep.RegionHeld3
import Derived.Deep.DeepCutAuto
namespace Go.Proofs.Ytmfjoiajghmeoaa
open Go.RowKit
set_option linter.unusedVariables false
set_option linter.unusedSimpArgs false

theorem cut_small (s : ByteArray) (h : s.size ≤ 20) : s.extract 0 20 = s := by
  apply ByteArray.ext
  apply Array.ext'
  rw [Lib.extract_data]
  rw [List.take_of_length_le (by simpa using h)]
  rfl
theorem next_t (n s k : Int) (r0 r1 r2 : Int) (w : World) (hn : -9223372036854775808 ≤ n) (h : Sm.nxt n k = ((r0, r1), r2)) :
    Calls Try.prog 11 #[.agg #[.int .i64 n, .int .i64 s], .int .i64 k] w fun e w' => e = .returned (.tuple #[.agg #[.int .i64 r0, .int .i64 r1], .int .i64 r2]) ∧ Below w.heap.size w w' := by
  have := next_any n s k w hn
  rw [h] at this
  exact this
theorem refNext_t (n s k : Int) (r0 r1 r2 : Int) (w : World) (hn : -9223372036854775808 ≤ n) (h : Sm.nxt n k = ((r0, r1), r2)) :
    Calls Try.prog 12 #[.agg #[.int .i64 n, .int .i64 s], .int .i64 k] w fun e w' => e = .returned (.tuple #[.agg #[.int .i64 r0, .int .i64 r1], .int .i64 r2]) ∧ Below w.heap.size w w' := by
  have := refNext_any n s k w hn
  rw [h] at this
  exact this
theorem refLess_b (n s m t : Int) (b : Bool) (w : World) (hb : Sm.less (n, s) (m, t) = b) :
    Calls Try.prog 16 #[.agg #[.int .i64 n, .int .i64 s], .agg #[.int .i64 m, .int .i64 t]] w fun e w' => e = .returned (.bool b) ∧ Below w.heap.size w w' := by
  rw [← hb]
  exact refLess_any n s m t w
theorem refCheck_b (n s : Int) (b : Bool) (w : World) (hb : Sm.ok n s = b) :
    Calls Try.prog 14 #[.agg #[.int .i64 n, .int .i64 s]] w fun e w' => e = .returned (.bool b) ∧ Below w.heap.size w w' := by
  rw [← hb]
  exact refCheck_any n s w
theorem bytes_t (n s : Int) (l : List UInt8) (w : World) (h : sbytes n s = l) :
    Calls Try.prog 17 #[.agg #[.int .i64 n, .int .i64 s]] w fun e w' => e = .returned (.string ⟨l.toArray⟩) ∧ Below w.heap.size w w' := by
  rw [← h]
  exact bytes_any n s w
theorem refBytes_t (n s : Int) (l : List UInt8) (w : World) (h : sbytes n s = l) :
    Calls Try.prog 18 #[.agg #[.int .i64 n, .int .i64 s]] w fun e w' => e = .returned (.string ⟨l.toArray⟩) ∧ Below w.heap.size w w' := by
  rw [← h]
  exact refBytes_any n s w
theorem sread_t (s : ByteArray) (at_ : Int) (r : Option ((Int × Int) × Nat)) (w : World) (hs : s.size ≤ 9223372036854775807) (h : Sm.rdS (rd s.data.toList) at_ = r) :
    Calls Try.prog 19 #[.string s, .int .i64 at_] w fun e w' => e = .returned (srV r) ∧ Below w.heap.size w w' := by
  rw [← h]
  exact sread_any s at_ w hs
theorem refSRead_t (s : ByteArray) (at_ : Int) (r : Option ((Int × Int) × Nat)) (w : World) (hs : s.size ≤ 1000000) (h : Sm.rdS (rd s.data.toList) at_ = r) :
    Calls Try.prog 20 #[.string s, .int .i64 at_] w fun e w' => e = .returned (sgV r) ∧ Below w.heap.size w w' := by
  rw [← h]
  exact refSRead_any s at_ w hs
theorem srd_pos {l : List UInt8} {a : Int} {p : Int × Int} {e : Nat} (h : Sm.rdS (rd l) a = some (p, e)) : 0 < e ∧ e ≤ l.length := by
  unfold Sm.rdS at h
  split at h
  · cases h
  · split at h
    · cases h
    · rename_i hb
      split at h
      · simp at h
        obtain ⟨_, rfl⟩ := h
        have := rd_bounds hb
        omega
      · cases h
theorem refMax_at (a : Option Addr) (len cap : Nat) (l : List (Int × Int)) (m0 m1 : Int) (w : World) (hlen : l.length = len) (hl : l.length ≤ 100) (hr : StIn w a l) (hm : Sm.mx (0, 0) l = (m0, m1)) :
    Calls Try.prog 22 #[.slice a len cap] w fun e w' => e = .returned (.agg #[.int .i64 m0, .int .i64 m1]) ∧ Below w.heap.size w w' := by
  subst hlen
  have := refMax_any a cap l w hl hr
  rw [hm] at this
  exact this

set_option maxRecDepth 100000 in
set_option maxHeartbeats 8000000 in
theorem walkStampTells (w : World) (a : Option Addr) (l : List (Int × Int)) (cap : Nat) (hcap : l.length ≤ cap) (hmax : cap ≤ maxLen) (hnil : a = none → cap = 0) (h64 : ∀ r ∈ l, In64 r) (hr : StIn w a l) (site : Int) (hsite : (Lit.int .i64 site).wf = true) (s : ByteArray) (hs : s.size ≤ maxLen) :
    Calls Try.prog 3 #[.slice a l.length cap, .int .i64 site, .string s] w fun e w' => e = .returned (.bool true) ∧ Below w.heap.size w w' := by
  unfold maxLen at hmax hs
  obtain ⟨ms, hms⟩ : ∃ ms, ms = l.take 6 := ⟨_, rfl⟩
  obtain ⟨x, hx⟩ : ∃ x, x = s.extract 0 20 := ⟨_, rfl⟩
  have hxs : x.size ≤ 20 := by rw [hx]; simp; omega
  have hml : ms.length ≤ 6 := by rw [hms]; simp; omega
  have h64m : ∀ r ∈ ms, In64 r := fun r h => h64 r (by rw [hms] at h; exact List.mem_of_mem_take h)
  have hrm : StIn w a ms := by rw [hms]; exact hr.take 6
  have hsp : 6 < l.length → ∃ b off, a = some ⟨b, off, none⟩ := fun h => by
    obtain ⟨b, off, e, _⟩ := hr 0 (by omega)
    exact ⟨b, off, e⟩
  have HMS := Lib.hid hms
  have HX := Lib.hid hx
  have H64 := Lib.hid h64m
  have HR := Lib.hid hrm
  have HSP := Lib.hid hsp
  clear hms hx h64m hrm hsp hr h64 hsite hnil
  go_enter Try.func3, Try.ntmps3
  go_wp2_with fail
  refine (sawake_any _).mono ?_
  rintro e w1 ⟨rfl, hb1⟩
  have HR1 := Lib.hid (HR.out.below hb1)
  clear HR
  go_upto_if 20 with (fail)
  go_cut [0] (fun s0 wx => s0 = .slice a ms.length cap ∧ wx = w1)
  case first =>
    by_cases h6 : 6 < l.length
    · obtain ⟨b, off, rfl⟩ := HSP.out h6
      have e6 : ms.length = 6 := by rw [HMS.out]; simp; omega
      have q2 : (6 : Int) ≤ (cap : Int) := by omega
      have q3 : 6 ≤ cap := by omega
      go_wp2
      go_meet
      exact ⟨by rw [e6], rfl⟩
    · have e6 : ms.length = l.length := by rw [HMS.out]; simp; omega
      go_wp2
      go_meet
      exact ⟨by rw [e6], rfl⟩
  case rest =>
    obtain ⟨rfl, rfl⟩ := hcut
    clear HSP HMS
    go_upto_if 25 with (fail)
    go_cut [2] (fun s2 wx => s2 = .string x ∧ wx = wc)
    case first =>
      by_cases h20 : s.size ≤ 20
      · have ex : x = s := by rw [HX.out]; exact cut_small s h20
        go_wp2
        go_meet
        exact ⟨by rw [ex], rfl⟩
      · have hx := HX.out
        clear hxs
        subst hx
        go_wp2
        go_meet
        exact ⟨rfl, rfl⟩
    case rest =>
      obtain ⟨rfl, rfl⟩ := hcut
      clear HX
      go_wp2_with fail
      go_loopw [8] (fun i wr => ∃ k : Nat, k ≤ ms.length ∧ i = .int .i64 k ∧ Below wc.heap.size wc wr) (fun i _ => ms.length - (intOf i).toNat)
      case atStart => exact ⟨0, by omega, rfl, Below.refl _ _⟩
      case round =>
        obtain ⟨k, hk, rfl, hbel⟩ := hrel
        by_cases hlt : k < ms.length
        · obtain ⟨b, off, rfl, hc0, hc1⟩ := HR1.out.below hbel k hlt
          obtain ⟨b', off', e', hc2, hc3⟩ := HR1.out.below hbel 0 (by omega)
          cases e'
          rw [Nat.zero_mul, Nat.add_zero] at hc2 hc3
          have hlo := (H64.out ms[k] (List.getElem_mem hlt)).1.1
          generalize ms[k] = p at hc0 hc1 hlo
          generalize ms[0] = q at hc2 hc3
          obtain ⟨x0, x1⟩ := p
          obtain ⟨y0, y1⟩ := q
          simp only at hc0 hc1 hc2 hc3 hlo
          obtain ⟨r0, r1, r2, hnx⟩ : ∃ r0 r1 r2, Sm.nxt x0 site = ((r0, r1), r2) := ⟨_, _, _, rfl⟩
          obtain ⟨c, hc⟩ : ∃ c, Sm.ok x0 x1 = c := ⟨_, rfl⟩
          obtain ⟨f, hf⟩ : ∃ f, Sm.less (x0, x1) (y0, y1) = f := ⟨_, rfl⟩
          obtain ⟨g, hg⟩ : ∃ g, Sm.less (y0, y1) (x0, x1) = g := ⟨_, rfl⟩
          obtain ⟨u, hu⟩ : ∃ u, sbytes x0 x1 = u := ⟨_, rfl⟩
          have HNX := Lib.hid hnx
          have HC := Lib.hid hc
          have HF := Lib.hid hf
          have HG := Lib.hid hg
          have HU := Lib.hid hu
          have HLO := Lib.hid hlo
          clear hnx hc hf hg hu hlo
          have i1 : (0 : Int) ≤ (k : Int) := by omega
          have i2 : (k : Int) < (ms.length : Int) := by omega
          have i3 : (0 : Int) < (ms.length : Int) := by omega
          have i4 : 0 < ms.length := by omega
          have n1 : (c != c) = false := by simp
          have n2 : (f != f) = false := by simp
          have n3 : (g != g) = false := by simp
          have n4 : (r2 != r2) = false := by simp
          have n5 : ((⟨u.toArray⟩ : ByteArray).toList != (⟨u.toArray⟩ : ByteArray).toList) = false := by simp
          have hne : ∀ w', (binOp .neq 25 (.agg #[.int .i64 r0, .int .i64 r1]) (.agg #[.int .i64 r0, .int .i64 r1])).run Try.prog w' = .ok (.bool false) w' := fun w' => by rw [ne_stamp]; simp
          have z0 := lt_of_cellN hc0
          go_wp2_with fail
          refine (next_t x0 x1 site r0 r1 r2 _ HLO.out HNX.out).mono ?_
          rintro e w2 ⟨rfl, hb⟩
          have ha := bstep hb (balloc (Below.refl _ w2) (.cells #[.int .i64 r0, .int .i64 r1] 25))
          replace hc0 := kc hb hc0
          replace hc1 := kc hb hc1
          replace hc2 := kc hb hc2
          replace hc3 := kc hb hc3
          replace hbel := bstep hbel hb
          have z2 := lt_of_cellN hc0
          clear hb ha z0
          go_wp2_with fail
          refine (refNext_t x0 x1 site r0 r1 r2 _ HLO.out HNX.out).mono ?_
          rintro e w3 ⟨rfl, hb⟩
          have hb2 := bstep (balloc (Below.refl _ w2) (.cells #[.int .i64 r0, .int .i64 r1] 25)) hb
          have hb3 := bstep hb2 (balloc (Below.refl _ w3) (.cells #[.int .i64 r0, .int .i64 r1] 25))
          have ha : (w3.alloc (.cells #[.int .i64 r0, .int .i64 r1] 25)).cell? ⟨w2.heap.size, 0, none⟩ = some (.int .i64 r0) ∧ (w3.alloc (.cells #[.int .i64 r0, .int .i64 r1] 25)).cell? ⟨w2.heap.size, 1, none⟩ = some (.int .i64 r1) ∧ (w3.alloc (.cells #[.int .i64 r0, .int .i64 r1] 25)).cell? ⟨w3.heap.size, 0, none⟩ = some (.int .i64 r0) ∧ (w3.alloc (.cells #[.int .i64 r0, .int .i64 r1] 25)).cell? ⟨w3.heap.size, 1, none⟩ = some (.int .i64 r1) ∧ (w3.alloc (.cells #[.int .i64 r0, .int .i64 r1] 25)).cell? ⟨b, off + k * 2, none⟩ = some (.int .i64 x0) ∧ (w3.alloc (.cells #[.int .i64 r0, .int .i64 r1] 25)).cell? ⟨b, off + k * 2 + 1, none⟩ = some (.int .i64 x1) ∧ (w3.alloc (.cells #[.int .i64 r0, .int .i64 r1] 25)).cell? ⟨b, off, none⟩ = some (.int .i64 y0) ∧ (w3.alloc (.cells #[.int .i64 r0, .int .i64 r1] 25)).cell? ⟨b, off + 1, none⟩ = some (.int .i64 y1) :=
            ⟨kc (balloc (Below.refl _ w3) _) (kc hb (by simp)), kc (balloc (Below.refl _ w3) _) (kc hb (by simp)), by simp, by simp, kc hb3 hc0, kc hb3 hc1, kc hb3 hc2, kc hb3 hc3⟩
          have hbel3 := bstep hbel hb3
          clear hb hb2 hb3 hc0 hc1 hc2 hc3 hbel z2
          go_wp2_with fail
          simp only [List.append_eq, List.cons_append, List.nil_append]
          refine wp_region_held_drew (S := fun w' => w'.cell? ⟨w2.heap.size, 0, none⟩ = some (.int .i64 r0) ∧ w'.cell? ⟨w2.heap.size, 1, none⟩ = some (.int .i64 r1) ∧ w'.cell? ⟨w3.heap.size, 0, none⟩ = some (.int .i64 r0) ∧ w'.cell? ⟨w3.heap.size, 1, none⟩ = some (.int .i64 r1) ∧ w'.cell? ⟨b, off + k * 2, none⟩ = some (.int .i64 x0) ∧ w'.cell? ⟨b, off + k * 2 + 1, none⟩ = some (.int .i64 x1) ∧ w'.cell? ⟨b, off, none⟩ = some (.int .i64 y0) ∧ w'.cell? ⟨b, off + 1, none⟩ = some (.int .i64 y1)) (by kernel_rfl) (ha) (fun hHeld => ?_)
          refine wpAnyH_take (i := 0) (v := ?v0) rfl (by kernel_rfl) (by kernel_rfl) (by kernel_rfl) (fun _ _ _ h => h) (Or.inl ⟨by rfl, ?y0⟩) (by assumption) ?r0
          case y0 => (intro w hSw; (try dsimp only at hSw); go_simp; try with_reducible rfl)
          try simp only [Act.put, List.setIfInBounds_toArray, List.set_cons_zero, List.set_cons_succ, List.getElem_toArray, List.getElem_cons_zero, List.getElem_cons_succ]
          refine wpAnyH_take (i := 1) (v := ?v1) rfl (by kernel_rfl) (by kernel_rfl) (by kernel_rfl) (fun _ _ _ h => h) (Or.inl ⟨by rfl, ?y1⟩) (by assumption) ?r1
          case y1 => (intro w hSw; (try dsimp only at hSw); go_simp; try with_reducible rfl)
          try simp only [Act.put, List.setIfInBounds_toArray, List.set_cons_zero, List.set_cons_succ, List.getElem_toArray, List.getElem_cons_zero, List.getElem_cons_succ]
          refine wpAnyH_take (i := 2) (v := ?v2) rfl (by kernel_rfl) (by kernel_rfl) (by kernel_rfl) (fun _ _ _ h => h) (Or.inl ⟨by rfl, ?y2⟩) (by assumption) ?r2
          case y2 => (intro w hSw; (try dsimp only at hSw); go_simp; try with_reducible rfl)
          try simp only [Act.put, List.setIfInBounds_toArray, List.set_cons_zero, List.set_cons_succ, List.getElem_toArray, List.getElem_cons_zero, List.getElem_cons_succ]
          refine wpAnyH_take (i := 3) (v := ?v3) rfl (by kernel_rfl) (by kernel_rfl) (by kernel_rfl) (fun _ _ _ h => h) (Or.inl ⟨by rfl, ?y3⟩) (by assumption) ?r3
          case y3 => (intro w hSw; (try dsimp only at hSw); go_simp; try with_reducible rfl)
          try simp only [Act.put, List.setIfInBounds_toArray, List.set_cons_zero, List.set_cons_succ, List.getElem_toArray, List.getElem_cons_zero, List.getElem_cons_succ]
          refine wpAnyH_take (i := 4) (v := ?v4) rfl (by kernel_rfl) (by kernel_rfl) (by kernel_rfl) (fun _ _ _ h => h) (Or.inl ⟨by rfl, ?y4⟩) (by assumption) ?r4
          case y4 => (intro w hSw; (try dsimp only at hSw); go_simp; try with_reducible rfl)
          try simp only [Act.put, List.setIfInBounds_toArray, List.set_cons_zero, List.set_cons_succ, List.getElem_toArray, List.getElem_cons_zero, List.getElem_cons_succ]
          refine wpAnyH_take (i := 5) (v := ?v5) rfl (by kernel_rfl) (by kernel_rfl) (by kernel_rfl) (fun _ _ _ h => h) (Or.inl ⟨by rfl, ?y5⟩) (by assumption) ?r5
          case y5 => (intro w hSw; (try dsimp only at hSw); go_simp; try with_reducible rfl)
          try simp only [Act.put, List.setIfInBounds_toArray, List.set_cons_zero, List.set_cons_succ, List.getElem_toArray, List.getElem_cons_zero, List.getElem_cons_succ]
          refine wpAnyH_take (i := 6) (v := ?v6) rfl (by kernel_rfl) (by kernel_rfl) (by kernel_rfl) (fun _ _ _ h => h) (Or.inl ⟨by rfl, ?y6⟩) (by assumption) ?r6
          case y6 => (intro w hSw; (try dsimp only at hSw); go_simp; try with_reducible rfl)
          try simp only [Act.put, List.setIfInBounds_toArray, List.set_cons_zero, List.set_cons_succ, List.getElem_toArray, List.getElem_cons_zero, List.getElem_cons_succ]
          refine wpAnyH_take (i := 7) (v := ?v7) rfl (by kernel_rfl) (by kernel_rfl) (by kernel_rfl) (fun _ _ _ h => h) (Or.inl ⟨by rfl, ?y7⟩) (by assumption) ?r7
          case y7 => (intro w hSw; (try dsimp only at hSw); go_simp; try with_reducible rfl)
          try simp only [Act.put, List.setIfInBounds_toArray, List.set_cons_zero, List.set_cons_succ, List.getElem_toArray, List.getElem_cons_zero, List.getElem_cons_succ]
          refine wpAnyH_take (i := 8) (v := ?v8) rfl (by kernel_rfl) (by kernel_rfl) (by kernel_rfl) (fun _ _ _ h => h) (Or.inl ⟨by rfl, ?y8⟩) (by assumption) ?r8
          case y8 => (intro w hSw; (try dsimp only at hSw); go_simp; try with_reducible rfl)
          try simp only [Act.put, List.setIfInBounds_toArray, List.set_cons_zero, List.set_cons_succ, List.getElem_toArray, List.getElem_cons_zero, List.getElem_cons_succ]
          refine wpAnyH_take (i := 9) (v := ?v9) rfl (by kernel_rfl) (by kernel_rfl) (by kernel_rfl) (fun _ _ _ h => h) (Or.inl ⟨by rfl, ?y9⟩) (by assumption) ?r9
          case y9 => (intro w hSw; (try dsimp only at hSw); go_simp; try with_reducible rfl)
          try simp only [Act.put, List.setIfInBounds_toArray, List.set_cons_zero, List.set_cons_succ, List.getElem_toArray, List.getElem_cons_zero, List.getElem_cons_succ]
          refine wpAnyH_take (i := 10) (v := ?v10) rfl (by kernel_rfl) (by kernel_rfl) (by kernel_rfl) (fun _ _ _ h => h) (Or.inl ⟨by rfl, ?y10⟩) (by assumption) ?r10
          case y10 => (intro w hSw; (try dsimp only at hSw); go_simp; try with_reducible rfl)
          try simp only [Act.put, List.setIfInBounds_toArray, List.set_cons_zero, List.set_cons_succ, List.getElem_toArray, List.getElem_cons_zero, List.getElem_cons_succ]
          refine wpAnyH_take (i := 11) (v := ?v11) rfl (by kernel_rfl) (by kernel_rfl) (by kernel_rfl) (fun _ _ _ h => h) (Or.inl ⟨by rfl, ?y11⟩) (by assumption) ?r11
          case y11 => (intro w hSw; (try dsimp only at hSw); go_simp; try with_reducible rfl)
          try simp only [Act.put, List.setIfInBounds_toArray, List.set_cons_zero, List.set_cons_succ, List.getElem_toArray, List.getElem_cons_zero, List.getElem_cons_succ]
          refine wpAnyH_take (i := 12) (v := ?v12) rfl (by kernel_rfl) (by kernel_rfl) (by kernel_rfl) (fun _ _ _ h => h) (Or.inl ⟨by rfl, ?y12⟩) (by assumption) ?r12
          case y12 => (intro w hSw; (try dsimp only at hSw); go_simp; try with_reducible rfl)
          try simp only [Act.put, List.setIfInBounds_toArray, List.set_cons_zero, List.set_cons_succ, List.getElem_toArray, List.getElem_cons_zero, List.getElem_cons_succ]
          refine wpAnyH_take (i := 14) (v := ?v14) rfl (by kernel_rfl) (by kernel_rfl) (by kernel_rfl) (fun _ _ _ h => h) (Or.inl ⟨by rfl, ?y14⟩) (by assumption) ?r14
          case y14 => (intro w hSw; (try dsimp only at hSw); go_simp; try with_reducible rfl)
          try simp only [Act.put, List.setIfInBounds_toArray, List.set_cons_zero, List.set_cons_succ, List.getElem_toArray, List.getElem_cons_zero, List.getElem_cons_succ]
          refine wpAnyH_take (i := 15) (v := ?v15) rfl (by kernel_rfl) (by kernel_rfl) (by kernel_rfl) (fun _ _ _ h => h) (Or.inl ⟨by rfl, ?y15⟩) (by assumption) ?r15
          case y15 => (intro w hSw; (try dsimp only at hSw); go_simp; try with_reducible rfl)
          try simp only [Act.put, List.setIfInBounds_toArray, List.set_cons_zero, List.set_cons_succ, List.getElem_toArray, List.getElem_cons_zero, List.getElem_cons_succ]
          refine wpAnyH_take (i := 16) (v := ?v16) rfl (by kernel_rfl) (by kernel_rfl) (by kernel_rfl) (fun _ _ _ h => h) (Or.inl ⟨by rfl, ?y16⟩) (by assumption) ?r16
          case y16 => (intro w hSw; (try dsimp only at hSw); go_simp; try with_reducible rfl)
          try simp only [Act.put, List.setIfInBounds_toArray, List.set_cons_zero, List.set_cons_succ, List.getElem_toArray, List.getElem_cons_zero, List.getElem_cons_succ]
          refine wpAnyH_take (i := 17) (v := ?v17) rfl (by kernel_rfl) (by kernel_rfl) (by kernel_rfl) (fun _ _ _ h => h) (Or.inl ⟨by rfl, ?y17⟩) (by assumption) ?r17
          case y17 => (intro w hSw; (try dsimp only at hSw); go_simp; try with_reducible rfl)
          try simp only [Act.put, List.setIfInBounds_toArray, List.set_cons_zero, List.set_cons_succ, List.getElem_toArray, List.getElem_cons_zero, List.getElem_cons_succ]
          refine wpAnyH_ready (rs := [13]) (by kernel_rfl) (by simp) ?_
          refine AllReadyH.cons rfl (fun K hK => ?_) AllReadyH.nil
          go_simp
          go_at_call 13
          refine (check_b x0 x1 c _ HC.out).mono ?_
          rintro e v1 ⟨rfl, q1⟩
          have g1 := keep8 q1 ha
          go_wp2_with fail
          refine hK.out _ _ (g1) (fun hHeld => ?_)
          clear hK K
          try simp only [Act.put, List.setIfInBounds_toArray, List.set_cons_zero, List.set_cons_succ, List.getElem_toArray, List.getElem_cons_zero, List.getElem_cons_succ]
          refine wpAnyH_ready (rs := [18]) (by kernel_rfl) (by simp) ?_
          refine AllReadyH.cons rfl (fun K hK => ?_) AllReadyH.nil
          go_simp
          go_at_call 14
          refine (refCheck_b x0 x1 c _ HC.out).mono ?_
          rintro e v2 ⟨rfl, q2⟩
          have g2 := keep8 q2 g1
          go_wp2_with fail
          refine hK.out _ _ (g2) (fun hHeld => ?_)
          clear hK K
          try simp only [Act.put, List.setIfInBounds_toArray, List.set_cons_zero, List.set_cons_succ, List.getElem_toArray, List.getElem_cons_zero, List.getElem_cons_succ]
          refine wpAnyH_take (i := 19) (v := ?v19) rfl (by kernel_rfl) (by kernel_rfl) (by kernel_rfl) (fun _ _ _ h => h) (Or.inl ⟨by rfl, ?y19⟩) (by assumption) ?r19
          case y19 => (intro w hSw; (try dsimp only at hSw); go_simp; try with_reducible rfl)
          try simp only [Act.put, List.setIfInBounds_toArray, List.set_cons_zero, List.set_cons_succ, List.getElem_toArray, List.getElem_cons_zero, List.getElem_cons_succ]
          refine wpAnyH_take (i := 20) (v := ?v20) rfl (by kernel_rfl) (by kernel_rfl) (by kernel_rfl) (fun _ _ _ h => h) (Or.inl ⟨by rfl, ?y20⟩) (by assumption) ?r20
          case y20 => (intro w hSw; (try dsimp only at hSw); go_simp; try with_reducible rfl)
          try simp only [Act.put, List.setIfInBounds_toArray, List.set_cons_zero, List.set_cons_succ, List.getElem_toArray, List.getElem_cons_zero, List.getElem_cons_succ]
          refine wpAnyH_take (i := 21) (v := ?v21) rfl (by kernel_rfl) (by kernel_rfl) (by kernel_rfl) (fun _ _ _ h => h) (Or.inl ⟨by rfl, ?y21⟩) (by assumption) ?r21
          case y21 => (intro w hSw; (try dsimp only at hSw); go_simp; try with_reducible rfl)
          try simp only [Act.put, List.setIfInBounds_toArray, List.set_cons_zero, List.set_cons_succ, List.getElem_toArray, List.getElem_cons_zero, List.getElem_cons_succ]
          refine wpAnyH_take (i := 22) (v := ?v22) rfl (by kernel_rfl) (by kernel_rfl) (by kernel_rfl) (fun _ _ _ h => h) (Or.inl ⟨by rfl, ?y22⟩) (by assumption) ?r22
          case y22 => (intro w hSw; (try dsimp only at hSw); go_simp; try with_reducible rfl)
          try simp only [Act.put, List.setIfInBounds_toArray, List.set_cons_zero, List.set_cons_succ, List.getElem_toArray, List.getElem_cons_zero, List.getElem_cons_succ]
          refine wpAnyH_take (i := 23) (v := ?v23) rfl (by kernel_rfl) (by kernel_rfl) (by kernel_rfl) (fun _ _ _ h => h) (Or.inl ⟨by rfl, ?y23⟩) (by assumption) ?r23
          case y23 => (intro w hSw; (try dsimp only at hSw); go_simp; try with_reducible rfl)
          try simp only [Act.put, List.setIfInBounds_toArray, List.set_cons_zero, List.set_cons_succ, List.getElem_toArray, List.getElem_cons_zero, List.getElem_cons_succ]
          refine wpAnyH_take (i := 24) (v := ?v24) rfl (by kernel_rfl) (by kernel_rfl) (by kernel_rfl) (fun _ _ _ h => h) (Or.inl ⟨by rfl, ?y24⟩) (by assumption) ?r24
          case y24 => (intro w hSw; (try dsimp only at hSw); go_simp; try with_reducible rfl)
          try simp only [Act.put, List.setIfInBounds_toArray, List.set_cons_zero, List.set_cons_succ, List.getElem_toArray, List.getElem_cons_zero, List.getElem_cons_succ]
          refine wpAnyH_take (i := 25) (v := ?v25) rfl (by kernel_rfl) (by kernel_rfl) (by kernel_rfl) (fun _ _ _ h => h) (Or.inl ⟨by rfl, ?y25⟩) (by assumption) ?r25
          case y25 => (intro w hSw; (try dsimp only at hSw); go_simp; try with_reducible rfl)
          try simp only [Act.put, List.setIfInBounds_toArray, List.set_cons_zero, List.set_cons_succ, List.getElem_toArray, List.getElem_cons_zero, List.getElem_cons_succ]
          refine wpAnyH_take (i := 26) (v := ?v26) rfl (by kernel_rfl) (by kernel_rfl) (by kernel_rfl) (fun _ _ _ h => h) (Or.inl ⟨by rfl, ?y26⟩) (by assumption) ?r26
          case y26 => (intro w hSw; (try dsimp only at hSw); go_simp; try with_reducible rfl)
          try simp only [Act.put, List.setIfInBounds_toArray, List.set_cons_zero, List.set_cons_succ, List.getElem_toArray, List.getElem_cons_zero, List.getElem_cons_succ]
          refine wpAnyH_take (i := 27) (v := ?v27) rfl (by kernel_rfl) (by kernel_rfl) (by kernel_rfl) (fun _ _ _ h => h) (Or.inl ⟨by rfl, ?y27⟩) (by assumption) ?r27
          case y27 => (intro w hSw; (try dsimp only at hSw); go_simp; try with_reducible rfl)
          try simp only [Act.put, List.setIfInBounds_toArray, List.set_cons_zero, List.set_cons_succ, List.getElem_toArray, List.getElem_cons_zero, List.getElem_cons_succ]
          refine wpAnyH_take (i := 28) (v := ?v28) rfl (by kernel_rfl) (by kernel_rfl) (by kernel_rfl) (fun _ _ _ h => h) (Or.inl ⟨by rfl, ?y28⟩) (by assumption) ?r28
          case y28 => (intro w hSw; (try dsimp only at hSw); go_simp; try with_reducible rfl)
          try simp only [Act.put, List.setIfInBounds_toArray, List.set_cons_zero, List.set_cons_succ, List.getElem_toArray, List.getElem_cons_zero, List.getElem_cons_succ]
          refine wpAnyH_take (i := 30) (v := ?v30) rfl (by kernel_rfl) (by kernel_rfl) (by kernel_rfl) (fun _ _ _ h => h) (Or.inl ⟨by rfl, ?y30⟩) (by assumption) ?r30
          case y30 => (intro w hSw; (try dsimp only at hSw); go_simp; try with_reducible rfl)
          try simp only [Act.put, List.setIfInBounds_toArray, List.set_cons_zero, List.set_cons_succ, List.getElem_toArray, List.getElem_cons_zero, List.getElem_cons_succ]
          refine wpAnyH_take (i := 31) (v := ?v31) rfl (by kernel_rfl) (by kernel_rfl) (by kernel_rfl) (fun _ _ _ h => h) (Or.inl ⟨by rfl, ?y31⟩) (by assumption) ?r31
          case y31 => (intro w hSw; (try dsimp only at hSw); go_simp; try with_reducible rfl)
          try simp only [Act.put, List.setIfInBounds_toArray, List.set_cons_zero, List.set_cons_succ, List.getElem_toArray, List.getElem_cons_zero, List.getElem_cons_succ]
          refine wpAnyH_take (i := 32) (v := ?v32) rfl (by kernel_rfl) (by kernel_rfl) (by kernel_rfl) (fun _ _ _ h => h) (Or.inl ⟨by rfl, ?y32⟩) (by assumption) ?r32
          case y32 => (intro w hSw; (try dsimp only at hSw); go_simp; try with_reducible rfl)
          try simp only [Act.put, List.setIfInBounds_toArray, List.set_cons_zero, List.set_cons_succ, List.getElem_toArray, List.getElem_cons_zero, List.getElem_cons_succ]
          refine wpAnyH_take (i := 33) (v := ?v33) rfl (by kernel_rfl) (by kernel_rfl) (by kernel_rfl) (fun _ _ _ h => h) (Or.inl ⟨by rfl, ?y33⟩) (by assumption) ?r33
          case y33 => (intro w hSw; (try dsimp only at hSw); go_simp; try with_reducible rfl)
          try simp only [Act.put, List.setIfInBounds_toArray, List.set_cons_zero, List.set_cons_succ, List.getElem_toArray, List.getElem_cons_zero, List.getElem_cons_succ]
          refine wpAnyH_take (i := 34) (v := ?v34) rfl (by kernel_rfl) (by kernel_rfl) (by kernel_rfl) (fun _ _ _ h => h) (Or.inl ⟨by rfl, ?y34⟩) (by assumption) ?r34
          case y34 => (intro w hSw; (try dsimp only at hSw); go_simp; try with_reducible rfl)
          try simp only [Act.put, List.setIfInBounds_toArray, List.set_cons_zero, List.set_cons_succ, List.getElem_toArray, List.getElem_cons_zero, List.getElem_cons_succ]
          refine wpAnyH_take (i := 35) (v := ?v35) rfl (by kernel_rfl) (by kernel_rfl) (by kernel_rfl) (fun _ _ _ h => h) (Or.inl ⟨by rfl, ?y35⟩) (by assumption) ?r35
          case y35 => (intro w hSw; (try dsimp only at hSw); go_simp; try with_reducible rfl)
          try simp only [Act.put, List.setIfInBounds_toArray, List.set_cons_zero, List.set_cons_succ, List.getElem_toArray, List.getElem_cons_zero, List.getElem_cons_succ]
          refine wpAnyH_take (i := 36) (v := ?v36) rfl (by kernel_rfl) (by kernel_rfl) (by kernel_rfl) (fun _ _ _ h => h) (Or.inl ⟨by rfl, ?y36⟩) (by assumption) ?r36
          case y36 => (intro w hSw; (try dsimp only at hSw); go_simp; try with_reducible rfl)
          try simp only [Act.put, List.setIfInBounds_toArray, List.set_cons_zero, List.set_cons_succ, List.getElem_toArray, List.getElem_cons_zero, List.getElem_cons_succ]
          refine wpAnyH_ready (rs := [29]) (by kernel_rfl) (by simp) ?_
          refine AllReadyH.cons rfl (fun K hK => ?_) AllReadyH.nil
          go_simp
          go_at_call 15
          refine (less_b x0 x1 y0 y1 f _ HF.out).mono ?_
          rintro e v3 ⟨rfl, q3⟩
          have g3 := keep8 q3 g2
          go_wp2_with fail
          refine hK.out _ _ (g3) (fun hHeld => ?_)
          clear hK K
          try simp only [Act.put, List.setIfInBounds_toArray, List.set_cons_zero, List.set_cons_succ, List.getElem_toArray, List.getElem_cons_zero, List.getElem_cons_succ]
          refine wpAnyH_ready (rs := [37]) (by kernel_rfl) (by simp) ?_
          refine AllReadyH.cons rfl (fun K hK => ?_) AllReadyH.nil
          go_simp
          go_at_call 16
          refine (refLess_b x0 x1 y0 y1 f _ HF.out).mono ?_
          rintro e v4 ⟨rfl, q4⟩
          have g4 := keep8 q4 g3
          go_wp2_with fail
          refine hK.out _ _ (g4) (fun hHeld => ?_)
          clear hK K
          try simp only [Act.put, List.setIfInBounds_toArray, List.set_cons_zero, List.set_cons_succ, List.getElem_toArray, List.getElem_cons_zero, List.getElem_cons_succ]
          refine wpAnyH_take (i := 38) (v := ?v38) rfl (by kernel_rfl) (by kernel_rfl) (by kernel_rfl) (fun _ _ _ h => h) (Or.inl ⟨by rfl, ?y38⟩) (by assumption) ?r38
          case y38 => (intro w hSw; (try dsimp only at hSw); go_simp; try with_reducible rfl)
          try simp only [Act.put, List.setIfInBounds_toArray, List.set_cons_zero, List.set_cons_succ, List.getElem_toArray, List.getElem_cons_zero, List.getElem_cons_succ]
          refine wpAnyH_take (i := 39) (v := ?v39) rfl (by kernel_rfl) (by kernel_rfl) (by kernel_rfl) (fun _ _ _ h => h) (Or.inl ⟨by rfl, ?y39⟩) (by assumption) ?r39
          case y39 => (intro w hSw; (try dsimp only at hSw); go_simp; try with_reducible rfl)
          try simp only [Act.put, List.setIfInBounds_toArray, List.set_cons_zero, List.set_cons_succ, List.getElem_toArray, List.getElem_cons_zero, List.getElem_cons_succ]
          refine wpAnyH_take (i := 40) (v := ?v40) rfl (by kernel_rfl) (by kernel_rfl) (by kernel_rfl) (fun _ _ _ h => h) (Or.inl ⟨by rfl, ?y40⟩) (by assumption) ?r40
          case y40 => (intro w hSw; (try dsimp only at hSw); go_simp; try with_reducible rfl)
          try simp only [Act.put, List.setIfInBounds_toArray, List.set_cons_zero, List.set_cons_succ, List.getElem_toArray, List.getElem_cons_zero, List.getElem_cons_succ]
          refine wpAnyH_take (i := 41) (v := ?v41) rfl (by kernel_rfl) (by kernel_rfl) (by kernel_rfl) (fun _ _ _ h => h) (Or.inl ⟨by rfl, ?y41⟩) (by assumption) ?r41
          case y41 => (intro w hSw; (try dsimp only at hSw); go_simp; try with_reducible rfl)
          try simp only [Act.put, List.setIfInBounds_toArray, List.set_cons_zero, List.set_cons_succ, List.getElem_toArray, List.getElem_cons_zero, List.getElem_cons_succ]
          refine wpAnyH_take (i := 42) (v := ?v42) rfl (by kernel_rfl) (by kernel_rfl) (by kernel_rfl) (fun _ _ _ h => h) (Or.inl ⟨by rfl, ?y42⟩) (by assumption) ?r42
          case y42 => (intro w hSw; (try dsimp only at hSw); go_simp; try with_reducible rfl)
          try simp only [Act.put, List.setIfInBounds_toArray, List.set_cons_zero, List.set_cons_succ, List.getElem_toArray, List.getElem_cons_zero, List.getElem_cons_succ]
          refine wpAnyH_take (i := 43) (v := ?v43) rfl (by kernel_rfl) (by kernel_rfl) (by kernel_rfl) (fun _ _ _ h => h) (Or.inl ⟨by rfl, ?y43⟩) (by assumption) ?r43
          case y43 => (intro w hSw; (try dsimp only at hSw); go_simp; try with_reducible rfl)
          try simp only [Act.put, List.setIfInBounds_toArray, List.set_cons_zero, List.set_cons_succ, List.getElem_toArray, List.getElem_cons_zero, List.getElem_cons_succ]
          refine wpAnyH_take (i := 44) (v := ?v44) rfl (by kernel_rfl) (by kernel_rfl) (by kernel_rfl) (fun _ _ _ h => h) (Or.inl ⟨by rfl, ?y44⟩) (by assumption) ?r44
          case y44 => (intro w hSw; (try dsimp only at hSw); go_simp; try with_reducible rfl)
          try simp only [Act.put, List.setIfInBounds_toArray, List.set_cons_zero, List.set_cons_succ, List.getElem_toArray, List.getElem_cons_zero, List.getElem_cons_succ]
          refine wpAnyH_take (i := 45) (v := ?v45) rfl (by kernel_rfl) (by kernel_rfl) (by kernel_rfl) (fun _ _ _ h => h) (Or.inl ⟨by rfl, ?y45⟩) (by assumption) ?r45
          case y45 => (intro w hSw; (try dsimp only at hSw); go_simp; try with_reducible rfl)
          try simp only [Act.put, List.setIfInBounds_toArray, List.set_cons_zero, List.set_cons_succ, List.getElem_toArray, List.getElem_cons_zero, List.getElem_cons_succ]
          refine wpAnyH_take (i := 46) (v := ?v46) rfl (by kernel_rfl) (by kernel_rfl) (by kernel_rfl) (fun _ _ _ h => h) (Or.inl ⟨by rfl, ?y46⟩) (by assumption) ?r46
          case y46 => (intro w hSw; (try dsimp only at hSw); go_simp; try with_reducible rfl)
          try simp only [Act.put, List.setIfInBounds_toArray, List.set_cons_zero, List.set_cons_succ, List.getElem_toArray, List.getElem_cons_zero, List.getElem_cons_succ]
          refine wpAnyH_take (i := 47) (v := ?v47) rfl (by kernel_rfl) (by kernel_rfl) (by kernel_rfl) (fun _ _ _ h => h) (Or.inl ⟨by rfl, ?y47⟩) (by assumption) ?r47
          case y47 => (intro w hSw; (try dsimp only at hSw); go_simp; try with_reducible rfl)
          try simp only [Act.put, List.setIfInBounds_toArray, List.set_cons_zero, List.set_cons_succ, List.getElem_toArray, List.getElem_cons_zero, List.getElem_cons_succ]
          refine wpAnyH_take (i := 49) (v := ?v49) rfl (by kernel_rfl) (by kernel_rfl) (by kernel_rfl) (fun _ _ _ h => h) (Or.inl ⟨by rfl, ?y49⟩) (by assumption) ?r49
          case y49 => (intro w hSw; (try dsimp only at hSw); go_simp; try with_reducible rfl)
          try simp only [Act.put, List.setIfInBounds_toArray, List.set_cons_zero, List.set_cons_succ, List.getElem_toArray, List.getElem_cons_zero, List.getElem_cons_succ]
          refine wpAnyH_take (i := 50) (v := ?v50) rfl (by kernel_rfl) (by kernel_rfl) (by kernel_rfl) (fun _ _ _ h => h) (Or.inl ⟨by rfl, ?y50⟩) (by assumption) ?r50
          case y50 => (intro w hSw; (try dsimp only at hSw); go_simp; try with_reducible rfl)
          try simp only [Act.put, List.setIfInBounds_toArray, List.set_cons_zero, List.set_cons_succ, List.getElem_toArray, List.getElem_cons_zero, List.getElem_cons_succ]
          refine wpAnyH_take (i := 51) (v := ?v51) rfl (by kernel_rfl) (by kernel_rfl) (by kernel_rfl) (fun _ _ _ h => h) (Or.inl ⟨by rfl, ?y51⟩) (by assumption) ?r51
          case y51 => (intro w hSw; (try dsimp only at hSw); go_simp; try with_reducible rfl)
          try simp only [Act.put, List.setIfInBounds_toArray, List.set_cons_zero, List.set_cons_succ, List.getElem_toArray, List.getElem_cons_zero, List.getElem_cons_succ]
          refine wpAnyH_take (i := 52) (v := ?v52) rfl (by kernel_rfl) (by kernel_rfl) (by kernel_rfl) (fun _ _ _ h => h) (Or.inl ⟨by rfl, ?y52⟩) (by assumption) ?r52
          case y52 => (intro w hSw; (try dsimp only at hSw); go_simp; try with_reducible rfl)
          try simp only [Act.put, List.setIfInBounds_toArray, List.set_cons_zero, List.set_cons_succ, List.getElem_toArray, List.getElem_cons_zero, List.getElem_cons_succ]
          refine wpAnyH_take (i := 53) (v := ?v53) rfl (by kernel_rfl) (by kernel_rfl) (by kernel_rfl) (fun _ _ _ h => h) (Or.inl ⟨by rfl, ?y53⟩) (by assumption) ?r53
          case y53 => (intro w hSw; (try dsimp only at hSw); go_simp; try with_reducible rfl)
          try simp only [Act.put, List.setIfInBounds_toArray, List.set_cons_zero, List.set_cons_succ, List.getElem_toArray, List.getElem_cons_zero, List.getElem_cons_succ]
          refine wpAnyH_take (i := 54) (v := ?v54) rfl (by kernel_rfl) (by kernel_rfl) (by kernel_rfl) (fun _ _ _ h => h) (Or.inl ⟨by rfl, ?y54⟩) (by assumption) ?r54
          case y54 => (intro w hSw; (try dsimp only at hSw); go_simp; try with_reducible rfl)
          try simp only [Act.put, List.setIfInBounds_toArray, List.set_cons_zero, List.set_cons_succ, List.getElem_toArray, List.getElem_cons_zero, List.getElem_cons_succ]
          refine wpAnyH_take (i := 55) (v := ?v55) rfl (by kernel_rfl) (by kernel_rfl) (by kernel_rfl) (fun _ _ _ h => h) (Or.inl ⟨by rfl, ?y55⟩) (by assumption) ?r55
          case y55 => (intro w hSw; (try dsimp only at hSw); go_simp; try with_reducible rfl)
          try simp only [Act.put, List.setIfInBounds_toArray, List.set_cons_zero, List.set_cons_succ, List.getElem_toArray, List.getElem_cons_zero, List.getElem_cons_succ]
          refine wpAnyH_ready (rs := [48]) (by kernel_rfl) (by simp) ?_
          refine AllReadyH.cons rfl (fun K hK => ?_) AllReadyH.nil
          go_simp
          go_at_call 15
          refine (less_b y0 y1 x0 x1 g _ HG.out).mono ?_
          rintro e v5 ⟨rfl, q5⟩
          have g5 := keep8 q5 g4
          go_wp2_with fail
          refine hK.out _ _ (g5) (fun hHeld => ?_)
          clear hK K
          try simp only [Act.put, List.setIfInBounds_toArray, List.set_cons_zero, List.set_cons_succ, List.getElem_toArray, List.getElem_cons_zero, List.getElem_cons_succ]
          refine wpAnyH_ready (rs := [56]) (by kernel_rfl) (by simp) ?_
          refine AllReadyH.cons rfl (fun K hK => ?_) AllReadyH.nil
          go_simp
          go_at_call 16
          refine (refLess_b y0 y1 x0 x1 g _ HG.out).mono ?_
          rintro e v6 ⟨rfl, q6⟩
          have g6 := keep8 q6 g5
          go_wp2_with fail
          refine hK.out _ _ (g6) (fun hHeld => ?_)
          clear hK K
          try simp only [Act.put, List.setIfInBounds_toArray, List.set_cons_zero, List.set_cons_succ, List.getElem_toArray, List.getElem_cons_zero, List.getElem_cons_succ]
          refine wpAnyH_take (i := 57) (v := ?v57) rfl (by kernel_rfl) (by kernel_rfl) (by kernel_rfl) (fun _ _ _ h => h) (Or.inl ⟨by rfl, ?y57⟩) (by assumption) ?r57
          case y57 => (intro w hSw; (try dsimp only at hSw); go_simp; try with_reducible rfl)
          try simp only [Act.put, List.setIfInBounds_toArray, List.set_cons_zero, List.set_cons_succ, List.getElem_toArray, List.getElem_cons_zero, List.getElem_cons_succ]
          refine wpAnyH_take (i := 58) (v := ?v58) rfl (by kernel_rfl) (by kernel_rfl) (by kernel_rfl) (fun _ _ _ h => h) (Or.inl ⟨by rfl, ?y58⟩) (by assumption) ?r58
          case y58 => (intro w hSw; (try dsimp only at hSw); go_simp; try with_reducible rfl)
          try simp only [Act.put, List.setIfInBounds_toArray, List.set_cons_zero, List.set_cons_succ, List.getElem_toArray, List.getElem_cons_zero, List.getElem_cons_succ]
          refine wpAnyH_take (i := 59) (v := ?v59) rfl (by kernel_rfl) (by kernel_rfl) (by kernel_rfl) (fun _ _ _ h => h) (Or.inl ⟨by rfl, ?y59⟩) (by assumption) ?r59
          case y59 => (intro w hSw; (try dsimp only at hSw); go_simp; try with_reducible rfl)
          try simp only [Act.put, List.setIfInBounds_toArray, List.set_cons_zero, List.set_cons_succ, List.getElem_toArray, List.getElem_cons_zero, List.getElem_cons_succ]
          refine wpAnyH_take (i := 60) (v := ?v60) rfl (by kernel_rfl) (by kernel_rfl) (by kernel_rfl) (fun _ _ _ h => h) (Or.inl ⟨by rfl, ?y60⟩) (by assumption) ?r60
          case y60 => (intro w hSw; (try dsimp only at hSw); go_simp; try with_reducible rfl)
          try simp only [Act.put, List.setIfInBounds_toArray, List.set_cons_zero, List.set_cons_succ, List.getElem_toArray, List.getElem_cons_zero, List.getElem_cons_succ]
          refine wpAnyH_take (i := 61) (v := ?v61) rfl (by kernel_rfl) (by kernel_rfl) (by kernel_rfl) (fun _ _ _ h => h) (Or.inl ⟨by rfl, ?y61⟩) (by assumption) ?r61
          case y61 => (intro w hSw; (try dsimp only at hSw); go_simp; try with_reducible rfl)
          try simp only [Act.put, List.setIfInBounds_toArray, List.set_cons_zero, List.set_cons_succ, List.getElem_toArray, List.getElem_cons_zero, List.getElem_cons_succ]
          refine wpAnyH_take (i := 62) (v := ?v62) rfl (by kernel_rfl) (by kernel_rfl) (by kernel_rfl) (fun _ _ _ h => h) (Or.inl ⟨by rfl, ?y62⟩) (by assumption) ?r62
          case y62 => (intro w hSw; (try dsimp only at hSw); go_simp; try with_reducible rfl)
          try simp only [Act.put, List.setIfInBounds_toArray, List.set_cons_zero, List.set_cons_succ, List.getElem_toArray, List.getElem_cons_zero, List.getElem_cons_succ]
          refine wpAnyH_take (i := 63) (v := ?v63) rfl (by kernel_rfl) (by kernel_rfl) (by kernel_rfl) (fun _ _ _ h => h) (Or.inl ⟨by rfl, ?y63⟩) (by assumption) ?r63
          case y63 => (intro w hSw; (try dsimp only at hSw); go_simp; try with_reducible rfl)
          try simp only [Act.put, List.setIfInBounds_toArray, List.set_cons_zero, List.set_cons_succ, List.getElem_toArray, List.getElem_cons_zero, List.getElem_cons_succ]
          refine wpAnyH_take (i := 65) (v := ?v65) rfl (by kernel_rfl) (by kernel_rfl) (by kernel_rfl) (fun _ _ _ h => h) (Or.inl ⟨by rfl, ?y65⟩) (by assumption) ?r65
          case y65 => (intro w hSw; (try dsimp only at hSw); go_simp; try with_reducible rfl)
          try simp only [Act.put, List.setIfInBounds_toArray, List.set_cons_zero, List.set_cons_succ, List.getElem_toArray, List.getElem_cons_zero, List.getElem_cons_succ]
          refine wpAnyH_take (i := 66) (v := ?v66) rfl (by kernel_rfl) (by kernel_rfl) (by kernel_rfl) (fun _ _ _ h => h) (Or.inl ⟨by rfl, ?y66⟩) (by assumption) ?r66
          case y66 => (intro w hSw; (try dsimp only at hSw); go_simp; try with_reducible rfl)
          try simp only [Act.put, List.setIfInBounds_toArray, List.set_cons_zero, List.set_cons_succ, List.getElem_toArray, List.getElem_cons_zero, List.getElem_cons_succ]
          refine wpAnyH_take (i := 67) (v := ?v67) rfl (by kernel_rfl) (by kernel_rfl) (by kernel_rfl) (fun _ _ _ h => h) (Or.inl ⟨by rfl, ?y67⟩) (by assumption) ?r67
          case y67 => (intro w hSw; (try dsimp only at hSw); go_simp; try with_reducible rfl)
          try simp only [Act.put, List.setIfInBounds_toArray, List.set_cons_zero, List.set_cons_succ, List.getElem_toArray, List.getElem_cons_zero, List.getElem_cons_succ]
          refine wpAnyH_take (i := 68) (v := ?v68) rfl (by kernel_rfl) (by kernel_rfl) (by kernel_rfl) (fun _ _ _ h => h) (Or.inl ⟨by rfl, ?y68⟩) (by assumption) ?r68
          case y68 => (intro w hSw; (try dsimp only at hSw); go_simp; try with_reducible rfl)
          try simp only [Act.put, List.setIfInBounds_toArray, List.set_cons_zero, List.set_cons_succ, List.getElem_toArray, List.getElem_cons_zero, List.getElem_cons_succ]
          refine wpAnyH_ready (rs := [64]) (by kernel_rfl) (by simp) ?_
          refine AllReadyH.cons rfl (fun K hK => ?_) AllReadyH.nil
          go_simp
          go_at_call 17
          refine (bytes_t x0 x1 u _ HU.out).mono ?_
          rintro e v7 ⟨rfl, q7⟩
          have g7 := keep8 q7 g6
          go_wp2_with fail
          refine hK.out _ _ (g7) (fun hHeld => ?_)
          clear hK K
          try simp only [Act.put, List.setIfInBounds_toArray, List.set_cons_zero, List.set_cons_succ, List.getElem_toArray, List.getElem_cons_zero, List.getElem_cons_succ]
          refine wpAnyH_ready (rs := [69]) (by kernel_rfl) (by simp) ?_
          refine AllReadyH.cons rfl (fun K hK => ?_) AllReadyH.nil
          go_simp
          go_at_call 18
          refine (refBytes_t x0 x1 u _ HU.out).mono ?_
          rintro e v8 ⟨rfl, q8⟩
          have g8 := keep8 q8 g7
          go_wp2_with fail
          refine hK.out _ _ (g8) (fun hHeld => ?_)
          clear hK K
          try simp only [Act.put, List.setIfInBounds_toArray, List.set_cons_zero, List.set_cons_succ, List.getElem_toArray, List.getElem_cons_zero, List.getElem_cons_succ]
          refine wpAnyH_take (i := 70) (v := ?v70) rfl (by kernel_rfl) (by kernel_rfl) (by kernel_rfl) (fun _ _ _ h => h) (Or.inl ⟨by rfl, ?y70⟩) (by assumption) ?r70
          case y70 => (intro w hSw; (try dsimp only at hSw); go_simp; try with_reducible rfl)
          try simp only [Act.put, List.setIfInBounds_toArray, List.set_cons_zero, List.set_cons_succ, List.getElem_toArray, List.getElem_cons_zero, List.getElem_cons_succ]
          refine wpAnyH_take (i := 71) (v := ?v71) rfl (by kernel_rfl) (by kernel_rfl) (by kernel_rfl) (fun _ _ _ h => h) (Or.inl ⟨by rfl, ?y71⟩) (by assumption) ?r71
          case y71 => (intro w hSw; (try dsimp only at hSw); go_simp; try with_reducible rfl)
          try simp only [Act.put, List.setIfInBounds_toArray, List.set_cons_zero, List.set_cons_succ, List.getElem_toArray, List.getElem_cons_zero, List.getElem_cons_succ]
          refine wpAnyH_done (by kernel_rfl) ?_ _
          have hbF := (bstep (bstep (bstep (bstep (bstep (bstep (bstep (bstep hbel3.drew q1) q2) q3) q4) q5) q6) q7) q8)
          clear ha g1 g2 g3 g4 g5 g6 g7 g8 q1 q2 q3 q4 q5 q6 q7 q8 hbel3
          go_wp2
          go_roundw
          case rel => exact ⟨k + 1, by omega, by go_num, hbF⟩
          case measure => simp [intOf]; omega
        · obtain rfl : k = ms.length := by omega
          have HRr := Lib.hid (HR1.out.below hbel)
          have hbW := bstep hb1 hbel
          obtain ⟨m0, m1, hm⟩ : ∃ m0 m1, Sm.mx (0, 0) ms = (m0, m1) := ⟨_, _, rfl⟩
          have HM := Lib.hid hm
          have heq : ∀ w', (binOp .eql 25 (.agg #[.int .i64 m0, .int .i64 m1]) (.agg #[.int .i64 m0, .int .i64 m1])).run Try.prog w' = .ok (.bool true) w' := fun w' => by rw [eq_stamp]; simp
          clear hm HR1 hbel hb1
          cases hrd : Sm.rdS (rd x.data.toList) 0 with
          | none =>
            have HRD := Lib.hid hrd
            clear hrd
            have heq2 : ∀ w', (binOp .eql 25 (.agg #[.int .i64 0, .int .i64 0]) (.agg #[.int .i64 0, .int .i64 0])).run Try.prog w' = .ok (.bool true) w' := fun w' => by rw [eq_stamp]; simp
            go_wp2_with fail
            refine (sread_t x 0 none _ (by omega) HRD.out).mono ?_
            rintro _ w2 ⟨rfl, hb⟩
            rw [srV]
            have HR2 := Lib.hid (HRr.out.below hb)
            replace hbW := bstep hbW hb
            clear hb
            go_wp2_with fail
            refine (refSRead_t x 0 none _ (by omega) HRD.out).mono ?_
            rintro _ w3 ⟨rfl, hb⟩
            rw [sgV]
            have c0 : w3.cell? ⟨w2.heap.size, 0, none⟩ = some (.int .i64 0) := kc hb (by simp)
            have c1 : w3.cell? ⟨w2.heap.size, 1, none⟩ = some (.int .i64 0) := kc hb (by simp)
            have hb2 := bstep (balloc (Below.refl _ w2) _) hb
            have HR3 := Lib.hid ((HR2.out.below hb2).below (balloc (Below.refl _ w3) (.cells #[.int .i64 0, .int .i64 0, .int .i64 0] 35)))
            replace hbW := bstep hbW hb2
            have z3 := lt_of_cellN c0
            clear hb hb2 HR2
            go_wp2_with fail
            refine (max_at _ _ cap ms m0 m1 _ rfl (by omega) HR3.out HM.out).mono ?_
            rintro _ w4 ⟨rfl, hb⟩
            have d0 : w4.cell? ⟨w3.heap.size, 0, none⟩ = some (.int .i64 0) := kc hb (by simp)
            have d1 : w4.cell? ⟨w3.heap.size, 1, none⟩ = some (.int .i64 0) := kc hb (by simp)
            have d2 : w4.cell? ⟨w3.heap.size, 2, none⟩ = some (.int .i64 0) := kc hb (by simp)
            have hb2 := bstep (balloc (Below.refl _ w3) _) hb
            replace c0 := kc hb2 c0
            replace c1 := kc hb2 c1
            have HR4 := Lib.hid (HR3.out.below hb)
            replace hbW := bstep hbW hb2
            clear hb hb2 HR3 z3
            go_wp2_with fail
            refine (refMax_at _ _ cap ms m0 m1 _ rfl (by omega) HR4.out HM.out).mono ?_
            rintro _ w5 ⟨rfl, hb⟩
            replace c0 := kc hb c0
            replace c1 := kc hb c1
            replace d0 := kc hb d0
            replace d1 := kc hb d1
            replace d2 := kc hb d2
            replace hbW := bstep hbW hb
            clear hb HR4 HRr
            go_wp2
            go_ret
            exact ⟨rfl, hbW⟩
          | some y =>
            obtain ⟨⟨n0, n1⟩, e⟩ := y
            have HRD := Lib.hid hrd
            obtain ⟨p1, p2⟩ := srd_pos hrd
            have p3 : e ≤ x.size := by simpa using p2
            have t1 : decide ((0 : Int) < (e : Int)) = true := by simp; omega
            have t2 : decide (0 < e) = true := by simp; omega
            clear hrd p2
            have heq2 : ∀ w', (binOp .eql 25 (.agg #[.int .i64 n0, .int .i64 n1]) (.agg #[.int .i64 n0, .int .i64 n1])).run Try.prog w' = .ok (.bool true) w' := fun w' => by rw [eq_stamp]; simp
            go_wp2_with fail
            refine (sread_t x 0 (some ((n0, n1), e)) _ (by omega) HRD.out).mono ?_
            rintro _ w2 ⟨rfl, hb⟩
            rw [srV]
            have HR2 := Lib.hid (HRr.out.below hb)
            replace hbW := bstep hbW hb
            clear hb
            go_wp2_with fail
            refine (refSRead_t x 0 (some ((n0, n1), e)) _ (by omega) HRD.out).mono ?_
            rintro _ w3 ⟨rfl, hb⟩
            rw [sgV]
            have c0 : w3.cell? ⟨w2.heap.size, 0, none⟩ = some (.int .i64 n0) := kc hb (by simp)
            have c1 : w3.cell? ⟨w2.heap.size, 1, none⟩ = some (.int .i64 n1) := kc hb (by simp)
            have hb2 := bstep (balloc (Below.refl _ w2) _) hb
            have HR3 := Lib.hid ((HR2.out.below hb2).below (balloc (Below.refl _ w3) (.cells #[.int .i64 n0, .int .i64 n1, .int .i64 e] 35)))
            replace hbW := bstep hbW hb2
            have z3 := lt_of_cellN c0
            clear hb hb2 HR2
            go_wp2_with fail
            refine (max_at _ _ cap ms m0 m1 _ rfl (by omega) HR3.out HM.out).mono ?_
            rintro _ w4 ⟨rfl, hb⟩
            have d0 : w4.cell? ⟨w3.heap.size, 0, none⟩ = some (.int .i64 n0) := kc hb (by simp)
            have d1 : w4.cell? ⟨w3.heap.size, 1, none⟩ = some (.int .i64 n1) := kc hb (by simp)
            have d2 : w4.cell? ⟨w3.heap.size, 2, none⟩ = some (.int .i64 e) := kc hb (by simp)
            have hb2 := bstep (balloc (Below.refl _ w3) _) hb
            replace c0 := kc hb2 c0
            replace c1 := kc hb2 c1
            have HR4 := Lib.hid (HR3.out.below hb)
            replace hbW := bstep hbW hb2
            clear hb hb2 HR3 z3
            go_wp2_with fail
            refine (refMax_at _ _ cap ms m0 m1 _ rfl (by omega) HR4.out HM.out).mono ?_
            rintro _ w5 ⟨rfl, hb⟩
            replace c0 := kc hb c0
            replace c1 := kc hb c1
            replace d0 := kc hb d0
            replace d1 := kc hb d1
            replace d2 := kc hb d2
            replace hbW := bstep hbW hb
            clear hb HR4 HRr
            go_wp2
            go_ret
            exact ⟨rfl, hbW⟩
end Go.Proofs.Ytmfjoiajghmeoaa
