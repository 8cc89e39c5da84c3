/- What keys.Find answers, and the document's. -/
import Derived.Test.YtllagelopdedfaaKeysFidx
namespace Go.Proofs.Ytllagelopdedfaa
open Go.RowKit
set_option linter.unusedVariables false

set_option maxRecDepth 100000 in
theorem findIn_any (f t key : ByteArray) (B : Nat) (w : World) (hB : B < w.heap.size) (hc : w.cell? ⟨B, 0, none⟩ = some (.string key)) :
    Calls Try.prog 72 #[.agg #[.string f, .string t], .pointer (some ⟨B, 0, none⟩)] w fun e w' => e = .returned (.bool (Km.has f.data.toList t.data.toList key.data.toList)) ∧ Below w.heap.size w w' := by
  have hne : B ≠ w.heap.size := by omega
  have hc1 : ∀ o, (w.alloc o).cell? ⟨B, 0, none⟩ = some (.string key) := fun o => (((Below.refl _ w).alloc (Nat.le_refl _) o).cell (p := ⟨B, 0, none⟩) hB).trans hc
  go_enter Try.func72, Try.ntmps72
  go_wp2_with fail
  refine (has_any f t key _).mono ?_
  rintro e w1 ⟨rfl, hb⟩
  generalize hx : Km.has f.data.toList t.data.toList key.data.toList = x
  have HX := Lib.hid hx
  clear hx
  go_wp2
  go_ret
  exact ⟨ret_bool HX.out.symm, (balloc (Below.refl _ w) _).trans (hb.mono (by simp))⟩

set_option maxRecDepth 100000 in
set_option maxHeartbeats 800000 in
theorem indexFunc_any (a : Option Addr) (cap : Nat) (rs : List (ByteArray × ByteArray)) (key : ByteArray) (B : Nat) (w : World) (hl : rs.length ≤ 100) (hr : RngIn w a rs) (hB : B < w.heap.size) (hc : w.cell? ⟨B, 0, none⟩ = some (.string key)) :
    Calls Try.prog 71 #[.slice a rs.length cap, .func (.func 72) #[] #[.pointer (some ⟨B, 0, none⟩)]] w fun e w' => e = .returned (.int .i64 (Km.fidx (tls rs) key.data.toList)) ∧ Below w.heap.size w w' := by
  have HR := Lib.hid hr
  clear hr
  go_enter Try.func71, Try.ntmps71
  go_wp2
  go_loopw [8] (fun i wr => ∃ k : Nat, k ≤ rs.length ∧ i = .int .i64 k ∧ (∀ j (hj : j < (tls rs).length), j < k → Km.has (tls rs)[j].1 (tls rs)[j].2 key.data.toList = false) ∧ Below w.heap.size w wr) (fun i _ => rs.length - (intOf i).toNat)
  case atStart => exact ⟨0, by omega, rfl, (fun j hj h => by omega), Below.refl _ _⟩
  case round =>
    obtain ⟨k, hk, rfl, hall, hbel⟩ := hrel
    have HA := Lib.hid hall
    clear hall
    by_cases hlt : k < rs.length
    · obtain ⟨b, off, rfl, hbl, hc0, hc1⟩ := HR.out.below hbel k hlt
      have HK := Lib.hid (tls_get rs k hlt)
      generalize rs[k].1 = p at hc0 HK
      generalize rs[k].2 = q at hc1 HK
      go_wp2_with fail
      refine (findIn_any p q key B _ (by have := hbel.size; omega) (kcell hbel hB hc)).mono ?_
      rintro e w2 ⟨rfl, hb⟩
      generalize hx : Km.has p.data.toList q.data.toList key.data.toList = x
      have HX := Lib.hid hx
      clear hx
      cases x with
      | true =>
        go_wp2
        go_ret
        refine ⟨ret_int (Km.fidx_hit (by rw [tls_len]; exact hlt) HA.out ?_).symm, bstep hbel hb⟩
        rw [HK.out]
        exact HX.out
      | false =>
        go_wp2
        go_roundw
        case rel =>
          refine ⟨k + 1, by omega, by go_num, (fun j hj h => ?_), bstep hbel hb⟩
          by_cases e : j = k
          · subst e
            rw [HK.out]
            exact HX.out
          · exact HA.out j hj (by omega)
        case measure => simp [intOf]; omega
    · obtain rfl : k = rs.length := by omega
      go_wp2
      go_ret
      exact ⟨ret_int (Km.fidx_none (fun j hj => HA.out j hj (by rw [tls_len] at hj; exact hj))).symm, hbel⟩

set_option maxRecDepth 100000 in
set_option maxHeartbeats 800000 in
theorem find_any (a : Option Addr) (cap : Nat) (rs : List (ByteArray × ByteArray)) (key : ByteArray) (w : World) (hl : rs.length ≤ 100) (hr : RngIn w a rs) :
    Calls Try.prog 46 #[.slice a rs.length cap, .string key] w fun e w' => e = .returned (.int .i64 (Km.fidx (tls rs) key.data.toList)) ∧ Below w.heap.size w w' := by
  have hmf : ∀ (fn : Fn) (first cap : Array Value) (w : World), (Instr.makeFunc fn first cap).run Try.prog w = .ok (.func fn first cap) w := fun _ _ _ _ => rfl
  have hra : ∀ o, RngIn (w.alloc o) a rs := fun o => hr.below ((Below.refl _ w).alloc (Nat.le_refl _) o)
  have HRA := Lib.hid hra
  clear hra hr
  go_enter Try.func46, Try.ntmps46
  go_wp2_with fail
  refine (indexFunc_any a cap rs key w.heap.size _ hl (HRA.out _) (by simp) (by simp)).mono ?_
  rintro e w1 ⟨rfl, hb⟩
  generalize hx : Km.fidx (tls rs) key.data.toList = x
  have HX := Lib.hid hx
  clear hx
  go_wp2
  go_ret
  exact ⟨ret_int HX.out.symm, (balloc (Below.refl _ w) _).trans (hb.mono (by simp))⟩

set_option maxRecDepth 100000 in
set_option maxHeartbeats 800000 in
theorem refFind_any (a : Option Addr) (cap : Nat) (rs : List (ByteArray × ByteArray)) (key : ByteArray) (w : World) (hl : rs.length ≤ 100) (hr : RngIn w a rs) :
    Calls Try.prog 31 #[.slice a rs.length cap, .string key] w fun e w' => e = .returned (.int .i64 (Km.fidx (tls rs) key.data.toList)) ∧ Below w.heap.size w w' := by
  have HR := Lib.hid hr
  clear hr
  go_enter Try.func31, Try.ntmps31
  go_wp2
  go_loopw [5] (fun i wr => ∃ k : Nat, k ≤ rs.length ∧ i = .int .i64 k ∧ (∀ j (hj : j < (tls rs).length), j < k → Km.has (tls rs)[j].1 (tls rs)[j].2 key.data.toList = false) ∧ Below w.heap.size w wr) (fun i _ => rs.length - (intOf i).toNat)
  case atStart => exact ⟨0, by omega, rfl, (fun j hj h => by omega), Below.refl _ _⟩
  case round =>
    obtain ⟨k, hk, rfl, hall, hbel⟩ := hrel
    have HA := Lib.hid hall
    clear hall
    by_cases hlt : k < rs.length
    · obtain ⟨b, off, rfl, hbl, hc0, hc1⟩ := HR.out.below hbel k hlt
      have HK := Lib.hid (tls_get rs k hlt)
      generalize rs[k].1 = p at hc0 HK
      generalize rs[k].2 = q at hc1 HK
      go_wp2_with fail
      refine (refHas_any p q key _).mono ?_
      rintro e w2 ⟨rfl, hb⟩
      generalize hx : Km.has p.data.toList q.data.toList key.data.toList = x
      have HX := Lib.hid hx
      clear hx
      cases x with
      | true =>
        go_wp2
        go_ret
        refine ⟨ret_int (Km.fidx_hit (by rw [tls_len]; exact hlt) HA.out ?_).symm, bstep hbel hb⟩
        rw [HK.out]
        exact HX.out
      | false =>
        go_wp2
        go_roundw
        case rel =>
          refine ⟨k + 1, by omega, by go_num, (fun j hj h => ?_), bstep hbel hb⟩
          by_cases e : j = k
          · subst e
            rw [HK.out]
            exact HX.out
          · exact HA.out j hj (by omega)
        case measure => simp [intOf]; omega
    · obtain rfl : k = rs.length := by omega
      go_wp2
      go_ret
      exact ⟨ret_int (Km.fidx_none (fun j hj => HA.out j hj (by rw [tls_len] at hj; exact hj))).symm, hbel⟩
end Go.Proofs.Ytllagelopdedfaa
