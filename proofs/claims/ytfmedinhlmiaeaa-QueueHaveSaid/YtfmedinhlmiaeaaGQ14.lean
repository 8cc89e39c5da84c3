/- Texts of this proof, one behind the other: KeysFind, PastOnly. -/
import Derived.Test.YtfmedinhlmiaeaaGQ13
/- What keys.Find answers, and the document's. -/
namespace Go.Proofs.Ytfmedinhlmiaeaa
open Go.RowKit
set_option linter.unusedVariables false

set_option maxRecDepth 100000 in
theorem findIn_any (f t key : ByteArray) (B : Nat) (w : World) (hB : B < w.heap.size) (hc : w.cell? ⟨B, 0, none⟩ = some (.string key)) :
    Calls Try.prog 62 #[.agg #[.string f, .string t], .pointer (some ⟨B, 0, none⟩)] w fun e w' => e = .returned (.bool (Km.has f.data.toList t.data.toList key.data.toList)) ∧ Below w.heap.size w w' := by
  have hne : B ≠ w.heap.size := by omega
  have hc1 : ∀ o, (w.alloc o).cell? ⟨B, 0, none⟩ = some (.string key) := fun o => (((Below.refl _ w).alloc (Nat.le_refl _) o).cell (p := ⟨B, 0, none⟩) hB).trans hc
  go_enter Try.func62, Try.ntmps62
  go_wp2_with fail
  refine (has_any f t key _).mono ?_
  rintro e w1 ⟨rfl, hb⟩
  generalize hx : Km.has f.data.toList t.data.toList key.data.toList = x
  have HX := Lib.hid hx
  clear hx
  go_wp2
  go_ret
  exact ⟨ret_bool HX.out.symm, (balloc (Below.refl _ w) _).trans (hb.mono (by simp))⟩

set_option maxRecDepth 100000 in
set_option maxHeartbeats 800000 in
theorem indexFunc_any (a : Option Addr) (cap : Nat) (rs : List (ByteArray × ByteArray)) (key : ByteArray) (B : Nat) (w : World) (hl : rs.length ≤ 100) (hr : RngIn w a rs) (hB : B < w.heap.size) (hc : w.cell? ⟨B, 0, none⟩ = some (.string key)) :
    Calls Try.prog 61 #[.slice a rs.length cap, .func (.func 62) #[] #[.pointer (some ⟨B, 0, none⟩)]] w fun e w' => e = .returned (.int .i64 (Km.fidx (tls rs) key.data.toList)) ∧ Below w.heap.size w w' := by
  have HR := Lib.hid hr
  clear hr
  go_enter Try.func61, Try.ntmps61
  go_wp2
  go_loopw [8] (fun i wr => ∃ k : Nat, k ≤ rs.length ∧ i = .int .i64 k ∧ (∀ j (hj : j < (tls rs).length), j < k → Km.has (tls rs)[j].1 (tls rs)[j].2 key.data.toList = false) ∧ Below w.heap.size w wr) (fun i _ => rs.length - (intOf i).toNat)
  case atStart => exact ⟨0, by omega, rfl, (fun j hj h => by omega), Below.refl _ _⟩
  case round =>
    obtain ⟨k, hk, rfl, hall, hbel⟩ := hrel
    have HA := Lib.hid hall
    clear hall
    by_cases hlt : k < rs.length
    · obtain ⟨b, off, rfl, hbl, hc0, hc1⟩ := HR.out.below hbel k hlt
      have HK := Lib.hid (tls_get rs k hlt)
      generalize rs[k].1 = p at hc0 HK
      generalize rs[k].2 = q at hc1 HK
      go_wp2_with fail
      refine (findIn_any p q key B _ (by have := hbel.size; omega) (kcell hbel hB hc)).mono ?_
      rintro e w2 ⟨rfl, hb⟩
      generalize hx : Km.has p.data.toList q.data.toList key.data.toList = x
      have HX := Lib.hid hx
      clear hx
      cases x with
      | true =>
        go_wp2
        go_ret
        refine ⟨ret_int (Km.fidx_hit (by rw [tls_len]; exact hlt) HA.out ?_).symm, bstep hbel hb⟩
        rw [HK.out]
        exact HX.out
      | false =>
        go_wp2
        go_roundw
        case rel =>
          refine ⟨k + 1, by omega, by go_num, (fun j hj h => ?_), bstep hbel hb⟩
          by_cases e : j = k
          · subst e
            rw [HK.out]
            exact HX.out
          · exact HA.out j hj (by omega)
        case measure => simp [intOf]; omega
    · obtain rfl : k = rs.length := by omega
      go_wp2
      go_ret
      exact ⟨ret_int (Km.fidx_none (fun j hj => HA.out j hj (by rw [tls_len] at hj; exact hj))).symm, hbel⟩

set_option maxRecDepth 100000 in
set_option maxHeartbeats 800000 in
theorem find_any (a : Option Addr) (cap : Nat) (rs : List (ByteArray × ByteArray)) (key : ByteArray) (w : World) (hl : rs.length ≤ 100) (hr : RngIn w a rs) :
    Calls Try.prog 48 #[.slice a rs.length cap, .string key] w fun e w' => e = .returned (.int .i64 (Km.fidx (tls rs) key.data.toList)) ∧ Below w.heap.size w w' := by
  have hmf : ∀ (fn : Fn) (first cap : Array Value) (w : World), (Instr.makeFunc fn first cap).run Try.prog w = .ok (.func fn first cap) w := fun _ _ _ _ => rfl
  have hra : ∀ o, RngIn (w.alloc o) a rs := fun o => hr.below ((Below.refl _ w).alloc (Nat.le_refl _) o)
  have HRA := Lib.hid hra
  clear hra hr
  go_enter Try.func48, Try.ntmps48
  go_wp2_with fail
  refine (indexFunc_any a cap rs key w.heap.size _ hl (HRA.out _) (by simp) (by simp)).mono ?_
  rintro e w1 ⟨rfl, hb⟩
  generalize hx : Km.fidx (tls rs) key.data.toList = x
  have HX := Lib.hid hx
  clear hx
  go_wp2
  go_ret
  exact ⟨ret_int HX.out.symm, (balloc (Below.refl _ w) _).trans (hb.mono (by simp))⟩

set_option maxRecDepth 100000 in
set_option maxHeartbeats 800000 in
theorem refFind_any (a : Option Addr) (cap : Nat) (rs : List (ByteArray × ByteArray)) (key : ByteArray) (w : World) (hl : rs.length ≤ 100) (hr : RngIn w a rs) :
    Calls Try.prog 44 #[.slice a rs.length cap, .string key] w fun e w' => e = .returned (.int .i64 (Km.fidx (tls rs) key.data.toList)) ∧ Below w.heap.size w w' := by
  have HR := Lib.hid hr
  clear hr
  go_enter Try.func44, Try.ntmps44
  go_wp2
  go_loopw [5] (fun i wr => ∃ k : Nat, k ≤ rs.length ∧ i = .int .i64 k ∧ (∀ j (hj : j < (tls rs).length), j < k → Km.has (tls rs)[j].1 (tls rs)[j].2 key.data.toList = false) ∧ Below w.heap.size w wr) (fun i _ => rs.length - (intOf i).toNat)
  case atStart => exact ⟨0, by omega, rfl, (fun j hj h => by omega), Below.refl _ _⟩
  case round =>
    obtain ⟨k, hk, rfl, hall, hbel⟩ := hrel
    have HA := Lib.hid hall
    clear hall
    by_cases hlt : k < rs.length
    · obtain ⟨b, off, rfl, hbl, hc0, hc1⟩ := HR.out.below hbel k hlt
      have HK := Lib.hid (tls_get rs k hlt)
      generalize rs[k].1 = p at hc0 HK
      generalize rs[k].2 = q at hc1 HK
      go_wp2_with fail
      refine (refHas_any p q key _).mono ?_
      rintro e w2 ⟨rfl, hb⟩
      generalize hx : Km.has p.data.toList q.data.toList key.data.toList = x
      have HX := Lib.hid hx
      clear hx
      cases x with
      | true =>
        go_wp2
        go_ret
        refine ⟨ret_int (Km.fidx_hit (by rw [tls_len]; exact hlt) HA.out ?_).symm, bstep hbel hb⟩
        rw [HK.out]
        exact HX.out
      | false =>
        go_wp2
        go_roundw
        case rel =>
          refine ⟨k + 1, by omega, by go_num, (fun j hj h => ?_), bstep hbel hb⟩
          by_cases e : j = k
          · subst e
            rw [HK.out]
            exact HX.out
          · exact HA.out j hj (by omega)
        case measure => simp [intOf]; omega
    · obtain rfl : k = rs.length := by omega
      go_wp2
      go_ret
      exact ⟨ret_int (Km.fidx_none (fun j hj => HA.out j hj (by rw [tls_len] at hj; exact hj))).symm, hbel⟩
end Go.Proofs.Ytfmedinhlmiaeaa
/- What past.Only and the document's Only answer. -/
namespace Go.Proofs.Ytfmedinhlmiaeaa
open Go.RowKit
set_option linter.unusedVariables false
set_option linter.unusedSimpArgs false

/-- Outside all ranges. -/
def outD (rs : List (ByteArray × ByteArray)) (d : De) : Bool := decide (Km.fidx (tls rs) d.1.data.toList < 0)
/-- Those of the ranges. -/
abbrev onlyD (rs : List (ByteArray × ByteArray)) (l : List De) : List De := kept (outD rs) l

set_option maxRecDepth 100000 in
set_option maxHeartbeats 800000 in
theorem onlyC_any (a : Option Addr) (cap : Nat) (rs : List (ByteArray × ByteArray)) (B : Nat) (x : ByteArray) (y z : Int) (w : World) (hl : rs.length ≤ 100) (hr : RngIn w a rs) (hB : B < w.heap.size) (hc : w.cell? ⟨B, 0, none⟩ = some (.slice a rs.length cap)) :
    Calls Try.prog 47 #[.agg #[.string x, .int .i64 y, .int .i64 z], .pointer (some ⟨B, 0, none⟩)] w fun e w' => e = .returned (.bool (outD rs (x, y, z))) ∧ Below w.heap.size w w' := by
  have hne : B ≠ w.heap.size := by omega
  have hc1 : ∀ o, (w.alloc o).cell? ⟨B, 0, none⟩ = some (.slice a rs.length cap) := fun o => (((Below.refl _ w).alloc (Nat.le_refl _) o).cell (p := ⟨B, 0, none⟩) hB).trans hc
  have hb1 : Below w.heap.size w (w.alloc (.cells #[.string x, .int .i64 y, .int .i64 z] 34)) := balloc (Below.refl _ _) _
  have hcon := find_any a cap rs x (w.alloc (.cells #[.string x, .int .i64 y, .int .i64 z] 34)) hl (hr.below hb1)
  unfold outD
  clear hr
  generalize Km.fidx (tls rs) x.data.toList = f at hcon ⊢
  go_enter Try.func47, Try.ntmps47
  go_wp2_with fail
  refine hcon.mono ?_
  rintro e w1 ⟨rfl, hb⟩
  go_wp2
  all_goals
    go_ret
    exact ⟨ret_bool (by simp_all), bstep hb1 hb⟩

set_option maxRecDepth 100000 in
set_option maxHeartbeats 800000 in
theorem only_any (v : Value) (l : List De) (a : Option Addr) (cap : Nat) (rs : List (ByteArray × ByteArray)) (w : World) (hl : l.length ≤ 100000) (hrs : rs.length ≤ 100) (hr : RngIn w a rs) (hv : DepAt w v l) :
    Calls Try.prog 36 #[v, .slice a rs.length cap] w fun e w' => ∃ v', e = .returned v' ∧ OwnD w' (w.heap.size + 1) v' (onlyD rs l) ∧ Below w.heap.size w w' := by
  have hmf : ∀ (fn : Fn) (first cap : Array Value) (w : World), (Instr.makeFunc fn first cap).run Try.prog w = .ok (.func fn first cap) w := fun _ _ _ _ => rfl
  have hcl := clone_any v l (w.alloc (.cells #[.slice a rs.length cap] 36)) hl (hv.alloc _)
  have HR := Lib.hid hr
  obtain ⟨va, vc, rfl, _, _, _, _⟩ := hv
  clear hr
  go_enter Try.func36, Try.ntmps36
  go_wp2_with fail
  refine hcl.mono ?_
  rintro e w1 ⟨v1, rfl, ho1, hb1⟩
  have hb0 : Below w.heap.size w (w.alloc (.cells #[.slice a rs.length cap] 36)) := balloc (Below.refl _ _) _
  have hsz : (w.alloc (.cells #[.slice a rs.length cap] 36)).heap.size = w.heap.size + 1 := by simp
  have hdel := delFunc_any 47 #[.pointer (some ⟨w.heap.size, 0, none⟩)] (enters_of Try.func47 (by kernel_rfl) rfl) (outD rs) v1 (w.heap.size + 1) l w1 (by omega) (by rw [hsz] at ho1; exact ho1) (by have := hb1.size; omega) (fun W d _ hb => by
    have hb1' := hb1
    rw [hsz] at hb1'
    have hW : Below (w.heap.size + 1) (w.alloc (.cells #[.slice a rs.length cap] 36)) W := hb1'.trans hb
    refine onlyC_any a cap rs w.heap.size d.1 d.2.1 d.2.2 W hrs (HR.out.below (hb0.trans (hW.mono (by omega)))) (by have := hW.size; omega) ?_
    rw [hW.cell (p := ⟨w.heap.size, 0, none⟩) (by simp)]
    simp)
  obtain ⟨sa, sc, rfl⟩ := ho1.shape
  clear ho1
  go_wp2_with fail
  refine hdel.mono ?_
  rintro e w2 ⟨v2, rfl, ho2, hb2⟩
  have HO2 := Lib.hid ho2
  obtain ⟨sa2, sc2, rfl⟩ := ho2.shape
  clear ho2
  go_wp2
  go_ret
  exact ⟨_, rfl, HO2.out, bstep hb0 (hb1.trans (hb2.mono (by omega)))⟩

theorem only_step (rs : List (ByteArray × ByteArray)) (l : List De) (k : Nat) (h : k < l.length) : onlyD rs (l.take (k + 1)) = onlyD rs (l.take k) ++ (if outD rs l[k] then [] else [l[k]]) := kept_step _ l k h

set_option maxRecDepth 100000 in
set_option maxHeartbeats 1600000 in
theorem refOnly_any (v : Value) (l : List De) (a : Option Addr) (cap : Nat) (rs : List (ByteArray × ByteArray)) (w : World) (hl : l.length ≤ 100000) (hrs : rs.length ≤ 100) (hr : RngIn w a rs) (hv : DepAt w v l) :
    Calls Try.prog 27 #[v, .slice a rs.length cap] w fun e w' => ∃ u, e = .returned u ∧ DepAt w' u (onlyD rs l) ∧ Below w.heap.size w w' := by
  obtain ⟨va, vc, rfl, _, _, _, hv⟩ := hv
  have HR := Lib.hid hr
  have HV := Lib.hid hv
  clear hr hv
  go_enter Try.func27, Try.ntmps27
  go_wp2
  go_loopw [5, 6] (fun o i wr => ∃ k : Nat, k ≤ l.length ∧ i = .int .i64 k ∧ OwnD wr w.heap.size o (onlyD rs (l.take k)) ∧ Below w.heap.size w wr) (fun _ i _ => l.length - (intOf i).toNat)
  case atStart => exact ⟨0, by omega, rfl, OwnD.nil _ _, Below.refl _ _⟩
  case round =>
    obtain ⟨k, hk, rfl, ho, hbel⟩ := hrel
    obtain ⟨sa, sc, rfl⟩ := ho.shape
    have HO := Lib.hid ho
    clear ho
    by_cases hlt : k < l.length
    · obtain ⟨b, off, rfl, hbl, c0, c1, c2⟩ := HV.out.below hbel k hlt
      have HS := Lib.hid (only_step rs l k hlt)
      have hln : (onlyD rs (l.take k)).length ≤ 100000 := by
        have h1 : (onlyD rs (l.take k)).length ≤ (l.take k).length := List.length_filter_le _ _
        have h2 : (l.take k).length ≤ l.length := by simp; omega
        omega
      generalize l[k] = d at c0 c1 c2 HS
      obtain ⟨x, y, z⟩ := d
      dsimp only at c0 c1 c2
      generalize onlyD rs (l.take k) = q at HO HS hln
      have hfnd := refFind_any a cap rs x wr hrs (HR.out.below hbel)
      have hbs : w.heap.size ≤ wr.heap.size := hbel.size
      unfold outD at HS
      dsimp only at HS
      generalize hf : Km.fidx (tls rs) x.data.toList = f at hfnd HS
      clear hf
      by_cases hneg : f < 0
      · have hd1 : decide (0 ≤ f) = false := by simp; omega
        have hd2 : ¬ (0 ≤ f) := by omega
        go_wp2_with fail
        refine hfnd.mono ?_
        rintro e w2 ⟨rfl, hb2⟩
        go_wp2
        go_roundw
        case rel => exact ⟨k + 1, by omega, by go_num, by rw [HS.out]; simp [hneg]; exact OwnD.below HO.out hb2, bstep hbel hb2⟩
        case measure => simp [intOf]; omega
      · have hd1 : decide (0 ≤ f) = true := by simp; omega
        have hd2 : (0 ≤ f) := by omega
        go_wp2_with fail
        refine hfnd.mono ?_
        rintro e w2 ⟨rfl, hb2⟩
        have e0 := kc hb2 c0
        have e1 := kc hb2 c1
        have e2 := kc hb2 c2
        have HO2 := Lib.hid (OwnD.below HO.out hb2)
        have hbs2 : w.heap.size ≤ w2.heap.size := by have := hb2.size; omega
        go_wp2_with (at_builtin; refine wp_pushD (wr := w2) rfl _ _ rfl w.heap.size (.slice sa q.length sc) q x y z rfl HO2.out rfl (by omega) hbs2 ?_; intro g gcap w4 ho4 hb4 hk4 hg4)
        go_roundw
        case rel => exact ⟨k + 1, by omega, by go_num, by rw [HS.out]; simp only [decide_eq_true_eq, if_neg (Int.not_lt.2 hneg)]; exact ho4, (bstep hbel hb2).trans hb4⟩
        case measure => simp [intOf]; omega
    · obtain rfl : k = l.length := by omega
      go_wp2
      go_ret
      refine ⟨_, rfl, ?_, hbel⟩
      have h := DepAt.of_own HO.out
      rw [List.take_length] at h ⊢
      exact h
end Go.Proofs.Ytfmedinhlmiaeaa
