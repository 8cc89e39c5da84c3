/- What the law's own helper 'same' answers of two rows that are the same; rows that came in, as rows of numbers. -/
import Derived.Test.YtpmebbamkkoakaaVarySplit
import Derived.Test.YtpmebbamkkoakaaOpen
namespace Go.Proofs.Ytpmebbamkkoakaa
open Go.RowKit
set_option linter.unusedVariables false

/-- Only draws lie between. -/
def Drew (w w' : World) : Prop := ∃ n, w' = w.drewN n
theorem Drew.below {w w' : World} (h : Drew w w') : Below w.heap.size w w' := by
  obtain ⟨n, rfl⟩ := h
  exact below_drewN (Below.refl _ _) n
theorem U64s.drewN {w : World} {a : Option Addr} {zs : List Nat} (h : U64s w a zs) (n : Nat) : U64s (w.drewN n) a zs := h
theorem U64s.below {w w' : World} {a : Option Addr} {zs : List Nat} (h : U64s w a zs) (hb : Below w.heap.size w w') : U64s w' a zs := by
  refine ⟨h.1, fun i hi => ?_⟩
  obtain ⟨b, off, rfl, hc⟩ := h.2 i hi
  exact ⟨b, off, rfl, (hb.cell (p := ⟨b, off + i, none⟩) (lt_of_cell? hc)).trans hc⟩
theorem U64s.take {w : World} {a : Option Addr} {zs : List Nat} (h : U64s w a zs) (n : Nat) : U64s w a (zs.take n) := by
  refine ⟨fun z hz => h.1 z (List.mem_of_mem_take hz), fun i hi => ?_⟩
  have hi' : i < zs.length := by simp at hi; omega
  obtain ⟨b, off, rfl, hc⟩ := h.2 i hi'
  exact ⟨b, off, rfl, by simpa using hc⟩

theorem isRow_nums {w : World} {a : Option Addr} {len cap : Nat} {zs : List Int} (h : IsRow .u64 w a len cap zs) : ∃ ns : List Nat, ns.length = len ∧ U64s w a ns ∧ len ≤ cap ∧ cap ≤ 9223372036854775807 := by
  rcases h with ⟨rfl, rfl, rfl, rfl⟩ | ⟨x, rfl, hl, hm, hz, hcell, hwz⟩
  · exact ⟨[], rfl, ⟨by simp, fun i hi => absurd hi (by simp)⟩, by omega, by omega⟩
  · refine ⟨(zs.take len).map Int.toNat, by simp; omega, ⟨?_, fun i hi => ?_⟩, hl, hm⟩
    · intro z hz'
      obtain ⟨y, hy, rfl⟩ := List.mem_map.1 hz'
      have := bounds_u64 (hwz y (List.mem_of_mem_take hy))
      omega
    · have hi' : i < zs.length := by simp at hi; omega
      obtain ⟨b, off, spot⟩ := x
      have hc := hcell i hi'
      have hspot : spot = none := by simpa [Addr.add] using World.cell?_spot (hcell 0 (by omega))
      subst hspot
      refine ⟨b, off, rfl, ?_⟩
      rw [Addr.add_lit] at hc
      have hy := bounds_u64 (hwz zs[i] (by simp))
      simp only [List.getElem_map, List.getElem_take]
      rw [Int.toNat_of_nonneg hy.1, hc]
      simp [hi']

set_option maxRecDepth 100000 in
theorem same_eq (a b : Option Addr) (ca cb : Nat) (zs : List Nat) (w : World) (ha : U64s w a zs) (hb : U64s w b zs) (hl : zs.length ≤ 1099511627776) :
    Calls Try.prog 26 #[.slice a zs.length ca, .slice b zs.length cb] w fun e w' => e = .returned (.bool true) ∧ Drew w w' := by
  have HA := Lib.hid ha
  have HB := Lib.hid hb
  clear ha hb
  go_enter Try.func26, Try.ntmps26
  go_wp2
  go_loopw [5] (fun i wr => ∃ k n : Nat, k ≤ zs.length ∧ i = .int .i64 k ∧ wr = w.drewN n) (fun i _ => zs.length - (intOf i).toNat)
  case atStart => exact ⟨0, 0, by omega, rfl, rfl⟩
  case round =>
    obtain ⟨k, n, hk, rfl, rfl⟩ := hrel
    by_cases hlt : k < zs.length
    · obtain ⟨b1, o1, rfl, hc1⟩ := HA.out.2 k hlt
      obtain ⟨b2, o2, rfl, hc2⟩ := HB.out.2 k hlt
      go_wp2_with fail
      go_quiet (fail)
      go_wp2
      go_roundw
      case rel => exact ⟨k + 1, _, by omega, by go_num, rfl⟩
      case measure => simp [intOf]; omega
    · go_wp2
      go_ret
      exact ⟨rfl, n, rfl⟩

theorem same_at (a b : Option Addr) (la lb ca cb : Nat) (zs : List Nat) (w : World) (hla : zs.length = la) (hlb : zs.length = lb) (ha : U64s w a zs) (hb : U64s w b zs) (hl : zs.length ≤ 1099511627776) :
    Calls Try.prog 26 #[.slice a la ca, .slice b lb cb] w fun e w' => e = .returned (.bool true) ∧ Drew w w' := by
  subst hla hlb
  exact same_eq a b ca cb zs w ha hb hl

end Go.Proofs.Ytpmebbamkkoakaa
