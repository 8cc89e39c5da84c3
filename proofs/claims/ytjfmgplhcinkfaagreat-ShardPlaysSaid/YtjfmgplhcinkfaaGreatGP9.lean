/- Texts of this proof, one behind the other: KeysRng, KeysFidx, KeysFind, ShMath, ChHead, PastFind, PastGet, PastBack, Round, ChBack. -/
import Derived.Test.YtjfmgplhcinkfaaGreatGP8
import Derived.Shelf.GgClosure.Gives
import Derived.RangeFuncNested
import Derived.RangeFuncBound
import Derived.RangeFuncCalls
import Derived.RangeFuncLeaves
import Derived.Shelf.Abstract
import Derived.Shelf.RegionOpen
import Derived.WalkKit
import Derived.OwnWalkIn
import Derived.TacticsInMore
import Derived.LoopNIn
import Derived.LoopIn
import Derived.Maps.OwnIn
import Derived.Maps.AppendAt
import Derived.CallsIn
import Derived.OrdersIn
import Derived.OrdersHeld
import Derived.Deep.RegionHeld3
/- Rows of ranges in memory. -/
namespace Go.Proofs.YtjfmgplhcinkfaaGreat
open Go.RowKit
set_option linter.unusedVariables false

theorem RngIn.below {w w' : World} {a : Option Addr} {rs : List (ByteArray × ByteArray)} (h : RngIn w a rs) (hb : Below w.heap.size w w') : RngIn w' a rs := by
  intro i hi
  obtain ⟨b, off, rfl, hlt, h0, h1⟩ := h i hi
  exact ⟨b, off, rfl, by have := hb.size; omega, kcell hb hlt h0, kcell hb hlt h1⟩

/-- The texts of ranges. -/
def tls (rs : List (ByteArray × ByteArray)) : List (List UInt8 × List UInt8) := rs.map fun r => (r.1.data.toList, r.2.data.toList)
theorem tls_len (rs : List (ByteArray × ByteArray)) : (tls rs).length = rs.length := by simp [tls]
theorem tls_get (rs : List (ByteArray × ByteArray)) (i : Nat) (h : i < rs.length) : (tls rs)[i]'(by rw [tls_len]; exact h) = (rs[i].1.data.toList, rs[i].2.data.toList) := by simp [tls]
theorem tls_take (rs : List (ByteArray × ByteArray)) (k : Nat) : (tls rs).take k = tls (rs.take k) := by simp [tls, List.map_take]

end Go.Proofs.YtjfmgplhcinkfaaGreat
/- The place of the first range that has a key. -/
namespace Go.Proofs.YtjfmgplhcinkfaaGreat
open Go.RowKit
set_option linter.unusedVariables false

namespace Km
def fidx (rs : List (List UInt8 × List UInt8)) (key : List UInt8) : Int := match rs.findIdx? (fun r => has r.1 r.2 key) with | none => -1 | some i => i
theorem fidx_hit {rs : List (List UInt8 × List UInt8)} {key : List UInt8} {k : Nat} (hk : k < rs.length) (h : ∀ j (hj : j < rs.length), j < k → has rs[j].1 rs[j].2 key = false) (hh : has rs[k].1 rs[k].2 key = true) : fidx rs key = k := by
  unfold fidx
  have : rs.findIdx? (fun r => has r.1 r.2 key) = some k := by
    rw [List.findIdx?_eq_some_iff_getElem]
    refine ⟨hk, by simpa using hh, fun j hj => ?_⟩
    rw [h j (by omega) hj]
    simp
  rw [this]
theorem fidx_none {rs : List (List UInt8 × List UInt8)} {key : List UInt8} (h : ∀ j (hj : j < rs.length), has rs[j].1 rs[j].2 key = false) : fidx rs key = -1 := by
  unfold fidx
  have : rs.findIdx? (fun r => has r.1 r.2 key) = none := by
    rw [List.findIdx?_eq_none_iff]
    intro x hx
    obtain ⟨j, hj, rfl⟩ := List.getElem_of_mem hx
    exact h j hj
  rw [this]
end Km
end Go.Proofs.YtjfmgplhcinkfaaGreat
/- What keys.Find answers, and the document's. -/
namespace Go.Proofs.YtjfmgplhcinkfaaGreat
open Go.RowKit
set_option linter.unusedVariables false

set_option maxRecDepth 100000 in
theorem findIn_any (f t key : ByteArray) (B : Nat) (w : World) (hB : B < w.heap.size) (hc : w.cell? ⟨B, 0, none⟩ = some (.string key)) :
    Calls Tryz.prog 71 #[.agg #[.string f, .string t], .pointer (some ⟨B, 0, none⟩)] w fun e w' => e = .returned (.bool (Km.has f.data.toList t.data.toList key.data.toList)) ∧ Below w.heap.size w w' := by
  have hne : B ≠ w.heap.size := by omega
  have hc1 : ∀ o, (w.alloc o).cell? ⟨B, 0, none⟩ = some (.string key) := fun o => (((Below.refl _ w).alloc (Nat.le_refl _) o).cell (p := ⟨B, 0, none⟩) hB).trans hc
  go_enter Tryz.func71, Tryz.ntmps71
  go_wp2_with fail
  refine (has_any f t key _).mono ?_
  rintro e w1 ⟨rfl, hb⟩
  generalize hx : Km.has f.data.toList t.data.toList key.data.toList = x
  have HX := Lib.hid hx
  clear hx
  go_wp2
  go_ret
  exact ⟨ret_bool HX.out.symm, (balloc (Below.refl _ w) _).trans (hb.mono (by simp))⟩

set_option maxRecDepth 100000 in
set_option maxHeartbeats 800000 in
theorem indexFunc_any (a : Option Addr) (cap : Nat) (rs : List (ByteArray × ByteArray)) (key : ByteArray) (B : Nat) (w : World) (hl : rs.length ≤ 100) (hr : RngIn w a rs) (hB : B < w.heap.size) (hc : w.cell? ⟨B, 0, none⟩ = some (.string key)) :
    Calls Tryz.prog 70 #[.slice a rs.length cap, .func (.func 71) #[] #[.pointer (some ⟨B, 0, none⟩)]] w fun e w' => e = .returned (.int .i64 (Km.fidx (tls rs) key.data.toList)) ∧ Below w.heap.size w w' := by
  have HR := Lib.hid hr
  clear hr
  go_enter Tryz.func70, Tryz.ntmps70
  go_wp2
  go_loopw [8] (fun i wr => ∃ k : Nat, k ≤ rs.length ∧ i = .int .i64 k ∧ (∀ j (hj : j < (tls rs).length), j < k → Km.has (tls rs)[j].1 (tls rs)[j].2 key.data.toList = false) ∧ Below w.heap.size w wr) (fun i _ => rs.length - (intOf i).toNat)
  case atStart => exact ⟨0, by omega, rfl, (fun j hj h => by omega), Below.refl _ _⟩
  case round =>
    obtain ⟨k, hk, rfl, hall, hbel⟩ := hrel
    have HA := Lib.hid hall
    clear hall
    by_cases hlt : k < rs.length
    · obtain ⟨b, off, rfl, hbl, hc0, hc1⟩ := HR.out.below hbel k hlt
      have HK := Lib.hid (tls_get rs k hlt)
      generalize rs[k].1 = p at hc0 HK
      generalize rs[k].2 = q at hc1 HK
      go_wp2_with fail
      refine (findIn_any p q key B _ (by have := hbel.size; omega) (kcell hbel hB hc)).mono ?_
      rintro e w2 ⟨rfl, hb⟩
      generalize hx : Km.has p.data.toList q.data.toList key.data.toList = x
      have HX := Lib.hid hx
      clear hx
      cases x with
      | true =>
        go_wp2
        go_ret
        refine ⟨ret_int (Km.fidx_hit (by rw [tls_len]; exact hlt) HA.out ?_).symm, bstep hbel hb⟩
        rw [HK.out]
        exact HX.out
      | false =>
        go_wp2
        go_roundw
        case rel =>
          refine ⟨k + 1, by omega, by go_num, (fun j hj h => ?_), bstep hbel hb⟩
          by_cases e : j = k
          · subst e
            rw [HK.out]
            exact HX.out
          · exact HA.out j hj (by omega)
        case measure => simp [intOf]; omega
    · obtain rfl : k = rs.length := by omega
      go_wp2
      go_ret
      exact ⟨ret_int (Km.fidx_none (fun j hj => HA.out j hj (by rw [tls_len] at hj; exact hj))).symm, hbel⟩

set_option maxRecDepth 100000 in
set_option maxHeartbeats 800000 in
theorem find_any (a : Option Addr) (cap : Nat) (rs : List (ByteArray × ByteArray)) (key : ByteArray) (w : World) (hl : rs.length ≤ 100) (hr : RngIn w a rs) :
    Calls Tryz.prog 52 #[.slice a rs.length cap, .string key] w fun e w' => e = .returned (.int .i64 (Km.fidx (tls rs) key.data.toList)) ∧ Below w.heap.size w w' := by
  have hmf : ∀ (fn : Fn) (first cap : Array Value) (w : World), (Instr.makeFunc fn first cap).run Tryz.prog w = .ok (.func fn first cap) w := fun _ _ _ _ => rfl
  have hra : ∀ o, RngIn (w.alloc o) a rs := fun o => hr.below ((Below.refl _ w).alloc (Nat.le_refl _) o)
  have HRA := Lib.hid hra
  clear hra hr
  go_enter Tryz.func52, Tryz.ntmps52
  go_wp2_with fail
  refine (indexFunc_any a cap rs key w.heap.size _ hl (HRA.out _) (by simp) (by simp)).mono ?_
  rintro e w1 ⟨rfl, hb⟩
  generalize hx : Km.fidx (tls rs) key.data.toList = x
  have HX := Lib.hid hx
  clear hx
  go_wp2
  go_ret
  exact ⟨ret_int HX.out.symm, (balloc (Below.refl _ w) _).trans (hb.mono (by simp))⟩

set_option maxRecDepth 100000 in
set_option maxHeartbeats 800000 in
theorem refFind_any (a : Option Addr) (cap : Nat) (rs : List (ByteArray × ByteArray)) (key : ByteArray) (w : World) (hl : rs.length ≤ 100) (hr : RngIn w a rs) :
    Calls Tryz.prog 38 #[.slice a rs.length cap, .string key] w fun e w' => e = .returned (.int .i64 (Km.fidx (tls rs) key.data.toList)) ∧ Below w.heap.size w w' := by
  have HR := Lib.hid hr
  clear hr
  go_enter Tryz.func38, Tryz.ntmps38
  go_wp2
  go_loopw [5] (fun i wr => ∃ k : Nat, k ≤ rs.length ∧ i = .int .i64 k ∧ (∀ j (hj : j < (tls rs).length), j < k → Km.has (tls rs)[j].1 (tls rs)[j].2 key.data.toList = false) ∧ Below w.heap.size w wr) (fun i _ => rs.length - (intOf i).toNat)
  case atStart => exact ⟨0, by omega, rfl, (fun j hj h => by omega), Below.refl _ _⟩
  case round =>
    obtain ⟨k, hk, rfl, hall, hbel⟩ := hrel
    have HA := Lib.hid hall
    clear hall
    by_cases hlt : k < rs.length
    · obtain ⟨b, off, rfl, hbl, hc0, hc1⟩ := HR.out.below hbel k hlt
      have HK := Lib.hid (tls_get rs k hlt)
      generalize rs[k].1 = p at hc0 HK
      generalize rs[k].2 = q at hc1 HK
      go_wp2_with fail
      refine (refHas_any p q key _).mono ?_
      rintro e w2 ⟨rfl, hb⟩
      generalize hx : Km.has p.data.toList q.data.toList key.data.toList = x
      have HX := Lib.hid hx
      clear hx
      cases x with
      | true =>
        go_wp2
        go_ret
        refine ⟨ret_int (Km.fidx_hit (by rw [tls_len]; exact hlt) HA.out ?_).symm, bstep hbel hb⟩
        rw [HK.out]
        exact HX.out
      | false =>
        go_wp2
        go_roundw
        case rel =>
          refine ⟨k + 1, by omega, by go_num, (fun j hj h => ?_), bstep hbel hb⟩
          by_cases e : j = k
          · subst e
            rw [HK.out]
            exact HX.out
          · exact HA.out j hj (by omega)
        case measure => simp [intOf]; omega
    · obtain rfl : k = rs.length := by omega
      go_wp2
      go_ret
      exact ⟨ret_int (Km.fidx_none (fun j hj => HA.out j hj (by rw [tls_len] at hj; exact hj))).symm, hbel⟩
end Go.Proofs.YtjfmgplhcinkfaaGreat
/- What a shard keeps: plain mathematics. -/
namespace Go.Proofs.YtjfmgplhcinkfaaGreat
open Go.RowKit
set_option linter.unusedVariables false
set_option linter.unusedSimpArgs false

/-- A chain for each key. -/
abbrev Ch := ByteArray → List Vw
/-- The keys that have versions, in order. -/
def KeyL (F : Ch) (L : List ByteArray) : Prop := Km.rises (L.map bts) ∧ ∀ k, k ∈ L ↔ F k ≠ []
theorem bts_inj {a b : ByteArray} (h : bts a = bts b) : a = b := ba_inj h
theorem mem_bts {L : List ByteArray} {k : ByteArray} : bts k ∈ L.map bts ↔ k ∈ L := by
  rw [List.mem_map]
  exact ⟨fun ⟨s, hs, e⟩ => bts_inj e ▸ hs, fun h => ⟨k, h, rfl⟩⟩
theorem map_bts_inj : ∀ {L M : List ByteArray}, L.map bts = M.map bts → L = M
  | [], [], _ => rfl
  | [], _ :: _, h => by simp at h
  | _ :: _, [], h => by simp at h
  | a :: L, b :: M, h => by
    rw [List.map_cons, List.map_cons] at h
    injection h with h1 h2
    rw [bts_inj h1, map_bts_inj h2]
theorem rises_eq {L M : List ByteArray} (hl : Km.rises (L.map bts)) (hm : Km.rises (M.map bts)) (h : ∀ k, k ∈ L ↔ k ∈ M) : L = M := by
  refine map_bts_inj (Km.rises_uniq _ _ hl hm fun x => ?_)
  have := h ⟨x.toArray⟩
  rw [← mem_bts, ← mem_bts, bts_mk] at this
  exact this
theorem KeyL.uniq {F : Ch} {L M : List ByteArray} (h : KeyL F L) (h' : KeyL F M) : L = M := rises_eq h.1 h'.1 (fun k => (h.2 k).trans (h'.2 k).symm)
theorem compact_lenS (l : List (List UInt8)) : (Lib.compact l).length ≤ l.length := by
  unfold Lib.compact Lib.compactUpTo
  rw [List.length_map]
  have := List.length_filter_le (Lib.keeps l.toArray) (List.range l.length)
  simpa using this
theorem keyL_of {F : Ch} (X : List ByteArray) (h : ∀ k, k ∈ X ↔ F k ≠ []) : ∃ L, KeyL F L ∧ L.length ≤ X.length := by
  obtain ⟨h1, h2⟩ := Km.compact_sorted (X.map bts)
  have h3 := compact_lenS ((X.map bts).mergeSort fun x y => decide (x ≤ y))
  rw [List.length_mergeSort, List.length_map] at h3
  generalize Lib.compact ((X.map bts).mergeSort fun x y => decide (x ≤ y)) = bs at h1 h2 h3
  have hb : (bs.map fun x => (⟨x.toArray⟩ : ByteArray)).map bts = bs := by
    rw [List.map_map]
    conv => rhs; rw [← List.map_id bs]
    rfl
  refine ⟨bs.map fun x => ⟨x.toArray⟩, ⟨by rw [hb]; exact h1, fun k => ?_⟩, by rw [List.length_map]; exact h3⟩
  rw [← mem_bts, hb, h2, mem_bts, h]
theorem KeyL.nil : KeyL (fun _ => []) [] := ⟨List.Pairwise.nil, by simp⟩
def updF (F : Ch) (k : ByteArray) (c : List Vw) : Ch := fun d => if d = k then c else F d
theorem updF_same (F : Ch) (k : ByteArray) (c : List Vw) : updF F k c k = c := by simp [updF]
theorem updF_other (F : Ch) {k d : ByteArray} (c : List Vw) (h : d ≠ k) : updF F k c d = F d := by simp [updF, h]
theorem KeyL.upd {F : Ch} {L : List ByteArray} (h : KeyL F L) (k : ByteArray) {c : List Vw} (hc : c ≠ []) : ∃ M, KeyL (updF F k c) M ∧ M.length ≤ L.length + 1 := by
  refine keyL_of (k :: L) fun d => ?_
  rw [List.mem_cons]
  by_cases e : d = k
  · rw [e, updF_same]
    simp [hc]
  · rw [updF_other _ _ e, h.2]
    simp [e]
theorem KeyL.same {F F' : Ch} {L : List ByteArray} (h : KeyL F L) (e : ∀ k, F k = [] ↔ F' k = []) : KeyL F' L := ⟨h.1, fun k => (h.2 k).trans (not_congr (e k))⟩
/-- What is left of the keys. -/
def cutF (F : Ch) (p : ByteArray → Bool) : Ch := fun d => if p d = true then F d else []
theorem KeyL.cut {F : Ch} {L : List ByteArray} (h : KeyL F L) (p : ByteArray → Bool) : KeyL (cutF F p) (L.filter p) := by
  refine ⟨h.1.sublist ((List.filter_sublist (l := L)).map bts), fun k => ?_⟩
  rw [List.mem_filter, h.2]
  unfold cutF
  cases e : p k <;> simp
theorem KeyL.nodup {F : Ch} {L : List ByteArray} (h : KeyL F L) : (L.map bts).Nodup := rises_nodup h.1
theorem KeyL.nd {F : Ch} {L : List ByteArray} (h : KeyL F L) : L.Nodup := (List.pairwise_map.1 h.nodup).imp (fun h e => h (by rw [e]))
/-- The stamps that are pinned of a key. -/
def pinsOf (pins : List De) (k : ByteArray) : List (Int × Int) := (pins.filter fun d => decide (d.1 = k)).map (·.2)
theorem pinsOf_nil (k : ByteArray) : pinsOf [] k = [] := rfl
theorem pinsOf_snoc_same (pins : List De) (d : De) : pinsOf (pins ++ [d]) d.1 = pinsOf pins d.1 ++ [d.2] := by simp [pinsOf, List.filter_append]
theorem pinsOf_snoc_other (pins : List De) (d : De) {k : ByteArray} (h : d.1 ≠ k) : pinsOf (pins ++ [d]) k = pinsOf pins k := by simp [pinsOf, List.filter_append, h]
theorem pinsOf_mem {pins : List De} {k : ByteArray} {s : Int × Int} : s ∈ pinsOf pins k ↔ (k, s) ∈ pins := by
  simp only [pinsOf, List.mem_map, List.mem_filter, decide_eq_true_eq]
  constructor
  · rintro ⟨d, ⟨h1, h2⟩, rfl⟩
    rw [← h2]
    exact h1
  · intro h
    exact ⟨(k, s), ⟨h, rfl⟩, rfl⟩
theorem pinsOf_len (pins : List De) (k : ByteArray) : (pinsOf pins k).length ≤ pins.length := by
  unfold pinsOf
  rw [List.length_map]
  exact List.length_filter_le _ _
/-- What Clean leaves. -/
def cleanF (F : Ch) (s : Int × Int) (pins : List De) : Ch := fun k => cleanL (F k) s (pinsOf pins k)
theorem clean_ne {c : List Vw} {s : Int × Int} {pins : List (Int × Int)} : cleanL c s pins = [] ↔ c = [] := by
  have := clean_head (c := c) (s := s) (pins := pins)
  rw [← List.getLast?_eq_none_iff, this, List.getLast?_eq_none_iff]
/-- Those that are cleaned, of the first keys. -/
def inL (L : List ByteArray) (k : ByteArray) : Bool := L.any fun d => decide (d = k)
theorem inL_iff {L : List ByteArray} {k : ByteArray} : inL L k = true ↔ k ∈ L := by
  unfold inL
  rw [List.any_eq_true]
  exact ⟨fun ⟨d, h1, h2⟩ => by rw [← of_decide_eq_true h2]; exact h1, fun h => ⟨k, h, by simp⟩⟩
theorem inL_no {L : List ByteArray} {k : ByteArray} (h : k ∉ L) : ¬ inL L k = true := fun e => h (inL_iff.1 e)
def cleanI (F : Ch) (s : Int × Int) (pins : List De) (L : List ByteArray) (i : Nat) : Ch := fun k => if inL (L.take i) k = true then cleanL (F k) s (pinsOf pins k) else F k
theorem cleanI_zero (F : Ch) (s : Int × Int) (pins : List De) (L : List ByteArray) : cleanI F s pins L 0 = F := by
  funext k
  simp [cleanI, inL]
theorem cleanI_succ {F : Ch} {s : Int × Int} {pins : List De} {L : List ByteArray} (hn : L.Nodup) {i : Nat} (h : i < L.length) : cleanI F s pins L (i + 1) = updF (cleanI F s pins L i) L[i] (cleanL (F L[i]) s (pinsOf pins L[i])) ∧ cleanI F s pins L i L[i] = F L[i] := by
  have hni : L[i] ∉ L.take i := by
    intro hm
    obtain ⟨j, hj, e⟩ := List.getElem_of_mem hm
    rw [List.getElem_take] at e
    have hj' : j < i := by simp at hj; omega
    exact absurd e (List.pairwise_iff_getElem.1 hn j i (by omega) h hj')
  refine ⟨?_, by unfold cleanI; rw [if_neg (inL_no hni)]⟩
  funext k
  unfold cleanI updF
  rw [List.take_succ_eq_append_getElem h]
  dsimp only
  by_cases e : k = L[i]
  · rw [if_pos e, if_pos (inL_iff.2 (List.mem_append_right _ (by rw [e]; exact List.mem_singleton_self _))), e]
  · rw [if_neg e]
    by_cases hk : k ∈ L.take i
    · rw [if_pos (inL_iff.2 hk), if_pos (inL_iff.2 (List.mem_append_left _ hk))]
    · rw [if_neg (inL_no hk), if_neg (inL_no (fun hm => by
        rcases List.mem_append.1 hm with h1 | h1
        · exact hk h1
        · exact e (by simpa using h1)))]
theorem cleanI_all {F : Ch} {s : Int × Int} {pins : List De} {L : List ByteArray} (hk : KeyL F L) : cleanI F s pins L L.length = cleanF F s pins := by
  funext k
  unfold cleanI cleanF
  rw [List.take_length]
  by_cases h : k ∈ L
  · rw [if_pos (inL_iff.2 h)]
  · rw [if_neg (inL_no h)]
    have : F k = [] := by
      by_cases e : F k = []
      · exact e
      · exact absurd ((hk.2 k).2 e) h
    rw [this]
    rfl
/-- What Put leaves. -/
theorem midC_ne (c : List Vw) (x : Vw) : midC c x ≠ [] := by simp [midC]
def ownsK (R : List (ByteArray × ByteArray)) (k : ByteArray) : Bool := decide (0 ≤ Km.fidx (tls R) (bts k))
def putF (R : List (ByteArray × ByteArray)) (F : Ch) (x : Vw) : Ch := if ownsK R x.1.key && putOk (F x.1.key) x then updF F x.1.key (midC (F x.1.key) x) else F
end Go.Proofs.YtjfmgplhcinkfaaGreat
/- What chain.Head answers; the closures over a stamp. -/
namespace Go.Proofs.YtjfmgplhcinkfaaGreat
open Go.RowKit
set_option linter.unusedVariables false
set_option linter.unusedSimpArgs false

set_option maxRecDepth 100000 in
set_option maxHeartbeats 800000 in
theorem chead_any (v : Value) (xs : List Vw) (w : World) (hl : xs.length ≤ 1000000) (hr : WRow w v xs) :
    Calls Tryz.prog 44 #[v] w fun e w' => e = .returned (.tuple #[wV (xs.getLast?.getD vw0), .bool xs.getLast?.isSome]) ∧ Below w.heap.size w w' := by
  have HR := Lib.hid hr
  obtain ⟨a, cap, rfl, hcap, hmx, hnil⟩ := hr.shape
  clear hr
  by_cases h0 : xs.length = 0
  · obtain rfl : xs = [] := List.length_eq_zero_iff.1 h0
    clear h0 hl
    go_enter Tryz.func44, Tryz.ntmps44
    go_wp2
    refine bodyPost_ret (v := .tuple #[.agg #[.string ⟨#[]⟩, .string ⟨#[]⟩, .bool false, .int .i64 0, .int .i64 0, .slice none 0 0], .bool false]) (by simp [results, Tryz.results44, go_sem]) rfl ⟨rfl, ?_⟩
    exact balloc (Below.refl _ w) _
  · obtain ⟨n, hn⟩ : ∃ n, xs.length = n + 1 := ⟨xs.length - 1, by omega⟩
    have hg : xs.getLast? = some (xs[n]'(by omega)) := by
      rw [List.getLast?_eq_getElem?, List.getElem?_eq_getElem (by omega)]
      congr 2
      omega
    obtain ⟨b, off, rfl, hbl, hq, _⟩ := (HR.out.below (balloc (Below.refl _ w) (.cells (wvs wz (.slice none 0 0)) 36))).at n (by omega)
    have HG := Lib.hid hg
    clear hg HR
    generalize xs[n]'(by omega) = x at HG hq
    obtain ⟨c0, c1, c2, c3, c4, c5⟩ := hq
    obtain ⟨⟨key, val, gone, ⟨k, s⟩, past⟩, pa, pc⟩ := x
    dsimp only [wvs, wz, pw] at c0 c1 c2 c3 c4 c5
    have hi1 : (0 : Int) ≤ ((n + 1 : Nat) : Int) - 1 := by omega
    go_enter Tryz.func44, Tryz.ntmps44
    go_wp2
    refine bodyPost_ret (v := .tuple #[.agg #[.string key, .string val, .bool gone, .int .i64 k, .int .i64 s, .slice pa past.length pc], .bool true]) (by simp [results, Tryz.results44, go_sem]) rfl ⟨?_, balloc (Below.refl _ w) _⟩
    rw [HG.out]
    rfl

/-- What is asked of a predicate over versions that may make memory. -/
def PredW (g : Nat) (lb : Array Value) (p : Vw → Bool) (l : List Vw) (base : Nat) (w : World) : Prop :=
  ∀ (W : World) (x : Vw), x ∈ l → Below base w W → Calls Tryz.prog g (#[wV x] ++ lb) W fun e w' => e = .returned (.bool (p x)) ∧ Below W.heap.size W w'

set_option maxRecDepth 100000 in
set_option maxHeartbeats 800000 in
theorem notAfterC_any (s : Int × Int) (B : Nat) (x : Vw) (w : World) (h0 : w.cell? ⟨B, 0, none⟩ = some (.int .i64 s.1)) (h1 : w.cell? ⟨B, 1, none⟩ = some (.int .i64 s.2)) :
    Calls Tryz.prog 77 #[wV x, .pointer (some ⟨B, 0, none⟩)] w fun e w' => e = .returned (.bool (notA s x)) ∧ Below w.heap.size w w' := by
  unfold notA
  obtain ⟨⟨key, val, gone, ⟨n, t⟩, past⟩, pa, pc⟩ := x
  obtain ⟨m, q⟩ := s
  dsimp only [wV, wcs, wvs, pw] at *
  have hb1 : Below w.heap.size w (w.alloc (.cells #[.string key, .string val, .bool gone, .int .i64 n, .int .i64 t, .slice pa past.length pc] 36)) := balloc (Below.refl _ w) _
  have h0' := kc hb1 h0
  have h1' := kc hb1 h1
  have hne : B ≠ w.heap.size := by have := lt_of_cellN h0; omega
  clear h0 h1
  go_enter Tryz.func77, Tryz.ntmps77
  go_wp2_with fail
  refine (less_any m q n t _).mono ?_
  rintro e w1 ⟨rfl, hb⟩
  go_wp2
  go_ret
  exact ⟨rfl, bstep hb1 hb⟩

set_option maxRecDepth 100000 in
set_option maxHeartbeats 800000 in
theorem atC_any (s : Int × Int) (B : Nat) (x : Vw) (w : World) (h0 : w.cell? ⟨B, 0, none⟩ = some (.int .i64 s.1)) (h1 : w.cell? ⟨B, 1, none⟩ = some (.int .i64 s.2)) :
    Calls Tryz.prog 55 #[wV x, .pointer (some ⟨B, 0, none⟩)] w fun e w' => e = .returned (.bool (isS s x)) ∧ Below w.heap.size w w' := by
  unfold isS
  have heq := eq_stamp
  obtain ⟨⟨key, val, gone, ⟨n, t⟩, past⟩, pa, pc⟩ := x
  obtain ⟨m, q⟩ := s
  dsimp only [wV, wcs, wvs, pw] at *
  have heq1 := fun w' => heq w' n t m q
  clear heq
  have hb1 : Below w.heap.size w (w.alloc (.cells #[.string key, .string val, .bool gone, .int .i64 n, .int .i64 t, .slice pa past.length pc] 36)) := balloc (Below.refl _ w) _
  have h0' := kc hb1 h0
  have h1' := kc hb1 h1
  have hne : B ≠ w.heap.size := by have := lt_of_cellN h0; omega
  generalize decide ((n, t) = (m, q)) = r at heq1 ⊢
  clear h0 h1
  go_enter Tryz.func55, Tryz.ntmps55
  go_wp2
  go_ret
  exact ⟨rfl, hb1⟩

/-- The closure over a stamp. -/
theorem notAfter_any (s : Int × Int) (w : World) :
    Calls Tryz.prog 57 #[sv s] w fun e w' => e = .returned (.func (.func 77) #[] #[.pointer (some ⟨w.heap.size, 0, none⟩)]) ∧ w' = w.alloc (.cells #[.int .i64 s.1, .int .i64 s.2] 33) := by
  obtain ⟨m, q⟩ := s
  have hmf : ∀ (fn : Fn) (first cap : Array Value) (w : World), (Instr.makeFunc fn first cap).run Tryz.prog w = .ok (.func fn first cap) w := fun _ _ _ _ => rfl
  go_enter Tryz.func57, Tryz.ntmps57
  go_wp2
  go_ret
  exact ⟨rfl, rfl⟩
end Go.Proofs.YtjfmgplhcinkfaaGreat
/- What slices.IndexFunc and slices.ContainsFunc answer of dependencies, for whatever predicate; past.find; past.Get and the document's Get. -/
namespace Go.Proofs.YtjfmgplhcinkfaaGreat
open Go.RowKit
set_option linter.unusedVariables false
set_option linter.unusedSimpArgs false

/-- The place of the first one; -1: there is none. -/
def fidxD (p : De → Bool) (l : List De) : Int := match l.findIdx? p with | none => -1 | some i => i
theorem fidxD_hit {p : De → Bool} {l : List De} {k : Nat} (hk : k < l.length) (h : ∀ j (hj : j < l.length), j < k → p l[j] = false) (hh : p l[k] = true) : fidxD p l = k := by
  have e : l.findIdx? p = some k := by
    rw [List.findIdx?_eq_some_iff_getElem]
    exact ⟨hk, hh, fun j hj => by simpa using h j (by omega) hj⟩
  simp [fidxD, e]
theorem fidxD_none {p : De → Bool} {l : List De} (h : ∀ j (hj : j < l.length), p l[j] = false) : fidxD p l = -1 := by
  have e : l.findIdx? p = none := by
    rw [List.findIdx?_eq_none_iff]
    intro x hx
    obtain ⟨j, hj, rfl⟩ := List.getElem_of_mem hx
    simpa using h j hj
  simp [fidxD, e]

/-- What is asked of a predicate that may make memory. -/
def PredD (g : Nat) (lb : Array Value) (p : De → Bool) (l : List De) (base : Nat) (w : World) : Prop :=
  ∀ (W : World) (d : De), d ∈ l → Below base w W → Calls Tryz.prog g (#[dv d] ++ lb) W fun e w' => e = .returned (.bool (p d)) ∧ Below W.heap.size W w'

theorem fidxD_any (p : De → Bool) (l : List De) : decide (0 ≤ fidxD p l) = l.any p := by
  unfold fidxD
  cases h : l.findIdx? p with
  | none =>
    rw [List.findIdx?_eq_none_iff] at h
    have : l.any p = false := by rw [List.any_eq_false]; intro x hx; simp [h x hx]
    rw [this]
    rfl
  | some i =>
    rw [List.findIdx?_eq_some_iff_getElem] at h
    obtain ⟨hi, hh, _⟩ := h
    have : l.any p = true := List.any_eq_true.2 ⟨l[i], List.getElem_mem hi, hh⟩
    rw [this]
    simp

/-- The place of a key. -/
abbrev kidx (l : List De) (key : ByteArray) : Int := fidxD (fun d => decide (d.1 = key)) l

end Go.Proofs.YtjfmgplhcinkfaaGreat
/- What past.Get and the document's Get answer. -/
namespace Go.Proofs.YtjfmgplhcinkfaaGreat
open Go.RowKit
set_option linter.unusedVariables false
set_option linter.unusedSimpArgs false

/-- The stamp of a key; the zero one: there is none. -/
def gtD (l : List De) (key : ByteArray) : Int × Int := match l.find? (fun d => decide (d.1 = key)) with | none => (0, 0) | some d => d.2
theorem kidx_cases (l : List De) (key : ByteArray) : (kidx l key = -1 ∧ gtD l key = (0, 0)) ∨ ∃ (k : Nat) (h : k < l.length), kidx l key = k ∧ l[k].1 = key ∧ gtD l key = l[k].2 := by
  unfold kidx fidxD gtD
  cases h : l.findIdx? (fun d => decide (d.1 = key)) with
  | none =>
    left
    refine ⟨rfl, ?_⟩
    rw [List.findIdx?_eq_none_iff] at h
    have : l.find? (fun d => decide (d.1 = key)) = none := by
      rw [List.find?_eq_none]
      intro x hx
      simpa using h x hx
    rw [this]
  | some i =>
    right
    rw [List.findIdx?_eq_some_iff_getElem] at h
    obtain ⟨hi, hh, hn⟩ := h
    have : l.find? (fun d => decide (d.1 = key)) = some l[i] := by
      rw [List.find?_eq_some_iff_getElem]
      exact ⟨hh, i, hi, rfl, fun j hj => by simpa using hn j hj⟩
    exact ⟨i, hi, rfl, by simpa using hh, by rw [this]⟩

theorem gtD_hit {l : List De} {key : ByteArray} {k : Nat} (hk : k < l.length) (h : ∀ j (hj : j < l.length), j < k → l[j].1 ≠ key) (hh : l[k].1 = key) : gtD l key = l[k].2 := by
  have : l.find? (fun d => decide (d.1 = key)) = some l[k] := by
    rw [List.find?_eq_some_iff_getElem]
    exact ⟨by simpa using hh, k, hk, rfl, fun j hj => by simpa using h j (by omega) hj⟩
  simp [gtD, this]
theorem gtD_none {l : List De} {key : ByteArray} (h : ∀ j (hj : j < l.length), l[j].1 ≠ key) : gtD l key = (0, 0) := by
  have : l.find? (fun d => decide (d.1 = key)) = none := by
    rw [List.find?_eq_none]
    intro x hx
    obtain ⟨j, hj, rfl⟩ := List.getElem_of_mem hx
    simpa using h j hj
  simp [gtD, this]

end Go.Proofs.YtjfmgplhcinkfaaGreat
/- slices.Backward over dependencies. -/
namespace Go.Proofs.YtjfmgplhcinkfaaGreat
open Go.RowKit Go.Shelf
set_option linter.unusedVariables false
set_option linter.unusedSimpArgs false
attribute [local go_sem] Oper.semAt_some

/-- What is handed to a round: the place, the dependency; its key is no longer than a text can be. -/
abbrev BackA := { x : Int × De // x.2.1.size ≤ maxLen }
def bkA (l : List De) (hz : Szd l) (j : Nat) (h : j < l.length) : BackA := ⟨((j : Int), l[j]), by have := hz l[j] (List.getElem_mem h); unfold maxLen; omega⟩
/-- The last k, from behind. -/
def bkL (l : List De) (hz : Szd l) : Nat → List BackA
  | 0 => []
  | k + 1 => if h : k < l.length then bkL l hz k ++ [bkA l hz (l.length - 1 - k) (by omega)] else bkL l hz k
theorem bkL_succ (l : List De) (hz : Szd l) (k : Nat) (h : k < l.length) : bkL l hz (k + 1) = bkL l hz k ++ [bkA l hz (l.length - 1 - k) (by omega)] := by rw [bkL, dif_pos h]
theorem bkL_len (l : List De) (hz : Szd l) (k : Nat) (h : k ≤ l.length) : (bkL l hz k).length = k := by
  induction k with
  | zero => rfl
  | succ k ih => rw [bkL_succ l hz k (by omega), List.length_append, ih (by omega)]; rfl

/-- Below n0 all but block mb lies as it lay. -/
def KB (mb n0 : Nat) (A B : World) : Prop := ∀ k, k < n0 → k ≠ mb → B.heap[k]? = A.heap[k]?
theorem KB.refl (mb n0 : Nat) (A : World) : KB mb n0 A A := fun _ _ _ => rfl
theorem KB.trans {mb n0 : Nat} {A B C : World} (h : KB mb n0 A B) (k : KB mb n0 B C) : KB mb n0 A C := fun i h1 h2 => (k i h1 h2).trans (h i h1 h2)
theorem KB.cell {mb n0 : Nat} {A B : World} (h : KB mb n0 A B) {b o : Nat} (h1 : b < n0) (h2 : b ≠ mb) : B.cell? ⟨b, o, none⟩ = A.cell? ⟨b, o, none⟩ := World.cell?_of_block (h b h1 h2)

end Go.Proofs.YtjfmgplhcinkfaaGreat
/- A region that draws its order, in a round of a range over a function: out of the plain calculus. -/
namespace Go.Proofs.YtjfmgplhcinkfaaGreat
open Go.RowKit
set_option linter.unusedVariables false

theorem rowsIn_round {l n : Nat} {P : Program} {row : String} {args : Array Value} {w : World} {R : Value → World → Prop} (h : Rows P row args w R) : Go.RowsIn (Fence.wide.inRound l) n P row args w R :=
  fun c cs _ => by
    obtain ⟨v, w', h1, h2⟩ := h c cs
    exact ⟨v, w', h1, stepsIn_wide.2 h2⟩
theorem callsIn_round {l n : Nat} {P : Program} {f : FuncId} {args : Array Value} {w : World} {R : Ending → World → Prop} (h : Calls P f args w R) : CallsIn (Fence.wide.inRound l) n P f args w R :=
  CallsIn.inRound l (callsIn_wide.2 h)
theorem wpOpIn_round {l n : Nat} {P : Program} {ops : Array Oper} {Q : Exit → Act → World → Prop} {i : Nat} {K : Act → World → Prop} {a : Act} {w : World} (hQ : ¬ LetsOut Q) (hd : ∀ (i : Nat) o, ops[i]? = some o → ∀ c, o.op ≠ .defer c) (h : wpOp P ops Q i K a w) : wpOpIn (Fence.wide.inRound l) n P ops Q i K a w := by
  unfold wpOp at h
  unfold wpOpIn
  cases ho : ops[i]? with
  | none => rw [ho] at h; exact h
  | some o =>
    rw [ho] at h
    dsimp only at h ⊢
    split
    · rename_i hw
      rw [if_pos hw] at h
      rcases h with h | ⟨_, h⟩
      · refine ⟨fun f _ => trivial, ?_⟩
        rw [Oper.semAt_eq _ _ _ (hd i o ho)]
        unfold Oper.wp at h
        generalize (execOp a.eval o).run P w = r at h
        cases r with
        | ok x w' =>
          cases x <;> simp only [Oper.upon, Oper.uponIn] at h ⊢
          case value => exact h
          case skip => exact h
          case defer => exact h
          case enter => exact ⟨fun e => by simp [Fence.wide, Fence.inRound] at e, callsIn_round h⟩
          case row => exact ⟨fun e => by simp [Fence.wide, Fence.inRound] at e, rowsIn_round h⟩
        | halt x w' => cases x <;> simp only [Oper.upon, Oper.uponIn] at h ⊢ <;> exact h
      · exact absurd h hQ
    · rename_i hw
      rw [if_neg hw] at h
      exact ⟨fun f _ => trivial, h⟩
theorem wpAnyIn_round {l n : Nat} {P : Program} {md : Region.Mode} {ops : Array Oper} {Q : Exit → Act → World → Prop} (hQ : ¬ LetsOut Q) (hd : ∀ (i : Nat) o, ops[i]? = some o → ∀ c, o.op ≠ .defer c) :
    ∀ (fuel : Nat) (listed : Array Bool) (a : Act) (w : World), wpAny P md ops Q fuel listed a w → wpAnyIn (Fence.wide.inRound l) n P md ops Q fuel listed a w
  | 0, _, _, _, h => h
  | fuel + 1, _, _, _, h => ⟨h.1, fun i hi => wpOpIn_mono (fun a' w' h' => wpAnyIn_round hQ hd fuel _ a' w' h') (wpOpIn_round hQ hd (h.2 i hi))⟩
def noDefer (o : Oper) : Bool := match o.op with | .defer _ => false | _ => true
/-- The region, begun. -/
theorem wpIn_region_round {l n id : Nat} {P : Program} {ops : Array Oper} {Q : Exit → Act → World → Prop} {a : Act} {w : World} {S : World → Prop} (hm : P.follows .mixedOrders = true) (hQ : ¬ LetsOut Q) (hd : ops.all noDefer = true) (hS : S w.drew)
    (h : S w.drew → wpAnyH P .any ops Q S ops.size (Array.replicate ops.size false) a w.drew) : (Code.region id ops true).wpIn (Fence.wide.inRound l) n P Q a w :=
  wpIn_region_any hm (wpAnyIn_round hQ (fun i o ho c e => by
    have := Array.all_eq_true_iff_forall_mem.1 hd o (Array.mem_of_getElem? ho)
    unfold noDefer at this
    rw [e] at this
    cases this) _ _ _ _ (wpAny_of_held _ _ _ _ (h hS)))
theorem ownPostG_stays {α : Type} {B : Nat} {Kp : World → World → Prop} {I : List α → World → Prop} {Ix : Code → List α → World → Prop} {xs : List α} {W : World} : ¬ LetsOut (ownPostG B Kp I Ix xs W) := fun ⟨_, _, h⟩ => h
end Go.Proofs.YtjfmgplhcinkfaaGreat
/- slices.Backward over versions; chain.upTo. -/
namespace Go.Proofs.YtjfmgplhcinkfaaGreat
open Go.RowKit Go.Shelf
set_option linter.unusedVariables false
set_option linter.unusedSimpArgs false
attribute [local go_sem] Oper.semAt_some

/-- What is handed to a round: the place, the version. -/
abbrev BkW (l : List Vw) := { x : Nat × Vw // ∃ h : x.1 < l.length, l[x.1] = x.2 }
def bkW (l : List Vw) (j : Nat) (h : j < l.length) : BkW l := ⟨(j, l[j]), h, rfl⟩
/-- The last k, from behind. -/
def bkWL (l : List Vw) : Nat → List (BkW l)
  | 0 => []
  | k + 1 => if h : k < l.length then bkWL l k ++ [bkW l (l.length - 1 - k) (by omega)] else bkWL l k
theorem bkWL_succ (l : List Vw) (k : Nat) (h : k < l.length) : bkWL l (k + 1) = bkWL l k ++ [bkW l (l.length - 1 - k) (by omega)] := by rw [bkWL, dif_pos h]
theorem bkWL_len (l : List Vw) (k : Nat) (h : k ≤ l.length) : (bkWL l k).length = k := by
  induction k with
  | zero => rfl
  | succ k ih => rw [bkWL_succ l k (by omega), List.length_append, ih (by omega)]; rfl
/-- None of those is taken. -/
theorem bkWL_no {p : Vw → Bool} {l : List Vw} : ∀ k, k ≤ l.length → (∀ x ∈ bkWL l k, p x.1.2 = false) → upN p (l.take (l.length - k)) = upN p l
  | 0, _, _ => by simp
  | k + 1, h, hall => by
    rw [bkWL_succ l k h] at hall
    have h1 := bkWL_no (p := p) k (by omega) (fun x hx => hall x (by simp [hx]))
    have h2 := hall (bkW l (l.length - 1 - k) (by omega)) (by simp)
    rw [← h1, show l.length - k = l.length - 1 - k + 1 by omega, upN_take_no (by omega) h2]
    congr 2
    omega

set_option maxRecDepth 100000 in
set_option maxHeartbeats 2000000 in
theorem back1W_in (F : Fence) (n : Nat) (h8 : F.fn 87) (hro : F.round = none) (hn : 1 ≤ n) (lp Bs n0 mb cap : Nat) (a : Option Addr) (l : List Vw) (hl : l.length ≤ 1000000) (J Jx : List (BkW l) → World → Prop)
    (hY : ∀ pre x W, J pre W → pre.length < l.length → YieldAt F (n - 1) Tryz.prog lp #[.int .i64 (x.1.1 : Int), wV x.1.2] W fun e W' =>
      (e = .returned (.bool true) ∧ J (pre ++ [x]) W' ∧ KB mb n0 W W') ∨ (e = .returned (.bool false) ∧ Jx (pre ++ [x]) W'))
    (W : World) (hBn : Bs < n0) (hBm : Bs ≠ mb) (hBs : W.cell? ⟨Bs, 0, none⟩ = some (.slice a l.length cap)) (hlow : ∀ b off, a = some ⟨b, off, none⟩ → 0 < l.length → b < n0 ∧ b ≠ mb) (hr : RowIn KW W a l) (h0 : J [] W) :
    CallsIn F n Tryz.prog 87 #[.func (.yield lp) #[] #[], .pointer (some ⟨Bs, 0, none⟩)] W fun e W' => (∃ v, e = .returned v) ∧
      ((∃ ys, ys = bkWL l l.length ∧ J ys W') ∨ (∃ pre, (∃ k, k < l.length ∧ pre = bkWL l (k + 1)) ∧ Jx pre W')) := by
  have HR := Lib.hid hr
  clear hr
  refine callsIn_of_wp Tryz.func87 rfl h8 ?_ hro
  simp only [Tryz.ntmps87, List.size_toArray, List.length_cons, List.length_nil, Nat.reduceAdd, Nat.reduceSub, Array.replicate_succ, Array.replicate_zero, List.push_toArray, List.append_toArray, List.nil_append, List.cons_append]
  have hw0 : IntKind.i64.wrap ((l.length : Int) - 1) = (l.length : Int) - 1 := IntWalk.i64_in _ (by omega)
  gi_wp2
  gi_loopw [3] (fun i wr => ∃ k : Nat, k ≤ l.length ∧ i = .int .i64 ((l.length : Int) - 1 - k) ∧ J (bkWL l k) wr ∧ KB mb n0 W wr) (fun i _ => (intOf i + 1).toNat)
  case atStart => exact ⟨0, Nat.zero_le _, by simp, h0, KB.refl _ _ _⟩
  case round =>
    obtain ⟨k, hk, rfl, hJs, hnx⟩ := hrel
    have hBs' := (hnx.cell (o := 0) hBn hBm).trans hBs
    by_cases hlt : k < l.length
    · obtain ⟨q, hq⟩ : ∃ q, q = l.length - 1 - k := ⟨_, rfl⟩
      have hqi : (l.length : Int) - 1 - (k : Int) = (q : Int) := by omega
      have hql : q < l.length := by omega
      have HQ := Lib.hid hq
      clear hq
      obtain ⟨b, off, rfl, hbl, hcs⟩ := HR.out q hql
      obtain ⟨hbn, hbm⟩ := hlow b off rfl (by omega)
      obtain ⟨c0, c1, c2, c3, c4, c5⟩ := (VwQ.of_row hcs).block (hnx b hbn hbm)
      have HS : Hid (bkWL l (k + 1) = bkWL l k ++ [bkW l q hql]) := Lib.hid (by rw [bkWL_succ l k hlt]; congr 2; simp [HQ.out])
      have hx : (bkW l q hql).1 = (q, l[q]) := rfl
      obtain ⟨fn, tmps, assign, body, hy, hR⟩ := hY _ (bkW l q hql) wr hJs (by rw [bkWL_len l k hk]; exact hlt)
      rw [hx] at hy
      generalize bkW l q hql = xx at HS hR
      clear hcs
      generalize l[q] = d at c0 c1 c2 c3 c4 c5 hy
      obtain ⟨⟨key, val, gone, ⟨n1, s1⟩, past⟩, pa, pc⟩ := d
      dsimp only [wV, wcs, wvs, pw, KW] at hy c0 c1 c2 c3 c4 c5
      rw [hqi]
      have hq1 : (0 : Int) ≤ (q : Int) := by omega
      have hq2 : (q : Int) < (l.length : Int) := by omega
      have hq3 : IntKind.i64.wrap ((q : Int) - 1) = (q : Int) - 1 := IntWalk.i64_in _ (by omega)
      have HQI := Lib.hid hqi
      clear hqi hx
      gi_wp2
      refine hR.mono ?_
      rintro e W3 (⟨rfl, hJ3, hk3⟩ | ⟨rfl, hJx3⟩)
      · gi_wp2
        go_roundw
        case rel => exact ⟨k + 1, by omega, by have := HQI.out; simp; omega, by rw [HS.out]; exact hJ3, hnx.trans hk3⟩
        case measure => simp [intOf]
      · gi_wp2
        refine bodyPost_ret (results_none rfl _ _ _) rfl ?_
        exact ⟨⟨_, rfl⟩, .inr ⟨_, ⟨k, hlt, HS.out.symm⟩, hJx3⟩⟩
    · obtain rfl : k = l.length := by omega
      have hneg : (l.length : Int) - 1 - (l.length : Int) = -1 := by omega
      rw [hneg]
      clear hneg
      gi_wp2
      go_end0
      exact ⟨⟨_, rfl⟩, .inl ⟨_, rfl, hJs⟩⟩

set_option maxHeartbeats 1000000 in
theorem backwardW_in (F : Fence) (n : Nat) (h5 : F.fn 73) (hro : F.round = none) (a : Option Addr) (len cap : Nat) (w : World) :
    CallsIn F n Tryz.prog 73 #[.slice a len cap] w fun e w' => e = .returned (.func (.func 87) #[] #[.pointer (some ⟨w.heap.size, 0, none⟩)]) ∧ w' = w.alloc (.cells #[.slice a len cap] 47) := by
  refine callsIn_of_wp Tryz.func73 rfl h5 ?_ hro
  simp only [Tryz.ntmps73, List.size_toArray, List.length_cons, List.length_nil, Nat.reduceAdd, Nat.reduceSub, Array.replicate_succ, Array.replicate_zero, List.push_toArray, List.append_toArray, List.nil_append, List.cons_append]
  gi_wp2
  go_ret
  exact ⟨rfl, rfl⟩

theorem backW_stops (F : Fence) (n : Nat) (h8 : F.fn 87) (hro : F.round = none) (hn : 1 ≤ n) (Bs n0 mb cap : Nat) (a : Option Addr) (l : List Vw) (hl : l.length ≤ 1000000) (w : World) (hB0 : Bs < w.heap.size) (hBn : Bs < n0) (hBm : Bs ≠ mb) (hc : w.cell? ⟨Bs, 0, none⟩ = some (.slice a l.length cap)) (hlow : ∀ b off, a = some ⟨b, off, none⟩ → 0 < l.length → b < n0 ∧ b ≠ mb) (hr : RowIn KW w a l) :
    SeqStopsK F n Tryz.prog 87 #[.pointer (some ⟨Bs, 0, none⟩)] (fun x : BkW l => #[.int .i64 (x.1.1 : Int), wV x.1.2]) (KB mb n0) (fun ys => ys = bkWL l l.length) (fun pre => ∃ k, k < l.length ∧ pre = bkWL l (k + 1)) l.length w := fun lp J Jx W hW _ _ hY h0 =>
  back1W_in F n h8 hro hn lp Bs n0 mb cap a l hl J Jx hY W hBn hBm ((hW.cell (p := ⟨Bs, 0, none⟩) hB0).trans hc) hlow (hr.below hW) h0
end Go.Proofs.YtjfmgplhcinkfaaGreat
