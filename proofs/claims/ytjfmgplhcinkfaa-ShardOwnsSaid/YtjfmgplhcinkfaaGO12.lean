/- Texts of this proof, one behind the other: ChHead, PastFind, PastGet, PastBack, Round, ChBack. -/
import Derived.Test.YtjfmgplhcinkfaaGO11
import Derived.Shelf.GgClosure.Gives
import Derived.RangeFuncNested
import Derived.RangeFuncBound
import Derived.RangeFuncCalls
import Derived.RangeFuncLeaves
import Derived.Shelf.Abstract
import Derived.Shelf.RegionOpen
import Derived.WalkKit
import Derived.OwnWalkIn
import Derived.TacticsInMore
import Derived.LoopNIn
import Derived.LoopIn
import Derived.Maps.OwnIn
import Derived.Maps.AppendAt
import Derived.CallsIn
import Derived.OrdersIn
import Derived.OrdersHeld
import Derived.Deep.RegionHeld3
/- What chain.Head answers; the closures over a stamp. -/
namespace Go.Proofs.Ytjfmgplhcinkfaa
open Go.RowKit
set_option linter.unusedVariables false
set_option linter.unusedSimpArgs false

set_option maxRecDepth 100000 in
set_option maxHeartbeats 800000 in
theorem chead_any (v : Value) (xs : List Vw) (w : World) (hl : xs.length ≤ 1000000) (hr : WRow w v xs) :
    Calls Try.prog 38 #[v] w fun e w' => e = .returned (.tuple #[wV (xs.getLast?.getD vw0), .bool xs.getLast?.isSome]) ∧ Below w.heap.size w w' := by
  have HR := Lib.hid hr
  obtain ⟨a, cap, rfl, hcap, hmx, hnil⟩ := hr.shape
  clear hr
  by_cases h0 : xs.length = 0
  · obtain rfl : xs = [] := List.length_eq_zero_iff.1 h0
    clear h0 hl
    go_enter Try.func38, Try.ntmps38
    go_wp2
    refine bodyPost_ret (v := .tuple #[.agg #[.string ⟨#[]⟩, .string ⟨#[]⟩, .bool false, .int .i64 0, .int .i64 0, .slice none 0 0], .bool false]) (by simp [results, Try.results38, go_sem]) rfl ⟨rfl, ?_⟩
    exact balloc (Below.refl _ w) _
  · obtain ⟨n, hn⟩ : ∃ n, xs.length = n + 1 := ⟨xs.length - 1, by omega⟩
    have hg : xs.getLast? = some (xs[n]'(by omega)) := by
      rw [List.getLast?_eq_getElem?, List.getElem?_eq_getElem (by omega)]
      congr 2
      omega
    obtain ⟨b, off, rfl, hbl, hq, _⟩ := (HR.out.below (balloc (Below.refl _ w) (.cells (wvs wz (.slice none 0 0)) 32))).at n (by omega)
    have HG := Lib.hid hg
    clear hg HR
    generalize xs[n]'(by omega) = x at HG hq
    obtain ⟨c0, c1, c2, c3, c4, c5⟩ := hq
    obtain ⟨⟨key, val, gone, ⟨k, s⟩, past⟩, pa, pc⟩ := x
    dsimp only [wvs, wz, pw] at c0 c1 c2 c3 c4 c5
    have hi1 : (0 : Int) ≤ ((n + 1 : Nat) : Int) - 1 := by omega
    go_enter Try.func38, Try.ntmps38
    go_wp2
    refine bodyPost_ret (v := .tuple #[.agg #[.string key, .string val, .bool gone, .int .i64 k, .int .i64 s, .slice pa past.length pc], .bool true]) (by simp [results, Try.results38, go_sem]) rfl ⟨?_, balloc (Below.refl _ w) _⟩
    rw [HG.out]
    rfl

/-- What is asked of a predicate over versions that may make memory. -/
def PredW (g : Nat) (lb : Array Value) (p : Vw → Bool) (l : List Vw) (base : Nat) (w : World) : Prop :=
  ∀ (W : World) (x : Vw), x ∈ l → Below base w W → Calls Try.prog g (#[wV x] ++ lb) W fun e w' => e = .returned (.bool (p x)) ∧ Below W.heap.size W w'

set_option maxRecDepth 100000 in
set_option maxHeartbeats 800000 in
theorem notAfterC_any (s : Int × Int) (B : Nat) (x : Vw) (w : World) (h0 : w.cell? ⟨B, 0, none⟩ = some (.int .i64 s.1)) (h1 : w.cell? ⟨B, 1, none⟩ = some (.int .i64 s.2)) :
    Calls Try.prog 65 #[wV x, .pointer (some ⟨B, 0, none⟩)] w fun e w' => e = .returned (.bool (notA s x)) ∧ Below w.heap.size w w' := by
  unfold notA
  obtain ⟨⟨key, val, gone, ⟨n, t⟩, past⟩, pa, pc⟩ := x
  obtain ⟨m, q⟩ := s
  dsimp only [wV, wcs, wvs, pw] at *
  have hb1 : Below w.heap.size w (w.alloc (.cells #[.string key, .string val, .bool gone, .int .i64 n, .int .i64 t, .slice pa past.length pc] 32)) := balloc (Below.refl _ w) _
  have h0' := kc hb1 h0
  have h1' := kc hb1 h1
  have hne : B ≠ w.heap.size := by have := lt_of_cellN h0; omega
  clear h0 h1
  go_enter Try.func65, Try.ntmps65
  go_wp2_with fail
  refine (less_any m q n t _).mono ?_
  rintro e w1 ⟨rfl, hb⟩
  go_wp2
  go_ret
  exact ⟨rfl, bstep hb1 hb⟩

set_option maxRecDepth 100000 in
set_option maxHeartbeats 800000 in
theorem atC_any (s : Int × Int) (B : Nat) (x : Vw) (w : World) (h0 : w.cell? ⟨B, 0, none⟩ = some (.int .i64 s.1)) (h1 : w.cell? ⟨B, 1, none⟩ = some (.int .i64 s.2)) :
    Calls Try.prog 49 #[wV x, .pointer (some ⟨B, 0, none⟩)] w fun e w' => e = .returned (.bool (isS s x)) ∧ Below w.heap.size w w' := by
  unfold isS
  have heq := eq_stamp
  obtain ⟨⟨key, val, gone, ⟨n, t⟩, past⟩, pa, pc⟩ := x
  obtain ⟨m, q⟩ := s
  dsimp only [wV, wcs, wvs, pw] at *
  have heq1 := fun w' => heq w' n t m q
  clear heq
  have hb1 : Below w.heap.size w (w.alloc (.cells #[.string key, .string val, .bool gone, .int .i64 n, .int .i64 t, .slice pa past.length pc] 32)) := balloc (Below.refl _ w) _
  have h0' := kc hb1 h0
  have h1' := kc hb1 h1
  have hne : B ≠ w.heap.size := by have := lt_of_cellN h0; omega
  generalize decide ((n, t) = (m, q)) = r at heq1 ⊢
  clear h0 h1
  go_enter Try.func49, Try.ntmps49
  go_wp2
  go_ret
  exact ⟨rfl, hb1⟩

/-- The closure over a stamp. -/
theorem notAfter_any (s : Int × Int) (w : World) :
    Calls Try.prog 47 #[sv s] w fun e w' => e = .returned (.func (.func 65) #[] #[.pointer (some ⟨w.heap.size, 0, none⟩)]) ∧ w' = w.alloc (.cells #[.int .i64 s.1, .int .i64 s.2] 29) := by
  obtain ⟨m, q⟩ := s
  have hmf : ∀ (fn : Fn) (first cap : Array Value) (w : World), (Instr.makeFunc fn first cap).run Try.prog w = .ok (.func fn first cap) w := fun _ _ _ _ => rfl
  go_enter Try.func47, Try.ntmps47
  go_wp2
  go_ret
  exact ⟨rfl, rfl⟩
end Go.Proofs.Ytjfmgplhcinkfaa
/- What slices.IndexFunc and slices.ContainsFunc answer of dependencies, for whatever predicate; past.find; past.Get and the document's Get. -/
namespace Go.Proofs.Ytjfmgplhcinkfaa
open Go.RowKit
set_option linter.unusedVariables false
set_option linter.unusedSimpArgs false

/-- The place of the first one; -1: there is none. -/
def fidxD (p : De → Bool) (l : List De) : Int := match l.findIdx? p with | none => -1 | some i => i
theorem fidxD_hit {p : De → Bool} {l : List De} {k : Nat} (hk : k < l.length) (h : ∀ j (hj : j < l.length), j < k → p l[j] = false) (hh : p l[k] = true) : fidxD p l = k := by
  have e : l.findIdx? p = some k := by
    rw [List.findIdx?_eq_some_iff_getElem]
    exact ⟨hk, hh, fun j hj => by simpa using h j (by omega) hj⟩
  simp [fidxD, e]
theorem fidxD_none {p : De → Bool} {l : List De} (h : ∀ j (hj : j < l.length), p l[j] = false) : fidxD p l = -1 := by
  have e : l.findIdx? p = none := by
    rw [List.findIdx?_eq_none_iff]
    intro x hx
    obtain ⟨j, hj, rfl⟩ := List.getElem_of_mem hx
    simpa using h j hj
  simp [fidxD, e]

/-- What is asked of a predicate that may make memory. -/
def PredD (g : Nat) (lb : Array Value) (p : De → Bool) (l : List De) (base : Nat) (w : World) : Prop :=
  ∀ (W : World) (d : De), d ∈ l → Below base w W → Calls Try.prog g (#[dv d] ++ lb) W fun e w' => e = .returned (.bool (p d)) ∧ Below W.heap.size W w'

theorem fidxD_any (p : De → Bool) (l : List De) : decide (0 ≤ fidxD p l) = l.any p := by
  unfold fidxD
  cases h : l.findIdx? p with
  | none =>
    rw [List.findIdx?_eq_none_iff] at h
    have : l.any p = false := by rw [List.any_eq_false]; intro x hx; simp [h x hx]
    rw [this]
    rfl
  | some i =>
    rw [List.findIdx?_eq_some_iff_getElem] at h
    obtain ⟨hi, hh, _⟩ := h
    have : l.any p = true := List.any_eq_true.2 ⟨l[i], List.getElem_mem hi, hh⟩
    rw [this]
    simp

/-- The place of a key. -/
abbrev kidx (l : List De) (key : ByteArray) : Int := fidxD (fun d => decide (d.1 = key)) l

end Go.Proofs.Ytjfmgplhcinkfaa
/- What past.Get and the document's Get answer. -/
namespace Go.Proofs.Ytjfmgplhcinkfaa
open Go.RowKit
set_option linter.unusedVariables false
set_option linter.unusedSimpArgs false

/-- The stamp of a key; the zero one: there is none. -/
def gtD (l : List De) (key : ByteArray) : Int × Int := match l.find? (fun d => decide (d.1 = key)) with | none => (0, 0) | some d => d.2
theorem kidx_cases (l : List De) (key : ByteArray) : (kidx l key = -1 ∧ gtD l key = (0, 0)) ∨ ∃ (k : Nat) (h : k < l.length), kidx l key = k ∧ l[k].1 = key ∧ gtD l key = l[k].2 := by
  unfold kidx fidxD gtD
  cases h : l.findIdx? (fun d => decide (d.1 = key)) with
  | none =>
    left
    refine ⟨rfl, ?_⟩
    rw [List.findIdx?_eq_none_iff] at h
    have : l.find? (fun d => decide (d.1 = key)) = none := by
      rw [List.find?_eq_none]
      intro x hx
      simpa using h x hx
    rw [this]
  | some i =>
    right
    rw [List.findIdx?_eq_some_iff_getElem] at h
    obtain ⟨hi, hh, hn⟩ := h
    have : l.find? (fun d => decide (d.1 = key)) = some l[i] := by
      rw [List.find?_eq_some_iff_getElem]
      exact ⟨hh, i, hi, rfl, fun j hj => by simpa using hn j hj⟩
    exact ⟨i, hi, rfl, by simpa using hh, by rw [this]⟩

theorem gtD_hit {l : List De} {key : ByteArray} {k : Nat} (hk : k < l.length) (h : ∀ j (hj : j < l.length), j < k → l[j].1 ≠ key) (hh : l[k].1 = key) : gtD l key = l[k].2 := by
  have : l.find? (fun d => decide (d.1 = key)) = some l[k] := by
    rw [List.find?_eq_some_iff_getElem]
    exact ⟨by simpa using hh, k, hk, rfl, fun j hj => by simpa using h j (by omega) hj⟩
  simp [gtD, this]
theorem gtD_none {l : List De} {key : ByteArray} (h : ∀ j (hj : j < l.length), l[j].1 ≠ key) : gtD l key = (0, 0) := by
  have : l.find? (fun d => decide (d.1 = key)) = none := by
    rw [List.find?_eq_none]
    intro x hx
    obtain ⟨j, hj, rfl⟩ := List.getElem_of_mem hx
    simpa using h j hj
  simp [gtD, this]

end Go.Proofs.Ytjfmgplhcinkfaa
/- slices.Backward over dependencies. -/
namespace Go.Proofs.Ytjfmgplhcinkfaa
open Go.RowKit Go.Shelf
set_option linter.unusedVariables false
set_option linter.unusedSimpArgs false
attribute [local go_sem] Oper.semAt_some

/-- What is handed to a round: the place, the dependency; its key is no longer than a text can be. -/
abbrev BackA := { x : Int × De // x.2.1.size ≤ maxLen }
def bkA (l : List De) (hz : Szd l) (j : Nat) (h : j < l.length) : BackA := ⟨((j : Int), l[j]), by have := hz l[j] (List.getElem_mem h); unfold maxLen; omega⟩
/-- The last k, from behind. -/
def bkL (l : List De) (hz : Szd l) : Nat → List BackA
  | 0 => []
  | k + 1 => if h : k < l.length then bkL l hz k ++ [bkA l hz (l.length - 1 - k) (by omega)] else bkL l hz k
theorem bkL_succ (l : List De) (hz : Szd l) (k : Nat) (h : k < l.length) : bkL l hz (k + 1) = bkL l hz k ++ [bkA l hz (l.length - 1 - k) (by omega)] := by rw [bkL, dif_pos h]
theorem bkL_len (l : List De) (hz : Szd l) (k : Nat) (h : k ≤ l.length) : (bkL l hz k).length = k := by
  induction k with
  | zero => rfl
  | succ k ih => rw [bkL_succ l hz k (by omega), List.length_append, ih (by omega)]; rfl

/-- Below n0 all but block mb lies as it lay. -/
def KB (mb n0 : Nat) (A B : World) : Prop := ∀ k, k < n0 → k ≠ mb → B.heap[k]? = A.heap[k]?
theorem KB.refl (mb n0 : Nat) (A : World) : KB mb n0 A A := fun _ _ _ => rfl
theorem KB.trans {mb n0 : Nat} {A B C : World} (h : KB mb n0 A B) (k : KB mb n0 B C) : KB mb n0 A C := fun i h1 h2 => (k i h1 h2).trans (h i h1 h2)
theorem KB.cell {mb n0 : Nat} {A B : World} (h : KB mb n0 A B) {b o : Nat} (h1 : b < n0) (h2 : b ≠ mb) : B.cell? ⟨b, o, none⟩ = A.cell? ⟨b, o, none⟩ := World.cell?_of_block (h b h1 h2)

end Go.Proofs.Ytjfmgplhcinkfaa
/- A region that draws its order, in a round of a range over a function: out of the plain calculus. -/
namespace Go.Proofs.Ytjfmgplhcinkfaa
open Go.RowKit
set_option linter.unusedVariables false

theorem rowsIn_round {l n : Nat} {P : Program} {row : String} {args : Array Value} {w : World} {R : Value → World → Prop} (h : Rows P row args w R) : Go.RowsIn (Fence.wide.inRound l) n P row args w R :=
  fun c cs _ => by
    obtain ⟨v, w', h1, h2⟩ := h c cs
    exact ⟨v, w', h1, stepsIn_wide.2 h2⟩
theorem callsIn_round {l n : Nat} {P : Program} {f : FuncId} {args : Array Value} {w : World} {R : Ending → World → Prop} (h : Calls P f args w R) : CallsIn (Fence.wide.inRound l) n P f args w R :=
  CallsIn.inRound l (callsIn_wide.2 h)
theorem wpOpIn_round {l n : Nat} {P : Program} {ops : Array Oper} {Q : Exit → Act → World → Prop} {i : Nat} {K : Act → World → Prop} {a : Act} {w : World} (hQ : ¬ LetsOut Q) (hd : ∀ (i : Nat) o, ops[i]? = some o → ∀ c, o.op ≠ .defer c) (h : wpOp P ops Q i K a w) : wpOpIn (Fence.wide.inRound l) n P ops Q i K a w := by
  unfold wpOp at h
  unfold wpOpIn
  cases ho : ops[i]? with
  | none => rw [ho] at h; exact h
  | some o =>
    rw [ho] at h
    dsimp only at h ⊢
    split
    · rename_i hw
      rw [if_pos hw] at h
      rcases h with h | ⟨_, h⟩
      · refine ⟨fun f _ => trivial, ?_⟩
        rw [Oper.semAt_eq _ _ _ (hd i o ho)]
        unfold Oper.wp at h
        generalize (execOp a.eval o).run P w = r at h
        cases r with
        | ok x w' =>
          cases x <;> simp only [Oper.upon, Oper.uponIn] at h ⊢
          case value => exact h
          case skip => exact h
          case defer => exact h
          case enter => exact ⟨fun e => by simp [Fence.wide, Fence.inRound] at e, callsIn_round h⟩
          case row => exact ⟨fun e => by simp [Fence.wide, Fence.inRound] at e, rowsIn_round h⟩
        | halt x w' => cases x <;> simp only [Oper.upon, Oper.uponIn] at h ⊢ <;> exact h
      · exact absurd h hQ
    · rename_i hw
      rw [if_neg hw] at h
      exact ⟨fun f _ => trivial, h⟩
theorem wpAnyIn_round {l n : Nat} {P : Program} {md : Region.Mode} {ops : Array Oper} {Q : Exit → Act → World → Prop} (hQ : ¬ LetsOut Q) (hd : ∀ (i : Nat) o, ops[i]? = some o → ∀ c, o.op ≠ .defer c) :
    ∀ (fuel : Nat) (listed : Array Bool) (a : Act) (w : World), wpAny P md ops Q fuel listed a w → wpAnyIn (Fence.wide.inRound l) n P md ops Q fuel listed a w
  | 0, _, _, _, h => h
  | fuel + 1, _, _, _, h => ⟨h.1, fun i hi => wpOpIn_mono (fun a' w' h' => wpAnyIn_round hQ hd fuel _ a' w' h') (wpOpIn_round hQ hd (h.2 i hi))⟩
def noDefer (o : Oper) : Bool := match o.op with | .defer _ => false | _ => true
/-- The region, begun. -/
theorem wpIn_region_round {l n id : Nat} {P : Program} {ops : Array Oper} {Q : Exit → Act → World → Prop} {a : Act} {w : World} {S : World → Prop} (hm : P.follows .mixedOrders = true) (hQ : ¬ LetsOut Q) (hd : ops.all noDefer = true) (hS : S w.drew)
    (h : S w.drew → wpAnyH P .any ops Q S ops.size (Array.replicate ops.size false) a w.drew) : (Code.region id ops true).wpIn (Fence.wide.inRound l) n P Q a w :=
  wpIn_region_any hm (wpAnyIn_round hQ (fun i o ho c e => by
    have := Array.all_eq_true_iff_forall_mem.1 hd o (Array.mem_of_getElem? ho)
    unfold noDefer at this
    rw [e] at this
    cases this) _ _ _ _ (wpAny_of_held _ _ _ _ (h hS)))
theorem ownPostG_stays {α : Type} {B : Nat} {Kp : World → World → Prop} {I : List α → World → Prop} {Ix : Code → List α → World → Prop} {xs : List α} {W : World} : ¬ LetsOut (ownPostG B Kp I Ix xs W) := fun ⟨_, _, h⟩ => h
end Go.Proofs.Ytjfmgplhcinkfaa
/- slices.Backward over versions; chain.upTo. -/
namespace Go.Proofs.Ytjfmgplhcinkfaa
open Go.RowKit Go.Shelf
set_option linter.unusedVariables false
set_option linter.unusedSimpArgs false
attribute [local go_sem] Oper.semAt_some

/-- What is handed to a round: the place, the version. -/
abbrev BkW (l : List Vw) := { x : Nat × Vw // ∃ h : x.1 < l.length, l[x.1] = x.2 }
def bkW (l : List Vw) (j : Nat) (h : j < l.length) : BkW l := ⟨(j, l[j]), h, rfl⟩
/-- The last k, from behind. -/
def bkWL (l : List Vw) : Nat → List (BkW l)
  | 0 => []
  | k + 1 => if h : k < l.length then bkWL l k ++ [bkW l (l.length - 1 - k) (by omega)] else bkWL l k
theorem bkWL_succ (l : List Vw) (k : Nat) (h : k < l.length) : bkWL l (k + 1) = bkWL l k ++ [bkW l (l.length - 1 - k) (by omega)] := by rw [bkWL, dif_pos h]
theorem bkWL_len (l : List Vw) (k : Nat) (h : k ≤ l.length) : (bkWL l k).length = k := by
  induction k with
  | zero => rfl
  | succ k ih => rw [bkWL_succ l k (by omega), List.length_append, ih (by omega)]; rfl
/-- None of those is taken. -/
theorem bkWL_no {p : Vw → Bool} {l : List Vw} : ∀ k, k ≤ l.length → (∀ x ∈ bkWL l k, p x.1.2 = false) → upN p (l.take (l.length - k)) = upN p l
  | 0, _, _ => by simp
  | k + 1, h, hall => by
    rw [bkWL_succ l k h] at hall
    have h1 := bkWL_no (p := p) k (by omega) (fun x hx => hall x (by simp [hx]))
    have h2 := hall (bkW l (l.length - 1 - k) (by omega)) (by simp)
    rw [← h1, show l.length - k = l.length - 1 - k + 1 by omega, upN_take_no (by omega) h2]
    congr 2
    omega

set_option maxRecDepth 100000 in
set_option maxHeartbeats 2000000 in
theorem back1W_in (F : Fence) (n : Nat) (h8 : F.fn 75) (hro : F.round = none) (hn : 1 ≤ n) (lp Bs n0 mb cap : Nat) (a : Option Addr) (l : List Vw) (hl : l.length ≤ 1000000) (J Jx : List (BkW l) → World → Prop)
    (hY : ∀ pre x W, J pre W → pre.length < l.length → YieldAt F (n - 1) Try.prog lp #[.int .i64 (x.1.1 : Int), wV x.1.2] W fun e W' =>
      (e = .returned (.bool true) ∧ J (pre ++ [x]) W' ∧ KB mb n0 W W') ∨ (e = .returned (.bool false) ∧ Jx (pre ++ [x]) W'))
    (W : World) (hBn : Bs < n0) (hBm : Bs ≠ mb) (hBs : W.cell? ⟨Bs, 0, none⟩ = some (.slice a l.length cap)) (hlow : ∀ b off, a = some ⟨b, off, none⟩ → 0 < l.length → b < n0 ∧ b ≠ mb) (hr : RowIn KW W a l) (h0 : J [] W) :
    CallsIn F n Try.prog 75 #[.func (.yield lp) #[] #[], .pointer (some ⟨Bs, 0, none⟩)] W fun e W' => (∃ v, e = .returned v) ∧
      ((∃ ys, ys = bkWL l l.length ∧ J ys W') ∨ (∃ pre, (∃ k, k < l.length ∧ pre = bkWL l (k + 1)) ∧ Jx pre W')) := by
  have HR := Lib.hid hr
  clear hr
  refine callsIn_of_wp Try.func75 rfl h8 ?_ hro
  simp only [Try.ntmps75, List.size_toArray, List.length_cons, List.length_nil, Nat.reduceAdd, Nat.reduceSub, Array.replicate_succ, Array.replicate_zero, List.push_toArray, List.append_toArray, List.nil_append, List.cons_append]
  have hw0 : IntKind.i64.wrap ((l.length : Int) - 1) = (l.length : Int) - 1 := IntWalk.i64_in _ (by omega)
  gi_wp2
  gi_loopw [3] (fun i wr => ∃ k : Nat, k ≤ l.length ∧ i = .int .i64 ((l.length : Int) - 1 - k) ∧ J (bkWL l k) wr ∧ KB mb n0 W wr) (fun i _ => (intOf i + 1).toNat)
  case atStart => exact ⟨0, Nat.zero_le _, by simp, h0, KB.refl _ _ _⟩
  case round =>
    obtain ⟨k, hk, rfl, hJs, hnx⟩ := hrel
    have hBs' := (hnx.cell (o := 0) hBn hBm).trans hBs
    by_cases hlt : k < l.length
    · obtain ⟨q, hq⟩ : ∃ q, q = l.length - 1 - k := ⟨_, rfl⟩
      have hqi : (l.length : Int) - 1 - (k : Int) = (q : Int) := by omega
      have hql : q < l.length := by omega
      have HQ := Lib.hid hq
      clear hq
      obtain ⟨b, off, rfl, hbl, hcs⟩ := HR.out q hql
      obtain ⟨hbn, hbm⟩ := hlow b off rfl (by omega)
      obtain ⟨c0, c1, c2, c3, c4, c5⟩ := (VwQ.of_row hcs).block (hnx b hbn hbm)
      have HS : Hid (bkWL l (k + 1) = bkWL l k ++ [bkW l q hql]) := Lib.hid (by rw [bkWL_succ l k hlt]; congr 2; simp [HQ.out])
      have hx : (bkW l q hql).1 = (q, l[q]) := rfl
      obtain ⟨fn, tmps, assign, body, hy, hR⟩ := hY _ (bkW l q hql) wr hJs (by rw [bkWL_len l k hk]; exact hlt)
      rw [hx] at hy
      generalize bkW l q hql = xx at HS hR
      clear hcs
      generalize l[q] = d at c0 c1 c2 c3 c4 c5 hy
      obtain ⟨⟨key, val, gone, ⟨n1, s1⟩, past⟩, pa, pc⟩ := d
      dsimp only [wV, wcs, wvs, pw, KW] at hy c0 c1 c2 c3 c4 c5
      rw [hqi]
      have hq1 : (0 : Int) ≤ (q : Int) := by omega
      have hq2 : (q : Int) < (l.length : Int) := by omega
      have hq3 : IntKind.i64.wrap ((q : Int) - 1) = (q : Int) - 1 := IntWalk.i64_in _ (by omega)
      have HQI := Lib.hid hqi
      clear hqi hx
      gi_wp2
      refine hR.mono ?_
      rintro e W3 (⟨rfl, hJ3, hk3⟩ | ⟨rfl, hJx3⟩)
      · gi_wp2
        go_roundw
        case rel => exact ⟨k + 1, by omega, by have := HQI.out; simp; omega, by rw [HS.out]; exact hJ3, hnx.trans hk3⟩
        case measure => simp [intOf]
      · gi_wp2
        refine bodyPost_ret (results_none rfl _ _ _) rfl ?_
        exact ⟨⟨_, rfl⟩, .inr ⟨_, ⟨k, hlt, HS.out.symm⟩, hJx3⟩⟩
    · obtain rfl : k = l.length := by omega
      have hneg : (l.length : Int) - 1 - (l.length : Int) = -1 := by omega
      rw [hneg]
      clear hneg
      gi_wp2
      go_end0
      exact ⟨⟨_, rfl⟩, .inl ⟨_, rfl, hJs⟩⟩

set_option maxHeartbeats 1000000 in
theorem backwardW_in (F : Fence) (n : Nat) (h5 : F.fn 64) (hro : F.round = none) (a : Option Addr) (len cap : Nat) (w : World) :
    CallsIn F n Try.prog 64 #[.slice a len cap] w fun e w' => e = .returned (.func (.func 75) #[] #[.pointer (some ⟨w.heap.size, 0, none⟩)]) ∧ w' = w.alloc (.cells #[.slice a len cap] 51) := by
  refine callsIn_of_wp Try.func64 rfl h5 ?_ hro
  simp only [Try.ntmps64, List.size_toArray, List.length_cons, List.length_nil, Nat.reduceAdd, Nat.reduceSub, Array.replicate_succ, Array.replicate_zero, List.push_toArray, List.append_toArray, List.nil_append, List.cons_append]
  gi_wp2
  go_ret
  exact ⟨rfl, rfl⟩

theorem backW_stops (F : Fence) (n : Nat) (h8 : F.fn 75) (hro : F.round = none) (hn : 1 ≤ n) (Bs n0 mb cap : Nat) (a : Option Addr) (l : List Vw) (hl : l.length ≤ 1000000) (w : World) (hB0 : Bs < w.heap.size) (hBn : Bs < n0) (hBm : Bs ≠ mb) (hc : w.cell? ⟨Bs, 0, none⟩ = some (.slice a l.length cap)) (hlow : ∀ b off, a = some ⟨b, off, none⟩ → 0 < l.length → b < n0 ∧ b ≠ mb) (hr : RowIn KW w a l) :
    SeqStopsK F n Try.prog 75 #[.pointer (some ⟨Bs, 0, none⟩)] (fun x : BkW l => #[.int .i64 (x.1.1 : Int), wV x.1.2]) (KB mb n0) (fun ys => ys = bkWL l l.length) (fun pre => ∃ k, k < l.length ∧ pre = bkWL l (k + 1)) l.length w := fun lp J Jx W hW _ _ hY h0 =>
  back1W_in F n h8 hro hn lp Bs n0 mb cap a l hl J Jx hY W hBn hBm ((hW.cell (p := ⟨Bs, 0, none⟩) hB0).trans hc) hlow (hr.below hW) h0
end Go.Proofs.Ytjfmgplhcinkfaa
