/- A net in memory. -/
import Derived.Test.YtgaghlofcokijaaNetDlv
import Derived.Test.YtgaghlofcokijaaNetKey
namespace Go.Proofs.Ytgaghlofcokijaa
open Go.RowKit Go.Maps
set_option linter.unusedVariables false
set_option linter.unusedSimpArgs false

def Vld (N : Nat) (p : Int × Int) : Prop := 0 ≤ p.1 ∧ p.1 < (N : Int) ∧ 0 ≤ p.2 ∧ p.2 < (N : Int) ∧ p.1 ≠ p.2
instance (N : Nat) (p : Int × Int) : Decidable (Vld N p) := by unfold Vld; infer_instance
theorem vld_nat {N a b : Nat} (ha : a < N) (hb : b < N) (hab : a ≠ b) : Vld N ((a : Int), (b : Int)) := by unfold Vld; dsimp only; omega
def netG (N : Nat) (blk : Nat → Nat → Nat) (p : Int × Int) : Option Value := if Vld N p then some (.pointer (some ⟨blk p.1.toNat p.2.toNat, 0, none⟩)) else none
def upd {α : Type} (f : Nat → Nat → α) (a b : Nat) (x : α) : Nat → Nat → α := fun i j => if i = a ∧ j = b then x else f i j
theorem upd_same {α : Type} (f : Nat → Nat → α) (a b : Nat) (x : α) : upd f a b x a b = x := by simp [upd]
theorem upd_other {α : Type} (f : Nat → Nat → α) {a b i j : Nat} (x : α) (h : ¬ (i = a ∧ j = b)) : upd f a b x i j = f i j := by simp [upd, h]

/-- A net of N sites behind the pointer to block n: st: its sessions; blk: where they lie; vs: their packets' slices; tg: whose each block is. 'far': blocks that are none of it. -/
structure NetIn (w : World) (far : Nat → Prop) (n N : Nat) (st : Nat → Nat → Ses) (mb cnt : Nat) (blk : Nat → Nat → Nat) (vs : Nat → Nat → Value) (tg : Nat → Option (Nat × Nat)) : Prop where
  c : w.cell? ⟨n, 0, none⟩ = some (.map (some mb))
  mp : MapP w mb cnt (netG N blk)
  se : ∀ a b, a < N → b < N → a ≠ b → SesAt w (blk a b) (st a b) (vs a b)
  ok : ∀ a b, a < N → b < N → a ≠ b → (st a b).Ok
  tb : ∀ a b, a < N → b < N → a ≠ b → tg (blk a b) = some (a, b)
  tv : ∀ a b g, a < N → b < N → a ≠ b → (vs a b).ownBlock = some g → tg g = some (a, b)
  tn : tg n = none
  tm : tg mb = none
  fb : ∀ k, far k → k < w.heap.size
  lo : ∀ k, far k → tg k = none
  nn : ¬ far n
  nm : ¬ far mb
def NetAt (w : World) (far : Nat → Prop) (n N : Nat) (st : Nat → Nat → Ses) : Prop := N ≤ 6 ∧ ∃ mb cnt blk vs tg, NetIn w far n N st mb cnt blk vs tg
theorem NetIn.below {w w' : World} {far : Nat → Prop} {n N : Nat} {st : Nat → Nat → Ses} {mb cnt : Nat} {blk : Nat → Nat → Nat} {vs : Nat → Nat → Value} {tg : Nat → Option (Nat × Nat)} (h : NetIn w far n N st mb cnt blk vs tg) (hb : Below w.heap.size w w') : NetIn w' far n N st mb cnt blk vs tg :=
  ⟨kc hb h.c, h.mp.below hb, fun a b h1 h2 h3 => (h.se a b h1 h2 h3).below hb, h.ok, h.tb, h.tv, h.tn, h.tm, fun k hk => Nat.lt_of_lt_of_le (h.fb k hk) hb.size, h.lo, h.nn, h.nm⟩
theorem NetAt.below {w w' : World} {far : Nat → Prop} {n N : Nat} {st : Nat → Nat → Ses} (h : NetAt w far n N st) (hb : Below w.heap.size w w') : NetAt w' far n N st := by
  obtain ⟨h6, _, _, _, _, _, h⟩ := h
  exact ⟨h6, _, _, _, _, _, h.below hb⟩
theorem NetAt.mono {w : World} {far far' : Nat → Prop} {n N : Nat} {st : Nat → Nat → Ses} (h : NetAt w far n N st) (hf : ∀ k, far' k → far k) : NetAt w far' n N st := by
  obtain ⟨h6, _, _, _, _, _, h⟩ := h
  exact ⟨h6, _, _, _, _, _, h.c, h.mp, h.se, h.ok, h.tb, h.tv, h.tn, h.tm, fun k hk => h.fb k (hf k hk), fun k hk => h.lo k (hf k hk), fun e => h.nn (hf _ e), fun e => h.nm (hf _ e)⟩
/-- What is made beside a net is none of it. -/
theorem NetAt.add {w w' : World} {far : Nat → Prop} {n N : Nat} {st : Nat → Nat → Ses} (h : NetAt w far n N st) (hb : Below w.heap.size w w') : NetAt w' (fun k => far k ∨ (w.heap.size ≤ k ∧ k < w'.heap.size)) n N st := by
  obtain ⟨h6, mb, cnt, blk, vs, tg, h⟩ := h
  have h' := h.below hb
  refine ⟨h6, mb, cnt, blk, vs, fun k => if k < w.heap.size then tg k else none, h'.c, h'.mp, h'.se, h'.ok, fun a b h1 h2 h3 => ?_, fun a b g h1 h2 h3 e => ?_, ?_, ?_, fun k hk => ?_, fun k hk => ?_, fun e => ?_, fun e => ?_⟩
  · try dsimp only
    rw [if_pos (h.se a b h1 h2 h3).lt]
    exact h.tb a b h1 h2 h3
  · try dsimp only
    rw [if_pos ((h.se a b h1 h2 h3).row.lt g e)]
    exact h.tv a b g h1 h2 h3 e
  · try dsimp only
    split
    · exact h.tn
    · rfl
  · try dsimp only
    split
    · exact h.tm
    · rfl
  · rcases hk with hk | hk
    · exact h'.fb k hk
    · exact hk.2
  · try dsimp only
    rcases hk with hk | hk
    · rw [if_pos (h.fb k hk)]; exact h.lo k hk
    · rw [if_neg (by omega)]
  · rcases e with e | e
    · exact h.nn e
    · have := lt_of_cellN h.c; omega
  · rcases e with e | e
    · exact h.nm e
    · have := h.mp.lt; omega
/-- What a session's method makes of the net. -/
theorem NetIn.step {w w' : World} {far : Nat → Prop} {n N : Nat} {st : Nat → Nat → Ses} {mb cnt : Nat} {blk : Nat → Nat → Nat} {vs : Nat → Nat → Value} {tg : Nat → Option (Nat × Nat)} (h : NetIn w far n N st mb cnt blk vs tg) (h6 : N ≤ 6) {a b : Nat} (ha : a < N) (hb : b < N) (hab : a ≠ b) {s' : Ses} (ht : SesTo w (blk a b) (vs a b) w' s') (hok : s'.Ok) :
    NetAt w' far n N (upd st a b s') ∧ Mv (fun k => ¬ far k) w w' := by
  obtain ⟨v', h1, h2, h3⟩ := ht
  have hP : ∀ k, SesP (blk a b) (vs a b) k → tg k = some (a, b) := by
    rintro k (e | e)
    · rw [e]; exact h.tb a b ha hb hab
    · exact h.tv a b k ha hb hab e
  have hnP : ∀ k, tg k ≠ some (a, b) → ¬ SesP (blk a b) (vs a b) k := fun k hk hp => hk (hP k hp)
  refine ⟨⟨h6, mb, cnt, blk, upd vs a b v', fun k => if w.heap.size ≤ k ∧ v'.ownBlock = some k then some (a, b) else tg k, h2.cell (hnP n (by rw [h.tn]; simp)) h.c, h.mp.block (h2.block mb h.mp.lt (hnP mb (by rw [h.tm]; simp))), fun i j hi hj hij => ?_, fun i j hi hj hij => ?_, fun i j hi hj hij => ?_, fun i j g hi hj hij e => ?_, ?_, ?_, fun k hk => Nat.lt_of_lt_of_le (h.fb k hk) h2.size, fun k hk => ?_, h.nn, h.nm⟩, h2.mono (fun k hp hf => ?_)⟩
  · by_cases e : i = a ∧ j = b
    · obtain ⟨rfl, rfl⟩ := e
      rw [upd_same, upd_same]
      exact h1
    · rw [upd_other _ _ e, upd_other _ _ e]
      have hs := h.se i j hi hj hij
      refine hs.mv h2 (hnP _ (by rw [h.tb i j hi hj hij]; intro e'; cases e'; exact e ⟨rfl, rfl⟩)) (fun g eg => hnP _ (by rw [h.tv i j g hi hj hij eg]; intro e'; cases e'; exact e ⟨rfl, rfl⟩))
  · by_cases e : i = a ∧ j = b
    · obtain ⟨rfl, rfl⟩ := e
      rw [upd_same]
      exact hok
    · rw [upd_other _ _ e]
      exact h.ok i j hi hj hij
  · try dsimp only
    rw [if_neg (fun e => by have := (h.se i j hi hj hij).lt; omega)]
    exact h.tb i j hi hj hij
  · try dsimp only
    by_cases e' : i = a ∧ j = b
    · obtain ⟨rfl, rfl⟩ := e'
      rw [upd_same] at e
      by_cases hg : w.heap.size ≤ g
      · rw [if_pos ⟨hg, e⟩]
      · rw [if_neg (fun x => hg x.1)]
        rcases h3 g e with e2 | e2
        · exact h.tv i j g hi hj hij e2
        · exact absurd e2 hg
    · rw [upd_other _ _ e'] at e
      rw [if_neg (fun x => by have := (h.se i j hi hj hij).row.lt g e; omega)]
      exact h.tv i j g hi hj hij e
  · try dsimp only
    rw [if_neg (fun x => by have := lt_of_cellN h.c; omega)]
    exact h.tn
  · try dsimp only
    rw [if_neg (fun x => by have := h.mp.lt; omega)]
    exact h.tm
  · try dsimp only
    rw [if_neg (fun x => by have := h.fb k hk; omega)]
    exact h.lo k hk
  · have h1 := hP k hp
    rw [h.lo k hf] at h1
    cases h1

/-- What is written into blocks that are none of the net leaves it as it is. -/
theorem NetAt.mvf {w w' : World} {far : Nat → Prop} {n N : Nat} {st : Nat → Nat → Ses} (h : NetAt w far n N st) (hm : Mv far w w') : NetAt w' far n N st := by
  obtain ⟨h6, mb, cnt, blk, vs, tg, h⟩ := h
  have hno : ∀ k p, tg k = some p → ¬ far k := fun k p e hf => by rw [h.lo k hf] at e; cases e
  exact ⟨h6, mb, cnt, blk, vs, tg, hm.cell h.nn h.c, h.mp.block (hm.block mb h.mp.lt h.nm), fun a b h1 h2 h3 => (h.se a b h1 h2 h3).mv hm (hno _ _ (h.tb a b h1 h2 h3)) (fun g e => hno _ _ (h.tv a b g h1 h2 h3 e)), h.ok, h.tb, h.tv, h.tn, h.tm, fun k hk => Nat.lt_of_lt_of_le (h.fb k hk) hm.size, h.lo, h.nn, h.nm⟩

theorem zero_ses (w : World) : (zeroValue 49).run Try.prog w = .ok (.pointer none) w := by kernel_rfl

set_option maxRecDepth 100000 in
theorem sess_nil (a b : Int) (w : World) :
    Calls Try.prog 19 #[.pointer none, .int .i64 a, .int .i64 b] w fun e w' => e = .returned (.pointer none) ∧ w' = w := by
  go_enter Try.func19, Try.ntmps19
  go_wp2
  go_ret
  exact ⟨rfl, rfl⟩

set_option maxRecDepth 100000 in
theorem sess_at {w : World} {far : Nat → Prop} {n N : Nat} {st : Nat → Nat → Ses} {mb cnt : Nat} {blk : Nat → Nat → Nat} {vs : Nat → Nat → Value} {tg : Nat → Option (Nat × Nat)} (h : NetIn w far n N st mb cnt blk vs tg) (a b : Int) (h64 : In64 (a, b)) :
    Calls Try.prog 19 #[.pointer (some ⟨n, 0, none⟩), .int .i64 a, .int .i64 b] w fun e w' => e = .returned ((netG N blk (a, b)).getD (.pointer none)) ∧ w' = w := by
  have hl := h.mp.look Try.underlying46 (zero_ses w) h64
  have hc := h.c
  clear h h64
  generalize (netG N blk (a, b)).getD (.pointer none) = v at *
  go_enter Try.func19, Try.ntmps19
  go_wp2
  go_ret
  exact ⟨rfl, rfl⟩
theorem sess_ok {w : World} {far : Nat → Prop} {n N : Nat} {st : Nat → Nat → Ses} {mb cnt : Nat} {blk : Nat → Nat → Nat} {vs : Nat → Nat → Value} {tg : Nat → Option (Nat × Nat)} (h : NetIn w far n N st mb cnt blk vs tg) (h6 : N ≤ 6) {a b : Nat} (ha : a < N) (hb : b < N) (hab : a ≠ b) :
    Calls Try.prog 19 #[.pointer (some ⟨n, 0, none⟩), .int .i64 (a : Int), .int .i64 (b : Int)] w fun e w' => e = .returned (.pointer (some ⟨blk a b, 0, none⟩)) ∧ w' = w := by
  have := sess_at h (a : Int) (b : Int) (by unfold In64; dsimp only; omega)
  rw [show netG N blk ((a : Int), (b : Int)) = some (.pointer (some ⟨blk a b, 0, none⟩)) by unfold netG; rw [if_pos (vld_nat ha hb hab)]; rfl] at this
  exact this
/-- Where there is no session. -/
def NoSes (w : World) (nv : Value) (a b : Int) : Prop := ∀ w', Below w.heap.size w w' → Calls Try.prog 19 #[nv, .int .i64 a, .int .i64 b] w' fun e w2 => e = .returned (.pointer none) ∧ w2 = w'
theorem noSes_nil (w : World) (a b : Int) : NoSes w (.pointer none) a b := fun w' _ => sess_nil a b w'
theorem NetAt.noSes {w : World} {far : Nat → Prop} {n N : Nat} {st : Nat → Nat → Ses} (h : NetAt w far n N st) (a b : Int) (h64 : In64 (a, b)) (hv : ¬ Vld N (a, b)) : NoSes w (.pointer (some ⟨n, 0, none⟩)) a b := by
  intro w' hb
  obtain ⟨h6, _, _, _, _, _, h⟩ := h
  have := sess_at (h.below hb) a b h64
  rw [show netG N _ (a, b) = none by unfold netG; rw [if_neg hv]] at this
  exact this
end Go.Proofs.Ytgaghlofcokijaa
