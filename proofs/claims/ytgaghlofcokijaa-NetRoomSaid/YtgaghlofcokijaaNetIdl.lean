/- What a net's Idle answers. -/
import Derived.Test.YtgaghlofcokijaaNetNet
import Derived.Test.YtgaghlofcokijaaLinkOpen
import Derived.Maps.RangeWalk
namespace Go.Proofs.Ytgaghlofcokijaa
open Go.RowKit Go.Maps
set_option linter.unusedVariables false
set_option linter.unusedSimpArgs false

/-- No session has an open packet. -/
def idle (N : Nat) (st : Nat → Nat → Ses) : Bool := (List.range N).all fun a => (List.range N).all fun b => a == b || (st a b).opn == 0
theorem idle_iff (N : Nat) (st : Nat → Nat → Ses) : idle N st = true ↔ ∀ a b, a < N → b < N → a ≠ b → (st a b).opn = 0 := by
  simp only [idle, List.all_eq_true, List.mem_range, Bool.or_eq_true, beq_iff_eq]
  constructor
  · intro h a b ha hb hab
    rcases h a ha b hb with e | e
    · exact absurd e hab
    · exact e
  · intro h a ha b hb
    by_cases e : a = b
    · exact .inl e
    · exact .inr (h a b ha hb e)

/-- The step, where every element is a pointer to a block's beginning. -/
theorem wpList_next_net {w : World} {ops : Array Oper} {rest : List Oper} {o : Oper} {a : Act} {Q : Exit → Act → World → Prop} (hg : o.guard = none) (it : Operand) (hop : o.op = Op.next it false) (b r n : Nat) (D : DataW Value) (left : Lit → Bool) (cnt : Nat)
    (hit : a.eval it = .pointer (some ⟨r, 0, none⟩)) (h : w.ranges Try.prog 61 hvR b r n D left cnt)
    (hp : ∀ kl c, WideAt.IsKeyLit kl → (∀ z, D.atKey kl (.held z) = .held c) → ∃ p, c = .pointer (some ⟨p, 0, none⟩))
    (hDone : (∀ kl, left kl = false) → wpList Try.prog ops Q rest (a.put o.dst (.tuple #[.bool false])) w)
    (hMore : ∀ (x : Value) (p : Nat) (kl : Lit) (w' : World) (cnt' : Nat), WideAt.IsKeyLit kl → (∀ z, D.atKey kl (.held z) = .held (.pointer (some ⟨p, 0, none⟩))) → w'.ranges Try.prog 61 hvR b r n D (fun z => left z && !z.sameKey kl) cnt' → cnt' < cnt →
      w.grownBy w' (some r) → w'.heap.size = w.heap.size → (Instr.entry (.pointer (some ⟨r, 0, none⟩))).run Try.prog w' = .ok (.tuple #[x, .pointer (some ⟨p, 0, none⟩)]) w' → wpList Try.prog ops Q rest (a.put o.dst (.tuple #[.bool true, x, .pointer (some ⟨p, 0, none⟩)])) w') :
    wpList Try.prog ops Q (o :: rest) a w := by
  refine wpList_plain hg fun K' hK' => ?_
  unfold Oper.wp
  rcases h.next keyed_pair o.type with ⟨h0, hl, hrun⟩ | ⟨key, v, kl, y, w', cnt', hkey, hlk, hv, hat, hrun, hrg, hlt, hgr, hsz, hen⟩
  · simp [execOp, hop, hit, hrun, Result.andThen]
    exact hK' _ _ (hDone hl)
  · have hy : y.1 = .held v := by
      unfold hvR at hv
      cases hv
      rfl
    have hat' : ∀ z, D.atKey kl (.held z) = .held v := fun z => (hat _).trans hy
    obtain ⟨p, rfl⟩ := hp kl v (keyed_pair.key hkey) hat'
    simp [execOp, hop, hit, hrun, Result.andThen]
    exact hK' _ _ (hMore key p kl w' cnt' (keyed_pair.key hkey) hat' hrg hlt hgr hsz hen)

set_option maxRecDepth 100000 in
set_option maxHeartbeats 1600000 in
theorem nidle_net {w : World} {far : Nat → Prop} {n N : Nat} {st : Nat → Nat → Ses} (h : NetAt w far n N st) :
    Calls Try.prog 16 #[.pointer (some ⟨n, 0, none⟩)] w fun e w' => e = .returned (.bool (idle N st)) ∧ Below w.heap.size w w' := by
  obtain ⟨h6, mb, cnt, blk, vs, tg, h⟩ := h
  have hc := h.c
  obtain ⟨f, ⟨D, ho, hsz, hf⟩, hg, hall⟩ := h.mp
  have hmb := h.mp.lt
  -- whose element it is
  have HWH : Hid (∀ kl p, WideAt.IsKeyLit kl → (∀ z, D.atKey kl (.held z) = .held p) → ∃ a b, a < N ∧ b < N ∧ a ≠ b ∧ kl = kPr ((a : Int), (b : Int)) ∧ p = .pointer (some ⟨blk a b, 0, none⟩)) := Lib.hid (by
    intro kl p hk hz
    have e : f kl = some p := by
      have h1 := hz (.bool true)
      have h2 := hz (.bool false)
      rw [(hf kl hk).2] at h1 h2
      cases hfk : f kl with
      | none =>
        rw [hfk] at h1 h2
        simp at h1 h2
        rw [← h1] at h2
        cases h2
      | some x =>
        rw [hfk] at h1
        simp at h1
        rw [h1]
    obtain ⟨d, hd, rfl⟩ := hall kl p e
    rw [hg d hd] at e
    unfold netG at e
    by_cases hv : Vld N d
    · rw [if_pos hv] at e
      obtain ⟨x, y⟩ := d
      obtain ⟨v1, v2, v3, v4, v5⟩ := hv
      dsimp only at v1 v2 v3 v4 v5 e
      refine ⟨x.toNat, y.toNat, by omega, by omega, by omega, ?_, by simpa using e.symm⟩
      rw [Int.toNat_of_nonneg v1, Int.toNat_of_nonneg v3]
    · rw [if_neg hv] at e
      cases e)
  have HHAS : Hid (∀ a b, a < N → b < N → a ≠ b → Maps.has D (kPr ((a : Int), (b : Int))) = true) := Lib.hid (fun a b ha hb hab => by
    have h64 : In64 ((a : Int), (b : Int)) := by unfold In64; dsimp only; omega
    have hk := keyed_pair.key (key_pair h64)
    rw [(hf _ hk).1, hg _ h64]
    unfold netG
    rw [if_pos (vld_nat ha hb hab)]
    rfl)
  have HSE : Hid (∀ a b, a < N → b < N → a ≠ b → SesAt w (blk a b) (st a b) (vs a b)) := Lib.hid h.se
  have HP : Hid (∀ kl c, WideAt.IsKeyLit kl → (∀ z, D.atKey kl (.held z) = .held c) → ∃ p, c = .pointer (some ⟨p, 0, none⟩)) := Lib.hid (fun kl c hk hz => by
    obtain ⟨a, b, _, _, _, _, e⟩ := HWH.out kl c hk hz
    exact ⟨_, e⟩)
  have HID : Hid ((∀ a b, a < N → b < N → a ≠ b → (st a b).opn = 0) → idle N st = true) := Lib.hid (idle_iff N st).2
  have HND : Hid (∀ a b, a < N → b < N → a ≠ b → (st a b).opn ≠ 0 → idle N st = false) := Lib.hid (fun a b ha hb hab h0 => by
    cases hi : idle N st with
    | false => rfl
    | true => exact absurd ((idle_iff N st).1 hi a b ha hb hab) h0)
  have HN6 := Lib.hid h6
  generalize idle N st = R at *
  clear h hf hg hall hsz h6
  go_enter Try.func16, Try.ntmps16
  go_wp2_with (first | (at_range; refine wpList_range_own _ rfl _ 46 rfl 61 49 keyed_pair Try.underlying46 hvR mb cnt D rfl ho ?_; intro w0 hrg0 hg0 hs0) | go_in)
  go_frame
  have HB0 : Hid (Below w.heap.size w w0) := Lib.hid ((Below.refl _ w).grown hg0 (Nat.le_refl _) (fun k e => by cases e))
  have HR0 := Lib.hid hrg0
  clear hrg0 hg0 hs0 ho hc
  go_loopw [4] (fun _ wr => ∃ left c, wr.ranges Try.prog 61 hvR mb w.heap.size cnt D left c ∧ Below w.heap.size w wr ∧ ∀ a b, a < N → b < N → a ≠ b → left (kPr ((a : Int), (b : Int))) = false → (st a b).opn = 0) (fun _ wr => wr.rangeLeft mb w.heap.size)
  case atStart => exact ⟨_, _, HR0.out, HB0.out, fun a b ha hb hab e => by rw [HHAS.out a b ha hb hab] at e; cases e⟩
  case round =>
    obtain ⟨left, c, q1, q2, q3⟩ := hrel
    have HQ1 := Lib.hid q1
    have HQ2 := Lib.hid q2
    have HQ3 := Lib.hid q3
    clear q1 q2 q3
    go_wp2_with (at_next; refine wpList_next_net rfl _ rfl mb w.heap.size cnt D left c rfl HQ1.out HP.out ?_ ?_)
    · intro hl0
      have hR := HID.out (fun a b ha hb hab => HQ3.out a b ha hb hab (hl0 _))
      subst hR
      go_wp2
      go_ret
      exact ⟨rfl, HQ2.out⟩
    · intro x p kl w1 cnt1 hk hat hrg1 hlt hg1 hs1 hen
      obtain ⟨a, b, ha, hb, hab, rfl, e⟩ := HWH.out kl _ hk hat
      cases e
      have hB1 : Below w.heap.size w w1 := HQ2.out.grown hg1 HQ2.out.size (fun k e => by cases e; exact Nat.le_refl _)
      have hop := open_at (blk a b) (st a b).m ((st a b).all.drop (st a b).m) w1 ((HSE.out a b ha hb hab).below hB1).sn
      unfold OpenedAt at hop
      rw [List.length_drop] at hop
      change Calls _ _ _ _ (fun e w' => ∃ g, e = .returned (.slice (some ⟨g, 0, none⟩) (st a b).opn (st a b).opn) ∧ _) at hop
      have HB1 := Lib.hid hB1
      have HRG := Lib.hid hrg1
      have HLT := Lib.hid hlt
      have hk64 : In64 ((a : Int), (b : Int)) := by have := HN6.out; unfold In64; dsimp only; omega
      have HINV : Hid ((st a b).opn = 0 → ∀ i j, i < N → j < N → i ≠ j → (left (kPr ((i : Int), (j : Int))) && !(kPr ((i : Int), (j : Int))).sameKey (kPr ((a : Int), (b : Int)))) = false → (st i j).opn = 0) := Lib.hid (fun h0 i j hi hj hij e => by
        cases hl : left (kPr ((i : Int), (j : Int))) with
        | false => exact HQ3.out i j hi hj hij hl
        | true =>
          rw [hl] at e
          have e' : (kPr ((i : Int), (j : Int))).sameKey (kPr ((a : Int), (b : Int))) = true := by simpa using e
          have h64 : In64 ((i : Int), (j : Int)) := by have := HN6.out; unfold In64; dsimp only; omega
          have := kPr_inj h64 hk64 (WideAt.sameKey_eq e')
          simp only [Prod.mk.injEq] at this
          obtain ⟨e1, e2⟩ := this
          have e1 : i = a := by omega
          have e2 : j = b := by omega
          subst e1
          subst e2
          exact h0)
      have HN := Lib.hid (HND.out a b ha hb hab)
      have HQC : Hid (w1.rangeLeft mb w.heap.size < wr.rangeLeft mb w.heap.size) := Lib.hid (by rw [hrg1.left_eq, HQ1.out.left_eq]; exact hlt)
      clear hB1 hrg1 hlt hg1 hs1 hat hk hk64 ha hb hab HQ1 HQ2 HQ3
      generalize (st a b).opn = q at *
      by_cases h0 : q = 0
      · subst h0
        go_wp2_with fail
        refine hop.mono ?_
        rintro e w2 ⟨g, rfl, _, _, hb2⟩
        have hgb : w1.grownBy w2 none := ⟨hb2.os, hb2.tape, hb2.output, hb2.size, fun k hk _ => hb2.block k hk⟩
        have HR2 := Lib.hid (HRG.out.kept hgb (by simp) (by simp))
        have HB2 := Lib.hid (HB1.out.trans (hb2.mono HB1.out.size))
        have HM2 : Hid (w2.rangeLeft mb w.heap.size < wr.rangeLeft mb w.heap.size) := Lib.hid (by rw [HR2.out.left_eq, ← HRG.out.left_eq]; exact HQC.out)
        clear hb2 hgb hop
        go_wp2
        go_roundw
        case rel => exact ⟨_, _, HR2.out, HB2.out, HINV.out (by trivial)⟩
        case measure => exact HM2.out
      · have hq : 0 < (q : Int) := by omega
        have hR := HN.out h0
        subst hR
        go_wp2_with fail
        refine hop.mono ?_
        rintro e w2 ⟨g, rfl, _, _, hb2⟩
        have HB2 := Lib.hid (HB1.out.trans (hb2.mono HB1.out.size))
        clear hb2 hop h0
        go_wp2
        go_ret
        exact ⟨rfl, HB2.out⟩
end Go.Proofs.Ytgaghlofcokijaa
