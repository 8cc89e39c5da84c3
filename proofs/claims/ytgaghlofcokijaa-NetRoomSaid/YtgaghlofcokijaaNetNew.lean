/- What New makes. -/
import Derived.Test.YtgaghlofcokijaaNetNet
import Derived.Maps.Own
namespace Go.Proofs.Ytgaghlofcokijaa
open Go.RowKit Go.Maps
set_option linter.unusedVariables false
set_option linter.unusedSimpArgs false

theorem SesAt.new (w : World) (T : TypeId) : SesAt (w.alloc (.cells #[.int .i64 0, .int .i64 0, .string ⟨#[]⟩, .int .i64 0, .string ⟨#[]⟩, .int .i64 0, .string ⟨#[]⟩, .int .i64 0, .string ⟨#[]⟩, .int .i64 0, .string ⟨#[]⟩, .int .i64 0, .string ⟨#[]⟩, .int .i64 0, .string ⟨#[]⟩, .int .i64 0, .string ⟨#[]⟩, .int .i64 0, .int .i64 0, .slice none 0 0] T)) w.heap.size Ses.zero (.slice none 0 0) := by
  refine ⟨⟨by simp [Ses.zero], fun _ => 0, fun _ => ⟨#[]⟩, ⟨by simp [Ses.zero], by simp [Ses.zero], fun i hi => ?_, fun i hi => ?_, fun j => by simp⟩, fun i h => absurd h (by simp [Ses.zero])⟩, by simp [Ses.zero], by simp, OwnQ.nil _, by simp [Value.ownBlock]⟩
  · have : i = 0 ∨ i = 1 ∨ i = 2 ∨ i = 3 ∨ i = 4 ∨ i = 5 ∨ i = 6 ∨ i = 7 := by omega
    rcases this with rfl | rfl | rfl | rfl | rfl | rfl | rfl | rfl <;> simp
  · have : i = 0 ∨ i = 1 ∨ i = 2 ∨ i = 3 ∨ i = 4 ∨ i = 5 ∨ i = 6 ∨ i = 7 := by omega
    rcases this with rfl | rfl | rfl | rfl | rfl | rfl | rfl | rfl <;> simp

def netD (N : Nat) (dn : Nat → Nat → Bool) (blk : Nat → Nat → Nat) (p : Int × Int) : Option Value := if Vld N p ∧ dn p.1.toNat p.2.toNat = true then some (.pointer (some ⟨blk p.1.toNat p.2.toNat, 0, none⟩)) else none
/-- A net that is being made: dn: which sessions are there. -/
def NewI (w wr : World) (mb n N : Nat) (dn : Nat → Nat → Bool) (most : Nat) : Prop := ∃ cnt blk,
  wr.cell? ⟨n, 0, none⟩ = some (.map (some mb)) ∧ MapP wr mb cnt (netD N dn blk) ∧ cnt ≤ most ∧
  (∀ a b, a < N → b < N → a ≠ b → dn a b = true → SesAt wr (blk a b) Ses.zero (.slice none 0 0) ∧ n < blk a b ∧ mb < blk a b ∧ w.heap.size ≤ blk a b) ∧
  (∀ a b i j, a < N → b < N → a ≠ b → dn a b = true → i < N → j < N → i ≠ j → dn i j = true → blk a b = blk i j → a = i ∧ b = j) ∧ Below w.heap.size w wr
theorem NewI.congr {w wr : World} {mb n N : Nat} {dn dn' : Nat → Nat → Bool} {most most' : Nat} (h : NewI w wr mb n N dn most) (hd : ∀ a b, a < N → b < N → a ≠ b → dn a b = dn' a b) (hm : most ≤ most') : NewI w wr mb n N dn' most' := by
  obtain ⟨cnt, blk, h1, h2, h3, h4, h5, h6⟩ := h
  refine ⟨cnt, blk, h1, h2.congr (fun d hd' => ?_), by omega, fun a b ha hb hab e => h4 a b ha hb hab ((hd a b ha hb hab).trans e), fun a b i j ha hb hab e hi hj hij e' => h5 a b i j ha hb hab ((hd a b ha hb hab).trans e) hi hj hij ((hd i j hi hj hij).trans e'), h6⟩
  unfold netD
  by_cases hv : Vld N d
  · obtain ⟨x, y⟩ := d
    obtain ⟨v1, v2, v3, v4, v5⟩ := hv
    dsimp only at v1 v2 v3 v4 v5
    rw [hd x.toNat y.toNat (by omega) (by omega) (by omega)]
  · rw [if_neg (fun e => hv e.1), if_neg (fun e => hv e.1)]
/-- One more session. -/
theorem NewI.step {w wr w1 w2 : World} {mb n N : Nat} {dn : Nat → Nat → Bool} {cnt : Nat} {blk : Nat → Nat → Nat} {most : Nat} (hmn : mb ≠ n) (hbm : w.heap.size ≤ mb)
    (h1 : wr.cell? ⟨n, 0, none⟩ = some (.map (some mb))) (hmb : mb < wr.heap.size) (h3 : cnt ≤ most)
    (h4 : ∀ a b, a < N → b < N → a ≠ b → dn a b = true → SesAt wr (blk a b) Ses.zero (.slice none 0 0) ∧ n < blk a b ∧ mb < blk a b ∧ w.heap.size ≤ blk a b)
    (h5 : ∀ a b i j, a < N → b < N → a ≠ b → dn a b = true → i < N → j < N → i ≠ j → dn i j = true → blk a b = blk i j → a = i ∧ b = j) (h6 : Below w.heap.size w wr)
    {a b : Nat} (ha : a < N) (hb : b < N) (hab : a ≠ b) (hd : dn a b = false) (hw1 : Below wr.heap.size wr w1) (hs : SesAt w1 wr.heap.size Ses.zero (.slice none 0 0)) {cnt' : Nat}
    (hm : MapP w2 mb cnt' (fun d => if d = ((a : Int), (b : Int)) then some (.pointer (some ⟨wr.heap.size, 0, none⟩)) else netD N dn blk d)) (hc : cnt' ≤ cnt + 1) (ht : w1.mapTurned w2 mb) :
    NewI w w2 mb n N (fun i j => dn i j || (i == a && j == b)) (most + 1) := by
  have hsz := turned_size ht
  have hkeep : ∀ k, k < w1.heap.size → k ≠ mb → w2.heap[k]? = w1.heap[k]? := fun k _ hk => turned_block ht k hk
  have hnlt := lt_of_cellN h1
  have key : ∀ i j, (dn i j || (i == a && j == b)) = true → ¬ (i = a ∧ j = b) → dn i j = true := by
    intro i j e hn
    cases hdd : dn i j with
    | true => rfl
    | false =>
      rw [hdd] at e
      simp at e
      exact absurd e hn
  refine ⟨cnt', upd blk a b wr.heap.size, ?_, hm.congr (fun d hd' => ?_), by omega, fun i j hi hj hij e => ?_, fun i j i' j' hi hj hij e hi' hj' hij' e' eb => ?_, ?_⟩
  · rw [World.cell?_of_block (turned_block ht n (fun e => hmn e.symm)), World.cell?_of_block (hw1.block n hnlt)]
    exact h1
  · try dsimp only
    obtain ⟨x, y⟩ := d
    unfold netD
    dsimp only
    by_cases e : (x, y) = ((a : Int), (b : Int))
    · rw [if_pos e]
      simp only [Prod.mk.injEq] at e
      obtain ⟨rfl, rfl⟩ := e
      rw [if_pos ⟨vld_nat ha hb hab, by simp⟩]
      simp [upd]
    · rw [if_neg e]
      by_cases hv : Vld N (x, y)
      · obtain ⟨v1, v2, v3, v4, v5⟩ := hv
        dsimp only at v1 v2 v3 v4 v5
        have hne : ¬ (x.toNat = a ∧ y.toNat = b) := by
          rintro ⟨e1, e2⟩
          apply e
          simp only [Prod.mk.injEq]
          omega
        have e2 : (dn x.toNat y.toNat || (x.toNat == a && y.toNat == b)) = dn x.toNat y.toNat := by
          cases dn x.toNat y.toNat with
          | true => rfl
          | false => simp; omega
        simp only [e2, upd_other _ _ hne]
      · rw [if_neg (fun e => hv e.1), if_neg (fun e => hv e.1)]
  · by_cases e' : i = a ∧ j = b
    · obtain ⟨rfl, rfl⟩ := e'
      rw [upd_same]
      have h1' := hs.block (w' := w2) (hkeep _ hs.lt (by omega)) (fun g e => by simp [Value.ownBlock] at e)
      exact ⟨h1', hnlt, hmb, h6.size⟩
    · rw [upd_other _ _ e']
      obtain ⟨q1, q2, q3, q4⟩ := h4 i j hi hj hij (key i j e e')
      refine ⟨(q1.below hw1).block (hkeep _ (q1.below hw1).lt (by omega)) (fun g e => by simp [Value.ownBlock] at e), q2, q3, q4⟩
  · by_cases c1 : i = a ∧ j = b
    · by_cases c2 : i' = a ∧ j' = b
      · omega
      · obtain ⟨rfl, rfl⟩ := c1
        rw [upd_same, upd_other _ _ c2] at eb
        have := (h4 i' j' hi' hj' hij' (key i' j' e' c2)).1.lt
        omega
    · by_cases c2 : i' = a ∧ j' = b
      · obtain ⟨rfl, rfl⟩ := c2
        rw [upd_same, upd_other _ _ c1] at eb
        have := (h4 i j hi hj hij (key i j e c1)).1.lt
        omega
      · rw [upd_other _ _ c1, upd_other _ _ c2] at eb
        exact h5 i j i' j' hi hj hij (key i j e c1) hi' hj' hij' (key i' j' e' c2) eb
  · exact (h6.trans (hw1.mono h6.size)).trans (turned_below ht hbm (Nat.le_trans h6.size hw1.size))
/-- All sessions are there. -/
theorem NewI.done {w wr : World} {mb n N : Nat} {most : Nat} (h6 : N ≤ 6) (hn : w.heap.size ≤ n) (hm : w.heap.size ≤ mb) (h : NewI w wr mb n N (fun _ _ => true) most) : NetAt wr (fun k => k < w.heap.size) n N (fun _ _ => Ses.zero) := by
  classical
  obtain ⟨cnt, blk, h1, h2, h3, h4, h5, hb⟩ := h
  have hex : ∀ k, (h : ∃ p : Nat × Nat, p.1 < N ∧ p.2 < N ∧ p.1 ≠ p.2 ∧ blk p.1 p.2 = k) → blk (Classical.choose h).1 (Classical.choose h).2 = k := fun k h => (Classical.choose_spec h).2.2.2
  refine ⟨h6, mb, cnt, blk, fun _ _ => .slice none 0 0, fun k => if h : ∃ p : Nat × Nat, p.1 < N ∧ p.2 < N ∧ p.1 ≠ p.2 ∧ blk p.1 p.2 = k then some (Classical.choose h) else none, h1, h2.congr (fun d hd => ?_), fun a b ha hb' hab => (h4 a b ha hb' hab rfl).1, fun a b _ _ _ => Ses.zero_ok, fun a b ha hb' hab => ?_, fun a b g _ _ _ e => by simp [Value.ownBlock] at e, ?_, ?_, fun k hk => Nat.lt_of_lt_of_le hk hb.size, fun k hk => ?_, by omega, by omega⟩
  · unfold netD netG
    simp
  · try dsimp only
    have hx : ∃ p : Nat × Nat, p.1 < N ∧ p.2 < N ∧ p.1 ≠ p.2 ∧ blk p.1 p.2 = blk a b := ⟨(a, b), ha, hb', hab, rfl⟩
    rw [dif_pos hx]
    obtain ⟨c1, c2, c3, c4⟩ := Classical.choose_spec hx
    have := h5 _ _ a b c1 c2 c3 rfl ha hb' hab rfl c4
    rw [Option.some.injEq]
    exact Prod.ext this.1 this.2
  · try dsimp only
    rw [dif_neg]
    rintro ⟨p, c1, c2, c3, c4⟩
    have := (h4 _ _ c1 c2 c3 rfl).2.1
    omega
  · try dsimp only
    rw [dif_neg]
    rintro ⟨p, c1, c2, c3, c4⟩
    have := (h4 _ _ c1 c2 c3 rfl).2.2.1
    omega
  · try dsimp only
    rw [dif_neg]
    rintro ⟨p, c1, c2, c3, c4⟩
    have := (h4 _ _ c1 c2 c3 rfl).2.2.2
    omega

set_option maxRecDepth 100000 in
theorem nnew_bad (N : Int) (w : World) (h : N < 1 ∨ 6 < N) :
    Calls Try.prog 10 #[.int .i64 N] w fun e w' => e = .returned (.pointer none) ∧ w' = w := by
  by_cases h1 : N < 1
  · clear h
    go_enter Try.func10, Try.ntmps10
    go_wp2
    go_ret
    exact ⟨rfl, rfl⟩
  · have h2 : 6 < N := by omega
    clear h
    go_enter Try.func10, Try.ntmps10
    go_wp2
    go_ret
    exact ⟨rfl, rfl⟩

set_option maxRecDepth 100000 in
set_option maxHeartbeats 3200000 in
theorem nnew_any (N : Nat) (w : World) (h0 : 1 ≤ N) (h6 : N ≤ 6) :
    Calls Try.prog 10 #[.int .i64 (N : Int)] w fun e w' => ∃ n, e = .returned (.pointer (some ⟨n, 0, none⟩)) ∧ w.heap.size ≤ n ∧ NetAt w' (fun k => k < w.heap.size) n N (fun _ _ => Ses.zero) ∧ Below w.heap.size w w' := by
  have hmm := @run_makeMap Try.prog
  have g1 : ¬ (N : Int) < 1 := by omega
  have g2 : ¬ 6 < (N : Int) := by omega
  have HN := Lib.hid h6
  have hM := MapP.made w
  have hba := balloc (Below.refl _ (w.alloc (.map #[] 0))) (.cells #[.map (some w.heap.size)] 48)
  have HB := Lib.hid (bstep (balloc (Below.refl _ w) (.map #[] 0)) hba)
  have HZ : Hid ((w.alloc (.map #[] 0)).heap.size = w.heap.size + 1) := Lib.hid (by simp)
  have HC : Hid (((w.alloc (.map #[] 0)).alloc (.cells #[.map (some w.heap.size)] 48)).cell? ⟨w.heap.size + 1, 0, none⟩ = some (.map (some w.heap.size))) := Lib.hid (by rw [← HZ.out]; simp)
  have HM := Lib.hid (hM.below hba)
  clear hM hba h0 h6
  go_enter Try.func10, Try.ntmps10
  go_wp2_with fail
  have HI : Hid (NewI w ((w.alloc (.map #[] 0)).alloc (.cells #[.map (some w.heap.size)] 48)) w.heap.size (w.heap.size + 1) N (fun i j => decide (i < 0)) (0 * 6)) := Lib.hid
    ⟨0, fun _ _ => 0, HC.out, HM.out.congr (fun d hd => by unfold netD; rw [if_neg (by simp)]), by omega, fun a b _ _ _ e => by simp at e, fun a b i j _ _ _ e => by simp at e, HB.out⟩
  clear HM HC HB HZ
  go_loopw [16] (fun i wr => ∃ a : Nat, a ≤ N ∧ i = .int .i64 a ∧ NewI w wr w.heap.size (w.heap.size + 1) N (fun i j => decide (i < a)) (a * 6)) (fun i _ => N - (intOf i).toNat)
  case atStart => exact ⟨0, by omega, rfl, HI.out⟩
  case round =>
    obtain ⟨a, ha, rfl, hI⟩ := hrel
    have h6a := HN.out
    by_cases hlt : a < N
    · have hai : (a : Int) < (N : Int) := by omega
      have HI2 : Hid (NewI w wr w.heap.size (w.heap.size + 1) N (fun i j => decide (i < a) || (i == a && decide (j < 0))) (a * 6 + 0)) := Lib.hid (hI.congr (fun i j _ _ _ => by simp) (by omega))
      have HLT := Lib.hid hlt
      have HAA := Lib.hid ha
      clear hI HI hlt ha
      go_wp2_with fail
      go_loopw [20] (fun j wr2 => ∃ b : Nat, b ≤ N ∧ j = .int .i64 b ∧ NewI w wr2 w.heap.size (w.heap.size + 1) N (fun i j => decide (i < a) || (i == a && decide (j < b))) (a * 6 + b)) (fun j _ => N - (intOf j).toNat)
      case atStart => exact ⟨0, by omega, rfl, HI2.out⟩
      case round =>
        obtain ⟨b, hb, rfl, hJ⟩ := hrel
        have hlt' := HLT.out
        by_cases hlb : b < N
        · have hbi : (b : Int) < (N : Int) := by omega
          by_cases hab : a = b
          · subst hab
            have HJ2 := Lib.hid (hJ.congr (dn' := fun i j => decide (i < a) || (i == a && decide (j < a + 1))) (most' := a * 6 + (a + 1)) (fun i j _ _ hij => by
              by_cases e : i = a
              · subst e
                have : j < i + 1 ↔ j < i := by omega
                simp [this]
              · have e' : (i == a) = false := by simpa using e
                simp only [e', Bool.false_and]) (by omega))
            have HLB := Lib.hid hlb
            clear hJ HI2 hb hlb
            go_wp2
            go_roundw
            case rel => exact ⟨a + 1, HLB.out, by go_num, HJ2.out⟩
            case measure => have := HLB.out; simp [intOf]; omega
          · have g3 : ((a : Int) != (b : Int)) = true := by simp; omega
            obtain ⟨cnt, blk, j1, j2, j3, j4, j5, j6⟩ := hJ
            have hh64 : In64 ((a : Int), (b : Int)) := by unfold In64; dsimp only; omega
            have hmb := j2.lt
            have hcn : cnt < maxLen := by unfold maxLen; omega
            have hb1 := balloc (Below.refl _ wr) (.cells #[.int .i64 0, .int .i64 0, .string ⟨#[]⟩, .int .i64 0, .string ⟨#[]⟩, .int .i64 0, .string ⟨#[]⟩, .int .i64 0, .string ⟨#[]⟩, .int .i64 0, .string ⟨#[]⟩, .int .i64 0, .string ⟨#[]⟩, .int .i64 0, .string ⟨#[]⟩, .int .i64 0, .string ⟨#[]⟩, .int .i64 0, .int .i64 0, .slice none 0 0] 60)
            have HM1 := Lib.hid (j2.below hb1)
            have HS1 := Lib.hid (SesAt.new wr 60)
            have HGN : Hid ((netD N (fun i j => decide (i < a) || (i == a && decide (j < b))) blk ((a : Int), (b : Int))).isSome = false) := Lib.hid (by unfold netD; rw [if_neg (by simp)]; rfl)
            have HFIN : Hid (∀ w2 f, MapP w2 w.heap.size (if (netD N (fun i j => decide (i < a) || (i == a && decide (j < b))) blk ((a : Int), (b : Int))).isSome = true then cnt else cnt + 1) f → (∀ d, f d = if d = ((a : Int), (b : Int)) then some (.pointer (some ⟨wr.heap.size, 0, none⟩)) else netD N (fun i j => decide (i < a) || (i == a && decide (j < b))) blk d) → (wr.alloc (.cells #[.int .i64 0, .int .i64 0, .string ⟨#[]⟩, .int .i64 0, .string ⟨#[]⟩, .int .i64 0, .string ⟨#[]⟩, .int .i64 0, .string ⟨#[]⟩, .int .i64 0, .string ⟨#[]⟩, .int .i64 0, .string ⟨#[]⟩, .int .i64 0, .string ⟨#[]⟩, .int .i64 0, .string ⟨#[]⟩, .int .i64 0, .int .i64 0, .slice none 0 0] 60)).mapTurned w2 w.heap.size →
                NewI w w2 w.heap.size (w.heap.size + 1) N (fun i j => decide (i < a) || (i == a && decide (j < b + 1))) (a * 6 + (b + 1))) := Lib.hid (fun w2 f hm hf ht => by
              refine NewI.congr (most := a * 6 + b + 1) (NewI.step (by omega) (Nat.le_refl _) j1 hmb j3 j4 j5 j6 hlt' hlb hab (by simp) hb1 HS1.out (hm.congr (fun d _ => hf d)) (by split <;> omega) ht) (fun i j _ _ _ => ?_) (by omega)
              by_cases e1 : i = a
              · subst e1
                by_cases e2 : j = b
                · subst e2
                  simp
                · have : j < b + 1 ↔ j < b := by omega
                  simp [this, e2]
              · have e' : (i == a) = false := by simpa using e1
                simp only [e', Bool.false_and, Bool.or_false])
            have HLB := Lib.hid hlb
            clear j2 j4 j5 j6 hb1 hlb hb HI2 hab
            go_wp2_with (at_mapUpdate; refine wp_mapSetP rfl _ _ _ rfl Try.underlying46 rfl HM1.out hcn (a : Int) (b : Int) (.pointer (some ⟨wr.heap.size, 0, none⟩)) rfl rfl hh64 ?_; intro w2 hm2 ht2)
            have HE := Lib.hid (HFIN.out w2 _ hm2 (fun d => rfl) ht2)
            clear hm2 ht2 HFIN HM1 HS1 HGN
            go_wp2
            go_roundw
            case rel => exact ⟨b + 1, HLB.out, by go_num, HE.out⟩
            case measure => have := HLB.out; simp [intOf]; omega
        · have HE : Hid (NewI w wr w.heap.size (w.heap.size + 1) N (fun i j => decide (i < a + 1)) ((a + 1) * 6)) := Lib.hid (hJ.congr (dn' := fun i j => decide (i < a + 1)) (most' := (a + 1) * 6) (fun i j hi hj _ => by
            have : j < b := by omega
            by_cases e1 : i = a
            · subst e1
              simp [this]
            · have : i < a + 1 ↔ i < a := by omega
              simp [e1, this]) (by omega))
          have hbN : ¬ (b : Int) < (N : Int) := by omega
          clear hJ HI2 hlb hb
          go_wp2
          go_roundw
          case rel => exact ⟨a + 1, HLT.out, by go_num, HE.out⟩
          case measure => have := HLT.out; simp [intOf]; omega
    · have haN : ¬ (a : Int) < (N : Int) := by omega
      have HE := Lib.hid (NewI.done HN.out (by omega) (Nat.le_refl _) (hI.congr (dn' := fun _ _ => true) (fun i j hi _ _ => by have : i < a := by omega
                                                                                                                               simp [this]) (Nat.le_refl _)))
      obtain ⟨_, _, _, _, _, _, _, hb⟩ := hI
      have HBB := Lib.hid hb
      clear hb hlt ha HI
      go_wp2
      go_ret
      exact ⟨_, rfl, by omega, HE.out, HBB.out⟩
end Go.Proofs.Ytgaghlofcokijaa
