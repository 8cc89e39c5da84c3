/- Two shards side by side. -/
import Derived.Test.YtjfmgplhcinkfaaGS28
import Derived.Test.YtjfmgplhcinkfaaShOrdMath
namespace Go.Proofs.Ytjfmgplhcinkfaa
open Go.RowKit
set_option linter.unusedVariables false
set_option linter.unusedSimpArgs false

def TwoS (w : World) (base b1 b2 : Nat) (R : List (ByteArray × ByteArray)) (F1 F2 : Ch) (N : Nat) : Prop :=
  ∃ S1 S2 L1 L2, SdAt w S1 b1 R L1 F1 ∧ SdAt w S2 b2 R L2 F2 ∧ (∀ j, S1 j → ¬ S2 j) ∧ (∀ j, S1 j → base ≤ j) ∧ (∀ j, S2 j → base ≤ j) ∧ L1.length ≤ N ∧ L2.length ≤ N
section
variable {w w' : World} {base b1 b2 N : Nat} {R : List (ByteArray × ByteArray)} {F1 F2 : Ch}
theorem TwoS.swap (h : TwoS w base b1 b2 R F1 F2 N) : TwoS w base b2 b1 R F2 F1 N := by
  obtain ⟨S1, S2, L1, L2, h1, h2, h3, h4, h5, h6, h7⟩ := h
  exact ⟨S2, S1, L2, L1, h2, h1, fun j hj hs => h3 j hs hj, h5, h4, h7, h6⟩
theorem TwoS.below (h : TwoS w base b1 b2 R F1 F2 N) (hb : Below w.heap.size w w') : TwoS w' base b1 b2 R F1 F2 N := by
  obtain ⟨S1, S2, L1, L2, h1, h2, h3, h4, h5, h6, h7⟩ := h
  exact ⟨S1, S2, L1, L2, h1.below hb, h2.below hb, h3, h4, h5, h6, h7⟩
theorem TwoS.mono {N' : Nat} (h : TwoS w base b1 b2 R F1 F2 N) (hn : N ≤ N') : TwoS w base b1 b2 R F1 F2 N' := by
  obtain ⟨S1, S2, L1, L2, h1, h2, h3, h4, h5, h6, h7⟩ := h
  exact ⟨S1, S2, L1, L2, h1, h2, h3, h4, h5, by omega, by omega⟩
theorem tput_any (h : TwoS w base b1 b2 R F1 F2 N) (hbs : base ≤ w.heap.size) (hR : R.length ≤ 100) (hN : N ≤ 1000) (x : Vw) (hc : (F1 x.1.key).length ≤ 100000) (hx : VwB w x) (hpx : x.1.past = []) (hp2 : ∀ k, ∀ y ∈ F2 k, y.1.past = []) :
    Calls Try.prog 15 #[.pointer (some ⟨b1, 0, none⟩), wV x] w fun e w' => e = .returned (.bool (ownsK R x.1.key && putOk (F1 x.1.key) x)) ∧ TwoS w' base b1 b2 R (putF R F1 x) F2 (N + 1) ∧ Below base w w' := by
  obtain ⟨S1, S2, L1, L2, h1, h2, h3, h4, h5, h6, h7⟩ := h
  refine (sput_any h1 hR (by omega) x hc hx (PastIn.of_nil hpx) (by have := hx.1.key; unfold maxLen; exact this)).mono ?_
  rintro e w' ⟨he, ⟨S', M, hl, hs, hsub⟩, hm⟩
  have h2' := h2.mv hm (fun j hj hs => h3 j hs hj) (fun k y hy => PastIn.of_nil (hp2 k y hy))
  refine ⟨he, ⟨S', S2, M, L2, hs, h2', fun j hj hs2 => ?_, fun j hj => ?_, h5, by omega, by omega⟩, hm.below (fun k hk hs => by have := h4 k hs; omega) hbs⟩
  · rcases hsub j hj with h | h
    · exact h3 j h hs2
    · have := h2.lt j hs2; omega
  · rcases hsub j hj with h | h
    · exact h4 j h
    · omega
theorem tchain_any (h : TwoS w base b1 b2 R F1 F2 N) (k : ByteArray) (hk : k.size ≤ maxLen) (hl : (F1 k).length ≤ 100000) :
    Calls Try.prog 25 #[.pointer (some ⟨b1, 0, none⟩), .string k] w fun e w' => ∃ v, e = .returned v ∧ OwnR KW w' w.heap.size v (F1 k) ∧ Below w.heap.size w w' := by
  obtain ⟨S1, S2, L1, L2, h1, h2, h3, h4, h5, h6, h7⟩ := h
  exact sChain_any h1 k hk hl
theorem thave_any (h : TwoS w base b1 b2 R F1 F2 N) (hN : N ≤ 1000) (hF : ∀ k, (F1 k).length ≤ 1000000) :
    Calls Try.prog 19 #[.pointer (some ⟨b1, 0, none⟩)] w fun e w' => ∃ v L, KeyL F1 L ∧ L.length ≤ N ∧ e = .returned v ∧ OwnD w' w.heap.size v (haveL F1 L) ∧ Below w.heap.size w w' := by
  obtain ⟨S1, S2, L1, L2, h1, h2, h3, h4, h5, h6, h7⟩ := h
  refine (shave_any h1 (by omega) (fun k _ => hF k)).mono ?_
  rintro e w' ⟨v, he, ho, hb⟩
  exact ⟨v, L1, h1.kl, h6, he, ho, hb⟩
end
theorem TwoS.made {w3 w5 : World} {b1 b2 : Nat} {R : List (ByteArray × ByteArray)} {S1 S2 : Nat → Prop} {base w4 : Nat} (h1 : SdAt w3 S1 b1 R [] (fun _ => [])) (hs1 : ∀ j, S1 j → base ≤ j) (hb : Below w3.heap.size w3 w5) (h2 : SdAt w5 S2 b2 R [] (fun _ => [])) (hs2 : ∀ j, S2 j → w4 ≤ j) (hw : w3.heap.size ≤ w4) (hbs : base ≤ w4) : TwoS w5 base b1 b2 R (fun _ => []) (fun _ => []) 0 :=
  ⟨S1, S2, [], [], h1.below hb, h2, fun j hj hs => by have := h1.lt j hj; have := hs2 j hs; omega, hs1, fun j hj => by have := hs2 j hj; omega, by simp, by simp⟩
theorem OrdF.past {l : List Int} {P : Nat → Prop} {F : Ch} (h : OrdF l P F) : ∀ k, ∀ y ∈ F k, y.1.past = [] := fun k y hy => by
  obtain ⟨i, _, rfl, _⟩ := (h.mem k y).1 hy
  rfl
theorem ordE_bd {w : World} (l : List Int) (i : Nat) (h : i < 1000) : VwB w (ordE l i) :=
  verK_bd (by rw [wordK_size]; unfold maxLen; omega) (by show (0 : Nat) ≤ maxLen; omega) (by unfold In64; dsimp only; omega)
theorem OrdF.bd {l : List Int} {P : Nat → Prop} {F : Ch} (h : OrdF l P F) (hp : ∀ i, P i → i < 1000) : ∀ W k, ∀ y ∈ F k, VwB W y := fun W k y hy => by
  obtain ⟨i, hi, rfl, _⟩ := (h.mem k y).1 hy
  exact ordE_bd l i (hp i hi)
end Go.Proofs.Ytjfmgplhcinkfaa
