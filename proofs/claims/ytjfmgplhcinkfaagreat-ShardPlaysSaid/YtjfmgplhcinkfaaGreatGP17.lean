/- Texts of this proof, one behind the other: ShA, ShAwake, ChCheck, ChRef, ShLaw2, MapD. -/
import Derived.Test.YtjfmgplhcinkfaaGreatGP16
import Derived.Deep.RegionHeld3
import Derived.Deep.DeepCutAuto
/- A shard as a law sees it: what lies apart from it stays as it is. -/
namespace Go.Proofs.YtjfmgplhcinkfaaGreat
open Go.RowKit
set_option linter.unusedVariables false
set_option linter.unusedSimpArgs false

/-- A: blocks that are none of the shard's; at most N keys. -/
def ShA (w : World) (A : Nat → Prop) (N b : Nat) (R : List (ByteArray × ByteArray)) (F : Ch) : Prop := ∃ S L, SdAt w S b R L F ∧ L.length ≤ N ∧ ∀ j, A j → j < w.heap.size ∧ ¬ S j
section
variable {w w' : World} {A : Nat → Prop} {N b : Nat} {R : List (ByteArray × ByteArray)} {F : Ch}
theorem ShA.below (h : ShA w A N b R F) (hb : Below w.heap.size w w') : ShA w' A N b R F := by
  obtain ⟨S, L, h1, h2, h3⟩ := h
  exact ⟨S, L, h1.below hb, h2, fun j hj => ⟨Nat.lt_of_lt_of_le (h3 j hj).1 hb.size, (h3 j hj).2⟩⟩
/-- What is made beside it lies apart, too. -/
theorem ShA.more (h : ShA w A N b R F) (hb : Below w.heap.size w w') : ShA w' (fun j => A j ∨ (w.heap.size ≤ j ∧ j < w'.heap.size)) N b R F := by
  obtain ⟨S, L, h1, h2, h3⟩ := h
  refine ⟨S, L, h1.below hb, h2, fun j hj => ?_⟩
  rcases hj with hj | ⟨hj, hj'⟩
  · exact ⟨Nat.lt_of_lt_of_le (h3 j hj).1 hb.size, (h3 j hj).2⟩
  · exact ⟨hj', fun hs => by have := h1.lt j hs; omega⟩
theorem ShA.weak {A' : Nat → Prop} (h : ShA w A N b R F) (ha : ∀ j, A' j → A j) : ShA w A' N b R F := by
  obtain ⟨S, L, h1, h2, h3⟩ := h
  exact ⟨S, L, h1, h2, fun j hj => h3 j (ha j hj)⟩
theorem ShA.mono {N' : Nat} (h : ShA w A N b R F) (hn : N ≤ N') : ShA w A N' b R F := by
  obtain ⟨S, L, h1, h2, h3⟩ := h
  exact ⟨S, L, h1, by omega, h3⟩
/-- What a call that writes into the shard leaves. -/
def Wr (A : Nat → Prop) (w w' : World) : Prop := Mv (fun j => ¬ A j) w w'
theorem Wr.below {base : Nat} (h : Wr A w w') (ha : ∀ j, j < base → A j) (hs : base ≤ w.heap.size) : Below base w w' := Mv.below h (fun k hk hn => hn (ha k hk)) hs
theorem Wr.own {α : Type} {K : RK α} {base : Nat} {v : Value} {l : List α} (h : Wr A w w') (ho : OwnR K w base v l) (ha : ∀ j, base ≤ j → j < w.heap.size → A j) : OwnR K w' base v l :=
  ho.block (fun g hg => h.block g (ho.lt g hg).2 (fun hn => hn (ha g (ho.lt g hg).1 (ho.lt g hg).2)))
theorem ShA.of_new {base : Nat} {S : Nat → Prop} (h : SdAt w S b R [] (fun _ => [])) (hs : ∀ j, S j → base ≤ j) (hb : base ≤ w.heap.size) : ShA w (fun j => j < base) 0 b R (fun _ => []) :=
  ⟨S, [], h, by simp, fun j hj => ⟨by omega, fun hn => by have := hs j hn; omega⟩⟩
theorem ShA.of_put {S S' : Nat → Prop} {M : List ByteArray} {F' : Ch} {R' : List (ByteArray × ByteArray)} (hA : ∀ j, A j → j < w.heap.size ∧ ¬ S j) (h1 : SdAt w' S' b R' M F') (h2 : M.length ≤ N) (h3 : ∀ j, S' j → S j ∨ w.heap.size ≤ j) (hm : Mv S w w') : ShA w' A N b R' F' ∧ Wr A w w' :=
  ⟨⟨S', M, h1, h2, fun j hj => ⟨Nat.lt_of_lt_of_le (hA j hj).1 hm.size, fun hs => by
    rcases h3 j hs with h | h
    · exact (hA j hj).2 h
    · have := (hA j hj).1; omega⟩⟩, hm.mono (fun j hj ha => (hA j ha).2 hj)⟩
theorem lput_any (h : ShA w A N b R F) (hR : R.length ≤ 100) (hN : N ≤ 100000) (x : Vw) (hc : (F x.1.key).length ≤ 100000) (hx : VwB w x) (hpx : x.1.past = []) :
    Calls Tryz.prog 16 #[.pointer (some ⟨b, 0, none⟩), wV x] w fun e w' => e = .returned (.bool (ownsK R x.1.key && putOk (F x.1.key) x)) ∧ ShA w' A (N + 1) b R (putF R F x) ∧ Wr A w w' := by
  obtain ⟨S, L, h1, h2, h3⟩ := h
  refine (sput_any h1 hR (by omega) x hc hx (PastIn.of_nil hpx) (by have := hx.1.key; unfold maxLen; exact this)).mono ?_
  rintro e w' ⟨he, ⟨S', M, hl, hs, hsub⟩, hm⟩
  obtain ⟨g1, g2⟩ := ShA.of_put (N := N + 1) h3 hs (by omega) hsub hm
  exact ⟨he, g1, g2⟩
theorem lhead_any (h : ShA w A N b R F) (k : ByteArray) (hk : k.size ≤ maxLen) (hl : (F k).length ≤ 1000000) :
    Calls Tryz.prog 18 #[.pointer (some ⟨b, 0, none⟩), .string k] w fun e w' => e = .returned (.tuple #[wV (headOf F k), .bool (F k).getLast?.isSome]) ∧ Below w.heap.size w w' := by
  obtain ⟨S, L, h1, h2, h3⟩ := h
  exact shead_any h1 k hk hl
theorem lat_any (h : ShA w A N b R F) (k : ByteArray) (s : Int × Int) (hk : k.size ≤ maxLen) (hl : (F k).length ≤ 1000000) :
    Calls Tryz.prog 12 #[.pointer (some ⟨b, 0, none⟩), .string k, sv s] w fun e w' => e = .returned (.tuple #[wV ((lastP (isS s) (F k)).getD vw0), .bool (lastP (isS s) (F k)).isSome]) ∧ Below w.heap.size w w' := by
  obtain ⟨S, L, h1, h2, h3⟩ := h
  exact satC_any _ k s (F k) w hl ⟨_, rfl⟩ (fun W hb => schain_any (h1.below hb) k hk)
theorem lchain_any (h : ShA w A N b R F) (k : ByteArray) (hk : k.size ≤ maxLen) (hl : (F k).length ≤ 100000) :
    Calls Tryz.prog 21 #[.pointer (some ⟨b, 0, none⟩), .string k] w fun e w' => ∃ v, e = .returned v ∧ OwnR KW w' w.heap.size v (F k) ∧ Below w.heap.size w w' := by
  obtain ⟨S, L, h1, h2, h3⟩ := h
  exact sChain_any h1 k hk hl
theorem lranges_any (h : ShA w A N b R F) (hR : R.length ≤ 100) :
    Calls Tryz.prog 29 #[.pointer (some ⟨b, 0, none⟩)] w fun e w' => ∃ v, e = .returned v ∧ OwnR KR w' w.heap.size v R ∧ Below w.heap.size w w' := by
  obtain ⟨S, L, h1, h2, h3⟩ := h
  exact sranges_any h1 (by omega)
theorem lkeys_any (h : ShA w A N b R F) (hN : N ≤ 100000) :
    Calls Tryz.prog 26 #[.pointer (some ⟨b, 0, none⟩)] w fun e w' => ∃ v L, KeyL F L ∧ L.length ≤ N ∧ (∀ k ∈ L, k.size ≤ maxLen) ∧ e = .returned v ∧ OwnR KS w' w.heap.size v L ∧ Below w.heap.size w w' := by
  obtain ⟨S, L, h1, h2, h3⟩ := h
  refine (skeys_any h1 (by omega)).mono ?_
  rintro e w' ⟨v, he, ho, hb⟩
  exact ⟨v, L, h1.kl, h2, h1.ks, he, ho, hb⟩
theorem lhave_any (h : ShA w A N b R F) (hN : N ≤ 100000) (hF : ∀ k, (F k).length ≤ 1000000) :
    Calls Tryz.prog 23 #[.pointer (some ⟨b, 0, none⟩)] w fun e w' => ∃ v L, KeyL F L ∧ L.length ≤ N ∧ e = .returned v ∧ OwnD w' w.heap.size v (haveL F L) ∧ Below w.heap.size w w' := by
  obtain ⟨S, L, h1, h2, h3⟩ := h
  refine (shave_any h1 (by omega) (fun k _ => hF k)).mono ?_
  rintro e w' ⟨v, he, ho, hb⟩
  exact ⟨v, L, h1.kl, h2, he, ho, hb⟩
theorem ShA.kl (h : ShA w A N b R F) : ∃ L, KeyL F L ∧ L.length ≤ N := by
  obtain ⟨S, L, h1, h2, h3⟩ := h
  exact ⟨L, h1.kl, h2⟩
theorem ShA.ap (h : ShA w A N b R F) : ∀ j, A j → j < w.heap.size := by
  obtain ⟨S, L, h1, h2, h3⟩ := h
  exact fun j hj => (h3 j hj).1
end

/-! Chains on the way. -/
theorem putF_len (R : List (ByteArray × ByteArray)) (F : Ch) (x : Vw) {n : Nat} (h : ∀ k, (F k).length ≤ n) (k : ByteArray) : (putF R F x k).length ≤ n + 1 := by
  unfold putF
  split
  · by_cases e : k = x.1.key
    · rw [e, updF_same]
      unfold midC
      have := h x.1.key
      simp only [List.length_append, List.length_cons, List.length_take, List.length_drop]
      omega
    · rw [updF_other _ _ e]
      have := h k
      omega
  · have := h k
    omega
theorem putF_mem {R : List (ByteArray × ByteArray)} {F : Ch} {x y : Vw} {k : ByteArray} (h : y ∈ putF R F x k) : y ∈ F k ∨ (k = x.1.key ∧ y = x ∧ ownsK R x.1.key = true ∧ putOk (F x.1.key) x = true) := by
  unfold putF at h
  split at h
  · rename_i hc
    rw [Bool.and_eq_true] at hc
    by_cases e : k = x.1.key
    · rw [e, updF_same] at h
      unfold midC at h
      rw [e]
      rcases List.mem_append.1 h with h | h
      · exact .inl (List.mem_of_mem_take h)
      · rcases List.mem_cons.1 h with h | h
        · exact .inr ⟨rfl, h, hc.1, hc.2⟩
        · exact .inl (List.mem_of_mem_drop h)
    · rw [updF_other _ _ e] at h
      exact .inl h
  · exact .inl h
theorem rev_indS {α : Type} {P : List α → Prop} (h0 : P []) (h1 : ∀ l x, P l → P (l ++ [x])) (l : List α) : P l := by
  have key : ∀ r : List α, P r.reverse := by
    intro r
    induction r with
    | nil => exact h0
    | cons x r ih => rw [List.reverse_cons]; exact h1 _ _ ih
  have := key l.reverse
  rwa [List.reverse_reverse] at this
/-- All that the steps have put. -/
def putAll (R : List (ByteArray × ByteArray)) (l : List O13) : Ch := l.foldl (fun F o => putF R F (verO o)) (fun _ => [])
theorem putAll_snoc (R : List (ByteArray × ByteArray)) (l : List O13) (o : O13) : putAll R (l ++ [o]) = putF R (putAll R l) (verO o) := by simp [putAll, List.foldl_append]
theorem putAll_len (R : List (ByteArray × ByteArray)) (l : List O13) : ∀ k, (putAll R l k).length ≤ l.length := by
  induction l using rev_indS with
  | h0 => intro k; simp [putAll]
  | h1 l o ih =>
    intro k
    rw [putAll_snoc, List.length_append]
    exact putF_len R _ _ ih k
theorem verO_past (o : O13) : (verO o).1.past = [] := by
  unfold verO
  split <;> rfl
theorem verO_key (o : O13) (ho : o.In) : (verO o).1.key.size ≤ maxLen := by
  unfold verO
  split
  · exact ho.vk
  · show (wordK o.key).size ≤ maxLen
    rw [wordK_size]
    unfold maxLen
    omega
theorem verO_bd {w : World} (o : O13) (ho : o.In) : VwB w (verO o) := by
  have hk := verO_key o ho
  unfold verO at *
  split
  · rename_i hr
    refine ⟨⟨by have := ho.vk; unfold maxLen at this; exact this, ?_, by show (0 : Nat) ≤ 1000000; omega, (fun d hd => by cases hd), DepAt.nil w⟩, ho.vs⟩
    show (cut40 o.vv).size ≤ 9223372036854775807
    have := cut40_size o.vv
    omega
  · refine ⟨⟨by show (wordK o.key).size ≤ 9223372036854775807; rw [wordK_size]; omega, by show (lett (o.n % 16).toNat).size ≤ 9223372036854775807; rw [lett_size]; omega, by show (0 : Nat) ≤ 1000000; omega, (fun d hd => by cases hd), DepAt.nil w⟩, ?_⟩
    show In64 (1 + o.n % 16, o.s % 4)
    unfold In64
    dsimp only
    omega
end Go.Proofs.YtjfmgplhcinkfaaGreat
/- The chapter's example of shards. -/
namespace Go.Proofs.YtjfmgplhcinkfaaGreat
open Go.RowKit Go.Shelf
set_option linter.unusedVariables false
set_option linter.unusedSimpArgs false

theorem verK_ok (k : ByteArray) (s : Int × Int) (b : ByteArray) (hb : b.size ≤ 32) : okW (verK k s b).1 = (Km.chk k.data.toList && Sm.ok s.1 s.2) := by
  have h : okW (verK k s b).1 = (vbW (verK k s b).1 && Km.chk k.data.toList && Sm.ok s.1 s.2 && chkD []) := rfl
  have h1 : vbW (verK k s b).1 = true := by simp [vbW, verK, hb]
  have h2 : chkD [] = true := by decide +kernel
  rw [h, h1, h2]
  simp
theorem chk_word (n : Int) : Km.chk (bts (wordK n)) = true := by
  unfold wordK
  have : (n % 8).toNat < 8 := by omega
  generalize (n % 8).toNat = q at this
  rcases (show q = 0 ∨ q = 1 ∨ q = 2 ∨ q = 3 ∨ q = 4 ∨ q = 5 ∨ q = 6 ∨ q = 7 by omega) with rfl | rfl | rfl | rfl | rfl | rfl | rfl | rfl <;> decide +kernel
def exR : List (ByteArray × ByteArray) := [(⟨#[]⟩, ⟨#[109]⟩)]
def exA : Vw := verK ⟨#[97]⟩ (1, 0) ⟨#[]⟩
def exZ : Vw := verK ⟨#[122]⟩ (1, 0) ⟨#[]⟩
theorem verK_bd {w : World} {k v : ByteArray} {s : Int × Int} (hk : k.size ≤ maxLen) (hv : v.size ≤ maxLen) (hs : In64 s) : VwB w (verK k s v) :=
  ⟨⟨by unfold maxLen at hk; exact hk, by unfold maxLen at hv; exact hv, by show (0 : Nat) ≤ 1000000; omega, (fun d hd => by cases hd), DepAt.nil w⟩, hs⟩
theorem exA_owns : ownsK exR ⟨#[97]⟩ = true := by decide +kernel
theorem exZ_owns : ownsK exR ⟨#[122]⟩ = false := by decide +kernel
theorem exA_ok : putOk [] exA = true := by
  have h : okW exA.1 = true := by
    unfold exA
    rw [verK_ok _ _ _ (by decide)]
    decide +kernel
  unfold putOk
  rw [h]
  rfl
theorem exA_put : putF exR (fun _ => []) exA = updF (fun _ => []) ⟨#[97]⟩ [exA] := by
  unfold putF
  have h : ownsK exR exA.1.key = true := exA_owns
  rw [h, exA_ok]
  rfl
theorem exA_kl : KeyL (updF (fun _ => []) ⟨#[97]⟩ [exA]) [⟨#[97]⟩] := by
  refine ⟨by simp [Km.rises], fun k => ?_⟩
  rw [List.mem_singleton]
  by_cases e : k = ⟨#[97]⟩
  · rw [e, updF_same]
    simp
  · rw [updF_other _ _ e]
    simp [e]
theorem exZ_put (F : Ch) : putF exR F exZ = F := putF_no (by
  have h : ownsK exR exZ.1.key = false := exZ_owns
  rw [h]
  rfl)

set_option maxRecDepth 100000 in
set_option maxHeartbeats 1600000 in
theorem awake13_any (w : World) : Calls Tryz.prog 4 #[] w fun e w' => e = .returned (.bool true) ∧ Below w.heap.size w w' := by
  obtain ⟨w1, hw1⟩ : ∃ w1, w.alloc (.cells #[.string ⟨#[]⟩, .string ⟨#[109]⟩] 63) = w1 := ⟨_, rfl⟩
  have hb1 : Below w.heap.size w w1 := by rw [← hw1]; exact balloc (Below.refl _ _) _
  have ho : OwnR KR w1 w.heap.size (.slice (some ⟨w.heap.size, 0, none⟩) 1 1) exR := by
    rw [← hw1]
    exact own_litS kr_ok w w.heap.size 1 exR #[.string ⟨#[]⟩, .string ⟨#[109]⟩] rfl rfl (Nat.le_refl _) (by omega)
  have hnew := snew_any (.slice (some ⟨w.heap.size, 0, none⟩) 1 1) exR w1 (by decide) (RowAt.of_own kr_ok ho)
  have hva := fun W => ver13_any ⟨#[97]⟩ 1 0 W
  have hvz := fun W => ver13_any ⟨#[122]⟩ 1 0 W
  have HB1 := Lib.hid hb1
  clear hb1 ho
  dsimp only [wV, wcs, wvs, pw, verK, List.length_nil] at hva hvz
  go_enter Tryz.func4, Tryz.ntmps4
  go_upto_region 1 with fail
  go_wp2_with fail
  try rw [hw1]
  clear hw1
  refine hnew.mono ?_
  rintro e w2 ⟨b, S, rfl, hsd, hS, hb2⟩
  have hN0 := ShA.of_new hsd hS (by exact hb2.size)
  have hN := hN0.weak (A' := fun j => j < w.heap.size) (fun j hj => by have := HB1.out.size; show j < w1.heap.size; omega)
  have HN := Lib.hid hN
  have HB2 := Lib.hid (bstep HB1.out hb2)
  clear hsd hS hb2 hnew hN0 hN
  go_wp2_with fail
  refine (hva _).mono ?_
  rintro e w3 ⟨rfl, hb3⟩
  have hput := lput_any (HN.out.below hb3) (by decide) (by omega) exA (by show ([] : List Vw).length ≤ _; simp) (verK_bd (by decide +kernel) (by decide +kernel) (by unfold In64; omega)) rfl
  have he : (ownsK exR exA.1.key && putOk ((fun _ => []) exA.1.key) exA) = true := by
    have h : ownsK exR exA.1.key = true := exA_owns
    rw [h, exA_ok]
    rfl
  rw [he, exA_put] at hput
  dsimp only [wV, wcs, wvs, pw, verK, exA, List.length_nil] at hput
  have HB3 := Lib.hid (bstep HB2.out hb3)
  clear hb3 he
  go_wp2_with fail
  refine hput.mono ?_
  rintro e w4 ⟨rfl, hs4, hw4⟩
  have HB4 : Hid (Below w.heap.size w w4) := Lib.hid (HB3.out.trans (hw4.below (fun _ h => h) HB3.out.size))
  have HS4 := Lib.hid hs4
  clear hs4 hw4 hput
  go_wp2_with fail
  refine (hvz _).mono ?_
  rintro e w5 ⟨rfl, hb5⟩
  have hput := lput_any (HS4.out.below hb5) (by decide) (by omega) exZ (by show (updF (fun _ => []) ⟨#[97]⟩ _ ⟨#[122]⟩).length ≤ _; rw [updF_other _ _ (by decide)]; simp) (verK_bd (by decide +kernel) (by decide +kernel) (by unfold In64; omega)) rfl
  rw [exZ_put, show ownsK exR exZ.1.key = false from exZ_owns, Bool.false_and] at hput
  dsimp only [wV, wcs, wvs, pw, verK, exZ, List.length_nil] at hput
  have HB5 := Lib.hid (bstep HB4.out hb5)
  clear hb5
  go_wp2_with fail
  refine hput.mono ?_
  rintro e w6 ⟨rfl, hs6, hw6⟩
  have HB6 : Hid (Below w.heap.size w w6) := Lib.hid (HB5.out.trans (hw6.below (fun _ h => h) HB5.out.size))
  have hky := lkeys_any hs6 (by omega)
  clear hs6 hw6 hput
  go_wp2_with fail
  refine hky.mono ?_
  rintro e w7 ⟨v7, L, hkl, _, _, rfl, ho7, hb7⟩
  obtain rfl := hkl.uniq exA_kl
  obtain ⟨a7, c7, rfl⟩ := ho7.shape
  have HB7 := Lib.hid (bstep HB6.out hb7)
  clear hkl ho7 hb7 hky
  go_wp2
  go_ret
  exact ⟨rfl, HB7.out⟩
end Go.Proofs.YtjfmgplhcinkfaaGreat
/- What chain.follows and chain.Check answer. -/
namespace Go.Proofs.YtjfmgplhcinkfaaGreat
open Go.RowKit Go.Shelf
set_option linter.unusedVariables false
set_option linter.unusedSimpArgs false

theorem keepQo {W w1 : World} {b o : Nat} {x0 x1 x2 x3 x4 x5 : Value} (hb : Below W.heap.size W w1) (h : W.cell? ⟨b, o, none⟩ = some x0 ∧ W.cell? ⟨b, o + 1, none⟩ = some x1 ∧ W.cell? ⟨b, o + 2, none⟩ = some x2 ∧ W.cell? ⟨b, o + 3, none⟩ = some x3 ∧ W.cell? ⟨b, o + 4, none⟩ = some x4 ∧ W.cell? ⟨b, o + 5, none⟩ = some x5) :
    w1.cell? ⟨b, o, none⟩ = some x0 ∧ w1.cell? ⟨b, o + 1, none⟩ = some x1 ∧ w1.cell? ⟨b, o + 2, none⟩ = some x2 ∧ w1.cell? ⟨b, o + 3, none⟩ = some x3 ∧ w1.cell? ⟨b, o + 4, none⟩ = some x4 ∧ w1.cell? ⟨b, o + 5, none⟩ = some x5 :=
  ⟨kc hb h.1, kc hb h.2.1, kc hb h.2.2.1, kc hb h.2.2.2.1, kc hb h.2.2.2.2.1, kc hb h.2.2.2.2.2⟩

/-- The one ahead. -/
def prevW (xs : List Vw) (k : Nat) : Option Vw := if k = 0 then none else xs[k - 1]?
theorem chk1_cons (p : Option Vw) (v : Vw) (r : List Vw) : chk1 p (v :: r) = (okW v.1 && (match p with | none => true | some u => decide (u.1.key = v.1.key) && Sm.less u.1.st v.1.st) && chk1 (some v) r) := rfl
theorem chk1_step {xs : List Vw} {k : Nat} (h : k < xs.length) : chk1 (prevW xs k) (xs.drop k) = (okW xs[k].1 && (match prevW xs k with | none => true | some u => decide (u.1.key = xs[k].1.key) && Sm.less u.1.st xs[k].1.st) && chk1 (prevW xs (k + 1)) (xs.drop (k + 1))) := by
  rw [List.drop_eq_getElem_cons h, chk1_cons]
  have : prevW xs (k + 1) = some xs[k] := by
    unfold prevW
    rw [if_neg (by omega), Nat.add_sub_cancel, List.getElem?_eq_getElem h]
  rw [this]
theorem prevW_zero (xs : List Vw) : prevW xs 0 = none := rfl
theorem prevW_pos {xs : List Vw} {k q : Nat} (hk : k = q + 1) (h : q < xs.length) : prevW xs k = some xs[q] := by
  subst hk
  unfold prevW
  rw [if_neg (by omega), Nat.add_sub_cancel, List.getElem?_eq_getElem h]

end Go.Proofs.YtjfmgplhcinkfaaGreat
/- What the document's Same and Check answer of rows of versions. -/
namespace Go.Proofs.YtjfmgplhcinkfaaGreat
open Go.RowKit Go.Shelf
set_option linter.unusedVariables false
set_option linter.unusedSimpArgs false

/-- Are the rows the same? -/
def sameL : List Vw → List Vw → Bool
  | [], [] => true
  | x :: r, y :: s => sameW x.1 y.1 && sameL r s
  | _, _ => false
theorem sameL_self : ∀ l : List Vw, sameL l l = true
  | [] => rfl
  | x :: r => by unfold sameL; rw [sameW_self, sameL_self r]; rfl
theorem sameL_len : ∀ {l m : List Vw}, l.length ≠ m.length → sameL l m = false
  | [], [], h => absurd rfl h
  | [], _ :: _, _ => rfl
  | _ :: _, [], _ => rfl
  | x :: r, y :: s, h => by
    unfold sameL
    rw [sameL_len (l := r) (m := s) (fun e => h (by simp [e]))]
    simp
theorem sameL_step {l m : List Vw} {k : Nat} (h : k < l.length) (h' : k < m.length) : sameL (l.drop k) (m.drop k) = (sameW l[k].1 m[k].1 && sameL (l.drop (k + 1)) (m.drop (k + 1))) := by
  rw [List.drop_eq_getElem_cons h, List.drop_eq_getElem_cons h']
  rfl
theorem chk2_cons (K : ByteArray) (p : Option Vw) (v : Vw) (r : List Vw) : chk2 K p (v :: r) = (okW v.1 && decide (v.1.key = K) && (match p with | none => true | some u => Sm.less u.1.st v.1.st) && chk2 K (some v) r) := rfl
theorem chk2_step {K : ByteArray} {xs : List Vw} {k : Nat} (h : k < xs.length) : chk2 K (prevW xs k) (xs.drop k) = (okW xs[k].1 && decide (xs[k].1.key = K) && (match prevW xs k with | none => true | some u => Sm.less u.1.st xs[k].1.st) && chk2 K (prevW xs (k + 1)) (xs.drop (k + 1))) := by
  rw [List.drop_eq_getElem_cons h, chk2_cons]
  have : prevW xs (k + 1) = some xs[k] := by
    unfold prevW
    rw [if_neg (by omega), Nat.add_sub_cancel, List.getElem?_eq_getElem h]
  rw [this]
theorem hdK_pos {xs : List Vw} (h : 0 < xs.length) : hdK xs = xs[0].1.key := by
  cases xs with
  | nil => simp at h
  | cons y r => rfl

set_option maxRecDepth 100000 in
set_option maxHeartbeats 3200000 in
theorem rsame_any (v1 v2 : Value) (xs ys : List Vw) (w : World) (hl : xs.length ≤ 1000000) (hl2 : ys.length ≤ 1000000) (h1 : WRow w v1 xs) (h2 : WRow w v2 ys) :
    Calls Tryz.prog 20 #[v1, v2] w fun e w' => e = .returned (.bool (sameL xs ys)) ∧ Below w.heap.size w w' := by
  have HR1 := Lib.hid h1
  have HR2 := Lib.hid h2
  obtain ⟨a, cap, rfl, _, _, _⟩ := h1.shape
  obtain ⟨a2, cap2, rfl, _, _, _⟩ := h2.shape
  clear h1 h2
  by_cases hlen : xs.length = ys.length
  · have HZ : Hid (sameL xs ys = sameL (xs.drop 0) (ys.drop 0)) := Lib.hid rfl
    generalize sameL xs ys = R at HZ ⊢
    have HLEN := Lib.hid hlen
    have hli : ((xs.length : Int) != (ys.length : Int)) = false := by rw [hlen]; simp
    rw [← hlen]
    clear hli hl2
    go_enter Tryz.func20, Tryz.ntmps20
    clear hlen
    go_wp2
    go_loopw [5] (fun i wr => ∃ k : Nat, k ≤ xs.length ∧ i = .int .i64 k ∧ R = sameL (xs.drop k) (ys.drop k) ∧ Below w.heap.size w wr) (fun i _ => xs.length - (intOf i).toNat)
    case atStart => exact ⟨0, by omega, rfl, HZ.out, Below.refl _ _⟩
    case round =>
      obtain ⟨k, hk, rfl, hR, hbel⟩ := hrel
      have HB := Lib.hid hbel
      have HRK := Lib.hid hR
      clear hR
      by_cases hlt : k < xs.length
      · have hlt2 : k < ys.length := by rw [← HLEN.out]; exact hlt
        obtain ⟨b, off, rfl, hbl, hq, _⟩ := (HR1.out.below hbel).at k hlt
        obtain ⟨b', off', rfl, hbl', hq', _⟩ := (HR2.out.below hbel).at k hlt2
        have HST := Lib.hid (sameL_step hlt hlt2)
        have hsm := fun W (h : Below w.heap.size w W) => refWSameB_any xs[k].1 ys[k].1 (pw xs[k]) (pw ys[k]) W ((HR1.out.2 _ (List.getElem_mem hlt)).1.below h) ((HR2.out.2 _ (List.getElem_mem hlt2)).1.below h)
        generalize xs[k] = x at hq HST hsm
        generalize ys[k] = y at hq' HST hsm
        obtain ⟨c0, c1, c2, c3, c4, c5⟩ := hq
        obtain ⟨d0, d1, d2, d3, d4, d5⟩ := hq'
        obtain ⟨⟨key, val, gone, ⟨m, t⟩, past⟩, pa, pc⟩ := x
        obtain ⟨⟨key', val', gone', ⟨m', t'⟩, past'⟩, pa', pc'⟩ := y
        dsimp only [wvs, pw] at hsm c0 c1 c2 c3 c4 c5 d0 d1 d2 d3 d4 d5
        generalize sameW ⟨key, val, gone, (m, t), past⟩ ⟨key', val', gone', (m', t'), past'⟩ = r at hsm HST
        have hk2 : (k : Int) < (xs.length : Int) := by omega
        clear hbl hbl' hbel
        go_upto_region 6 with fail
        have g0 : (wr.drew.cell? ⟨b, off + k * 6, none⟩ = some (.string key) ∧ wr.drew.cell? ⟨b, off + k * 6 + 1, none⟩ = some (.string val) ∧ wr.drew.cell? ⟨b, off + k * 6 + 2, none⟩ = some (.bool gone) ∧ wr.drew.cell? ⟨b, off + k * 6 + 3, none⟩ = some (.int .i64 m) ∧ wr.drew.cell? ⟨b, off + k * 6 + 4, none⟩ = some (.int .i64 t) ∧ wr.drew.cell? ⟨b, off + k * 6 + 5, none⟩ = some (.slice pa past.length pc)) ∧ (wr.drew.cell? ⟨b', off' + k * 6, none⟩ = some (.string key') ∧ wr.drew.cell? ⟨b', off' + k * 6 + 1, none⟩ = some (.string val') ∧ wr.drew.cell? ⟨b', off' + k * 6 + 2, none⟩ = some (.bool gone') ∧ wr.drew.cell? ⟨b', off' + k * 6 + 3, none⟩ = some (.int .i64 m') ∧ wr.drew.cell? ⟨b', off' + k * 6 + 4, none⟩ = some (.int .i64 t') ∧ wr.drew.cell? ⟨b', off' + k * 6 + 5, none⟩ = some (.slice pa' past'.length pc')) := ⟨⟨c0, c1, c2, c3, c4, c5⟩, d0, d1, d2, d3, d4, d5⟩
        clear c0 c1 c2 c3 c4 c5 d0 d1 d2 d3 d4 d5
        refine wp_region_held_drew (S := fun w' => (w'.cell? ⟨b, off + k * 6, none⟩ = some (.string key) ∧ w'.cell? ⟨b, off + k * 6 + 1, none⟩ = some (.string val) ∧ w'.cell? ⟨b, off + k * 6 + 2, none⟩ = some (.bool gone) ∧ w'.cell? ⟨b, off + k * 6 + 3, none⟩ = some (.int .i64 m) ∧ w'.cell? ⟨b, off + k * 6 + 4, none⟩ = some (.int .i64 t) ∧ w'.cell? ⟨b, off + k * 6 + 5, none⟩ = some (.slice pa past.length pc)) ∧ (w'.cell? ⟨b', off' + k * 6, none⟩ = some (.string key') ∧ w'.cell? ⟨b', off' + k * 6 + 1, none⟩ = some (.string val') ∧ w'.cell? ⟨b', off' + k * 6 + 2, none⟩ = some (.bool gone') ∧ w'.cell? ⟨b', off' + k * 6 + 3, none⟩ = some (.int .i64 m') ∧ w'.cell? ⟨b', off' + k * 6 + 4, none⟩ = some (.int .i64 t') ∧ w'.cell? ⟨b', off' + k * 6 + 5, none⟩ = some (.slice pa' past'.length pc'))) (by kernel_rfl) (g0) (fun hHeld => ?_)
        refine wpAnyH_take (i := 0) (v := ?va0) rfl (by kernel_rfl) (by kernel_rfl) (by kernel_rfl) (fun _ _ _ h => h) (Or.inl ⟨by rfl, ?ya0⟩) (by assumption) ?ra0
        case ya0 => (intro w hSw; (try dsimp only at hSw); go_simp; try with_reducible rfl)
        try simp only [Act.put, List.setIfInBounds_toArray, List.set_cons_zero, List.set_cons_succ, List.getElem_toArray, List.getElem_cons_zero, List.getElem_cons_succ]
        refine wpAnyH_take (i := 1) (v := ?va1) rfl (by kernel_rfl) (by kernel_rfl) (by kernel_rfl) (fun _ _ _ h => h) (Or.inl ⟨by rfl, ?ya1⟩) (by assumption) ?ra1
        case ya1 => (intro w hSw; (try dsimp only at hSw); go_simp; try with_reducible rfl)
        try simp only [Act.put, List.setIfInBounds_toArray, List.set_cons_zero, List.set_cons_succ, List.getElem_toArray, List.getElem_cons_zero, List.getElem_cons_succ]
        refine wpAnyH_take (i := 2) (v := ?va2) rfl (by kernel_rfl) (by kernel_rfl) (by kernel_rfl) (fun _ _ _ h => h) (Or.inl ⟨by rfl, ?ya2⟩) (by assumption) ?ra2
        case ya2 => (intro w hSw; (try dsimp only at hSw); go_simp; try with_reducible rfl)
        try simp only [Act.put, List.setIfInBounds_toArray, List.set_cons_zero, List.set_cons_succ, List.getElem_toArray, List.getElem_cons_zero, List.getElem_cons_succ]
        refine wpAnyH_take (i := 3) (v := ?va3) rfl (by kernel_rfl) (by kernel_rfl) (by kernel_rfl) (fun _ _ _ h => h) (Or.inl ⟨by rfl, ?ya3⟩) (by assumption) ?ra3
        case ya3 => (intro w hSw; (try dsimp only at hSw); go_simp; try with_reducible rfl)
        try simp only [Act.put, List.setIfInBounds_toArray, List.set_cons_zero, List.set_cons_succ, List.getElem_toArray, List.getElem_cons_zero, List.getElem_cons_succ]
        refine wpAnyH_take (i := 4) (v := ?va4) rfl (by kernel_rfl) (by kernel_rfl) (by kernel_rfl) (fun _ _ _ h => h) (Or.inl ⟨by rfl, ?ya4⟩) (by assumption) ?ra4
        case ya4 => (intro w hSw; (try dsimp only at hSw); go_simp; try with_reducible rfl)
        try simp only [Act.put, List.setIfInBounds_toArray, List.set_cons_zero, List.set_cons_succ, List.getElem_toArray, List.getElem_cons_zero, List.getElem_cons_succ]
        refine wpAnyH_take (i := 5) (v := ?va5) rfl (by kernel_rfl) (by kernel_rfl) (by kernel_rfl) (fun _ _ _ h => h) (Or.inl ⟨by rfl, ?ya5⟩) (by assumption) ?ra5
        case ya5 => (intro w hSw; (try dsimp only at hSw); go_simp; try with_reducible rfl)
        try simp only [Act.put, List.setIfInBounds_toArray, List.set_cons_zero, List.set_cons_succ, List.getElem_toArray, List.getElem_cons_zero, List.getElem_cons_succ]
        refine wpAnyH_take (i := 6) (v := ?va6) rfl (by kernel_rfl) (by kernel_rfl) (by kernel_rfl) (fun _ _ _ h => h) (Or.inl ⟨by rfl, ?ya6⟩) (by assumption) ?ra6
        case ya6 => (intro w hSw; (try dsimp only at hSw); go_simp; try with_reducible rfl)
        try simp only [Act.put, List.setIfInBounds_toArray, List.set_cons_zero, List.set_cons_succ, List.getElem_toArray, List.getElem_cons_zero, List.getElem_cons_succ]
        refine wpAnyH_take (i := 7) (v := ?va7) rfl (by kernel_rfl) (by kernel_rfl) (by kernel_rfl) (fun _ _ _ h => h) (Or.inl ⟨by rfl, ?ya7⟩) (by assumption) ?ra7
        case ya7 => (intro w hSw; (try dsimp only at hSw); go_simp; try with_reducible rfl)
        try simp only [Act.put, List.setIfInBounds_toArray, List.set_cons_zero, List.set_cons_succ, List.getElem_toArray, List.getElem_cons_zero, List.getElem_cons_succ]
        refine wpAnyH_ready (rs := [8]) (by kernel_rfl) (by simp) ?_
        refine AllReadyH.cons rfl (fun K hK => ?_) AllReadyH.nil
        go_simp
        go_at_call 15
        refine (hsm _ (bstep HB.out ((Below.refl _ _).drew))).mono ?_
        rintro e w3 ⟨rfl, hb3⟩
        have g1 := And.intro (keepQo hb3 g0.1) (keepQo hb3 g0.2)
        go_wp2_with fail
        refine hK.out _ _ (g1) (fun hHeld => ?_)
        clear hK K
        try simp only [Act.put, List.setIfInBounds_toArray, List.set_cons_zero, List.set_cons_succ, List.getElem_toArray, List.getElem_cons_zero, List.getElem_cons_succ]
        refine wpAnyH_take (i := 9) (v := ?va9) rfl (by kernel_rfl) (by kernel_rfl) (by kernel_rfl) (fun _ _ _ h => h) (Or.inl ⟨by rfl, ?ya9⟩) (by assumption) ?ra9
        case ya9 => (intro w hSw; (try dsimp only at hSw); go_simp; try with_reducible rfl)
        try simp only [Act.put, List.setIfInBounds_toArray, List.set_cons_zero, List.set_cons_succ, List.getElem_toArray, List.getElem_cons_zero, List.getElem_cons_succ]
        refine wpAnyH_done (by kernel_rfl) ?_ _
        have hb4 : Below wr.heap.size wr w3 := ((Below.refl _ wr).drew).trans hb3
        cases r with
        | false =>
          have hRf : R = false := by rw [HRK.out, HST.out]; rfl
          subst hRf
          go_wp2
          go_ret
          exact ⟨rfl, bstep HB.out hb4⟩
        | true =>
          have HRF : Hid (R = sameL (xs.drop (k + 1)) (ys.drop (k + 1))) := Lib.hid (by rw [HRK.out, HST.out]; rfl)
          go_wp2
          go_roundw
          case rel => exact ⟨k + 1, by omega, by go_num, HRF.out, bstep HB.out hb4⟩
          case measure => simp [intOf]; omega
      · obtain rfl : k = xs.length := by omega
        have hRt : R = true := by rw [HRK.out, List.drop_of_length_le (Nat.le_refl _), List.drop_of_length_le (by rw [HLEN.out]; exact Nat.le_refl _)]; rfl
        subst hRt
        go_wp2
        go_ret
        exact ⟨rfl, HB.out⟩
  · rw [sameL_len hlen]
    have hne : ¬ (xs.length : Int) = (ys.length : Int) := by omega
    go_enter Tryz.func20, Tryz.ntmps20
    go_wp2
    go_ret
    exact ⟨ret_bool (by simp_all), Below.refl _ _⟩

theorem keepK2 {W w1 : World} {b o b' o' : Nat} {x y : Value} (hb : Below W.heap.size W w1) (h : W.cell? ⟨b, o, none⟩ = some x ∧ W.cell? ⟨b', o', none⟩ = some y) : w1.cell? ⟨b, o, none⟩ = some x ∧ w1.cell? ⟨b', o', none⟩ = some y := ⟨kc hb h.1, kc hb h.2⟩

end Go.Proofs.YtjfmgplhcinkfaaGreat
/- What the laws of shards ask: mathematics. -/
namespace Go.Proofs.YtjfmgplhcinkfaaGreat
open Go.RowKit
set_option linter.unusedVariables false
set_option linter.unusedSimpArgs false

theorem putF_yes {R : List (ByteArray × ByteArray)} {F : Ch} {x : Vw} (h : (ownsK R x.1.key && putOk (F x.1.key) x) = true) : putF R F x = updF F x.1.key (midC (F x.1.key) x) := by unfold putF; rw [if_pos h]
theorem put_free {xs : List Vw} {x : Vw} (h : putOk xs x = true) : ∀ y ∈ xs, isS x.1.st y = false := by
  unfold putOk at h
  rw [Bool.and_eq_true, Bool.and_eq_true] at h
  have h1 := h.1.1
  refine lastP_none ?_
  cases e : lastP (isS x.1.st) xs with
  | none => rfl
  | some y => rw [e] at h1; cases h1
theorem isS_self (x : Vw) : isS x.1.st x = true := by simp [isS]
theorem mid_at {xs : List Vw} {x : Vw} (h : putOk xs x = true) : lastP (isS x.1.st) (midC xs x) = some x :=
  lastP_of_split (A := xs.take (upN (notA x.1.st) xs)) (B := xs.drop (upN (notA x.1.st) xs)) rfl (isS_self x) (fun b hb => put_free h b (List.mem_of_mem_drop hb))
theorem put_at {R : List (ByteArray × ByteArray)} {F : Ch} {x : Vw} (h : (ownsK R x.1.key && putOk (F x.1.key) x) = true) : lastP (isS x.1.st) (putF R F x x.1.key) = some x := by
  rw [putF_yes h, updF_same]
  rw [Bool.and_eq_true] at h
  exact mid_at h.2
theorem put_again (R : List (ByteArray × ByteArray)) (F : Ch) (x : Vw) : (ownsK R x.1.key && putOk (putF R F x x.1.key) x) = false := by
  cases h : (ownsK R x.1.key && putOk (F x.1.key) x) with
  | false => rw [putF_no h]; exact h
  | true =>
    have : putOk (putF R F x x.1.key) x = false := by
      unfold putOk
      rw [put_at h]
      rfl
    rw [this]
    simp
theorem put_there {R : List (ByteArray × ByteArray)} {F : Ch} {x : Vw} (h : (ownsK R x.1.key && putOk (F x.1.key) x) = true) : (lastP (isS x.1.st) (F x.1.key)).isSome = false := by
  rw [Bool.and_eq_true] at h
  cases e : lastP (isS x.1.st) (F x.1.key) with
  | none => rfl
  | some y =>
    have h1 := lastP_some e
    rw [put_free h.2 y h1.1] at h1
    cases h1.2
theorem put_other (R : List (ByteArray × ByteArray)) (F : Ch) (x : Vw) {k : ByteArray} (hk : k ≠ x.1.key) : putF R F x k = F k := by
  unfold putF
  split
  · exact updF_other _ _ hk
  · rfl
theorem putF_bd {R : List (ByteArray × ByteArray)} {F : Ch} {x : Vw} (hF : ∀ W d, ∀ y ∈ F d, VwB W y) (hx : ∀ W, VwB W x) : ∀ W d, ∀ y ∈ putF R F x d, VwB W y := fun W d y hy => by
  rcases putF_mem hy with h | ⟨_, rfl, _⟩
  · exact hF W d y h
  · exact hx W
theorem putAll_bd {R : List (ByteArray × ByteArray)} {l : List O13} (h : ∀ o ∈ l, o.In) : ∀ W d, ∀ y ∈ putAll R l d, VwB W y := by
  induction l using rev_indS with
  | h0 => intro W d y hy; simp [putAll] at hy
  | h1 l o ih =>
    rw [putAll_snoc]
    exact putF_bd (ih (fun o' h' => h o' (by simp [h']))) (fun W => verO_bd o (h o (by simp)))
theorem putAll_past (R : List (ByteArray × ByteArray)) (l : List O13) : ∀ d, ∀ y ∈ putAll R l d, y.1.past = [] := by
  induction l using rev_indS with
  | h0 => intro d y hy; simp [putAll] at hy
  | h1 l o ih =>
    rw [putAll_snoc]
    intro d y hy
    rcases putF_mem hy with h | ⟨_, rfl, _⟩
    · exact ih d y h
    · exact verO_past o
/-- What is written apart from a shard leaves it. -/
theorem ShA.wrote {w w' : World} {A P : Nat → Prop} {N b : Nat} {R : List (ByteArray × ByteArray)} {F : Ch} (h : ShA w A N b R F) (hm : Mv P w w') (hP : ∀ j, P j → A j) (hp : ∀ d, ∀ x ∈ F d, x.1.past = []) : ShA w' A N b R F := by
  obtain ⟨S, L, h1, h2, h3⟩ := h
  exact ⟨S, L, h1.mv hm (fun j hj hpj => (h3 j (hP j hpj)).2 hj) (fun k x hx => PastIn.of_nil (hp k x hx)), h2, fun j hj => ⟨Nat.lt_of_lt_of_le (h3 j hj).1 hm.size, (h3 j hj).2⟩⟩
theorem vw0_bd {w : World} : VwB w vw0 := ⟨⟨by show (0 : Nat) ≤ _; omega, by show (0 : Nat) ≤ _; omega, by show (0 : Nat) ≤ 1000000; omega, (fun d hd => by cases hd), DepAt.nil w⟩, by show In64 (0, 0); unfold In64; omega⟩
theorem lastP_bd {w : World} {p : Vw → Bool} {l : List Vw} (h : ∀ x ∈ l, VwB w x) : VwB w ((lastP p l).getD vw0) := by
  cases e : lastP p l with
  | none => exact vw0_bd
  | some y => exact h y (lastP_some e).1
theorem kcell13 {w w' : World} {p : Addr} {u : Value} (hb : Below w.heap.size w w') (h : w.cell? p = some u) : w'.cell? p = some u := (hb.cell (World.block_lt_of_cell? w _ h)).trans h
theorem RowIn.op13 {w : World} {a : Option Addr} {l : List O13} (h : RowIn KO13 w a l) (i : Nat) (hi : i < l.length) : ∃ b off, a = some ⟨b, off, none⟩ ∧ b < w.heap.size ∧ ∀ j u, (cs13 l[i])[j]? = some u → w.cell? ⟨b, off + i * 14 + j, none⟩ = some u := h i hi
end Go.Proofs.YtjfmgplhcinkfaaGreat
/- Maps whose keys are dependencies, or texts. -/
namespace Go.Proofs.YtjfmgplhcinkfaaGreat
open Go.RowKit Go.Maps
set_option linter.unusedVariables false
set_option linter.unusedSimpArgs false

/-- Block b is a map of n entries; g: what lies at each dependency. -/
def MapD (w : World) (b n : Nat) (g : De → Option Value) : Prop := ∃ f, MapF w 38 b n f ∧ ∀ d, KeyD d → f (kD d) = g d
theorem MapD.made (w : World) : MapD (w.alloc (.map #[] 0)) w.heap.size 0 (fun _ => none) := ⟨_, MapF.made w _, fun d _ => rfl⟩
theorem MapD.lt {w : World} {b n : Nat} {g : De → Option Value} (h : MapD w b n g) : b < w.heap.size := by
  obtain ⟨f, h1, _⟩ := h
  exact h1.lt
theorem MapD.block {w w' : World} {b n : Nat} {g : De → Option Value} (h : MapD w b n g) (hb : w'.heap[b]? = w.heap[b]?) : MapD w' b n g := by
  obtain ⟨f, h1, h2⟩ := h
  exact ⟨f, h1.block hb, h2⟩
theorem MapD.below {w w' : World} {b n : Nat} {g : De → Option Value} (h : MapD w b n g) (hb : Below w.heap.size w w') : MapD w' b n g := h.block (hb.block b h.lt)
theorem MapD.congr {w : World} {b n : Nat} {g g' : De → Option Value} (h : MapD w b n g) (e : ∀ d, KeyD d → g d = g' d) : MapD w b n g' := by
  obtain ⟨f, h1, h2⟩ := h
  exact ⟨f, h1, fun d hd => (h2 d hd).trans (e d hd)⟩
section
variable {w : World} {t e : TypeId} {b n : Nat} {g : De → Option Value}
theorem MapD.look (h : MapD w b n g) (ht : Tryz.prog.underlying t = some (.map 38 e)) {z : Value} (hz : (zeroValue e).run Tryz.prog w = .ok z w) {x : ByteArray} {y s : Int} (hk : KeyD (x, y, s)) :
    (Instr.lookup t (.map (some b)) (.agg #[.string x, .int .i64 y, .int .i64 s]) false).run Tryz.prog w = .ok ((g (x, y, s)).getD z) w := by
  obtain ⟨f, h1, h2⟩ := h
  have := h1.look (key := dv (x, y, s)) (kl := kD (x, y, s)) keyed_dep ht hz (key_dep hk)
  rw [h2 _ hk] at this
  exact this
theorem MapD.lookOk (h : MapD w b n g) (ht : Tryz.prog.underlying t = some (.map 38 e)) {z : Value} (hz : (zeroValue e).run Tryz.prog w = .ok z w) {x : ByteArray} {y s : Int} (hk : KeyD (x, y, s)) :
    (Instr.lookup t (.map (some b)) (.agg #[.string x, .int .i64 y, .int .i64 s]) true).run Tryz.prog w = .ok (.tuple #[(g (x, y, s)).getD z, .bool (g (x, y, s)).isSome]) w := by
  obtain ⟨f, h1, h2⟩ := h
  have := h1.lookOk (key := dv (x, y, s)) (kl := kD (x, y, s)) keyed_dep ht hz (key_dep hk)
  rw [h2 _ hk] at this
  exact this
theorem MapD.len (h : MapD w b n g) (ht : Tryz.prog.underlying t = some (.map 38 e)) (ty : TypeId) : (Builtin.len_ #[t] ty #[.map (some b)]).run Tryz.prog w = .ok (.int .i64 n) w := by
  obtain ⟨f, h1, h2⟩ := h
  exact h1.len ht ty
theorem MapD.store (h : MapD w b n g) (ht : Tryz.prog.underlying t = some (.map 38 e)) (hn : n < maxLen) {x : ByteArray} {y s : Int} (hk : KeyD (x, y, s)) (val : Value) :
    ∃ w', (Instr.mapUpdate t (.map (some b)) (.agg #[.string x, .int .i64 y, .int .i64 s]) val).run Tryz.prog w = .ok () w' ∧ MapD w' b (if (g (x, y, s)).isSome then n else n + 1) (fun d => if d = (x, y, s) then some val else g d) ∧ w.mapTurned w' b := by
  obtain ⟨f, h1, h2⟩ := h
  obtain ⟨w', hrun, ⟨f', r1, r3, r4⟩, r2⟩ := h1.store (val := val) keyed_dep ht hn (key_dep hk)
  refine ⟨w', hrun, ⟨f', by rw [← h2 _ hk]; exact r1, fun d hd => ?_⟩, r2⟩
  dsimp only
  by_cases e : d = (x, y, s)
  · rw [if_pos e, e]; exact r3
  · rw [if_neg e, ← h2 _ hd]; exact r4 _ (fun e' => e (kD_inj hd hk e'))
end
set_option maxRecDepth 100000 in
/-- The store at the operation. -/
theorem wp_mapSetD {w : World} {t e : TypeId} {b n : Nat} {g : De → Option Value} {ops : Array Oper} {rest : List Oper} {o : Oper} {a : Act} {Q : Exit → Act → World → Prop}
    (hg : o.guard = none) (m x v : Operand) (hop : o.op = Op.mapUpdate t m x v) (ht : Tryz.prog.underlying t = some (.map 38 e)) (hm : a.eval m = .map (some b)) (hown : MapD w b n g) (hn : n < maxLen)
    (k : ByteArray) (y s : Int) (val : Value) (hx : a.eval x = .agg #[.string k, .int .i64 y, .int .i64 s]) (hv : a.eval v = val) (hk : KeyD (k, y, s))
    (hK : ∀ w', MapD w' b (if (g (k, y, s)).isSome then n else n + 1) (fun d => if d = (k, y, s) then some val else g d) → w.mapTurned w' b → wpList Tryz.prog ops Q rest (a.put o.dst undef) w') :
    wpList Tryz.prog ops Q (o :: rest) a w := by
  refine wpList_plain hg fun K' hK' => ?_
  obtain ⟨w', hrun, r1, r2⟩ := hown.store ht hn hk val
  unfold Oper.wp
  simp [execOp, hop, hm, hx, hv, hrun, Result.andThen]
  exact hK' _ _ (hK w' r1 r2)

/-- Block b is a map of n entries; g: what lies at each text. -/
def MapS (w : World) (b n : Nat) (g : ByteArray → Option Value) : Prop := ∃ f, MapF w 9 b n f ∧ ∀ s : ByteArray, s.size ≤ maxLen → f (.string s.data.toList) = g s
theorem MapS.made (w : World) : MapS (w.alloc (.map #[] 0)) w.heap.size 0 (fun _ => none) := ⟨_, MapF.made w _, fun d _ => rfl⟩
theorem MapS.lt {w : World} {b n : Nat} {g : ByteArray → Option Value} (h : MapS w b n g) : b < w.heap.size := by
  obtain ⟨f, h1, _⟩ := h
  exact h1.lt
theorem MapS.block {w w' : World} {b n : Nat} {g : ByteArray → Option Value} (h : MapS w b n g) (hb : w'.heap[b]? = w.heap[b]?) : MapS w' b n g := by
  obtain ⟨f, h1, h2⟩ := h
  exact ⟨f, h1.block hb, h2⟩
theorem MapS.below {w w' : World} {b n : Nat} {g : ByteArray → Option Value} (h : MapS w b n g) (hb : Below w.heap.size w w') : MapS w' b n g := h.block (hb.block b h.lt)
section
variable {w : World} {t e : TypeId} {b n : Nat} {g : ByteArray → Option Value}
theorem MapS.look (h : MapS w b n g) (ht : Tryz.prog.underlying t = some (.map 9 e)) {z : Value} (hz : (zeroValue e).run Tryz.prog w = .ok z w) {x : ByteArray} (hk : x.size ≤ maxLen) :
    (Instr.lookup t (.map (some b)) (.string x) false).run Tryz.prog w = .ok ((g x).getD z) w := by
  obtain ⟨f, h1, h2⟩ := h
  rw [← h2 _ hk]
  exact h1.look (Maps.string_keyed Tryz.underlying9) ht hz (WideMaps.keyOf_string_mk Tryz.underlying9 hk)
theorem MapS.lookOk (h : MapS w b n g) (ht : Tryz.prog.underlying t = some (.map 9 e)) {z : Value} (hz : (zeroValue e).run Tryz.prog w = .ok z w) {x : ByteArray} (hk : x.size ≤ maxLen) :
    (Instr.lookup t (.map (some b)) (.string x) true).run Tryz.prog w = .ok (.tuple #[(g x).getD z, .bool (g x).isSome]) w := by
  obtain ⟨f, h1, h2⟩ := h
  rw [← h2 _ hk]
  exact h1.lookOk (Maps.string_keyed Tryz.underlying9) ht hz (WideMaps.keyOf_string_mk Tryz.underlying9 hk)
theorem MapS.store (h : MapS w b n g) (ht : Tryz.prog.underlying t = some (.map 9 e)) (hn : n < maxLen) {x : ByteArray} (hk : x.size ≤ maxLen) (val : Value) :
    ∃ w', (Instr.mapUpdate t (.map (some b)) (.string x) val).run Tryz.prog w = .ok () w' ∧ MapS w' b (if (g x).isSome then n else n + 1) (fun d => if d = x then some val else g d) ∧ w.mapTurned w' b := by
  obtain ⟨f, h1, h2⟩ := h
  obtain ⟨w', hrun, ⟨f', r1, r3, r4⟩, r2⟩ := h1.store (val := val) (Maps.string_keyed Tryz.underlying9) ht hn (WideMaps.keyOf_string_mk Tryz.underlying9 hk)
  refine ⟨w', hrun, ⟨f', by rw [← h2 _ hk]; exact r1, fun d hd => ?_⟩, r2⟩
  dsimp only
  by_cases e : d = x
  · rw [if_pos e, e]; exact r3
  · rw [if_neg e, ← h2 _ hd]; exact r4 _ (fun e' => e (ba_inj (by simpa using e')))
end
set_option maxRecDepth 100000 in
/-- The store at the operation. -/
theorem wp_mapSetS {w : World} {t e : TypeId} {b n : Nat} {g : ByteArray → Option Value} {ops : Array Oper} {rest : List Oper} {o : Oper} {a : Act} {Q : Exit → Act → World → Prop}
    (hg : o.guard = none) (m x v : Operand) (hop : o.op = Op.mapUpdate t m x v) (ht : Tryz.prog.underlying t = some (.map 9 e)) (hm : a.eval m = .map (some b)) (hown : MapS w b n g) (hn : n < maxLen)
    (k : ByteArray) (val : Value) (hx : a.eval x = .string k) (hv : a.eval v = val) (hk : k.size ≤ maxLen)
    (hK : ∀ w', MapS w' b (if (g k).isSome then n else n + 1) (fun d => if d = k then some val else g d) → w.mapTurned w' b → wpList Tryz.prog ops Q rest (a.put o.dst undef) w') :
    wpList Tryz.prog ops Q (o :: rest) a w := by
  refine wpList_plain hg fun K' hK' => ?_
  obtain ⟨w', hrun, r1, r2⟩ := hown.store ht hn hk val
  unfold Oper.wp
  simp [execOp, hop, hm, hx, hv, hrun, Result.andThen]
  exact hK' _ _ (hK w' r1 r2)
end Go.Proofs.YtjfmgplhcinkfaaGreat
