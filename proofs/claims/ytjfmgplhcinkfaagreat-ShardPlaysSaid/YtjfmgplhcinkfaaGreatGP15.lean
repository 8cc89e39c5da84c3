/- Texts of this proof, one behind the other: ShKeys, ShHave, Struct5, Open4, Open13. -/
import Derived.Test.YtjfmgplhcinkfaaGreatGP14
import Derived.Shelf.SlIter.Nil
import Derived.Shelf.SortM.Plain
import Derived.Shelf.SortM.SortNone
import Derived.Deep.Strs
/- What a shard's Keys answers. -/
namespace Go.Proofs.YtjfmgplhcinkfaaGreat
open Go.RowKit Go.Maps Go.Sort Go.Shelf
set_option linter.unusedVariables false
set_option linter.unusedSimpArgs false

/-- slices.Sort at this program. -/
theorem sortsIn_str (m : Nat) : AnyZ.SortsIn Tryz.prog Tryz.sortedM_ren Fence.wide m :=
  ⟨fun blk off cap ss W hH hblk hsz => callsIn_wide.2 (AnyM.slices_Sort_string Tryz.sortM blk off cap ss W hH hblk hsz),
   fun p cap W => callsIn_wide.2 (AnyM.slices_Sort_string_none Tryz.sortM p cap W)⟩
abbrev MKeys : Nat := 46
/-- maps.Keys: a function value over a new block, which holds the map. -/
theorem mkeys_any (mb : Option Nat) (W : World) : Calls Tryz.prog 46 #[.map mb] W fun e w' => e = .returned (.func (.func 63) #[] #[.pointer (some ⟨W.heap.size, 0, none⟩)]) ∧ w' = W.alloc (.cells #[.map mb] 66) :=
  (callsIn_wide (n := 5)).1 (AnyZ.keys_in Tryz.keysM Fence.wide 5 trivial rfl mb W)

set_option maxHeartbeats 1000000 in
theorem msorted_any (b nn : Nat) (D0 : DataW Value) (w : World) (hown : w.ownsMap Tryz.prog 9 hvR b nn D0) (hmax : Maps.size D0 ≤ maxLen) (hbytes : Maps.size D0 * 16 ≤ 140737488355328) :
    Calls Tryz.prog 45 #[.func (.func 63) #[] #[.pointer (some ⟨w.heap.size, 0, none⟩)]] (w.alloc (.cells #[.map (some b)] 66)) fun e w' => ∃ (v : Value) (ss : List (List UInt8)), e = .returned v ∧ ss.Perm (strKeys D0) ∧
      w'.ownsRow (w.alloc (.cells #[.map (some b)] 66)).heap.size 9 1 v ss.length ((ss.mergeSort (fun x y => decide (x ≤ y))).map encStr) ∧ Below (w.alloc (.cells #[.map (some b)] 66)).heap.size (w.alloc (.cells #[.map (some b)] 66)) w' := by
  have hbl := hown.lt
  have hseq : SeqGives Fence.wide 2 Tryz.prog 63 #[.pointer (some ⟨w.heap.size, 0, none⟩)] encStr (fun ss => ss.Perm (strKeys D0)) (Maps.size D0) (w.alloc (.cells #[.map (some b)] 66)) :=
    AnyZ.keys_gives (ρ := Tryz.keysM_ren) { Tryz.keysM with } Fence.wide _ trivial rfl (by omega) w.heap.size b nn D0 _ (by simp) (by simp) (by
      obtain ⟨es, clock, hb, Ft, hs, hD⟩ := hown
      exact ⟨es, clock, (Below.heap_alloc _ _ b hbl).trans hb, Ft, hs, hD⟩)
  refine ((callsIn_wide (n := 5)).1 (AnyZ.sorted_in Tryz.sortedM Fence.wide 5 trivial trivial trivial trivial rfl (by omega) (sortsIn_str _) (enters_of Tryz.func62 (by kernel_rfl) rfl) 63 #[.pointer (some ⟨w.heap.size, 0, none⟩)] trivial (enters_of Tryz.func63 (by kernel_rfl) rfl) _ _ hmax hbytes _ hseq)).mono ?_
  rintro e w' ⟨v, ss, h1, h2, h3, _, h4⟩
  exact ⟨v, ss, h1, h2, h3, h4⟩

set_option maxHeartbeats 1000000 in
theorem msorted_nil (w : World) :
    Calls Tryz.prog 45 #[.func (.func 63) #[] #[.pointer (some ⟨w.heap.size, 0, none⟩)]] (w.alloc (.cells #[.map none] 66)) fun e w' => e = .returned (.slice none 0 0) ∧ Below (w.alloc (.cells #[.map none] 66)).heap.size (w.alloc (.cells #[.map none] 66)) w' := by
  have hseq : SeqGives Fence.wide 2 Tryz.prog 63 #[.pointer (some ⟨w.heap.size, 0, none⟩)] encStr (fun ss : List (List UInt8) => ss = []) 0 (w.alloc (.cells #[.map none] 66)) :=
    AnyZ.keys_gives_nil (ρ := Tryz.keysM_ren) { Tryz.keysM with } Fence.wide _ trivial rfl w.heap.size _ (by simp) (by simp)
  refine ((callsIn_wide (n := 5)).1 (AnyZ.sorted_in Tryz.sortedM Fence.wide 5 trivial trivial trivial trivial rfl (by omega) (sortsIn_str _) (enters_of Tryz.func62 (by kernel_rfl) rfl) 63 #[.pointer (some ⟨w.heap.size, 0, none⟩)] trivial (enters_of Tryz.func63 (by kernel_rfl) rfl) _ 0 (Nat.zero_le _) (by omega) _ hseq)).mono ?_
  rintro e w' ⟨v, ss, h1, h2, _, h3, h4⟩
  exact ⟨by rw [h1, h3.2 h2], h4⟩

theorem row_texts (L : List ByteArray) : (L.map bts).map encStr = rV KS L := by
  unfold rV
  induction L with
  | nil => rfl
  | cons s L ih =>
    rw [List.map_cons, List.map_cons, ih, List.flatMap_cons]
    show encStr (bts s) :: _ = [.string s] ++ _
    unfold encStr
    rw [mk_bts]
    rfl
set_option maxRecDepth 100000 in
set_option maxHeartbeats 1600000 in
theorem skeys_any {w : World} {S : Nat → Prop} {b : Nat} {R : List (ByteArray × ByteArray)} {L : List ByteArray} {F : Ch} (h : SdAt w S b R L F) (hL : L.length ≤ 100000) :
    Calls Tryz.prog 26 #[.pointer (some ⟨b, 0, none⟩)] w fun e w' => ∃ v, e = .returned v ∧ OwnR KS w' w.heap.size v L ∧ Below w.heap.size w w' := by
  obtain ⟨mo, n, rv, val, h⟩ := h
  have h1 := h.c1
  have hA : ∀ m, Below w.heap.size w (w.alloc (.cells #[.map m] 66)) := fun m => balloc (Below.refl _ w) _
  have hmk := mkeys_any mo w
  cases mo with
  | none =>
    have h0 := h.m0 rfl
    subst h0
    have hso := msorted_nil w
    have HA := Lib.hid (hA none)
    clear h hA
    go_enter Tryz.func26, Tryz.ntmps26
    go_wp2_with fail
    refine hmk.mono ?_
    rintro e w1 ⟨rfl, rfl⟩
    go_wp2_with fail
    refine hso.mono ?_
    rintro e w2 ⟨rfl, hb2⟩
    go_wp2
    go_ret
    exact ⟨_, rfl, OwnR.nil _ _ _, HA.out.trans (hb2.mono HA.out.size)⟩
  | some m =>
    have hcn := h.cnt rfl
    obtain ⟨D, hown, hsz, hperm, _⟩ := (h.mp m rfl).keys (L := L) h.kl.nodup (fun s => by
      rw [h.kl.2]
      unfold gF
      constructor
      · intro hs
        exact ⟨h.ks s ((h.kl.2 s).2 hs), by rw [if_neg hs]; rfl⟩
      · rintro ⟨_, hs⟩ e
        rw [if_pos e] at hs
        cases hs)
    have hso := msorted_any m n D w hown (by unfold maxLen; omega) (by omega)
    have HA := Lib.hid (hA (some m))
    have HR := Lib.hid h.kl.1
    have HP := Lib.hid hperm
    clear h hA hown hperm hsz
    go_enter Tryz.func26, Tryz.ntmps26
    go_wp2_with fail
    refine hmk.mono ?_
    rintro e w1 ⟨rfl, rfl⟩
    go_wp2_with fail
    refine hso.mono ?_
    rintro e w2 ⟨v, ss, rfl, hp2, ho2, hb2⟩
    have hss := rises_sort HR.out (hp2.trans HP.out.symm)
    have hlen : ss.length = L.length := by have := (hp2.trans HP.out.symm).length_eq; simpa using this
    rw [hss, row_texts, hlen] at ho2
    have HO : Hid (OwnR KS w2 w.heap.size v L) := Lib.hid (OwnR.mono (K := KS) ho2 HA.out.size)
    obtain ⟨a, c, rfl⟩ := HO.out.shape
    clear ho2 hp2 hlen hss
    go_wp2
    go_ret
    exact ⟨_, rfl, HO.out, HA.out.trans (hb2.mono HA.out.size)⟩
set_option maxRecDepth 100000 in
theorem skeys_nil (w : World) :
    Calls Tryz.prog 26 #[.pointer none] w fun e w' => e = .returned (.slice none 0 0) ∧ w = w' := by
  go_enter Tryz.func26, Tryz.ntmps26
  go_wp2
  go_ret
  exact ⟨rfl, rfl⟩
end Go.Proofs.YtjfmgplhcinkfaaGreat
/- What a shard's Have answers. -/
namespace Go.Proofs.YtjfmgplhcinkfaaGreat
open Go.RowKit
set_option linter.unusedVariables false
set_option linter.unusedSimpArgs false

/-- The head of each key's chain. -/
def headOf (F : Ch) (k : ByteArray) : Vw := (F k).getLast?.getD vw0
def haveL (F : Ch) (L : List ByteArray) : List De := L.map fun k => (k, (headOf F k).1.st)
theorem haveL_len (F : Ch) (L : List ByteArray) : (haveL F L).length = L.length := List.length_map _
theorem haveL_snoc (F : Ch) (L : List ByteArray) (k : Nat) (h : k < L.length) : haveL F (L.take (k + 1)) = haveL F (L.take k) ++ [(L[k], (headOf F L[k]).1.st)] := by
  unfold haveL
  rw [List.take_succ_eq_append_getElem h, List.map_append]
  rfl

set_option maxRecDepth 100000 in
set_option maxHeartbeats 3200000 in
theorem shaveC_any (p : Value) (hp : ∃ a, p = .pointer a) (L : List ByteArray) (F : Ch) (w : World) (hL : L.length ≤ 100000)
    (hk : Calls Tryz.prog 26 #[p] w fun e w' => ∃ v, e = .returned v ∧ OwnR KS w' w.heap.size v L ∧ Below w.heap.size w w')
    (hh : ∀ k ∈ L, ∀ W, Below w.heap.size w W → Calls Tryz.prog 18 #[p, .string k] W fun e w' => ∃ is, e = .returned (.tuple #[wV (headOf F k), .bool is]) ∧ Below W.heap.size W w') :
    Calls Tryz.prog 23 #[p] w fun e w' => ∃ v, e = .returned v ∧ OwnD w' w.heap.size v (haveL F L) ∧ Below w.heap.size w w' := by
  obtain ⟨pa, rfl⟩ := hp
  have HH := Lib.hid hh
  clear hh
  go_enter Tryz.func23, Tryz.ntmps23
  go_wp2_with fail
  refine hk.mono ?_
  rintro e w1 ⟨v1, rfl, ho1, hb1⟩
  obtain ⟨ka, kc1, rfl⟩ := ho1.shape
  have HK := Lib.hid ho1
  have HB1 := Lib.hid hb1
  clear ho1 hb1 hk
  go_wp2
  go_loopw [3, 11] (fun o i wr => ∃ k : Nat, k ≤ L.length ∧ i = .int .i64 k ∧ OwnD wr w1.heap.size o (haveL F (L.take k)) ∧ Below w1.heap.size w1 wr) (fun _ i _ => L.length - (intOf i).toNat)
  case atStart => exact ⟨0, by omega, rfl, OwnD.nil _ _, Below.refl _ _⟩
  case round =>
    obtain ⟨k, hkl, rfl, hown, hbel⟩ := hrel
    have HO := Lib.hid hown
    have hlen : (haveL F (L.take k)).length = k := by rw [haveL_len, List.length_take]; omega
    obtain ⟨sa, sc, hsh⟩ := (DepAt.of_own hown).choose_spec.choose_spec.1 |> fun e => (⟨_, _, e⟩ : ∃ a c, _ = Value.slice a (haveL F (L.take k)).length c)
    rw [hlen] at hsh
    subst hsh
    have HB := Lib.hid hbel
    clear hown hbel hlen
    by_cases hlt : k < L.length
    · obtain ⟨b, off, rfl, hbl, hc0⟩ := (RowIn.of_own ks_ok (HK.out.below HB.out)).str k hlt
      have HSN := Lib.hid (haveL_snoc F L k hlt)
      have hhd := HH.out _ (List.getElem_mem hlt) wr (bstep HB1.out HB.out)
      generalize L[k] = key at hc0 HSN hhd
      generalize headOf F key = x at HSN hhd
      obtain ⟨⟨kx, vl, gone, ⟨m, t⟩, past⟩, pa', pc⟩ := x
      dsimp only [wV, wcs, wvs, pw] at hhd HSN
      have hki : (k : Int) < (L.length : Int) := by omega
      go_wp2_with fail
      refine hhd.mono ?_
      rintro e w2 ⟨is, rfl, hb2⟩
      have HB2 := Lib.hid (bstep HB.out hb2)
      have HO2 := Lib.hid (HO.out.below hb2)
      have hbs : w1.heap.size ≤ w2.heap.size := by have := hb2.size; have := HB.out.size; omega
      clear hb2 hhd
      obtain ⟨w3, hw3⟩ : ∃ w3, w2.alloc (.cells #[.string kx, .string vl, .bool gone, .int .i64 m, .int .i64 t, .slice pa' past.length pc] 36) = w3 := ⟨_, rfl⟩
      have hb3 : Below w2.heap.size w2 w3 := by rw [← hw3]; exact balloc (Below.refl _ w2) _
      have x3 : w3.cell? ⟨w2.heap.size, 3, none⟩ = some (.int .i64 m) ∧ w3.cell? ⟨w2.heap.size, 4, none⟩ = some (.int .i64 t) := by rw [← hw3]; exact ⟨by simp, by simp⟩
      obtain ⟨x3, x4⟩ := x3
      have HO3 := Lib.hid (HO2.out.below hb3)
      have HB3 := Lib.hid (bstep HB2.out hb3)
      have hbs3 : w1.heap.size ≤ w3.heap.size := by have := hb3.size; omega
      go_upto_region 6 with fail
      try rw [hw3]
      clear hw3 hb3
      go_wp2_with (at_builtin; refine wp_pushD (wr := w3) rfl _ _ rfl w1.heap.size (.slice sa k sc) (haveL F (L.take k)) key m t rfl HO3.out rfl (by rw [haveL_len, List.length_take]; omega) hbs3 ?_; intro g gcap w4 ho4 hb4 hk4 hg4)
      rw [haveL_len, List.length_take, Nat.min_eq_left hkl] at ho4
      rw [haveL_len, List.length_take, Nat.min_eq_left hkl]
      go_roundw
      case rel => exact ⟨k + 1, by omega, by go_num, by rw [HSN.out]; exact ho4, HB3.out.trans hb4⟩
      case measure => simp [intOf]; omega
    · obtain rfl : k = L.length := by omega
      have hki : ¬ (L.length : Int) < (L.length : Int) := by omega
      go_wp2
      go_ret
      refine ⟨_, rfl, ?_, bstep HB1.out HB.out⟩
      have h := HO.out
      rw [List.take_length] at h
      exact ownsRow_base_a h HB1.out.size
theorem shave_any {w : World} {S : Nat → Prop} {b : Nat} {R : List (ByteArray × ByteArray)} {L : List ByteArray} {F : Ch} (h : SdAt w S b R L F) (hL : L.length ≤ 100000) (hF : ∀ k ∈ L, (F k).length ≤ 1000000) :
    Calls Tryz.prog 23 #[.pointer (some ⟨b, 0, none⟩)] w fun e w' => ∃ v, e = .returned v ∧ OwnD w' w.heap.size v (haveL F L) ∧ Below w.heap.size w w' :=
  shaveC_any _ ⟨_, rfl⟩ L F w hL (skeys_any h hL) (fun k hk W hb => (shead_any (h.below hb) k (h.ks k hk) (hF k hk)).mono fun e w' ⟨h1, h2⟩ => ⟨_, h1, h2⟩)
theorem shave_nil (w : World) : Calls Tryz.prog 23 #[.pointer none] w fun e w' => ∃ v, e = .returned v ∧ OwnD w' w.heap.size v [] ∧ Below w.heap.size w w' :=
  shaveC_any _ ⟨_, rfl⟩ [] (fun _ => []) w (by simp) ((skeys_nil w).mono fun e w' ⟨h1, h2⟩ => ⟨_, h1, OwnR.nil _ _ _, by rw [← h2]; exact Below.refl _ _⟩) (by simp)
end Go.Proofs.YtjfmgplhcinkfaaGreat
/- Structs of five fields among the arguments. -/
namespace Go.Proofs.YtjfmgplhcinkfaaGreat
open Go.ChangeShapes Go.WideShapes Go.ChangeAt Go.RowKit Go.Joins Go.Deep
set_option linter.unusedVariables false

section
variable {H : Type} {enc : TypeId × Value → H} {P : Program} {w : World} {base : Nat} {spare : Nat → Bool} {held : Bool}
theorem trod_struct5 {t : TypeId} {f0 f1 f2 f3 f4 : Field} {fuel : Nat} {cs : List Value} {x : DataW H × List MemPlace} (ht : P.underlying t = some (.struct #[f0, f1, f2, f3, f4])) (h : DataW.trod enc P w base spare held fuel t cs = some x) :
    ∃ y0 y1 y2 y3 y4 n, cs.length = P.cellsOf t ∧ DataW.trod enc P w base spare held n f0.type ((cs.drop f0.offset).take (P.cellsOf f0.type)) = some y0 ∧
      DataW.trod enc P w base spare held n f1.type ((cs.drop f1.offset).take (P.cellsOf f1.type)) = some y1 ∧ DataW.trod enc P w base spare held n f2.type ((cs.drop f2.offset).take (P.cellsOf f2.type)) = some y2 ∧
      DataW.trod enc P w base spare held n f3.type ((cs.drop f3.offset).take (P.cellsOf f3.type)) = some y3 ∧ DataW.trod enc P w base spare held n f4.type ((cs.drop f4.offset).take (P.cellsOf f4.type)) = some y4 := by
  obtain ⟨xs, n, _, rfl, hl, hlen, hf⟩ := DataW.trod_struct ht h
  match xs, hlen with
  | [y0, y1, y2, y3, y4], _ => exact ⟨y0, y1, y2, y3, y4, n, hl, by simpa using hf 0 f0 rfl, by simpa using hf 1 f1 rfl, by simpa using hf 2 f2 rfl, by simpa using hf 3 f3 rfl, by simpa using hf 4 f4 rfl⟩

end
end Go.Proofs.YtjfmgplhcinkfaaGreat
/- Dependencies, rows of them, a dependency with ranges, and three ints among the arguments, opened. -/
namespace Go.Proofs.YtjfmgplhcinkfaaGreat
open Go.ChangeShapes Go.WideShapes Go.ChangeAt Go.RowKit Go.Joins Go.Deep
set_option linter.unusedVariables false

section
variable {H : Type} {enc : TypeId × Value → H} {P : Program} {w : World} {base : Nat} {spare : Nat → Bool} {held : Bool}

/-- Cells that read as a text and a struct of two ints. -/
theorem trod_dep {e : TypeId} {f0 f1 g0 g1 : Field} {fuel : Nat} {cs : List Value} {x : DataW H × List MemPlace} (he : P.underlying e = some (.struct #[f0, f1])) (hf : f0.offset = 0 ∧ f1.offset = 1 ∧ P.cellsOf f0.type = 1 ∧ P.cellsOf f1.type = 2)
    (hC : P.cellsOf e = 3) (h0 : P.underlying f0.type = some .string) (h1 : P.underlying f1.type = some (.struct #[g0, g1])) (hg : g0.offset = 0 ∧ g1.offset = 1 ∧ P.cellsOf g0.type = 1 ∧ P.cellsOf g1.type = 1)
    (h2 : P.underlying g0.type = some (.int .i64)) (h3 : P.underlying g1.type = some (.int .i64)) (h : DataW.trod enc P w base spare held fuel e cs = some x) :
    ∃ (k : ByteArray) (n s : Int), cs = [.string k, .int .i64 n, .int .i64 s] ∧ k.size ≤ maxLen ∧ In64 (n, s) := by
  obtain ⟨y0, y1, n', hx, hcl, k0, k1⟩ := trod_struct2 he h
  obtain ⟨a1, a2, a3, a4⟩ := hf
  obtain ⟨b1, b2, b3, b4⟩ := hg
  rw [hC] at hcl
  match cs, hcl with
  | [c0, c1, c2], _ =>
    rw [a1, a3] at k0
    rw [a2, a4] at k1
    obtain ⟨z0, z1, n2, hx2, hcl2, m0, m1⟩ := trod_struct2 h1 k1
    rw [b1, b3] at m0
    rw [b2, b4] at m1
    obtain ⟨k, e0, _, z0⟩ := DataW.trod_string h0 k0
    obtain ⟨n, e1, _, z1⟩ := DataW.trod_int h2 m0
    obtain ⟨s, e2, _, z2⟩ := DataW.trod_int h3 m1
    simp at e0 e1 e2
    subst e0 e1 e2
    exact ⟨k, n, s, rfl, z0, bounds_i64 z1, bounds_i64 z2⟩

/-- A dependency, by value. -/
theorem open_dep {r : Reach} {b0 : Nat} {e : TypeId} {f0 f1 g0 g1 : Field} {v : Value} {d : DataW H} {p : List MemPlace} (he : P.underlying e = some (.struct #[f0, f1])) (hf : f0.offset = 0 ∧ f1.offset = 1 ∧ P.cellsOf f0.type = 1 ∧ P.cellsOf f1.type = 2)
    (hC : P.cellsOf e = 3) (h0 : P.underlying f0.type = some .string) (h1 : P.underlying f1.type = some (.struct #[g0, g1])) (hg : g0.offset = 0 ∧ g1.offset = 1 ∧ P.cellsOf g0.type = 1 ∧ P.cellsOf g1.type = 1)
    (h2 : P.underlying g0.type = some (.int .i64)) (h3 : P.underlying g1.type = some (.int .i64)) (hv : Value.okWide P w r b0 e v) (h : DataW.Trod enc P w base spare held e v d p) :
    ∃ (k : ByteArray) (n s : Int), v = .agg #[.string k, .int .i64 n, .int .i64 s] ∧ k.size ≤ maxLen ∧ In64 (n, s) := by
  obtain ⟨cs, rfl, hsz⟩ := okWide_struct he hv
  obtain ⟨fuel, hf'⟩ := h
  obtain ⟨k, n, s, e1, hk, hb⟩ := trod_dep he hf hC h0 h1 hg h2 h3 hf'
  have e2 : cs = #[.string k, .int .i64 n, .int .i64 s] := by
    apply Array.ext'
    simpa [Value.cells] using e1
  subst e2
  exact ⟨k, n, s, rfl, hk, hb⟩

/-- A row of dependencies. -/
theorem open_deps {t e : TypeId} {f0 f1 g0 g1 : Field} {fuel : Nat} {v : Value} {x : DataW H × List MemPlace} (ht : P.underlying t = some (.slice e)) (he : P.underlying e = some (.struct #[f0, f1])) (hf : f0.offset = 0 ∧ f1.offset = 1 ∧ P.cellsOf f0.type = 1 ∧ P.cellsOf f1.type = 2)
    (hC : P.cellsOf e = 3) (h0 : P.underlying f0.type = some .string) (h1 : P.underlying f1.type = some (.struct #[g0, g1])) (hg : g0.offset = 0 ∧ g1.offset = 1 ∧ P.cellsOf g0.type = 1 ∧ P.cellsOf g1.type = 1)
    (h2 : P.underlying g0.type = some (.int .i64)) (h3 : P.underlying g1.type = some (.int .i64))
    (h : DataW.trod enc P w base spare held fuel t v.cells.toList = some x) (hv : ∃ a n c, v = .slice a n c) :
    ∃ l : List De, DepAt w v l ∧ Szd l ∧ ∀ d ∈ l, In64 d.2 := by
  obtain ⟨a, len, cap, rfl⟩ := hv
  rcases open_slice ht h with ⟨hcs, _⟩ | ⟨x, l, c, m, n, D, Pl, hcs, _, hl, hm, hmm, _, hi⟩
  · simp [Value.cells] at hcs
    obtain ⟨rfl, rfl, rfl⟩ := hcs
    exact ⟨[], DepAt.nil w, by simp [Szd], by simp⟩
  · simp [Value.cells] at hcs
    obtain ⟨rfl, rfl, rfl⟩ := hcs
    have hlm : len ≤ m := by rw [hmm]; split <;> omega
    have all : ∀ i, ∃ d : De, i < len → (d.1.size ≤ maxLen ∧ In64 d.2) ∧ w.cell? (x.add (i * 3)) = some (.string d.1) ∧ w.cell? (x.add (i * 3 + 1)) = some (.int .i64 d.2.1) ∧ w.cell? (x.add (i * 3 + 2)) = some (.int .i64 d.2.2) := by
      intro i
      by_cases hil : i < len
      · obtain ⟨cs', hc, ht'⟩ := hi i (by omega)
        rw [hC] at hc
        obtain ⟨k, n, s, rfl, hk, hb⟩ := trod_dep he hf hC h0 h1 hg h2 h3 ht'
        obtain ⟨_, hcl', hat⟩ := World.cells?_some hc
        refine ⟨(k, n, s), fun _ => ⟨⟨hk, hb⟩, ?_, ?_, ?_⟩⟩
        · have := hat 0 (by omega)
          simpa [Go.Deep.add_add] using this
        · have := hat 1 (by omega)
          simpa [Go.Deep.add_add] using this
        · have := hat 2 (by omega)
          simpa [Go.Deep.add_add] using this
      · exact ⟨(ByteArray.empty, 0, 0), fun hh => absurd hh hil⟩
    obtain ⟨F, hF⟩ : ∃ F : Nat → De, ∀ i, i < len → ((F i).1.size ≤ maxLen ∧ In64 (F i).2) ∧ w.cell? (x.add (i * 3)) = some (.string (F i).1) ∧ w.cell? (x.add (i * 3 + 1)) = some (.int .i64 (F i).2.1) ∧ w.cell? (x.add (i * 3 + 2)) = some (.int .i64 (F i).2.2) :=
      ⟨fun i => (all i).choose, fun i => (all i).choose_spec⟩
    obtain ⟨b, off, spot⟩ := x
    refine ⟨(List.range len).map F, ⟨some ⟨b, off, spot⟩, cap, by simp, by simpa using hl, hm, by simp, ?_⟩, ?_, ?_⟩
    · intro i hi
      have hi' : i < len := by simpa using hi
      have hspot : spot = none := by
        have := (hF 0 (by omega)).2.1
        simpa [Addr.add] using World.cell?_spot this
      subst hspot
      have q0 := (hF i hi').2.1
      have q1 := (hF i hi').2.2.1
      have q2 := (hF i hi').2.2.2
      rw [Addr.add_lit] at q0 q1 q2
      refine ⟨b, off, rfl, World.block_lt_of_cell? w _ q0, ?_, ?_, ?_⟩
      · simp only [List.getElem_map, List.getElem_range]
        exact q0
      · simp only [List.getElem_map, List.getElem_range]
        rw [Nat.add_assoc]
        exact q1
      · simp only [List.getElem_map, List.getElem_range]
        rw [Nat.add_assoc]
        exact q2
    · intro d hd
      simp at hd
      obtain ⟨i, hi, rfl⟩ := hd
      have := (hF i hi).1.1
      unfold maxLen at this
      exact this
    · intro d hd
      simp at hd
      obtain ⟨i, hi, rfl⟩ := hd
      exact (hF i hi).1.2

/-- A struct of a dependency and a row of ranges, by value. -/
theorem open_ask {r : Reach} {b0 : Nat} {t : TypeId} {f0 f1 g0 g1 : Field} {F G : Field} {R : TypeId} {r0 r1 : Field} {v : Value} {d : DataW H} {p : List MemPlace} (ht : P.underlying t = some (.struct #[F, G])) (hF : F.offset = 0 ∧ G.offset = 3 ∧ P.cellsOf G.type = 1) (hT : P.cellsOf t = 4)
    (he : P.underlying F.type = some (.struct #[f0, f1])) (hf : f0.offset = 0 ∧ f1.offset = 1 ∧ P.cellsOf f0.type = 1 ∧ P.cellsOf f1.type = 2)
    (hC : P.cellsOf F.type = 3) (h0 : P.underlying f0.type = some .string) (h1 : P.underlying f1.type = some (.struct #[g0, g1])) (hg : g0.offset = 0 ∧ g1.offset = 1 ∧ P.cellsOf g0.type = 1 ∧ P.cellsOf g1.type = 1)
    (h2 : P.underlying g0.type = some (.int .i64)) (h3 : P.underlying g1.type = some (.int .i64))
    (hG : P.underlying G.type = some (.slice R)) (hR : P.underlying R = some (.struct #[r0, r1])) (hone : oneCellFields P #[r0, r1] = true) (hRC : P.cellsOf R = 2) (hr0 : P.underlying r0.type = some .string) (hr1 : P.underlying r1.type = some .string)
    (hv : Value.okWide P w r b0 t v) (h : DataW.Trod enc P w base spare held t v d p) :
    ∃ (k : ByteArray) (n s : Int) (a : Option Addr) (rs : List (ByteArray × ByteArray)) (cap : Nat), v = .agg #[.string k, .int .i64 n, .int .i64 s, .slice a rs.length cap] ∧ k.size ≤ maxLen ∧ In64 (n, s) ∧
      rs.length ≤ 9223372036854775807 ∧ (∀ r ∈ rs, r.1.size ≤ maxLen ∧ r.2.size ≤ maxLen) ∧ RngIn w a rs ∧ rs.length ≤ cap := by
  obtain ⟨cs, rfl, hsz⟩ := okWide_struct ht hv
  obtain ⟨fuel, hf'⟩ := h
  obtain ⟨y0, y1, n', hx, hcl, k0, k1⟩ := trod_struct2 ht hf'
  rw [hF.1, hC] at k0
  rw [hF.2.1, hF.2.2] at k1
  have e0 : (Value.agg cs).cells.toList = cs.toList := rfl
  rw [e0] at k0 k1
  obtain ⟨k, n, s, e1, hk, hb⟩ := trod_dep he hf hC h0 h1 hg h2 h3 k0
  rw [hT] at hsz
  obtain ⟨l⟩ := cs
  match l, hsz with
  | [c0, c1, c2, c3], _ =>
    simp at e1
    obtain ⟨rfl, rfl, rfl⟩ := e1
    have k2 : DataW.trod enc P w base spare held n' G.type [c3] = some y1 := by simpa using k1
    have hs : ∃ a n c, c3 = .slice a n c ∧ n ≤ c := by
      rcases open_slice hG k2 with ⟨hcs, _⟩ | ⟨x, l, c, m, n, D, Pl, hcs, _, hl, _⟩
      · simp at hcs
        exact ⟨none, 0, 0, hcs, Nat.le_refl _⟩
      · simp at hcs
        exact ⟨_, _, _, hcs, hl⟩
    obtain ⟨a, len, cap, rfl, hlc⟩ := hs
    obtain ⟨a', rs, cap', e4, q1, q2, q3⟩ := open_ranges (v := .slice a len cap) hG hR hone hRC hr0 hr1 (by simpa [Value.cells] using k2) ⟨_, _, _, rfl⟩
    cases e4
    exact ⟨k, n, s, a, rs, cap, rfl, hk, hb, q1, q2, q3, hlc⟩

/-- An array of three ints. -/
theorem open_ints3 {r : Reach} {b0 : Nat} {t e : TypeId} {v : Value} {d : DataW H} {p : List MemPlace}
    (ht : P.underlying t = some (.array 3 e)) (he : P.underlying e = some (.int .i64)) (hc : P.cellsOf t = 3) (hce : P.cellsOf e = 1)
    (hv : Value.okWide P w r b0 t v) (h : DataW.Trod enc P w base spare held t v d p) :
    ∃ q0 q1 q2 : Int, v = .agg #[.int .i64 q0, .int .i64 q1, .int .i64 q2] ∧ (-9223372036854775808 ≤ q0 ∧ q0 ≤ 9223372036854775807) ∧ (-9223372036854775808 ≤ q1 ∧ q1 ≤ 9223372036854775807) ∧ (-9223372036854775808 ≤ q2 ∧ q2 ≤ 9223372036854775807) := by
  obtain ⟨cs, rfl, hl, hx⟩ := open_arr ht hc hce hv h
  match cs, hl with
  | [c0, c1, c2], _ =>
    obtain ⟨_, _, k0⟩ := hx 0 (by simp)
    obtain ⟨_, _, k1⟩ := hx 1 (by simp)
    obtain ⟨_, _, k2⟩ := hx 2 (by simp)
    obtain ⟨n0, e0, _, w0⟩ := DataW.trod_int he k0
    obtain ⟨n1, e1, _, w1⟩ := DataW.trod_int he k1
    obtain ⟨n2, e2, _, w2⟩ := DataW.trod_int he k2
    simp at e0 e1 e2
    subst e0 e1 e2
    exact ⟨n0, n1, n2, rfl, bounds_i64 w0, bounds_i64 w1, bounds_i64 w2⟩
end
end Go.Proofs.YtjfmgplhcinkfaaGreat
/- The steps of a shard among the arguments, opened. -/
namespace Go.Proofs.YtjfmgplhcinkfaaGreat
open Go.ChangeShapes Go.WideShapes Go.ChangeAt Go.RowKit Go.Joins Go.Deep
set_option linter.unusedVariables false

/-- A step: four numbers, whether the version is meant as it is, that version, a pin. -/
structure O13 where
  k : Int
  key : Int
  n : Int
  s : Int
  raw : Bool
  vk : ByteArray
  vv : ByteArray
  vg : Bool
  vs : Int × Int
  vp : Option Addr × Nat × Nat
  pk : ByteArray
  ps : Int × Int
def J64 (n : Int) : Prop := -9223372036854775808 ≤ n ∧ n ≤ 9223372036854775807
structure O13.In (o : O13) : Prop where
  k : J64 o.k
  key : J64 o.key
  n : J64 o.n
  s : J64 o.s
  vk : o.vk.size ≤ maxLen
  vv : o.vv.size ≤ maxLen
  vs : In64 o.vs
  pk : o.pk.size ≤ maxLen
  ps : In64 o.ps
def cs13 (o : O13) : List Value := [.int .i64 o.k, .int .i64 o.key, .int .i64 o.n, .int .i64 o.s, .bool o.raw, .string o.vk, .string o.vv, .bool o.vg, .int .i64 o.vs.1, .int .i64 o.vs.2, .slice o.vp.1 o.vp.2.1 o.vp.2.2, .string o.pk, .int .i64 o.ps.1, .int .i64 o.ps.2]
def KO13 : RK O13 where
  T := 40
  S := 22
  sz := 14
  bt := 152
  z := .agg #[.int .i64 0, .int .i64 0, .int .i64 0, .int .i64 0, .bool false, .string ⟨#[]⟩, .string ⟨#[]⟩, .bool false, .int .i64 0, .int .i64 0, .slice none 0 0, .string ⟨#[]⟩, .int .i64 0, .int .i64 0]
  enc := cs13

section
variable {H : Type} {enc : TypeId × Value → H} {P : Program} {w : World} {base : Nat} {spare : Nat → Bool} {held : Bool}
theorem trod_struct7 {t : TypeId} {f0 f1 f2 f3 f4 f5 f6 : Field} {fuel : Nat} {cs : List Value} {x : DataW H × List MemPlace} (ht : P.underlying t = some (.struct #[f0, f1, f2, f3, f4, f5, f6])) (h : DataW.trod enc P w base spare held fuel t cs = some x) :
    ∃ y0 y1 y2 y3 y4 y5 y6 n, cs.length = P.cellsOf t ∧ DataW.trod enc P w base spare held n f0.type ((cs.drop f0.offset).take (P.cellsOf f0.type)) = some y0 ∧
      DataW.trod enc P w base spare held n f1.type ((cs.drop f1.offset).take (P.cellsOf f1.type)) = some y1 ∧ DataW.trod enc P w base spare held n f2.type ((cs.drop f2.offset).take (P.cellsOf f2.type)) = some y2 ∧
      DataW.trod enc P w base spare held n f3.type ((cs.drop f3.offset).take (P.cellsOf f3.type)) = some y3 ∧ DataW.trod enc P w base spare held n f4.type ((cs.drop f4.offset).take (P.cellsOf f4.type)) = some y4 ∧
      DataW.trod enc P w base spare held n f5.type ((cs.drop f5.offset).take (P.cellsOf f5.type)) = some y5 ∧ DataW.trod enc P w base spare held n f6.type ((cs.drop f6.offset).take (P.cellsOf f6.type)) = some y6 := by
  obtain ⟨xs, n, _, rfl, hl, hlen, hf⟩ := DataW.trod_struct ht h
  match xs, hlen with
  | [y0, y1, y2, y3, y4, y5, y6], _ => exact ⟨y0, y1, y2, y3, y4, y5, y6, n, hl, by simpa using hf 0 f0 rfl, by simpa using hf 1 f1 rfl, by simpa using hf 2 f2 rfl, by simpa using hf 3 f3 rfl, by simpa using hf 4 f4 rfl, by simpa using hf 5 f5 rfl, by simpa using hf 6 f6 rfl⟩

/-- What is known of the step's type. -/
structure Ty13 (P : Program) (t : TypeId) (f0 f1 f2 f3 f4 f5 f6 v0 v1 v2 v3 v4 g0 g1 p0 p1 : Field) (e : TypeId) : Prop where
  ht : P.underlying t = some (.struct #[f0, f1, f2, f3, f4, f5, f6])
  hT : P.cellsOf t = 14
  o : f0.offset = 0 ∧ f1.offset = 1 ∧ f2.offset = 2 ∧ f3.offset = 3 ∧ f4.offset = 4 ∧ f5.offset = 5 ∧ f6.offset = 11
  c : P.cellsOf f0.type = 1 ∧ P.cellsOf f1.type = 1 ∧ P.cellsOf f2.type = 1 ∧ P.cellsOf f3.type = 1 ∧ P.cellsOf f4.type = 1 ∧ P.cellsOf f5.type = 6 ∧ P.cellsOf f6.type = 3
  i : P.underlying f0.type = some (.int .i64) ∧ P.underlying f1.type = some (.int .i64) ∧ P.underlying f2.type = some (.int .i64) ∧ P.underlying f3.type = some (.int .i64) ∧ P.underlying f4.type = some .bool
  hv : P.underlying f5.type = some (.struct #[v0, v1, v2, v3, v4])
  vo : v0.offset = 0 ∧ v1.offset = 1 ∧ v2.offset = 2 ∧ v3.offset = 3 ∧ v4.offset = 5
  vc : P.cellsOf v0.type = 1 ∧ P.cellsOf v1.type = 1 ∧ P.cellsOf v2.type = 1 ∧ P.cellsOf v3.type = 2 ∧ P.cellsOf v4.type = 1
  vi : P.underlying v0.type = some .string ∧ P.underlying v1.type = some .string ∧ P.underlying v2.type = some .bool ∧ P.underlying v3.type = some (.struct #[g0, g1]) ∧ P.underlying v4.type = some (.slice e)
  go : g0.offset = 0 ∧ g1.offset = 1 ∧ P.cellsOf g0.type = 1 ∧ P.cellsOf g1.type = 1 ∧ P.underlying g0.type = some (.int .i64) ∧ P.underlying g1.type = some (.int .i64)
  hp : P.underlying f6.type = some (.struct #[p0, p1])
  po : p0.offset = 0 ∧ p1.offset = 1 ∧ P.cellsOf p0.type = 1 ∧ P.cellsOf p1.type = 2 ∧ P.underlying p0.type = some .string ∧ P.underlying p1.type = some (.struct #[g0, g1])

theorem trod_op13 {t e : TypeId} {f0 f1 f2 f3 f4 f5 f6 v0 v1 v2 v3 v4 g0 g1 p0 p1 : Field} {fuel : Nat} {cs : List Value} {x : DataW H × List MemPlace} (hy : Ty13 P t f0 f1 f2 f3 f4 f5 f6 v0 v1 v2 v3 v4 g0 g1 p0 p1 e) (hl : cs.length = 14)
    (h : DataW.trod enc P w base spare held fuel t cs = some x) : ∃ o : O13, cs = cs13 o ∧ o.In := by
  obtain ⟨y0, y1, y2, y3, y4, y5, y6, n', _, k0, k1, k2, k3, k4, k5, k6⟩ := trod_struct7 hy.ht h
  obtain ⟨o0, o1, o2, o3, o4, o5, o6⟩ := hy.o
  obtain ⟨c0, c1, c2, c3, c4, c5, c6⟩ := hy.c
  obtain ⟨i0, i1, i2, i3, i4⟩ := hy.i
  rw [o0, c0] at k0
  rw [o1, c1] at k1
  rw [o2, c2] at k2
  rw [o3, c3] at k3
  rw [o4, c4] at k4
  rw [o5, c5] at k5
  rw [o6, c6] at k6
  match cs, hl with
  | [d0, d1, d2, d3, d4, d5, d6, d7, d8, d9, d10, d11, d12, d13], _ =>
    obtain ⟨n0, e0, _, b0⟩ := DataW.trod_int i0 k0
    obtain ⟨n1, e1, _, b1⟩ := DataW.trod_int i1 k1
    obtain ⟨n2, e2, _, b2⟩ := DataW.trod_int i2 k2
    obtain ⟨n3, e3, _, b3⟩ := DataW.trod_int i3 k3
    obtain ⟨n4, e4, _⟩ := DataW.trod_bool i4 k4
    obtain ⟨z0, z1, z2, z3, z4, n'', _, m0, m1, m2, m3, m4⟩ := trod_struct5 hy.hv k5
    obtain ⟨q0, q1, q2, q3, q4⟩ := hy.vo
    obtain ⟨r0, r1, r2, r3, r4⟩ := hy.vc
    obtain ⟨j0, j1, j2, j3, j4⟩ := hy.vi
    rw [q0, r0] at m0
    rw [q1, r1] at m1
    rw [q2, r2] at m2
    rw [q3, r3] at m3
    rw [q4, r4] at m4
    obtain ⟨g0o, g1o, g0c, g1c, h2, h3⟩ := hy.go
    obtain ⟨key, e5, _, s5⟩ := DataW.trod_string j0 m0
    obtain ⟨val, e6, _, s6⟩ := DataW.trod_string j1 m1
    obtain ⟨gone, e7, _⟩ := DataW.trod_bool j2 m2
    obtain ⟨w0, w1, n3', _, _, a0, a1⟩ := trod_struct2 j3 m3
    rw [g0o, g0c] at a0
    rw [g1o, g1c] at a1
    obtain ⟨sn, e8, _, b8⟩ := DataW.trod_int h2 a0
    obtain ⟨ss, e9, _, b9⟩ := DataW.trod_int h3 a1
    obtain ⟨u0, u1, n4', _, _, x0, x1⟩ := trod_struct2 hy.hp k6
    obtain ⟨p0o, p1o, p0c, p1c, hs, hst⟩ := hy.po
    rw [p0o, p0c] at x0
    rw [p1o, p1c] at x1
    obtain ⟨pk, e11, _, s11⟩ := DataW.trod_string hs x0
    obtain ⟨w2, w3, n5', _, _, a2, a3⟩ := trod_struct2 hst x1
    rw [g0o, g0c] at a2
    rw [g1o, g1c] at a3
    obtain ⟨pn, e12, _, b12⟩ := DataW.trod_int h2 a2
    obtain ⟨ps, e13, _, b13⟩ := DataW.trod_int h3 a3
    simp at e0 e1 e2 e3 e4 e5 e6 e7 e8 e9 e11 e12 e13
    subst e0 e1 e2 e3 e4 e5 e6 e7 e8 e9 e11 e12 e13
    have k10 : DataW.trod enc P w base spare held n'' v4.type [d10] = some z4 := by simpa using m4
    have hsl : ∃ a n c, d10 = .slice a n c := by
      rcases open_slice j4 k10 with ⟨hcs, _⟩ | ⟨x, l, c, m, n, D, Pl, hcs, _, _⟩
      · simp at hcs
        exact ⟨none, 0, 0, hcs⟩
      · simp at hcs
        exact ⟨_, _, _, hcs⟩
    obtain ⟨pa, pn', pcap, rfl⟩ := hsl
    exact ⟨⟨n0, n1, n2, n3, n4, key, val, gone, (sn, ss), (pa, pn', pcap), pk, (pn, ps)⟩, rfl, ⟨bounds_i64 b0, bounds_i64 b1, bounds_i64 b2, bounds_i64 b3, s5, s6, ⟨bounds_i64 b8, bounds_i64 b9⟩, s11, ⟨bounds_i64 b12, bounds_i64 b13⟩⟩⟩

/-- One step. -/
theorem open_op13 {r : Reach} {b0 : Nat} {t e : TypeId} {f0 f1 f2 f3 f4 f5 f6 v0 v1 v2 v3 v4 g0 g1 p0 p1 : Field} {v : Value} {d : DataW H} {p : List MemPlace} (hy : Ty13 P t f0 f1 f2 f3 f4 f5 f6 v0 v1 v2 v3 v4 g0 g1 p0 p1 e)
    (hv : Value.okWide P w r b0 t v) (h : DataW.Trod enc P w base spare held t v d p) : ∃ o : O13, v = .agg (cs13 o).toArray ∧ o.In := by
  obtain ⟨cs, rfl, hsz⟩ := okWide_struct hy.ht hv
  obtain ⟨fuel, hf'⟩ := h
  have e0 : (Value.agg cs).cells.toList = cs.toList := rfl
  rw [e0] at hf'
  rw [hy.hT] at hsz
  obtain ⟨o, ho, hi⟩ := trod_op13 hy (by simpa using hsz) hf'
  exact ⟨o, by rw [← ho], hi⟩

/-- A row of steps. -/
theorem open_ops13 {t t0 e : TypeId} {f0 f1 f2 f3 f4 f5 f6 v0 v1 v2 v3 v4 g0 g1 p0 p1 : Field} {fuel : Nat} {v : Value} {x : DataW H × List MemPlace} (ht : P.underlying t0 = some (.slice t)) (hy : Ty13 P t f0 f1 f2 f3 f4 f5 f6 v0 v1 v2 v3 v4 g0 g1 p0 p1 e)
    (h : DataW.trod enc P w base spare held fuel t0 v.cells.toList = some x) (hv : ∃ a n c, v = .slice a n c) :
    ∃ (a : Option Addr) (l : List O13) (cap : Nat), v = .slice a l.length cap ∧ l.length ≤ 9223372036854775807 ∧ (∀ o ∈ l, o.In) ∧ RowIn KO13 w a l := by
  obtain ⟨a, len, cap, rfl⟩ := hv
  rcases open_slice ht h with ⟨hcs, _⟩ | ⟨x, l, c, m, n, D, Pl, hcs, _, hl, hm, hmm, _, hi⟩
  · simp [Value.cells] at hcs
    obtain ⟨rfl, rfl, rfl⟩ := hcs
    exact ⟨none, [], 0, rfl, by simp, by simp, fun i h => absurd h (by simp)⟩
  · simp [Value.cells] at hcs
    obtain ⟨rfl, rfl, rfl⟩ := hcs
    have hlm : len ≤ m := by rw [hmm]; split <;> omega
    unfold maxLen at hm
    have all : ∀ i, ∃ z : O13, i < len → z.In ∧ ∀ j u, (cs13 z)[j]? = some u → w.cell? (x.add (i * 14 + j)) = some u := by
      intro i
      by_cases hil : i < len
      · obtain ⟨cs', hc, ht'⟩ := hi i (by omega)
        rw [hy.hT] at hc
        obtain ⟨_, hcl', hat⟩ := World.cells?_some hc
        obtain ⟨o, ho, hin⟩ := trod_op13 hy hcl' ht'
        refine ⟨o, fun _ => ⟨hin, fun j u hu => ?_⟩⟩
        have hj : j < 14 := by
          have := (List.getElem?_eq_some_iff.1 hu).1
          simpa [cs13] using this
        have := hat j hj
        rw [ho] at this
        rw [← hu]
        simpa [Go.Deep.add_add] using this
      · exact ⟨⟨0, 0, 0, 0, false, ⟨#[]⟩, ⟨#[]⟩, false, (0, 0), (none, 0, 0), ⟨#[]⟩, (0, 0)⟩, fun hh => absurd hh hil⟩
    obtain ⟨F, hF⟩ : ∃ F : Nat → O13, ∀ i, i < len → (F i).In ∧ ∀ j u, (cs13 (F i))[j]? = some u → w.cell? (x.add (i * 14 + j)) = some u := ⟨fun i => (all i).choose, fun i => (all i).choose_spec⟩
    obtain ⟨b, off, spot⟩ := x
    refine ⟨some ⟨b, off, spot⟩, (List.range len).map F, cap, by simp, by simp; omega, ?_, ?_⟩
    · intro o ho
      simp at ho
      obtain ⟨i, hi', rfl⟩ := ho
      exact (hF i hi').1
    · intro i hi'
      have hil : i < len := by simpa using hi'
      have hspot : spot = none := by
        have := (hF 0 (by omega)).2 0 _ rfl
        simpa [Addr.add] using World.cell?_spot this
      subst hspot
      have q0 := (hF i hil).2 0 _ rfl
      rw [Addr.add_lit] at q0
      refine ⟨b, off, rfl, World.block_lt_of_cell? w _ q0, fun j u hu => ?_⟩
      simp only [List.getElem_map, List.getElem_range] at hu
      have := (hF i hil).2 j u hu
      rw [Addr.add_lit] at this
      have hs : KO13.sz = 14 := rfl
      rw [hs, Nat.add_assoc]
      exact this
end
end Go.Proofs.YtjfmgplhcinkfaaGreat
