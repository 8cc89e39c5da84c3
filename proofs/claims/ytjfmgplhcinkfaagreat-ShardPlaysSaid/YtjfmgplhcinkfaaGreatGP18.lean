/- Texts of this proof, one behind the other: ShGrp, ShSel. -/
import Derived.Test.YtjfmgplhcinkfaaGreatGP17
/- A map of rows of stamps, by texts: a stamp appended to the row of a text. -/
namespace Go.Proofs.YtjfmgplhcinkfaaGreat
open Go.RowKit Go.Maps
set_option linter.unusedVariables false
set_option linter.unusedSimpArgs false

def rowsK (cs : List (ByteArray × (Int × Int))) (k : ByteArray) : List (Int × Int) := (cs.filter fun c => decide (c.1 = k)).map Prod.snd
theorem rowsK_snoc (cs : List (ByteArray × (Int × Int))) (x : ByteArray) (c : (Int × Int)) (k : ByteArray) : rowsK (cs ++ [(x, c)]) k = if x = k then rowsK cs k ++ [c] else rowsK cs k := by
  unfold rowsK
  rw [List.filter_append, List.map_append]
  by_cases h : x = k <;> simp [h]
theorem rowsK_len (cs : List (ByteArray × (Int × Int))) (k : ByteArray) : (rowsK cs k).length ≤ cs.length := by
  unfold rowsK
  rw [List.length_map]
  exact List.length_filter_le _ _
abbrev nilT : Value := .slice none 0 0
/-- Block b is a map of rows of stamps by keys; the rows lie in blocks of their own, from base on. -/
structure Grp (w : World) (base b : Nat) (cs : List (ByteArray × (Int × Int))) (n : Nat) (g : ByteArray → Option Value) : Prop where
  mp : MapS w b n g
  n_le : n ≤ cs.length
  row : ∀ k : ByteArray, k.size ≤ maxLen → OwnR KT w base ((g k).getD nilT) (rowsK cs k)
  apart : ∀ k k' : ByteArray, k.size ≤ maxLen → k'.size ≤ maxLen → k ≠ k' → ∀ x, ((g k).getD nilT).ownBlock = some x → ((g k').getD nilT).ownBlock ≠ some x
theorem Grp.below {w w' : World} {base b : Nat} {cs : List (ByteArray × (Int × Int))} {n : Nat} {g : ByteArray → Option Value} (h : Grp w base b cs n g) (hb : Below w.heap.size w w') : Grp w' base b cs n g :=
  ⟨h.mp.below hb, h.n_le, fun k hk => (h.row k hk).below hb, h.apart⟩
theorem Grp.made (w : World) (base : Nat) : Grp (w.alloc (.map #[] 0)) base w.heap.size [] 0 (fun _ => none) :=
  ⟨MapS.made w, by simp, fun k _ => OwnR.nil _ _ _, fun k k' _ _ _ x h => by simp [Value.ownBlock] at h⟩
/-- One stamp more. -/
theorem Grp.push {w w1 w2 : World} {base b : Nat} {cs : List (ByteArray × (Int × Int))} {n : Nat} {g : ByteArray → Option Value} (h : Grp w base b cs n g) (hbb : b < base) {x : ByteArray} (hx : x.size ≤ maxLen) {c : (Int × Int)} {v' : Value} {q : Nat} (hq : v'.ownBlock = some q)
    (ho : OwnR KT w1 base v' (rowsK cs x ++ [c])) (hk : KeptD ((g x).getD nilT) w w1) (hat : ((g x).getD nilT).ownBlock = some q ∨ w.heap.size ≤ q)
    (hm : MapS w2 b (if (g x).isSome then n else n + 1) (fun d => if d = x then some v' else g d)) (ht : w1.mapTurned w2 b) :
    Grp w2 base b (cs ++ [(x, c)]) (if (g x).isSome then n else n + 1) (fun d => if d = x then some v' else g d) := by
  refine ⟨hm, ?_, fun k hk' => ?_, fun k k' h1 h2 hne y hy => ?_⟩
  · have := h.n_le
    rw [List.length_append]
    split <;> simp <;> omega
  · rw [rowsK_snoc]
    by_cases e : k = x
    · rw [if_pos e, if_pos e.symm, e]
      exact ho.block (fun q hq => turned_block ht q (by have := (ho.lt q hq).1; omega))
    · rw [if_neg e, if_neg (Ne.symm e)]
      have hr := h.row k hk'
      refine hr.block (fun q hq => ?_)
      rw [turned_block ht q (by have := (hr.lt q hq).1; omega)]
      exact hk q (hr.lt q hq).2 (h.apart k x hk' hx e q hq)
  · by_cases e : k = x
    · rw [if_pos e] at hy
      rw [if_neg (fun e' => hne (e.trans e'.symm))]
      simp only [Option.getD_some] at hy
      rw [hq] at hy
      cases hy
      rcases hat with h3 | h3
      · exact h.apart x k' hx h2 (by rw [← e]; exact hne) q h3
      · intro h4
        have := ((h.row k' h2).lt q h4).2
        omega
    · rw [if_neg e] at hy
      by_cases e' : k' = x
      · rw [if_pos e']
        simp only [Option.getD_some]
        rw [hq]
        intro h4
        cases h4
        rcases hat with h3 | h3
        · exact h.apart x k hx h1 (Ne.symm e) q h3 hy
        · have := ((h.row k h1).lt q hy).2
          omega
      · rw [if_neg e']
        exact h.apart k k' h1 h2 hne y hy
/-- No row lies in block j. -/
def Avoid (g : ByteArray → Option Value) (j : Nat) : Prop := ∀ k : ByteArray, k.size ≤ maxLen → ((g k).getD nilT).ownBlock ≠ some j
theorem Grp.avoid {w : World} {base b : Nat} {cs : List (ByteArray × (Int × Int))} {n : Nat} {g : ByteArray → Option Value} (h : Grp w base b cs n g) {j : Nat} (hj : w.heap.size ≤ j) : Avoid g j := fun k hk => (h.row k hk).lt' hj
/-- One stamp appended, and its row put into the map. -/
theorem Grp.add {w : World} {base b : Nat} {cs : List (ByteArray × (Int × Int))} {n : Nat} {g : ByteArray → Option Value} (h : Grp w base b cs n g) (hbb : b < base) (hbs : base ≤ w.heap.size) (hlen : cs.length ≤ 100000) {x : ByteArray} (hx : x.size ≤ maxLen) (c : (Int × Int)) (ty : TypeId) :
    ∃ q cap w1 w2 n' g', (Builtin.append_ #[74, 74] ty #[(g x).getD nilT, .slice (some ⟨w.heap.size, 0, none⟩) 1 1]).run Tryz.prog (w.alloc (.cells #[.int .i64 c.1, .int .i64 c.2] 33)) = .ok (.slice (some ⟨q, 0, none⟩) ((rowsK cs x).length + 1) cap) w1 ∧
      (Instr.mapUpdate 87 (.map (some b)) (.string x) (.slice (some ⟨q, 0, none⟩) ((rowsK cs x).length + 1) cap)).run Tryz.prog w1 = .ok () w2 ∧
      Grp w2 base b (cs ++ [(x, c)]) n' g' ∧ (∀ j, j < w.heap.size → Avoid g j → Avoid g' j ∧ w1.heap[j]? = w.heap[j]? ∧ (j ≠ b → w2.heap[j]? = w.heap[j]?)) ∧ Below b w w2 := by
  obtain ⟨q, cap, w1, hrun, ho, hbel, hkept, hat, hlt⟩ := run_pushR kt_ok (wr := w) ty base _ _ c #[.int .i64 c.1, .int .i64 c.2] rfl (h.row x hx) (by have := rowsK_len cs x; omega) hbs
  have hmb : w1.heap[b]? = w.heap[b]? := hkept b h.mp.lt (fun e => by have := ((h.row x hx).lt b e).1; omega)
  obtain ⟨w2, hrun2, hm2, ht2⟩ := (h.mp.block hmb).store Tryz.underlying87 (by have := h.n_le; unfold maxLen; omega) hx (.slice (some ⟨q, 0, none⟩) ((rowsK cs x).length + 1) cap)
  have hg := h.push hbb hx (q := q) rfl ho hkept hat hm2 ht2
  refine ⟨q, cap, w1, w2, _, _, hrun, hrun2, hg, fun j hj hav => ⟨fun k hk => ?_, hkept j hj (hav x hx), fun hjb => (turned_block ht2 j hjb).trans (hkept j hj (hav x hx))⟩, (hbel.mono (by omega)).trans (turned_below ht2 (Nat.le_refl _) (by have := hbel.size; omega))⟩
  dsimp only
  by_cases e : k = x
  · rw [if_pos e]
    intro h3
    have h4 : q = j := by simpa [Value.ownBlock] using h3
    rcases hat with h5 | h5
    · exact hav x hx (by rw [h5, h4])
    · omega
  · rw [if_neg e]
    exact hav k hk
theorem Grp.look {w : World} {base b : Nat} {cs : List (ByteArray × (Int × Int))} {n : Nat} {g : ByteArray → Option Value} (h : Grp w base b cs n g) {x : ByteArray} (hx : x.size ≤ maxLen) :
    (Instr.lookup 87 (.map (some b)) (.string x) false).run Tryz.prog w = .ok ((g x).getD nilT) w :=
  h.mp.look Tryz.underlying87 (Tryz.zeroValue74 _) hx
end Go.Proofs.YtjfmgplhcinkfaaGreat
/- The closure that selects pins. -/
namespace Go.Proofs.YtjfmgplhcinkfaaGreat
open Go.RowKit Go.Maps
set_option linter.unusedVariables false
set_option linter.unusedSimpArgs false

theorem rowsK_pins (pins : List De) (k : ByteArray) : rowsK pins k = pinsOf pins k := rfl
/-- What the closure holds; all of it from block lo on. -/
structure SelAt (w : World) (lo B : Nat) (pins : List De) : Prop where
  m : ∃ mb n g base, lo ≤ B ∧ lo ≤ mb ∧ lo ≤ base ∧ w.cell? ⟨B, 0, none⟩ = some (.map (some mb)) ∧ Grp w base mb pins n g
theorem SelAt.below {w w' : World} {lo B : Nat} {pins : List De} (h : SelAt w lo B pins) (hb : Below w.heap.size w w') : SelAt w' lo B pins := by
  obtain ⟨mb, n, g, base, l1, l2, l3, h1, h2⟩ := h.m
  exact ⟨mb, n, g, base, l1, l2, l3, kc hb h1, h2.below hb⟩
/-- No block of it is written. -/
theorem SelAt.mv {P : Nat → Prop} {w w' : World} {lo B : Nat} {pins : List De} (h : SelAt w lo B pins) (hm : Mv P w w') (hP : ∀ j, lo ≤ j → ¬ P j) : SelAt w' lo B pins := by
  obtain ⟨mb, n, g, base, l1, l2, l3, h1, h2⟩ := h.m
  exact ⟨mb, n, g, base, l1, l2, l3, hm.cell (hP _ l1) h1, ⟨h2.mp.block (hm.block _ h2.mp.lt (hP _ l2)), h2.n_le, fun k hk => (h2.row k hk).block (fun q hq => hm.block q ((h2.row k hk).lt q hq).2 (hP _ (Nat.le_trans l3 ((h2.row k hk).lt q hq).1))), h2.apart⟩⟩

/-- An append in a region that draws its order, by the run's equation. -/
theorem step_appendS {P : Program} {ops : Array Oper} {o : Oper} {a : Act} {K : Act → World → Prop} {Q : Exit → Act → World → Prop} {E : Prop} {w : World} (hgd : o.guard = none) (s x : Operand) (t : TypeId)
    (ho : o.op = .call { callee := .builtin .append, args := #[s, x], argTypes := #[t, t] }) (v u r : Value) (w' : World) (hs : a.eval s = v) (hx : a.eval x = u) (hr : (Builtin.append_ #[t, t] o.type #[v, u]).run P w = .ok r w') (h : K (a.put o.dst r) w') :
    if Region.wanted o (yielded ops a.tmps) = true then Oper.wp P o a w K Q else E := by
  have hw : Region.wanted o (yielded ops a.tmps) = true := by simp [Region.wanted, hgd]
  rw [if_pos hw]
  unfold Oper.wp execOp
  simp only [ho, resolve, invoke, builtin, Sem.run_bind, Sem.run_pure, Result.andThen_ok, List.map_toArray, List.map_cons, List.map_nil, hs, hx, hr]
  exact h

set_option maxRecDepth 100000 in
set_option maxHeartbeats 1600000 in
theorem selC_any (w : World) (lo B : Nat) (pins : List De) (h : SelAt w lo B pins) (k : ByteArray) (hk : k.size ≤ maxLen) :
    Calls Tryz.prog 47 #[.string k, .pointer (some ⟨B, 0, none⟩)] w fun e w' => w = w' ∧ ∃ v, e = .returned v ∧ RowAt KT w v (pinsOf pins k) := by
  obtain ⟨mb, n, g, base, _, _, _, h1, h2⟩ := h.m
  have hlk := h2.mp.look Tryz.underlying87 (Tryz.zeroValue74 _) hk
  have hrow := RowAt.of_own kt_ok (h2.row k hk)
  rw [rowsK_pins] at hrow
  have hnil : ((g k).getD nilT) = ((g k).getD (.slice none 0 0)) := rfl
  rw [hnil] at hrow
  generalize (g k).getD (.slice none 0 0) = v at hlk hrow
  obtain ⟨a, c, rfl, _⟩ := id hrow
  have HR := Lib.hid hrow
  clear hrow h2 h hnil
  go_enter Tryz.func47, Tryz.ntmps47
  go_wp2
  go_ret
  exact ⟨rfl, _, rfl, HR.out⟩

set_option maxRecDepth 100000 in
set_option maxHeartbeats 3200000 in
theorem selector_any (v : Value) (pins : List De) (w : World) (hl : pins.length ≤ 100000) (hk : ∀ d ∈ pins, d.1.size ≤ maxLen) (hr : DepAt w v pins) :
    Calls Tryz.prog 33 #[v] w fun e w' => ∃ B, e = .returned (.func (.func 47) #[] #[.pointer (some ⟨B, 0, none⟩)]) ∧ SelAt w' w.heap.size B pins ∧ Below w.heap.size w w' := by
  have hmf : ∀ (fn : Fn) (first cap : Array Value) (w : World), (Instr.makeFunc fn first cap).run Tryz.prog w = .ok (.func fn first cap) w := fun _ _ _ _ => rfl
  have hmm : ∀ (w : World), (Instr.makeMap 87 none).run Tryz.prog w = .ok (.map (some w.heap.size)) (w.alloc (.map #[] 0)) := fun w => by
    simp [Instr.makeMap, run_underlying Tryz.underlying87, asInt, asIntOf]
  have HR := Lib.hid hr
  have HK := Lib.hid hk
  obtain ⟨a, cap, rfl, _, _, _, _⟩ := id hr
  clear hr hk
  obtain ⟨w2, hw2⟩ : ∃ w2, (w.alloc (.map #[] 0)).alloc (.cells #[.map (some w.heap.size)] 87) = w2 := ⟨_, rfl⟩
  have hA1 : Below w.heap.size w (w.alloc (.map #[] 0)) := balloc (Below.refl _ w) _
  have hs1 : (w.alloc (.map #[] 0)).heap.size = w.heap.size + 1 := by simp
  have hA2 : Below (w.alloc (.map #[] 0)).heap.size (w.alloc (.map #[] 0)) w2 := by rw [← hw2]; exact balloc (Below.refl _ _) _
  have hsz : w2.heap.size = w.heap.size + 2 := by rw [← hw2]; simp
  have hc2 : w2.cell? ⟨w.heap.size + 1, 0, none⟩ = some (.map (some w.heap.size)) := by rw [← hw2, ← hs1]; simp
  have hg2 : Grp w2 (w.heap.size + 2) w.heap.size [] 0 (fun _ => none) := (Grp.made w _).below hA2
  have HB2 := Lib.hid (bstep hA1 hA2)
  clear hA1 hA2
  go_enter Tryz.func33, Tryz.ntmps33
  go_upto_region 2 with fail
  try rw [hs1]
  try rw [hw2]
  clear hw2 hs1
  go_wp2
  go_loopw [9] (fun i wr => ∃ k : Nat, k ≤ pins.length ∧ i = .int .i64 k ∧ (∃ n g, Grp wr (w.heap.size + 2) w.heap.size (pins.take k) n g) ∧ wr.cell? ⟨w.heap.size + 1, 0, none⟩ = some (.map (some w.heap.size)) ∧ w.heap.size + 2 ≤ wr.heap.size ∧ Below w.heap.size w wr) (fun i _ => pins.length - (intOf i).toNat)
  case atStart => exact ⟨0, by omega, rfl, ⟨0, _, hg2⟩, hc2, by omega, HB2.out⟩
  case round =>
    obtain ⟨k, hkl, rfl, ⟨n, g, hg⟩, hc, hs, hbel⟩ := hrel
    have HG := Lib.hid hg
    have HB := Lib.hid hbel
    clear hg hbel hg2 hc2 HB2 hsz
    by_cases hlt : k < pins.length
    · obtain ⟨a', c', e', _, _, _, hdi⟩ := HR.out.below HB.out
      cases e'
      obtain ⟨b, off, rfl, hbl, d0, d1, d2⟩ := hdi k hlt
      have HTK : Hid (pins.take (k + 1) = pins.take k ++ [(pins[k].1, pins[k].2)]) := Lib.hid (List.take_succ_eq_append_getElem hlt)
      have HX := Lib.hid (HK.out _ (List.getElem_mem hlt))
      have hlen : (pins.take k).length ≤ 100000 := by rw [List.length_take]; omega
      generalize pins[k] = d at d0 d1 d2 HTK HX
      generalize pins.take k = cur at HG HTK hlen
      obtain ⟨x, y, z⟩ := d
      dsimp only at d0 d1 d2 HTK HX
      have hki : (k : Int) < (pins.length : Int) := by omega
      obtain ⟨ra, rc, hrow⟩ := (HG.out.row x HX.out).shape
      obtain ⟨w3, hw3⟩ : ∃ w3, wr.alloc (.cells #[.string x, .int .i64 y, .int .i64 z] 38) = w3 := ⟨_, rfl⟩
      have hA3 : Below wr.heap.size wr w3 := by rw [← hw3]; exact balloc (Below.refl _ _) _
      have hs3 : w3.heap.size = wr.heap.size + 1 := by rw [← hw3]; simp
      have q0 : w3.drew.cell? ⟨wr.heap.size, 0, none⟩ = some (.string x) ∧ w3.drew.cell? ⟨wr.heap.size, 1, none⟩ = some (.int .i64 y) ∧ w3.drew.cell? ⟨wr.heap.size, 2, none⟩ = some (.int .i64 z) := by
        rw [← hw3]
        exact ⟨by simp, by simp, by simp⟩
      obtain ⟨q0, q1, q2⟩ := q0
      have qb : w3.drew.cell? ⟨w.heap.size + 1, 0, none⟩ = some (.map (some w.heap.size)) := kc hA3.drew hc
      have hbd : Below wr.heap.size wr w3.drew := hA3.drew
      have hg3 := HG.out.below hbd
      have hlk : ∀ W, Below w3.drew.heap.size w3.drew W → (Instr.lookup 87 (.map (some w.heap.size)) (.string x) false).run Tryz.prog W = .ok ((g x).getD nilT) W := fun W hW => (hg3.below hW).look HX.out
      have hl0 := hlk _ (Below.refl _ _)
      have hl1 := hlk _ (balloc (Below.refl _ w3.drew) (.cells #[.int .i64 y, .int .i64 z] 33))
      obtain ⟨q, qcap, w4, w5, n', g', hra, hru, hg5, hkeep, hb5⟩ := hg3.add (by omega) (by show w.heap.size + 2 ≤ w3.heap.size; omega) hlen HX.out (y, z) 74
      rw [hrow] at hl0 hl1 hra
      have hl2 : (Instr.lookup 87 (.map (some w.heap.size)) (.string x) false).run Tryz.prog ((w3.alloc (.cells #[.int .i64 y, .int .i64 z] 33)).drew) = .ok (.slice ra (rowsK cur x).length rc) ((w3.alloc (.cells #[.int .i64 y, .int .i64 z] 33)).drew) := hl1
      have HL := Lib.hid hl0
      clear hlk
      go_upto_region 5 with fail
      try rw [hw3]
      have hsd : w3.drew.heap.size = w3.heap.size := rfl
      have HA1 : Hid (Avoid g wr.heap.size) := Lib.hid (HG.out.avoid (Nat.le_refl _))
      have HA2 : Hid (Avoid g (w.heap.size + 1)) := Lib.hid (fun k hk => (HG.out.row k hk).lo (by omega))
      have hK1 := hkeep wr.heap.size (by rw [hsd]; omega) HA1.out
      have hK2 := hkeep (w.heap.size + 1) (by rw [hsd]; omega) HA2.out
      have r0 : w4.cell? ⟨wr.heap.size, 0, none⟩ = some (.string x) := by rw [World.cell?_of_block hK1.2.1]; exact q0
      have r1 : w4.cell? ⟨wr.heap.size, 1, none⟩ = some (.int .i64 y) := by rw [World.cell?_of_block hK1.2.1]; exact q1
      have r2 : w4.cell? ⟨wr.heap.size, 2, none⟩ = some (.int .i64 z) := by rw [World.cell?_of_block hK1.2.1]; exact q2
      have rb : w4.cell? ⟨w.heap.size + 1, 0, none⟩ = some (.map (some w.heap.size)) := by rw [World.cell?_of_block hK2.2.1]; exact qb
      have HC5 : Hid (w5.cell? ⟨w.heap.size + 1, 0, none⟩ = some (.map (some w.heap.size))) := Lib.hid (by rw [World.cell?_of_block (hK2.2.2 (by omega))]; exact qb)
      have HB5 : Hid (Below w.heap.size w w5) := Lib.hid ((bstep HB.out hbd).trans hb5)
      have HS5 : Hid (w.heap.size + 2 ≤ w5.heap.size) := Lib.hid (by have := hb5.size; rw [hsd] at this; omega)
      have HG5 := Lib.hid hg5
      have HRA := Lib.hid hra
      have hX1 := hK1.2.2 (by omega)
      clear hw3 hra hkeep hK1 hK2 hg5 hb5 hg3 hbd hA3 hsd
      have g0 : (w3.drew.cell? ⟨wr.heap.size, 0, none⟩ = some (.string x) ∧ w3.drew.cell? ⟨wr.heap.size, 1, none⟩ = some (.int .i64 y) ∧ w3.drew.cell? ⟨wr.heap.size, 2, none⟩ = some (.int .i64 z)) ∧ w3.drew.cell? ⟨w.heap.size + 1, 0, none⟩ = some (.map (some w.heap.size)) := ⟨⟨q0, q1, q2⟩, qb⟩
      have hA4 : Below w3.drew.heap.size w3.drew (w3.drew.alloc (.cells #[.int .i64 y, .int .i64 z] 33)) := balloc (Below.refl _ _) _
      have g2 : ((w3.drew.alloc (.cells #[.int .i64 y, .int .i64 z] 33)).cell? ⟨wr.heap.size, 0, none⟩ = some (.string x) ∧ (w3.drew.alloc (.cells #[.int .i64 y, .int .i64 z] 33)).cell? ⟨wr.heap.size, 1, none⟩ = some (.int .i64 y) ∧ (w3.drew.alloc (.cells #[.int .i64 y, .int .i64 z] 33)).cell? ⟨wr.heap.size, 2, none⟩ = some (.int .i64 z)) ∧ (w3.drew.alloc (.cells #[.int .i64 y, .int .i64 z] 33)).cell? ⟨w.heap.size + 1, 0, none⟩ = some (.map (some w.heap.size)) := ⟨⟨kc hA4 q0, kc hA4 q1, kc hA4 q2⟩, kc hA4 qb⟩
      have g3 : (w4.cell? ⟨wr.heap.size, 0, none⟩ = some (.string x) ∧ w4.cell? ⟨wr.heap.size, 1, none⟩ = some (.int .i64 y) ∧ w4.cell? ⟨wr.heap.size, 2, none⟩ = some (.int .i64 z)) ∧ w4.cell? ⟨w.heap.size + 1, 0, none⟩ = some (.map (some w.heap.size)) := ⟨⟨r0, r1, r2⟩, rb⟩
      have g4 : (w5.cell? ⟨wr.heap.size, 0, none⟩ = some (.string x) ∧ w5.cell? ⟨wr.heap.size, 1, none⟩ = some (.int .i64 y) ∧ w5.cell? ⟨wr.heap.size, 2, none⟩ = some (.int .i64 z)) ∧ w5.cell? ⟨w.heap.size + 1, 0, none⟩ = some (.map (some w.heap.size)) := ⟨⟨by rw [World.cell?_of_block hX1]; exact q0, by rw [World.cell?_of_block hX1]; exact q1, by rw [World.cell?_of_block hX1]; exact q2⟩, HC5.out⟩
      have HL0 := Lib.hid hl0
      have HL1 := Lib.hid hl1
      have HL2 := Lib.hid hl2
      have HRU := Lib.hid hru
      clear q0 q1 q2 qb r0 r1 r2 rb hl0 hl1 hl2 hru hA4 hX1 hs3
      go_wp2_with fail
      refine wp_region_held_drew (S := fun w' => (w'.cell? ⟨wr.heap.size, 0, none⟩ = some (.string x) ∧ w'.cell? ⟨wr.heap.size, 1, none⟩ = some (.int .i64 y) ∧ w'.cell? ⟨wr.heap.size, 2, none⟩ = some (.int .i64 z)) ∧ w'.cell? ⟨w.heap.size + 1, 0, none⟩ = some (.map (some w.heap.size))) (by kernel_rfl) (g0) (fun hHeld => ?_)
      refine wpAnyH_take (i := 0) (v := ?v0) rfl (by kernel_rfl) (by kernel_rfl) (by kernel_rfl) (fun _ _ _ h => h) (Or.inl ⟨by rfl, ?y0⟩) (by assumption) ?r0
      case y0 => (intro w hSw; (try dsimp only at hSw); go_simp; try with_reducible rfl)
      try simp only [Act.put, List.setIfInBounds_toArray, List.set_cons_zero, List.set_cons_succ, List.getElem_toArray, List.getElem_cons_zero, List.getElem_cons_succ]
      refine wpAnyH_take (i := 1) (v := ?v1) rfl (by kernel_rfl) (by kernel_rfl) (by kernel_rfl) (fun _ _ _ h => h) (Or.inl ⟨by rfl, ?y1⟩) (by assumption) ?r1
      case y1 => (intro w hSw; (try dsimp only at hSw); go_simp; try with_reducible rfl)
      try simp only [Act.put, List.setIfInBounds_toArray, List.set_cons_zero, List.set_cons_succ, List.getElem_toArray, List.getElem_cons_zero, List.getElem_cons_succ]
      refine wpAnyH_take (i := 2) (v := ?v2) rfl (by kernel_rfl) (by kernel_rfl) (by kernel_rfl) (fun _ _ _ h => h) (Or.inl ⟨by rfl, ?y2⟩) (by assumption) ?r2
      case y2 => (intro w hSw; (try dsimp only at hSw); go_simp; try with_reducible rfl)
      try simp only [Act.put, List.setIfInBounds_toArray, List.set_cons_zero, List.set_cons_succ, List.getElem_toArray, List.getElem_cons_zero, List.getElem_cons_succ]
      refine wpAnyH_take (i := 3) (v := ?v3) rfl (by kernel_rfl) (by kernel_rfl) (by kernel_rfl) (fun _ _ _ h => h) (Or.inl ⟨by rfl, ?y3⟩) (by assumption) ?r3
      case y3 => (intro w hSw; (try dsimp only at hSw); go_simp; try with_reducible rfl)
      try simp only [Act.put, List.setIfInBounds_toArray, List.set_cons_zero, List.set_cons_succ, List.getElem_toArray, List.getElem_cons_zero, List.getElem_cons_succ]
      refine wpAnyH_take (i := 4) (v := ?v4) rfl (by kernel_rfl) (by kernel_rfl) (by kernel_rfl) (fun _ _ _ h => h) (Or.inl ⟨by rfl, ?y4⟩) (by assumption) ?r4
      case y4 => (intro w hSw; (try dsimp only at hSw); go_simp; try with_reducible rfl)
      try simp only [Act.put, List.setIfInBounds_toArray, List.set_cons_zero, List.set_cons_succ, List.getElem_toArray, List.getElem_cons_zero, List.getElem_cons_succ]
      refine wpAnyH_take (i := 5) (v := ?v5) rfl (by kernel_rfl) (by kernel_rfl) (by kernel_rfl) (fun _ _ _ h => h) (Or.inl ⟨by rfl, ?y5⟩) (by assumption) ?r5
      case y5 => (intro w hSw; (try dsimp only at hSw); go_simp; try with_reducible rfl)
      try simp only [Act.put, List.setIfInBounds_toArray, List.set_cons_zero, List.set_cons_succ, List.getElem_toArray, List.getElem_cons_zero, List.getElem_cons_succ]
      refine wpAnyH_take (i := 7) (v := ?v7) rfl (by kernel_rfl) (by kernel_rfl) (by kernel_rfl) (fun _ _ _ h => h) (Or.inl ⟨by rfl, ?y7⟩) (by assumption) ?r7
      case y7 => (intro w hSw; (try dsimp only at hSw); go_simp; try with_reducible rfl)
      try simp only [Act.put, List.setIfInBounds_toArray, List.set_cons_zero, List.set_cons_succ, List.getElem_toArray, List.getElem_cons_zero, List.getElem_cons_succ]
      refine wpAnyH_take (i := 8) (v := ?v8) rfl (by kernel_rfl) (by kernel_rfl) (by kernel_rfl) (fun _ _ _ h => h) (Or.inl ⟨by rfl, ?y8⟩) (by assumption) ?r8
      case y8 => (intro w hSw; (try dsimp only at hSw); go_simp; try with_reducible rfl)
      try simp only [Act.put, List.setIfInBounds_toArray, List.set_cons_zero, List.set_cons_succ, List.getElem_toArray, List.getElem_cons_zero, List.getElem_cons_succ]
      refine wpAnyH_ready (rs := [6, 9]) (by kernel_rfl) (by simp) ?_
      refine AllReadyH.cons rfl (fun K hK => ?_) (AllReadyH.cons rfl (fun K hK => ?_) AllReadyH.nil)
      · skip
        have hl6 := HL0.out
        go_simp
        refine hK.out _ _ (g0) (fun hHeld => ?_)
        clear hK K hl6
        try simp only [Act.put, List.setIfInBounds_toArray, List.set_cons_zero, List.set_cons_succ, List.getElem_toArray, List.getElem_cons_zero, List.getElem_cons_succ]
        refine wpAnyH_ready (rs := [9]) (by kernel_rfl) (by simp) ?_
        refine AllReadyH.cons rfl (fun K hK => ?_) AllReadyH.nil
        go_simp
        refine hK.out _ _ (g2) (fun hHeld => ?_)
        clear hK K
        try simp only [Act.put, List.setIfInBounds_toArray, List.set_cons_zero, List.set_cons_succ, List.getElem_toArray, List.getElem_cons_zero, List.getElem_cons_succ]
        refine wpAnyH_ready (rs := [10]) (by kernel_rfl) (by simp) ?_
        refine AllReadyH.cons rfl (fun K hK => ?_) AllReadyH.nil
        refine step_appendS (by rfl) _ _ 74 (by rfl) _ _ _ _ (by rfl) (by rfl) HRA.out ?_
        refine hK.out _ _ (g3) (fun hHeld => ?_)
        clear hK K
        try simp only [Act.put, List.setIfInBounds_toArray, List.set_cons_zero, List.set_cons_succ, List.getElem_toArray, List.getElem_cons_zero, List.getElem_cons_succ]
        refine wpAnyH_ready (rs := [11]) (by kernel_rfl) (by simp) ?_
        refine AllReadyH.cons rfl (fun K hK => ?_) AllReadyH.nil
        have hl14 := HRU.out
        go_simp
        refine hK.out _ _ (g4) (fun hHeld => ?_)
        clear hK K hl14
        try simp only [Act.put, List.setIfInBounds_toArray, List.set_cons_zero, List.set_cons_succ, List.getElem_toArray, List.getElem_cons_zero, List.getElem_cons_succ]
        refine wpAnyH_done (by kernel_rfl) ?_ _
        go_wp2
        go_roundw
        case rel => exact ⟨k + 1, by omega, by go_num, ⟨n', g', by rw [HTK.out]; exact HG5.out⟩, HC5.out, HS5.out, HB5.out⟩
        case measure => simp [intOf]; omega
      · skip
        go_simp
        refine hK.out _ _ (g2) (fun hHeld => ?_)
        clear hK K
        try simp only [Act.put, List.setIfInBounds_toArray, List.set_cons_zero, List.set_cons_succ, List.getElem_toArray, List.getElem_cons_zero, List.getElem_cons_succ]
        refine wpAnyH_ready (rs := [6]) (by kernel_rfl) (by simp) ?_
        refine AllReadyH.cons rfl (fun K hK => ?_) AllReadyH.nil
        have hl6 := HL1.out
        have hl7 := HL2.out
        go_simp
        refine hK.out _ _ (g2) (fun hHeld => ?_)
        clear hK K hl6 hl7
        try simp only [Act.put, List.setIfInBounds_toArray, List.set_cons_zero, List.set_cons_succ, List.getElem_toArray, List.getElem_cons_zero, List.getElem_cons_succ]
        refine wpAnyH_ready (rs := [10]) (by kernel_rfl) (by simp) ?_
        refine AllReadyH.cons rfl (fun K hK => ?_) AllReadyH.nil
        refine step_appendS (by rfl) _ _ 74 (by rfl) _ _ _ _ (by rfl) (by rfl) HRA.out ?_
        refine hK.out _ _ (g3) (fun hHeld => ?_)
        clear hK K
        try simp only [Act.put, List.setIfInBounds_toArray, List.set_cons_zero, List.set_cons_succ, List.getElem_toArray, List.getElem_cons_zero, List.getElem_cons_succ]
        refine wpAnyH_ready (rs := [11]) (by kernel_rfl) (by simp) ?_
        refine AllReadyH.cons rfl (fun K hK => ?_) AllReadyH.nil
        have hl14 := HRU.out
        go_simp
        refine hK.out _ _ (g4) (fun hHeld => ?_)
        clear hK K hl14
        try simp only [Act.put, List.setIfInBounds_toArray, List.set_cons_zero, List.set_cons_succ, List.getElem_toArray, List.getElem_cons_zero, List.getElem_cons_succ]
        refine wpAnyH_done (by kernel_rfl) ?_ _
        go_wp2
        go_roundw
        case rel => exact ⟨k + 1, by omega, by go_num, ⟨n', g', by rw [HTK.out]; exact HG5.out⟩, HC5.out, HS5.out, HB5.out⟩
        case measure => simp [intOf]; omega
    · obtain rfl : k = pins.length := by omega
      have hki : ¬ (pins.length : Int) < (pins.length : Int) := by omega
      rw [List.take_length] at HG
      go_wp2
      go_ret
      exact ⟨_, rfl, ⟨_, _, _, _, by omega, Nat.le_refl _, by omega, hc, HG.out⟩, HB.out⟩
end Go.Proofs.YtjfmgplhcinkfaaGreat
