/- Texts of this proof, one behind the other: ShPutW, ShKeys. -/
import Derived.Test.YtjfmgplhcinkfaaGO18
import Derived.Shelf.SlIter.Nil
import Derived.Shelf.SortM.Plain
import Derived.Shelf.SortM.SortNone
/- What a shard's Put does. -/
namespace Go.Proofs.Ytjfmgplhcinkfaa
open Go.RowKit
set_option linter.unusedVariables false
set_option linter.unusedSimpArgs false

/-- Is a map nil? -/
theorem eql_map_nil (w : World) (p : Option Nat) : (binOp .eql 55 (.map p) (.map none)).run Try.prog w = .ok (.bool p.isNone) w := by
  have h : ∀ n, (Op.equalIn (n + 1) 55 (.map p) (.map none)).run Try.prog w = .ok p.isNone w := fun n => by
    unfold Op.equalIn
    cases p <;> simp [run_underlying Try.underlying55]
  simp only [binOp]
  simp [Op.equal, Op.maxDepth, h 9999]
/-- What Put leaves. -/
def PutPost (w : World) (S : Nat → Prop) (b : Nat) (R : List (ByteArray × ByteArray)) (L : List ByteArray) (F' : Ch) (w' : World) : Prop := (∃ S' M, M.length ≤ L.length + 1 ∧ SdAt w' S' b R M F' ∧ ∀ j, S' j → S j ∨ w.heap.size ≤ j) ∧ Mv S w w'
theorem putF_no {R : List (ByteArray × ByteArray)} {F : Ch} {x : Vw} (h : (ownsK R x.1.key && putOk (F x.1.key) x) = false) : putF R F x = F := by unfold putF; rw [h]; rfl
theorem PutPost.same {w w' : World} {S : Nat → Prop} {b : Nat} {R : List (ByteArray × ByteArray)} {L : List ByteArray} {F : Ch} (h : SdAt w S b R L F) (hb : Below w.heap.size w w') : PutPost w S b R L F w' :=
  ⟨⟨S, L, by omega, h.below hb, fun j hj => .inl hj⟩, Mv.of_below hb⟩
/-- The row is put into the map, which was there. -/
theorem PutPost.old {w w2 w3 : World} {S : Nat → Prop} {b m n n' : Nat} {rv v : Value} {val : ByteArray → Value} {R : List (ByteArray × ByteArray)} {L : List ByteArray} {F : Ch} {k : ByteArray} {c : List Vw}
    (h0 : SdM w S b (some m) n rv val R L F) (hb : Below w.heap.size w w2) (hk : k.size ≤ maxLen) (hc : c ≠ []) (ho : OwnR KW w2 w.heap.size v c) 
    (hm : MapZ w3 m n' (updG (gF F val) k v)) (ht : w2.mapTurned w3 m) (hcb : ∀ x ∈ c, VwB w x ∧ PastIn (fun j => ¬ S j) x) :
    PutPost w S b R L (updF F k c) w3 := by
  have hne : ∀ {j}, j < w.heap.size → v.ownBlock ≠ some j := fun hj e => by have := (ho.lt _ e).1; omega
  obtain ⟨M, hM, hs⟩ := (h0.below hb).put rfl hk hc ho (fun g hg hs => hne (h0.lt g hs) hg) hm ht (fun d x hx => (h0.vb d x hx).1.pastLt.mono fun j hj => hne hj)
    (fun x hx => ⟨(hcb x hx).1.below hb, fun he a ha => ⟨(hcb x hx).2 he a ha, hne ((hcb x hx).1.pastLt he a ha)⟩⟩)
  exact ⟨⟨_, M, hM, ⟨_, _, _, _, hs⟩, fun j hj => by
    rcases hj with hj | hj
    · exact .inl hj
    · exact .inr (ho.lt j hj).1⟩, (Mv.of_below hb).trans ((Mv.of_turned ht).mono (fun j e => by rw [e]; exact (h0.sm m rfl).1))⟩
/-- The same, where the map is made first. -/
theorem PutPost.new {w w2 w3 : World} {S : Nat → Prop} {b n n' : Nat} {rv v : Value} {val : ByteArray → Value} {R : List (ByteArray × ByteArray)} {L : List ByteArray} {F : Ch} {k : ByteArray} {c : List Vw}
    (h0 : SdM w S b none n rv val R L F) (hb : Below w.heap.size w w2) (hk : k.size ≤ maxLen) (hc : c ≠ []) (ho : OwnR KW w2 w.heap.size v c) 
    (hm : MapZ w3 w2.heap.size n' (updG (gF F val) k v)) (ht : (((w2.alloc (.map #[] 0)).setCell ⟨b, 1, none⟩ (.map (some w2.heap.size))).drew).mapTurned w3 w2.heap.size) (hcb : ∀ x ∈ c, VwB w x ∧ PastIn (fun j => ¬ S j) x) :
    PutPost w S b R L (updF F k c) w3 := by
  have hne : ∀ {j}, j < w.heap.size → v.ownBlock ≠ some j := fun hj e => by have := (ho.lt _ e).1; omega
  have hsz := hb.size
  have hbl := h0.lt b h0.sb
  have hA : Below w2.heap.size w2 (w2.alloc (.map #[] 0)) := balloc (Below.refl _ w2) _
  have hMvA : Mv S w (((w2.alloc (.map #[] 0)).setCell ⟨b, 1, none⟩ (.map (some w2.heap.size))).drew) := ((Mv.of_below (bstep hb hA)).set h0.sb _).step ((Below.refl _ _).drew)
  have h1 := ((h0.below hb).made).below ((Below.refl _ _).drew)
  have hvb : v.ownBlock ≠ some b := hne hbl
  have ho1 : OwnR KW (((w2.alloc (.map #[] 0)).setCell ⟨b, 1, none⟩ (.map (some w2.heap.size))).drew) w.heap.size v c := OwnR.below ((ho.below hA).block (fun g hg => Below.heap_setCell _ _ _ _ (fun e => hvb (by rw [← (show g = b from e)]; exact hg)))) ((Below.refl _ _).drew)
  have hVB : ∀ x, VwB w x ∧ PastIn (fun j => ¬ S j) x → VwB (((w2.alloc (.map #[] 0)).setCell ⟨b, 1, none⟩ (.map (some w2.heap.size))).drew) x := fun x hx =>
    hx.1.block hMvA.size (fun he a ha => hMvA.block _ (hx.1.pastLt he a ha) (hx.2 he a ha))
  obtain ⟨M, hM, hs⟩ := h1.put rfl hk hc ho1 (fun g hg hs => by
      rcases hs with hs | hs
      · exact hne (h0.lt g hs) hg
      · have := (ho.lt g hg).2; omega) hm ht (fun d x hx => (h0.vb d x hx).1.pastLt.mono fun j hj => hne hj)
    (fun x hx => ⟨hVB x (hcb x hx), fun he a ha => ⟨fun hs => by
      have := (hcb x hx).1.pastLt he a ha
      rcases hs with hs | hs
      · exact (hcb x hx).2 he a ha hs
      · omega, hne ((hcb x hx).1.pastLt he a ha)⟩⟩)
  exact ⟨⟨_, M, hM, ⟨_, _, _, _, hs⟩, fun j hj => by
    rcases hj with (hj | hj) | hj
    · exact .inl hj
    · exact .inr (by omega)
    · exact .inr (ho.lt j hj).1⟩, hMvA.low (turned_below ht hsz (by have := hMvA.size; omega))⟩

set_option maxRecDepth 100000 in
set_option maxHeartbeats 3200000 in
theorem sput_any {w : World} {S : Nat → Prop} {b : Nat} {R : List (ByteArray × ByteArray)} {L : List ByteArray} {F : Ch} (h : SdAt w S b R L F) (hR : R.length ≤ 100) (hL : L.length ≤ 100000) (x : Vw) (hc : (F x.1.key).length ≤ 100000) (hx : VwB w x) (hpx : PastIn (fun j => ¬ S j) x) (hk : x.1.key.size ≤ maxLen) :
    Calls Try.prog 15 #[.pointer (some ⟨b, 0, none⟩), wV x] w fun e w' => e = .returned (.bool (ownsK R x.1.key && putOk (F x.1.key) x)) ∧ PutPost w S b R L (putF R F x) w' := by
  have HS := Lib.hid h
  obtain ⟨mo, n, rv, val, h⟩ := h
  have hb1 : Below w.heap.size w (w.alloc (.cells (wcs x) 32)) := balloc (Below.refl _ w) _
  have hV := VwP.new w x.1 (pw x) 32
  have how := fun W (hb : Below w.heap.size w W) => sowns_any (h.below hb) hR x.1.key
  have HPT := Lib.hid (fun W v (hb : Below w.heap.size w W) (hr : WRow W v (F x.1.key)) => cput_any v (F x.1.key) x W hc hr (hx.below hb))
  obtain ⟨sa, sc, hsh⟩ := (h.own x.1.key).1.shape
  have HSM : Hid (∀ W, Below w.heap.size w W → SdM W S b mo n rv val R L F) := Lib.hid (fun W hb => h.below hb)
  have HWR : Hid (∀ W, Below w.heap.size w W → WRow W (.slice sa (F x.1.key).length sc) (F x.1.key)) := Lib.hid (fun W hb => by
    have h1 := h.below hb
    rw [← hsh]
    exact h1.wrow (h1.own x.1.key).1)
  have HG : Hid (∀ W, Below (w.alloc (.cells (wcs x) 32)).heap.size (w.alloc (.cells (wcs x) 32)) W → VwP W w.heap.size x.1 (pw x) ∧ W.cell? ⟨b, 1, none⟩ = some (.map mo) ∧ (Instr.lookup 55 (.map mo) (.string x.1.key) false).run Try.prog W = .ok (.slice sa (F x.1.key).length sc) W) := Lib.hid (fun W hW => by
    have h1 := h.below (bstep hb1 hW)
    refine ⟨hV.keep hW, h1.c1, ?_⟩
    rw [← hsh]
    exact h1.look hk)
  have HNO : Hid ((ownsK R x.1.key && putOk (F x.1.key) x) = false → putF R F x = F) := Lib.hid putF_no
  have HYES : Hid ((ownsK R x.1.key && putOk (F x.1.key) x) = true → putF R F x = updF F x.1.key (putC (F x.1.key) x)) := Lib.hid (fun e => by
    unfold putF putC
    rw [if_pos e, if_pos (by rw [Bool.and_eq_true] at e; exact e.2)])
  have HNE : Hid (putOk (F x.1.key) x = true → putC (F x.1.key) x ≠ []) := Lib.hid (fun e => by unfold putC; rw [if_pos e]; exact midC_ne _ _)
  have HMEM : Hid (∀ y ∈ putC (F x.1.key) x, VwB w y ∧ PastIn (fun j => ¬ S j) y) := Lib.hid (fun y hy => by
    have : y = x ∨ y ∈ F x.1.key := by
      unfold putC at hy
      split at hy
      · unfold midC at hy
        rcases List.mem_append.1 hy with hy | hy
        · exact .inr (List.mem_of_mem_take hy)
        · rcases List.mem_cons.1 hy with hy | hy
          · exact .inl hy
          · exact .inr (List.mem_of_mem_drop hy)
      · exact .inr hy
    rcases this with rfl | hy
    · exact ⟨hx, hpx⟩
    · exact h.vb _ y hy)
  have HLL := Lib.hid hL
  have HK := Lib.hid hk
  have HH := Lib.hid h
  have hbl := h.lt b h.sb
  have HBB := Lib.hid hbl
  generalize putF R F x = F' at HNO HYES ⊢
  generalize putC (F x.1.key) x = pc1 at HPT HYES HNE HMEM
  generalize putOk (F x.1.key) x = ok at HPT HNO HYES HNE ⊢
  generalize ownsK R x.1.key = ow at how HNO HYES ⊢
  have hxl : ∃ xl, xl = (F x.1.key).length := ⟨_, rfl⟩
  obtain ⟨xl, hxl⟩ := hxl
  rw [← hxl] at HWR HG
  have HB1 := Lib.hid hb1
  clear h hsh hc hL hx hpx hxl hR hbl hb1
  obtain ⟨⟨key, vl, gone, ⟨m, t⟩, past⟩, pa, pc⟩ := x
  dsimp only [wV, wcs, wvs, pw] at *
  obtain ⟨v0, v1, v2, v3, v4, v5, vf⟩ := hV
  dsimp only at v0 v1 v2 v3 v4 v5
  clear vf
  go_enter Try.func15, Try.ntmps15
  go_upto_region 1 with fail
  generalize w.alloc (.cells #[.string key, .string vl, .bool gone, .int .i64 m, .int .i64 t, .slice pa past.length pc] 32) = w1 at *
  go_wp2_with fail
  refine (how _ HB1.out).mono ?_
  rintro e w2 ⟨rfl, hb2⟩
  have HB2 := Lib.hid (bstep HB1.out hb2)
  have HB12 := Lib.hid hb2
  clear how v0 v1 v2 v3 v4 v5 hb2
  cases ow with
  | false =>
    have hF := HNO.out rfl
    subst hF
    go_wp2
    go_ret
    exact ⟨rfl, PutPost.same HS.out HB2.out⟩
  | true =>
    have HBD : Hid (Below w.heap.size w w2.drew) := Lib.hid HB2.out.drew
    have HBE : Hid (Below w1.heap.size w1 w2.drew) := Lib.hid HB12.out.drew
    have g0 : (w2.drew.cell? ⟨w.heap.size, 0, none⟩ = some (.string key) ∧ w2.drew.cell? ⟨w.heap.size, 1, none⟩ = some (.string vl) ∧ w2.drew.cell? ⟨w.heap.size, 2, none⟩ = some (.bool gone) ∧ w2.drew.cell? ⟨w.heap.size, 3, none⟩ = some (.int .i64 m) ∧ w2.drew.cell? ⟨w.heap.size, 4, none⟩ = some (.int .i64 t) ∧ w2.drew.cell? ⟨w.heap.size, 5, none⟩ = some (.slice pa past.length pc)) ∧ w2.drew.cell? ⟨b, 1, none⟩ = some (.map mo) ∧ (Instr.lookup 55 (.map mo) (.string key) false).run Try.prog w2.drew = .ok (.slice sa xl sc) w2.drew := (HG.out _ HBE.out).imp_left (fun h => ⟨h.c0, h.c1, h.c2, h.c3, h.c4, h.c5⟩)
    go_wp2_with fail
    refine wp_region_held_drew (S := fun w' => (w'.cell? ⟨w.heap.size, 0, none⟩ = some (.string key) ∧ w'.cell? ⟨w.heap.size, 1, none⟩ = some (.string vl) ∧ w'.cell? ⟨w.heap.size, 2, none⟩ = some (.bool gone) ∧ w'.cell? ⟨w.heap.size, 3, none⟩ = some (.int .i64 m) ∧ w'.cell? ⟨w.heap.size, 4, none⟩ = some (.int .i64 t) ∧ w'.cell? ⟨w.heap.size, 5, none⟩ = some (.slice pa past.length pc)) ∧ w'.cell? ⟨b, 1, none⟩ = some (.map mo) ∧ (Instr.lookup 55 (.map mo) (.string key) false).run Try.prog w' = .ok (.slice sa xl sc) w') (by kernel_rfl) (g0) (fun hHeld => ?_)
    refine wpAnyH_take (i := 0) (v := ?vp0) rfl (by kernel_rfl) (by kernel_rfl) (by kernel_rfl) (fun _ _ _ h => h) (Or.inl ⟨by rfl, ?yp0⟩) (by assumption) ?rp0
    case yp0 => (intro w hSw; (try dsimp only at hSw); go_simp; try with_reducible rfl)
    try simp only [Act.put, List.setIfInBounds_toArray, List.set_cons_zero, List.set_cons_succ, List.getElem_toArray, List.getElem_cons_zero, List.getElem_cons_succ]
    refine wpAnyH_take (i := 1) (v := ?vp1) rfl (by kernel_rfl) (by kernel_rfl) (by kernel_rfl) (fun _ _ _ h => h) (Or.inl ⟨by rfl, ?yp1⟩) (by assumption) ?rp1
    case yp1 => (intro w hSw; (try dsimp only at hSw); go_simp; try with_reducible rfl)
    try simp only [Act.put, List.setIfInBounds_toArray, List.set_cons_zero, List.set_cons_succ, List.getElem_toArray, List.getElem_cons_zero, List.getElem_cons_succ]
    refine wpAnyH_take (i := 2) (v := ?vp2) rfl (by kernel_rfl) (by kernel_rfl) (by kernel_rfl) (fun _ _ _ h => h) (Or.inl ⟨by rfl, ?yp2⟩) (by assumption) ?rp2
    case yp2 => (intro w hSw; (try dsimp only at hSw); go_simp; try with_reducible rfl)
    try simp only [Act.put, List.setIfInBounds_toArray, List.set_cons_zero, List.set_cons_succ, List.getElem_toArray, List.getElem_cons_zero, List.getElem_cons_succ]
    refine wpAnyH_take (i := 3) (v := ?vp3) rfl (by kernel_rfl) (by kernel_rfl) (by kernel_rfl) (fun _ _ _ h => h) (Or.inl ⟨by rfl, ?yp3⟩) (by assumption) ?rp3
    case yp3 => (intro w hSw; (try dsimp only at hSw); go_simp; try with_reducible rfl)
    try simp only [Act.put, List.setIfInBounds_toArray, List.set_cons_zero, List.set_cons_succ, List.getElem_toArray, List.getElem_cons_zero, List.getElem_cons_succ]
    refine wpAnyH_take (i := 4) (v := ?vp4) rfl (by kernel_rfl) (by kernel_rfl) (by kernel_rfl) (fun _ _ _ h => h) (Or.inl ⟨by rfl, ?yp4⟩) (by assumption) ?rp4
    case yp4 => (intro w hSw; (try dsimp only at hSw); go_simp; try with_reducible rfl)
    try simp only [Act.put, List.setIfInBounds_toArray, List.set_cons_zero, List.set_cons_succ, List.getElem_toArray, List.getElem_cons_zero, List.getElem_cons_succ]
    refine wpAnyH_take (i := 5) (v := ?vp5) rfl (by kernel_rfl) (by kernel_rfl) (by kernel_rfl) (fun _ _ _ h => h) (Or.inl ⟨by rfl, ?yp5⟩) (by assumption) ?rp5
    case yp5 => (intro w hSw; (try dsimp only at hSw); go_simp; try with_reducible rfl)
    try simp only [Act.put, List.setIfInBounds_toArray, List.set_cons_zero, List.set_cons_succ, List.getElem_toArray, List.getElem_cons_zero, List.getElem_cons_succ]
    refine wpAnyH_take (i := 6) (v := ?vp6) rfl (by kernel_rfl) (by kernel_rfl) (by kernel_rfl) (fun _ _ _ h => h) (Or.inl ⟨by rfl, ?yp6⟩) (by assumption) ?rp6
    case yp6 => (intro w hSw; (try dsimp only at hSw); go_simp; try with_reducible rfl)
    try simp only [Act.put, List.setIfInBounds_toArray, List.set_cons_zero, List.set_cons_succ, List.getElem_toArray, List.getElem_cons_zero, List.getElem_cons_succ]
    refine wpAnyH_take (i := 7) (v := ?vp7) rfl (by kernel_rfl) (by kernel_rfl) (by kernel_rfl) (fun _ _ _ h => h) (Or.inl ⟨by rfl, ?yp7⟩) (by assumption) ?rp7
    case yp7 => (intro w hSw; (try dsimp only at hSw); go_simp; try with_reducible rfl)
    try simp only [Act.put, List.setIfInBounds_toArray, List.set_cons_zero, List.set_cons_succ, List.getElem_toArray, List.getElem_cons_zero, List.getElem_cons_succ]
    refine wpAnyH_ready (rs := [8]) (by kernel_rfl) (by simp) ?_
    refine AllReadyH.cons rfl (fun K hK => ?_) AllReadyH.nil
    go_simp
    go_at_call 33
    refine (HPT.out _ _ HBD.out (HWR.out _ HBD.out)).mono ?_
    rintro e w4 ⟨v4, rfl, ho4, hb4⟩
    obtain ⟨ta, tc, rfl⟩ := ho4.shape
    have g1 : (w4.cell? ⟨w.heap.size, 0, none⟩ = some (.string key) ∧ w4.cell? ⟨w.heap.size, 1, none⟩ = some (.string vl) ∧ w4.cell? ⟨w.heap.size, 2, none⟩ = some (.bool gone) ∧ w4.cell? ⟨w.heap.size, 3, none⟩ = some (.int .i64 m) ∧ w4.cell? ⟨w.heap.size, 4, none⟩ = some (.int .i64 t) ∧ w4.cell? ⟨w.heap.size, 5, none⟩ = some (.slice pa past.length pc)) ∧ w4.cell? ⟨b, 1, none⟩ = some (.map mo) ∧ (Instr.lookup 55 (.map mo) (.string key) false).run Try.prog w4 = .ok (.slice sa xl sc) w4 := (HG.out _ (bstep HBE.out hb4)).imp_left (fun h => ⟨h.c0, h.c1, h.c2, h.c3, h.c4, h.c5⟩)
    have HO4 := Lib.hid ho4
    have HB4 := Lib.hid (bstep HBD.out hb4)
    have HSM4 := Lib.hid (HSM.out _ (bstep HBD.out hb4))
    clear ho4 hb4
    go_wp2_with fail
    refine hK.out _ _ (g1) (fun hHeld => ?_)
    clear hK K
    try simp only [Act.put, List.setIfInBounds_toArray, List.set_cons_zero, List.set_cons_succ, List.getElem_toArray, List.getElem_cons_zero, List.getElem_cons_succ]
    refine wpAnyH_take (i := 9) (v := ?vp9) rfl (by kernel_rfl) (by kernel_rfl) (by kernel_rfl) (fun _ _ _ h => h) (Or.inl ⟨by rfl, ?yp9⟩) (by assumption) ?rp9
    case yp9 => (intro w hSw; (try dsimp only at hSw); go_simp; try with_reducible rfl)
    try simp only [Act.put, List.setIfInBounds_toArray, List.set_cons_zero, List.set_cons_succ, List.getElem_toArray, List.getElem_cons_zero, List.getElem_cons_succ]
    refine wpAnyH_take (i := 10) (v := ?vp10) rfl (by kernel_rfl) (by kernel_rfl) (by kernel_rfl) (fun _ _ _ h => h) (Or.inl ⟨by rfl, ?yp10⟩) (by assumption) ?rp10
    case yp10 => (intro w hSw; (try dsimp only at hSw); go_simp; try with_reducible rfl)
    try simp only [Act.put, List.setIfInBounds_toArray, List.set_cons_zero, List.set_cons_succ, List.getElem_toArray, List.getElem_cons_zero, List.getElem_cons_succ]
    refine wpAnyH_take (i := 11) (v := ?vp11) rfl (by kernel_rfl) (by kernel_rfl) (by kernel_rfl) (fun _ _ _ h => h) (Or.inl ⟨by rfl, ?yp11⟩) (by assumption) ?rp11
    case yp11 => (intro w hSw; (try dsimp only at hSw); go_simp; try with_reducible rfl)
    try simp only [Act.put, List.setIfInBounds_toArray, List.set_cons_zero, List.set_cons_succ, List.getElem_toArray, List.getElem_cons_zero, List.getElem_cons_succ]
    refine wpAnyH_take (i := 12) (v := ?vp12) rfl (by kernel_rfl) (by kernel_rfl) (by kernel_rfl) (fun _ _ _ h => h) (Or.inl ⟨by rfl, ?yp12⟩) (by assumption) ?rp12
    case yp12 => (intro w hSw; (try dsimp only at hSw); go_simp; try with_reducible rfl)
    try simp only [Act.put, List.setIfInBounds_toArray, List.set_cons_zero, List.set_cons_succ, List.getElem_toArray, List.getElem_cons_zero, List.getElem_cons_succ]
    refine wpAnyH_take (i := 13) (v := ?vp13) rfl (by kernel_rfl) (by kernel_rfl) (by kernel_rfl) (fun _ _ _ h => h) (Or.inl ⟨by rfl, ?yp13⟩) (by assumption) ?rp13
    case yp13 => (intro w hSw; (try dsimp only at hSw); go_simp; try with_reducible rfl)
    try simp only [Act.put, List.setIfInBounds_toArray, List.set_cons_zero, List.set_cons_succ, List.getElem_toArray, List.getElem_cons_zero, List.getElem_cons_succ]
    refine wpAnyH_done (by kernel_rfl) ?_ _
    clear g0
    cases ok with
    | false =>
      have hF := HNO.out rfl
      subst hF
      clear g1
      go_wp2
      go_ret
      exact ⟨rfl, PutPost.same HS.out HB4.out⟩
    | true =>
      have hF := HYES.out rfl
      subst hF
      have hne := HNE.out rfl
      obtain ⟨⟨x0, _, _, _, _, _⟩, x6, _⟩ := g1
      have HNEE := Lib.hid hne
      clear HNO HYES HNE hne
      have hme := eql_map_nil
      cases mo with
      | some mb =>
        obtain ⟨w5, hrun5, hm5, ht5⟩ := ((HSM4.out.mp mb rfl).below ((Below.refl _ w4).drew)).store Try.underlying55 (by have := HSM4.out.cnt rfl; have := HLL.out; unfold maxLen; omega) HK.out (.slice ta pc1.length tc)
        have y0 : w4.drew.cell? ⟨w.heap.size, 0, none⟩ = some (.string key) := x0
        have y6 : w4.drew.cell? ⟨b, 1, none⟩ = some (.map (some mb)) := x6
        have HM5 := Lib.hid hm5
        have HT5 := Lib.hid ht5
        clear hm5 ht5
        go_wp2_with fail
        go_region
        all_goals
          go_wp2
          go_ret
          exact ⟨rfl, PutPost.old HH.out HB4.out.drew HK.out HNEE.out (HO4.out.mono (HB2.out.size) |>.below ((Below.refl _ w4).drew)) HM5.out HT5.out HMEM.out⟩
      | none =>
        have hmm : ∀ (w : World), (Instr.makeMap 55 none).run Try.prog w = .ok (.map (some w.heap.size)) (w.alloc (.map #[] 0)) := fun w => by
          simp [Instr.makeMap, run_underlying Try.underlying55, asInt, asIntOf]
        have hA : Below w4.heap.size w4 (w4.alloc (.map #[] 0)) := balloc (Below.refl _ w4) _
        have hbl : b < w4.heap.size := by have := HBB.out; have := HB4.out.size; omega
        have z6 := kc hA x6
        have zf : (w4.alloc (.map #[] 0)).frozen? ⟨b, 1, none⟩ = false := (hA.frozen (p := ⟨b, 1, none⟩) hbl).trans (HSM4.out.fr 1)
        have hsmk := HSM4.out.made
        obtain ⟨w5, hw5⟩ : ∃ w5, (w4.alloc (.map #[] 0)).setCell ⟨b, 1, none⟩ (.map (some w4.heap.size)) = w5 := ⟨_, rfl⟩
        have hwl : w.heap.size < w4.heap.size := by have := lt_of_cellN x0; exact this
        have HY : Hid (w5.drew.cell? ⟨w.heap.size, 0, none⟩ = some (.string key) ∧ w5.drew.cell? ⟨b, 1, none⟩ = some (.map (some w4.heap.size))) := Lib.hid (by
          rw [← hw5]
          have hbw : b < w.heap.size := HBB.out
          refine ⟨?_, World.cell?_setCell_same _ _ _ z6⟩
          show ((w4.alloc (.map #[] 0)).setCell ⟨b, 1, none⟩ (.map (some w4.heap.size))).cell? ⟨w.heap.size, 0, none⟩ = _
          rw [World.cell?_setCell_other _ _ _ _ (by simp <;> omega)]
          exact kc hA x0)
        have hst : ∃ w6, (Instr.mapUpdate 55 (.map (some w4.heap.size)) (.string key) (.slice ta pc1.length tc)).run Try.prog w5.drew = .ok () w6 ∧ PutPost w S b R L (updF F key pc1) w6 := by
          obtain ⟨w6, hrun6, hm6, ht6⟩ := ((hsmk.mp _ rfl).below ((Below.refl _ _).drew)).store Try.underlying55 (by unfold maxLen; omega) HK.out (.slice ta pc1.length tc)
          refine ⟨w6, by rw [← hw5]; exact hrun6, ?_⟩
          exact PutPost.new HH.out HB4.out HK.out HNEE.out (HO4.out.mono HB2.out.size) hm6 ht6 HMEM.out
        obtain ⟨w6, hrun6, hpost⟩ := hst
        have HPO := Lib.hid hpost
        clear hpost hsmk hA hbl hwl
        go_upto_region 8 with fail
        try rw [hw5]
        clear hw5 z6 zf hmm x0 x6
        obtain ⟨y0, y6⟩ := HY.out
        go_wp2_with fail
        go_region
        all_goals
          go_wp2
          go_ret
          exact ⟨rfl, HPO.out⟩
end Go.Proofs.Ytjfmgplhcinkfaa
/- What a shard's Keys answers. -/
namespace Go.Proofs.Ytjfmgplhcinkfaa
open Go.RowKit Go.Maps Go.Sort Go.Shelf
set_option linter.unusedVariables false
set_option linter.unusedSimpArgs false

/-- slices.Sort at this program. -/
theorem sortsIn_str (m : Nat) : AnyZ.SortsIn Try.prog Try.sortedM_ren Fence.wide m :=
  ⟨fun blk off cap ss W hH hblk hsz => callsIn_wide.2 (AnyM.slices_Sort_string Try.sortM blk off cap ss W hH hblk hsz),
   fun p cap W => callsIn_wide.2 (AnyM.slices_Sort_string_none Try.sortM p cap W)⟩
abbrev MKeys : Nat := 37
/-- maps.Keys: a function value over a new block, which holds the map. -/
theorem mkeys_any (mb : Option Nat) (W : World) : Calls Try.prog 37 #[.map mb] W fun e w' => e = .returned (.func (.func 52) #[] #[.pointer (some ⟨W.heap.size, 0, none⟩)]) ∧ w' = W.alloc (.cells #[.map mb] 55) :=
  (callsIn_wide (n := 5)).1 (AnyZ.keys_in Try.keysM Fence.wide 5 trivial rfl mb W)

set_option maxHeartbeats 1000000 in
theorem msorted_any (b nn : Nat) (D0 : DataW Value) (w : World) (hown : w.ownsMap Try.prog 9 hvR b nn D0) (hmax : Maps.size D0 ≤ maxLen) (hbytes : Maps.size D0 * 16 ≤ 140737488355328) :
    Calls Try.prog 36 #[.func (.func 52) #[] #[.pointer (some ⟨w.heap.size, 0, none⟩)]] (w.alloc (.cells #[.map (some b)] 55)) fun e w' => ∃ (v : Value) (ss : List (List UInt8)), e = .returned v ∧ ss.Perm (strKeys D0) ∧
      w'.ownsRow (w.alloc (.cells #[.map (some b)] 55)).heap.size 9 1 v ss.length ((ss.mergeSort (fun x y => decide (x ≤ y))).map encStr) ∧ Below (w.alloc (.cells #[.map (some b)] 55)).heap.size (w.alloc (.cells #[.map (some b)] 55)) w' := by
  have hbl := hown.lt
  have hseq : SeqGives Fence.wide 2 Try.prog 52 #[.pointer (some ⟨w.heap.size, 0, none⟩)] encStr (fun ss => ss.Perm (strKeys D0)) (Maps.size D0) (w.alloc (.cells #[.map (some b)] 55)) :=
    AnyZ.keys_gives (ρ := Try.keysM_ren) { Try.keysM with } Fence.wide _ trivial rfl (by omega) w.heap.size b nn D0 _ (by simp) (by simp) (by
      obtain ⟨es, clock, hb, Ft, hs, hD⟩ := hown
      exact ⟨es, clock, (Below.heap_alloc _ _ b hbl).trans hb, Ft, hs, hD⟩)
  refine ((callsIn_wide (n := 5)).1 (AnyZ.sorted_in Try.sortedM Fence.wide 5 trivial trivial trivial trivial rfl (by omega) (sortsIn_str _) (enters_of Try.func51 (by kernel_rfl) rfl) 52 #[.pointer (some ⟨w.heap.size, 0, none⟩)] trivial (enters_of Try.func52 (by kernel_rfl) rfl) _ _ hmax hbytes _ hseq)).mono ?_
  rintro e w' ⟨v, ss, h1, h2, h3, _, h4⟩
  exact ⟨v, ss, h1, h2, h3, h4⟩

set_option maxHeartbeats 1000000 in
theorem msorted_nil (w : World) :
    Calls Try.prog 36 #[.func (.func 52) #[] #[.pointer (some ⟨w.heap.size, 0, none⟩)]] (w.alloc (.cells #[.map none] 55)) fun e w' => e = .returned (.slice none 0 0) ∧ Below (w.alloc (.cells #[.map none] 55)).heap.size (w.alloc (.cells #[.map none] 55)) w' := by
  have hseq : SeqGives Fence.wide 2 Try.prog 52 #[.pointer (some ⟨w.heap.size, 0, none⟩)] encStr (fun ss : List (List UInt8) => ss = []) 0 (w.alloc (.cells #[.map none] 55)) :=
    AnyZ.keys_gives_nil (ρ := Try.keysM_ren) { Try.keysM with } Fence.wide _ trivial rfl w.heap.size _ (by simp) (by simp)
  refine ((callsIn_wide (n := 5)).1 (AnyZ.sorted_in Try.sortedM Fence.wide 5 trivial trivial trivial trivial rfl (by omega) (sortsIn_str _) (enters_of Try.func51 (by kernel_rfl) rfl) 52 #[.pointer (some ⟨w.heap.size, 0, none⟩)] trivial (enters_of Try.func52 (by kernel_rfl) rfl) _ 0 (Nat.zero_le _) (by omega) _ hseq)).mono ?_
  rintro e w' ⟨v, ss, h1, h2, _, h3, h4⟩
  exact ⟨by rw [h1, h3.2 h2], h4⟩

theorem row_texts (L : List ByteArray) : (L.map bts).map encStr = rV KS L := by
  unfold rV
  induction L with
  | nil => rfl
  | cons s L ih =>
    rw [List.map_cons, List.map_cons, ih, List.flatMap_cons]
    show encStr (bts s) :: _ = [.string s] ++ _
    unfold encStr
    rw [mk_bts]
    rfl
set_option maxRecDepth 100000 in
set_option maxHeartbeats 1600000 in
theorem skeys_any {w : World} {S : Nat → Prop} {b : Nat} {R : List (ByteArray × ByteArray)} {L : List ByteArray} {F : Ch} (h : SdAt w S b R L F) (hL : L.length ≤ 100000) :
    Calls Try.prog 18 #[.pointer (some ⟨b, 0, none⟩)] w fun e w' => ∃ v, e = .returned v ∧ OwnR KS w' w.heap.size v L ∧ Below w.heap.size w w' := by
  obtain ⟨mo, n, rv, val, h⟩ := h
  have h1 := h.c1
  have hA : ∀ m, Below w.heap.size w (w.alloc (.cells #[.map m] 55)) := fun m => balloc (Below.refl _ w) _
  have hmk := mkeys_any mo w
  cases mo with
  | none =>
    have h0 := h.m0 rfl
    subst h0
    have hso := msorted_nil w
    have HA := Lib.hid (hA none)
    clear h hA
    go_enter Try.func18, Try.ntmps18
    go_wp2_with fail
    refine hmk.mono ?_
    rintro e w1 ⟨rfl, rfl⟩
    go_wp2_with fail
    refine hso.mono ?_
    rintro e w2 ⟨rfl, hb2⟩
    go_wp2
    go_ret
    exact ⟨_, rfl, OwnR.nil _ _ _, HA.out.trans (hb2.mono HA.out.size)⟩
  | some m =>
    have hcn := h.cnt rfl
    obtain ⟨D, hown, hsz, hperm, _⟩ := (h.mp m rfl).keys (L := L) h.kl.nodup (fun s => by
      rw [h.kl.2]
      unfold gF
      constructor
      · intro hs
        exact ⟨h.ks s ((h.kl.2 s).2 hs), by rw [if_neg hs]; rfl⟩
      · rintro ⟨_, hs⟩ e
        rw [if_pos e] at hs
        cases hs)
    have hso := msorted_any m n D w hown (by unfold maxLen; omega) (by omega)
    have HA := Lib.hid (hA (some m))
    have HR := Lib.hid h.kl.1
    have HP := Lib.hid hperm
    clear h hA hown hperm hsz
    go_enter Try.func18, Try.ntmps18
    go_wp2_with fail
    refine hmk.mono ?_
    rintro e w1 ⟨rfl, rfl⟩
    go_wp2_with fail
    refine hso.mono ?_
    rintro e w2 ⟨v, ss, rfl, hp2, ho2, hb2⟩
    have hss := rises_sort HR.out (hp2.trans HP.out.symm)
    have hlen : ss.length = L.length := by have := (hp2.trans HP.out.symm).length_eq; simpa using this
    rw [hss, row_texts, hlen] at ho2
    have HO : Hid (OwnR KS w2 w.heap.size v L) := Lib.hid (OwnR.mono (K := KS) ho2 HA.out.size)
    obtain ⟨a, c, rfl⟩ := HO.out.shape
    clear ho2 hp2 hlen hss
    go_wp2
    go_ret
    exact ⟨_, rfl, HO.out, HA.out.trans (hb2.mono HA.out.size)⟩
set_option maxRecDepth 100000 in
theorem skeys_nil (w : World) :
    Calls Try.prog 18 #[.pointer none] w fun e w' => e = .returned (.slice none 0 0) ∧ w = w' := by
  go_enter Try.func18, Try.ntmps18
  go_wp2
  go_ret
  exact ⟨rfl, rfl⟩
end Go.Proofs.Ytjfmgplhcinkfaa
