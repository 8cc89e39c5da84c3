/- What the document's Check and Next answer. -/
import Derived.Test.YtfmedinhlmiaeaaGQ27
import Derived.Deep.RegionLaw
namespace Go.Proofs.Ytfmedinhlmiaeaa
open Go.RowKit
set_option linter.unusedVariables false
set_option linter.unusedSimpArgs false

set_option maxRecDepth 100000 in
set_option maxHeartbeats 800000 in
theorem rcheck14_any (v : Wv) (u hv : Value) (hs : List De) (a : Option Addr) (cap : Nat) (rs : List (ByteArray × ByteArray)) (w : World) (hW : WvB w v u) (hlp : v.past.length ≤ 100000) (hC : Ctx w hv hs a rs) :
    Calls Try.prog 17 #[.agg (wvs v u), hv, .slice a rs.length cap] w fun e w' => e = .returned (.bool (missD rs hs v.past).isEmpty) ∧ Below w.heap.size w w' := by
  have hb0 : Below w.heap.size w (w.alloc (.cells (wvs v u) 27)) := balloc (Below.refl _ w) _
  have hmi := rmisses_any v u hv hs a cap rs (w.alloc (.cells (wvs v u) 27)) (hW.below hb0) hlp (hC.below hb0)
  obtain ⟨ua, uc, rfl, _⟩ := hW.at_
  obtain ⟨ha, hc, rfl, _⟩ := hC.at_
  clear hW hC
  obtain ⟨key, val, gone, ⟨n, t⟩, past⟩ := v
  dsimp only [wvs] at *
  have HB0 := Lib.hid hb0
  clear hb0
  generalize missD rs hs past = ml at hmi ⊢
  go_enter Try.func17, Try.ntmps17
  go_wp2_with fail
  refine hmi.mono ?_
  rintro e w2 ⟨v2, rfl, ho2, hb2⟩
  obtain ⟨sa, sc, rfl, _⟩ := ho2
  have HB2 := Lib.hid (bstep HB0.out hb2)
  clear hb2 hmi
  cases ml with
  | nil =>
    go_wp2
    go_ret
    exact ⟨rfl, HB2.out⟩
  | cons x r =>
    have hne : (((x :: r).length : Nat) : Int) ≠ 0 := by simp; omega
    have hbq : ((((x :: r).length : Nat) : Int) == 0) = false := by simpa using hne
    generalize (x :: r).length = len at hbq hne
    go_wp2
    go_ret
    exact ⟨ret_bool (by simp_all), HB2.out⟩

/-- What the document's Next tells, as a value. -/
abbrev gotV (x : Vw) (u : Value) (b : Bool) : Value := .agg #[.string x.1.key, .string x.1.val, .bool x.1.gone, .int .i64 x.1.st.1, .int .i64 x.1.st.2, pw x, u, .bool b]

/-- A variable of that type. -/
structure GotP (w : World) (b : Nat) (x : Vw) (u : Value) (c : Bool) : Prop where
  v : VwP w b x.1 (pw x)
  c6 : w.cell? ⟨b, 6, none⟩ = some u
  c7 : w.cell? ⟨b, 7, none⟩ = some (.bool c)
  f6 : w.frozen? ⟨b, 6, none⟩ = false
  f7 : w.frozen? ⟨b, 7, none⟩ = false
theorem GotP.new (w : World) (T : TypeId) : GotP (w.alloc (.cells #[.string ⟨#[]⟩, .string ⟨#[]⟩, .bool false, .int .i64 0, .int .i64 0, .slice none 0 0, .slice none 0 0, .bool false] T)) w.heap.size vw0 (.slice none 0 0) false :=
  ⟨⟨by simp [vw0, wz], by simp [vw0, wz], by simp [vw0, wz], by simp [vw0, wz], by simp [vw0, wz], by simp [vw0, wz, pw], fun j hj => by simp⟩, by simp, by simp, by simp, by simp⟩
theorem GotP.keep {w w' : World} {b : Nat} {x : Vw} {u : Value} {c : Bool} (h : GotP w b x u c) (hb : Below w.heap.size w w') : GotP w' b x u c :=
  ⟨h.v.keep hb, kc hb h.c6, kc hb h.c7, (hb.frozen (p := ⟨b, 6, none⟩) h.v.lt).trans h.f6, (hb.frozen (p := ⟨b, 7, none⟩) h.v.lt).trans h.f7⟩
abbrev World.putg (w : World) (b : Nat) (x : Vw) (u : Value) (c : Bool) : World := ((World.putw w b x.1 (pw x)).setCell ⟨b, 6, none⟩ u).setCell ⟨b, 7, none⟩ (.bool c)
theorem GotP.put {w : World} {b : Nat} {y : Vw} {z : Value} {d : Bool} (h : GotP w b y z d) (x : Vw) (u : Value) (c : Bool) : GotP (World.putg w b x u c) b x u c := by
  have k6 : (World.putw w b x.1 (pw x)).cell? ⟨b, 6, none⟩ = some z := cell_put (by decide) (cell_put (by decide) (cell_put (by decide) (cell_put (by decide) (cell_put (by decide) (cell_put (by decide) h.c6)))))
  have k7 : (World.putw w b x.1 (pw x)).cell? ⟨b, 7, none⟩ = some (.bool d) := cell_put (by decide) (cell_put (by decide) (cell_put (by decide) (cell_put (by decide) (cell_put (by decide) (cell_put (by decide) h.c7)))))
  obtain ⟨q0, q1, q2, q3, q4, q5, qf⟩ := h.v.putw x.1 (pw x)
  exact ⟨⟨cell_put (by decide) (cell_put (by decide) q0), cell_put (by decide) (cell_put (by decide) q1), cell_put (by decide) (cell_put (by decide) q2), cell_put (by decide) (cell_put (by decide) q3), cell_put (by decide) (cell_put (by decide) q4), cell_put (by decide) (cell_put (by decide) q5), fun j hj => by simpa using h.v.f j hj⟩,
    cell_put (by decide) (World.cell?_setCell_same _ _ _ k6), World.cell?_setCell_same _ _ _ (cell_put (by decide) k7), by simpa using h.f6, by simpa using h.f7⟩
theorem putg_block (w : World) (b : Nat) (x : Vw) (u : Value) (c : Bool) (k : Nat) (h : k ≠ b) : (World.putg w b x u c).heap[k]? = w.heap[k]? := by
  unfold World.putg
  rw [Below.heap_setCell _ _ _ _ h, Below.heap_setCell _ _ _ _ h, putw_block _ _ _ _ _ h]
theorem below_putg {n b : Nat} {w w' : World} (hb : Below n w w') (h : n ≤ b) (x : Vw) (u : Value) (c : Bool) : Below n w (World.putg w' b x u c) := ((below_putw hb h _ _).setCell h _).setCell h _
theorem RowAt.blocks {α : Type} {K : RK α} {w w' : World} {v : Value} {l : List α} (h : RowAt K w v l) (hs : w.heap.size ≤ w'.heap.size) (hb : ∀ b, v.ownBlock = some b → w'.heap[b]? = w.heap[b]?) : RowAt K w' v l := by
  obtain ⟨a, cap, rfl, h1, h2, h3, hr⟩ := h
  refine ⟨a, cap, rfl, h1, h2, h3, fun i hi => ?_⟩
  obtain ⟨b, off, rfl, hlt, hc⟩ := hr i hi
  exact ⟨b, off, rfl, by omega, fun j u hu => by rw [World.cell?_of_block (hb b rfl)]; exact hc j u hu⟩
theorem RowAt.putg {α : Type} {K : RK α} {w : World} {a : Option Addr} {n cp : Nat} {l : List α} {B : Nat} (h : RowAt K w (.slice a n cp) l) (hne : 0 < l.length → ∃ b off, a = some ⟨b, off, none⟩ ∧ b < B) (x : Vw) (u : Value) (c : Bool) : RowAt K (World.putg w B x u c) (.slice a n cp) l := by
  have hsz : w.heap.size ≤ (World.putg w B x u c).heap.size := (below_putg (n := B) (Below.refl B w) (Nat.le_refl _) x u c).size
  have hpb : ∀ k, k ≠ B → (World.putg w B x u c).heap[k]? = w.heap[k]? := fun k hk => putg_block w B x u c k hk
  generalize World.putg w B x u c = W at hsz hpb ⊢
  obtain ⟨a9, c9, e9, h1, h2, h3, hr⟩ := h
  refine ⟨a9, c9, e9, h1, h2, h3, fun i hi => ?_⟩
  obtain ⟨b9, off9, e10, hlt9, hc9⟩ := hr i hi
  obtain ⟨b8, off8, e8, hlt8⟩ := hne (by omega)
  have e11 := (Value.slice.inj e9).1
  have e12 : b8 = b9 := by
    rw [e8, e10] at e11
    simp at e11
    exact e11.1
  have hpb9 := hpb b9 (by omega)
  exact ⟨b9, off9, e10, Nat.lt_of_lt_of_le hlt9 hsz, fun j u hu => by rw [World.cell?_of_block hpb9]; exact hc9 j u hu⟩
/-- A row appended to a row of one's own, at a step of a region that draws. -/
theorem step_app {α : Type} {K : RK α} (hK : K.Ok) {ops : Array Oper} {o : Oper} {ac : Act} {KK : Act → World → Prop} {Q : Exit → Act → World → Prop} {E : Prop} {w : World} (hgd : o.guard = none) (s x : Operand)
    (hop : o.op = .call { callee := .builtin .append, args := #[s, x], argTypes := #[K.S, K.S] })
    (base : Nat) (v : Value) (l m : List α) (hs : ac.eval s = v) (hown : OwnR K w base v l) (b : Addr) (n c : Nat) (hn : m.length = n) (hx : ac.eval x = .slice (some b) n c) (hu : RowIn K w (some b) m) (hl : l.length + m.length ≤ 1000000) (hbs : base ≤ w.heap.size)
    (h : ∀ sa sc w' cl, Hid (cl = l ++ m) → OwnR K w' base (.slice sa cl.length sc) cl → Below base w w' → KK (ac.put o.dst (.slice sa cl.length sc)) w') :
    if Region.wanted o (yielded ops ac.tmps) = true then Oper.wp Try.prog o ac w KK Q else E := by
  have hw : Region.wanted o (yielded ops ac.tmps) = true := by simp [Region.wanted, hgd]
  rw [if_pos hw]
  subst hn
  obtain ⟨i0, hi, hz0, hz1, hz2⟩ := info_parts hK.inf
  have hbb := hK.bb
  obtain ⟨v', w', hrun, ho, hg, _⟩ := run_append_own w base K.S o.type K.T i0 _ K.sz K.bt hK.und hi hz0 hz1 hz2 hK.zc hK.pos v l.length (rV K l) hown b m.length c (rV K m) (rV_len hK m) (hu.newsR hK) (rV_oneR hK m) (by unfold maxLen; omega) (Nat.le_trans (Nat.mul_le_mul hl hbb) (by decide)) hbs
  have ho2 : OwnR K w' base v' (l ++ m) := by unfold OwnR; rw [rV_appR, List.length_append]; exact ho
  have hb2 : Below base w w' := (Below.refl base w).grown hg hbs (fun k hk => (hown.lt k hk).1)
  obtain ⟨sa, sc, rfl⟩ := ho2.shape
  unfold Oper.wp execOp
  simp only [hop, resolve, invoke, builtin, Sem.run_bind, Sem.run_pure, Result.andThen_ok, List.map_toArray, List.map_cons, List.map_nil, hs, hx, hrun]
  exact h sa sc w' _ (Lib.hid rfl) ho2 hb2

set_option maxRecDepth 100000 in
set_option maxHeartbeats 6400000 in
theorem rnext_any (v hv : Value) (l : List Vw) (hs : List De) (a : Option Addr) (cap : Nat) (rs : List (ByteArray × ByteArray)) (w : World) (hl : l.length ≤ 100000) (hV : WRow w v l) (hP : ∀ x ∈ l, x.1.past.length ≤ 100000) (hC : Ctx w hv hs a rs) :
    Calls Try.prog 19 #[v, hv, .slice a rs.length cap] w fun e w' => ∃ u, e = .returned (gotV (nxV rs hs l) u (nxI rs hs l).isSome) ∧ RowAt KW w' u (nxL rs hs l) ∧ Below w.heap.size w w' := by
  have hb0 : Below w.heap.size w (w.alloc (.cells #[.string ⟨#[]⟩, .string ⟨#[]⟩, .bool false, .int .i64 0, .int .i64 0, .slice none 0 0, .slice none 0 0, .bool false] 44)) := balloc (Below.refl _ w) _
  have HW0 := Lib.hid (hV.below hb0)
  have HP := Lib.hid hP
  have HC0 := Lib.hid (hC.below hb0)
  have HNS : Hid (∀ k (hk : k < l.length), (∀ j (hj : j < l.length), j < k → readyB rs hs l[j] = false) → readyB rs hs l[k] = true → nxV rs hs l = l[k] ∧ nxL rs hs l = l.take k ++ l.drop (k + 1) ∧ (nxI rs hs l).isSome = true) := Lib.hid fun k hk h1 h2 => nx_at hk (nxI_some hk h1 h2)
  have HNN : Hid ((∀ j (hj : j < l.length), readyB rs hs l[j] = false) → nxV rs hs l = vw0 ∧ nxL rs hs l = l ∧ (nxI rs hs l).isSome = false) := Lib.hid fun h => nx_not (nxI_none h)
  generalize nxV rs hs l = nv at HNS HNN ⊢
  generalize nxL rs hs l = nl at HNS HNN ⊢
  generalize (nxI rs hs l).isSome = nb at HNS HNN ⊢
  obtain ⟨va, vc, rfl, _, _, _⟩ := hV.shape
  obtain ⟨ha, hc, rfl, _⟩ := hC.at_
  have HB0 := Lib.hid hb0
  have HLOW : Hid (0 < l.length → ∃ b off, va = some ⟨b, off, none⟩ ∧ b < w.heap.size) := Lib.hid fun h0 => hV.low h0
  clear hV hP hC hb0
  go_enter Try.func19, Try.ntmps19
  go_upto_region 1 with fail
  obtain ⟨w1, hw1⟩ : ∃ w1, w.alloc (.cells #[.string ⟨#[]⟩, .string ⟨#[]⟩, .bool false, .int .i64 0, .int .i64 0, .slice none 0 0, .slice none 0 0, .bool false] 44) = w1 := ⟨_, rfl⟩
  have HG1 := Lib.hid (GotP.new w 44)
  have HSZ1 : Hid ((w.alloc (.cells #[.string ⟨#[]⟩, .string ⟨#[]⟩, .bool false, .int .i64 0, .int .i64 0, .slice none 0 0, .slice none 0 0, .bool false] 44)).heap.size = w.heap.size + 1) := Lib.hid (by simp)
  try rw [hw1] at HG1
  try rw [hw1] at HW0
  try rw [hw1] at HC0
  try rw [hw1] at HB0
  try rw [hw1] at HSZ1
  try rw [hw1]
  clear hw1
  go_wp2
  go_loopw [7] (fun i wr => ∃ k : Nat, k ≤ l.length ∧ i = .int .i64 k ∧ (∀ j (hj : j < l.length), j < k → readyB rs hs l[j] = false) ∧ Below w1.heap.size w1 wr) (fun i _ => l.length - (intOf i).toNat)
  case atStart => exact ⟨0, by omega, rfl, (fun j hj h => by omega), Below.refl _ _⟩
  case round =>
    obtain ⟨k, hk, rfl, hall, hbel⟩ := hrel
    obtain ⟨w0, hw0⟩ : ∃ w0, w0 = wr := ⟨wr, rfl⟩
    subst hw0
    have HA := Lib.hid hall
    have HBEL := Lib.hid hbel
    clear hall
    by_cases hlt : k < l.length
    · obtain ⟨b, off, rfl, hbl, hq, hvb⟩ := (HW0.out.below hbel).at k hlt
      have HVB := Lib.hid hvb
      have HPL := HP.out l[k] (List.getElem_mem hlt)
      have HR := Lib.hid (HNS.out k hlt HA.out)
      have HN : Hid (readyB rs hs l[k] = false → ∀ j (hj : j < l.length), j < k + 1 → readyB rs hs l[j] = false) := Lib.hid (fun h j hj h2 => by
        by_cases e : j = k
        · subst e; exact h
        · exact HA.out j hj (by omega))
      have hck := rcheck14_any l[k].1 (pw l[k]) (.slice ha hs.length hc) hs a cap rs w0 hvb.1 HPL (HC0.out.below hbel)
      have HRB : Hid (readyB rs hs l[k] = (missD rs hs l[k].1.past).isEmpty) := Lib.hid rfl
      rw [← HRB.out] at hck
      generalize readyB rs hs l[k] = rb at HR HN hck
      generalize hxx : l[k] = x at hq HVB HPL HR hck
      have HXX := Lib.hid hxx
      clear hxx hvb HRB
      have HQ := Lib.hid hq
      obtain ⟨⟨key, val, gone, ⟨m, t⟩, past⟩, pa, pc⟩ := x
      obtain ⟨c0, c1, c2, c3, c4, c5⟩ := hq
      dsimp only [wcs, wvs, pw] at c0 c1 c2 c3 c4 c5 HVB HPL hck HQ
      have hki : (k : Int) < (l.length : Int) := by omega
      have hk0 : (0 : Int) ≤ (k : Int) := by omega
      clear hbel
      cases rb with
      | false =>
        go_wp2_with fail
        refine hck.mono ?_
        rintro e w3 ⟨rfl, hb3⟩
        have HB3 := Lib.hid (bstep HBEL.out hb3)
        go_wp2
        go_roundw
        case rel => exact ⟨k + 1, by omega, by go_num, HN.out (by first | rfl | trivial), HB3.out⟩
        case measure => simp [intOf]; omega
      | true =>
        go_wp2_with fail
        refine hck.mono ?_
        rintro e w3 ⟨rfl, hb3⟩
        have HB3 := Lib.hid (bstep HBEL.out hb3)
        have HQ3 := Lib.hid (HQ.out.keep hb3)
        obtain ⟨r1, r2, r3⟩ := HR.out (by first | rfl | trivial)
        have HNL := Lib.hid r2
        subst r1 r3
        have hWr := HW0.out.below HB3.out
        obtain ⟨tk, htk⟩ : ∃ tk, tk = l.take k := ⟨_, rfl⟩
        obtain ⟨k1, hk1⟩ : ∃ k1, k1 = k + 1 := ⟨_, rfl⟩
        obtain ⟨dk, hdk⟩ : ∃ dk, dk = l.drop k1 := ⟨_, rfl⟩
        have hhd := (hWr.take k hk).1
        rw [← htk] at hhd
        have HHD := Lib.hid hhd
        have htl := tailQ hWr.1 k1 (by omega)
        rw [Option.map_some, Addr.add_lit, ← hdk] at htl
        obtain ⟨tb, htb⟩ : ∃ tb : Addr, (if vc = k1 then (some ⟨b, off, none⟩ : Option Addr) else some ⟨b, off + k1 * 6, none⟩) = some tb := by split <;> exact ⟨_, rfl⟩
        rw [htb] at htl
        have HTL : Hid (RowIn KW w3 (some tb) dk) := Lib.hid (by obtain ⟨a9, c9, e9, _, _, _, h9⟩ := htl; obtain ⟨e91, _, _⟩ := Value.slice.inj e9; rw [e91]; exact h9)
        have HK1 := Lib.hid hk1
        have HTK := Lib.hid htk
        have HDK := Lib.hid hdk
        have hcap := HW0.out.shape
        have hkc : (k : Int) ≤ (vc : Int) := by omega
        have hk1l : (k1 : Int) ≤ (l.length : Int) := by omega
        have hk10 : (0 : Int) ≤ (k1 : Int) := by omega
        have hwk : IntKind.i64.wrap ((k : Int) + 1) = (k1 : Int) := by rw [hk1]; exact IntWalk.i64_in _ (by omega)
        have HLT : Hid (tk.length = k) := Lib.hid (by rw [htk, List.length_take]; omega)
        have HLD : Hid (dk.length = l.length - k1) := Lib.hid (by rw [hdk, List.length_drop])
        have HLS : Hid (tk.length + dk.length ≤ 1000000) := Lib.hid (by rw [htk, hdk, List.length_take, List.length_drop]; omega)
        have HG3 := Lib.hid (HG1.out.keep HB3.out)
        have HWB : Hid (w.heap.size < w3.heap.size) := Lib.hid (by have h1 := HB3.out.size; have h2 := HSZ1.out; omega)
        have HB03 := Lib.hid (HB0.out.trans (HB3.out.mono HB0.out.size))
        clear htl r2 hWr hk1 hcap c0 c1 c2 c3 c4 c5 hb3 hck htk hdk hhd
        go_wp2_with (at_builtin; refine wp_appR kw_ok rfl _ _ rfl w3.heap.size (.slice none 0 0) (.slice (some ⟨b, off, none⟩) k vc) [] tk rfl (OwnR.nil _ _ _) rfl HHD.out (by have := HLS.out; simp only [List.length_nil]; omega) (Nat.le_refl _) ?_; intro v5 w5 ho5 hb5 hk5; rw [List.nil_append] at ho5; obtain ⟨sa, sc, rfl⟩ := ho5.shape; obtain ⟨y0, y1, y2, y3, y4, y5⟩ := HQ3.out.keep hb5; dsimp only [pw] at y0 y1 y2 y3 y4 y5; have HO5 := Lib.hid ho5; have HB5 := Lib.hid hb5; clear ho5 hb5)
        go_region_law (refine step_app kw_ok (w := w5.drew) rfl _ _ rfl w3.heap.size (.slice sa tk.length sc) tk dk (by simp [Act.eval, Act.put]) HO5.out tb (l.length - k1) (vc - k1) HLD.out (by simp [Act.eval, Act.put]) (HTL.out.below HB5.out.drew) HLS.out HB5.out.size ?_; intro sa6 sc6 w6 cl HCL ho6 hb6; have HO6 := Lib.hid ho6; have HB6 := Lib.hid (HB5.out.trans ((Below.refl w3.heap.size w5).drew.trans hb6)); have HG6 := Lib.hid (HG3.out.keep HB6.out); obtain ⟨x0, x1, x2, x3, x4, x5⟩ := HQ3.out.keep HB6.out; dsimp only [pw] at x0 x1 x2 x3 x4 x5; obtain ⟨⟨z0, z1, z2, z3, z4, z5, zf⟩, z6, z7, zf6, zf7⟩ := HG6.out; have zf0 := zf 0 (by decide); have zf1 := zf 1 (by decide); have zf2 := zf 2 (by decide); have zf3 := zf 3 (by decide); have zf4 := zf 4 (by decide); have zf5 := zf 5 (by decide); dsimp only [vw0, wz, pw, List.length_nil] at z0 z1 z2 z3 z4 z5; have HP6 := Lib.hid (HG6.out.put (⟨key, val, gone, (m, t), past⟩, pa, pc) (.slice sa6 cl.length sc6) true); have HO7 := Lib.hid (HO6.out.block (w' := World.putg w6 w.heap.size (⟨key, val, gone, (m, t), past⟩, pa, pc) (.slice sa6 cl.length sc6) true) (fun g e => putg_block w6 w.heap.size (⟨key, val, gone, (m, t), past⟩, pa, pc) (.slice sa6 cl.length sc6) true g (Nat.ne_of_gt (Nat.lt_of_lt_of_le HWB.out (HO6.out.lt g e).1)))); have HBP := Lib.hid (below_putg (n := w.heap.size) (HB03.out.trans (HB6.out.mono (Nat.le_of_lt HWB.out))) (Nat.le_refl _) (⟨key, val, gone, (m, t), past⟩, pa, pc) (.slice sa6 cl.length sc6) true); clear ho6 hb6 zf)
        all_goals
          go_wp2
          try rw [Exit.noGoto_ret]
          obtain ⟨⟨r0, r1, r2, r3, r4, r5, _⟩, r6, r7, _, _⟩ := HP6.out
          dsimp only [World.putg, World.putw, pw] at r0 r1 r2 r3 r4 r5 r6 r7
          refine bodyPost_ret (v := .agg #[.string key, .string val, .bool gone, .int .i64 m, .int .i64 t, .slice pa past.length pc, .slice sa6 cl.length sc6, .bool true]) (by simp [results, Try.results19, go_sem, r0, r1, r2, r3, r4, r5, r6, r7]) rfl ⟨_, rfl, ?_, HBP.out⟩
          have h7 := RowAt.of_own kw_ok HO7.out
          dsimp only [World.putg, World.putw, pw] at h7
          rw [HNL.out, ← HK1.out, ← HTK.out, ← HDK.out, ← HCL.out]
          exact h7
    · obtain rfl : k = l.length := by omega
      obtain ⟨e1, e2, e3⟩ := HNN.out (fun j hj => HA.out j hj hj)
      subst e1 e3
      have HNL := Lib.hid e2
      have HBQ := Lib.hid (HB0.out.trans (HBEL.out.mono HB0.out.size))
      have HG2 := HG1.out.keep HBEL.out
      have HP2 := Lib.hid (HG2.put vw0 (.slice va l.length vc) false)
      have HBP := Lib.hid (below_putg (n := w.heap.size) HBQ.out (Nat.le_refl _) vw0 (.slice va l.length vc) false)
      have hrw := RowAt.putg (HW0.out.below HBEL.out).1 HLOW.out vw0 (.slice va l.length vc) false
      dsimp only [World.putg, World.putw, vw0, wz, pw, List.length_nil] at hrw
      have HRW2 := Lib.hid hrw
      clear hrw
      obtain ⟨⟨z0, z1, z2, z3, z4, z5, zf⟩, z6, z7, zf6, zf7⟩ := HG2
      have zf0 := zf 0 (by decide)
      have zf1 := zf 1 (by decide)
      have zf2 := zf 2 (by decide)
      have zf3 := zf 3 (by decide)
      have zf4 := zf 4 (by decide)
      have zf5 := zf 5 (by decide)
      dsimp only [vw0, wz, pw, List.length_nil] at z0 z1 z2 z3 z4 z5
      clear zf e2
      go_wp2
      try rw [Exit.noGoto_ret]
      obtain ⟨⟨r0, r1, r2, r3, r4, r5, _⟩, r6, r7, _, _⟩ := HP2.out
      dsimp only [World.putg, World.putw, vw0, wz, pw, List.length_nil] at r0 r1 r2 r3 r4 r5 r6 r7
      refine bodyPost_ret (v := .agg #[.string ⟨#[]⟩, .string ⟨#[]⟩, .bool false, .int .i64 0, .int .i64 0, .slice none 0 0, .slice va l.length vc, .bool false]) (by simp [results, Try.results19, go_sem, r0, r1, r2, r3, r4, r5, r6, r7]) rfl ⟨_, rfl, ?_, HBP.out⟩
      rw [HNL.out]
      exact HRW2.out
end Go.Proofs.Ytfmedinhlmiaeaa
