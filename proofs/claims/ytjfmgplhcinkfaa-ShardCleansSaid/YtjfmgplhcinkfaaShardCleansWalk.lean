/- ShardCleans, walked. -/
import Derived.Test.YtjfmgplhcinkfaaGS28
import Derived.Deep.RegionHeld3
import Derived.Deep.DeepCutAuto
namespace Go.Proofs.Ytjfmgplhcinkfaa
open Go.RowKit Go.Shelf
set_option linter.unusedVariables false
set_option linter.unusedSimpArgs false
theorem wp_pushRz {α : Type} {K : RK α} (hK : K.Ok) {ops : Array Oper} {rest : List Oper} {o : Oper} {a : Act} {Q : Exit → Act → World → Prop} {wr : World} (hgd : o.guard = none) (s x : Operand)
    (hop : o.op = .call { callee := .builtin .append, args := #[s, x], argTypes := #[K.S, K.S] })
    (base : Nat) (v : Value) (l : List α) (k : Nat) (hlen : l.length = k) (y : α) (cs : Array Value) (hcs : cs.toList = K.enc y) (hs : a.eval s = v) (hown : OwnR K wr base v l) (hx : a.eval x = .slice (some ⟨wr.heap.size, 0, none⟩) 1 1) (hl : k ≤ 1000000) (hbs : base ≤ wr.heap.size)
    (h : ∀ g cap w', OwnR K w' base (.slice (some ⟨g, 0, none⟩) (k + 1) cap) (l ++ [y]) → Below base wr w' → KeptD v wr w' → (v.ownBlock = some g ∨ wr.heap.size ≤ g) → g < w'.heap.size → wpList Try.prog ops Q rest (a.put o.dst (.slice (some ⟨g, 0, none⟩) (k + 1) cap)) w') :
    wpList Try.prog ops Q (o :: rest) a (wr.alloc (.cells cs K.T)) := by
  subst hlen
  exact wp_pushR hK hgd s x hop base v l y cs hcs hs hown hx hl hbs h
/-- A pin's cells behind a call. -/
theorem keepDep {w w1 : World} {b o : Nat} {x y z : Value} (hb : Below w.heap.size w w1) (h : w.cell? ⟨b, o, none⟩ = some x ∧ w.cell? ⟨b, o + 1, none⟩ = some y ∧ w.cell? ⟨b, o + 2, none⟩ = some z) : w1.cell? ⟨b, o, none⟩ = some x ∧ w1.cell? ⟨b, o + 1, none⟩ = some y ∧ w1.cell? ⟨b, o + 2, none⟩ = some z := ⟨kc hb h.1, kc hb h.2.1, kc hb h.2.2⟩
theorem allocDep {w : World} {b o : Nat} {x y z : Value} (h : w.cell? ⟨b, o, none⟩ = some x ∧ w.cell? ⟨b, o + 1, none⟩ = some y ∧ w.cell? ⟨b, o + 2, none⟩ = some z) (ob : Obj) : (w.alloc ob).cell? ⟨b, o, none⟩ = some x ∧ (w.alloc ob).cell? ⟨b, o + 1, none⟩ = some y ∧ (w.alloc ob).cell? ⟨b, o + 2, none⟩ = some z := keepDep (balloc (Below.refl _ w) ob) h
theorem putDep {w : World} {b o BB : Nat} {x y z : Value} (hne : b ≠ BB) (h : w.cell? ⟨b, o, none⟩ = some x ∧ w.cell? ⟨b, o + 1, none⟩ = some y ∧ w.cell? ⟨b, o + 2, none⟩ = some z) (v : Wv) (u : Value) : (World.putw w BB v u).cell? ⟨b, o, none⟩ = some x ∧ (World.putw w BB v u).cell? ⟨b, o + 1, none⟩ = some y ∧ (World.putw w BB v u).cell? ⟨b, o + 2, none⟩ = some z := by
  have hb := putw_block w BB v u b hne
  generalize World.putw w BB v u = W at hb ⊢
  exact ⟨(World.cell?_of_block hb).trans h.1, (World.cell?_of_block hb).trans h.2.1, (World.cell?_of_block hb).trans h.2.2⟩
/-- Six bools in memory. -/
structure BoolS (w : World) (B : Nat) (f : Nat → Bool) : Prop where
  lt : B < w.heap.size
  c : ∀ k, k < 6 → w.cell? ⟨B, k, none⟩ = some (.bool (f k))
  f : ∀ k, k < 6 → w.frozen? ⟨B, k, none⟩ = false
theorem BoolS.block {w w' : World} {B : Nat} {f : Nat → Bool} (h : BoolS w B f) (hb : w'.heap[B]? = w.heap[B]?) (hs : w.heap.size ≤ w'.heap.size) : BoolS w' B f :=
  ⟨by have := h.lt; omega, fun k hk => (World.cell?_of_block hb).trans (h.c k hk), fun k hk => (World.frozen?_of_block hb).trans (h.f k hk)⟩
theorem BoolS.below {w w' : World} {B : Nat} {f : Nat → Bool} (h : BoolS w B f) (hb : Below w.heap.size w w') : BoolS w' B f := h.block (hb.block B h.lt) hb.size
theorem BoolS.set {w : World} {B : Nat} {f : Nat → Bool} (h : BoolS w B f) {k : Nat} (hk : k < 6) (m : Bool) : BoolS (w.setCell ⟨B, k, none⟩ (.bool m)) B (fun x => if x = k then m else f x) := by
  refine ⟨by simpa using h.lt, fun x hx => ?_, fun x hx => by rw [World.frozen?_setCell]; exact h.f x hx⟩
  by_cases e : x = k
  · subst e
    rw [World.cell?_setCell_same _ _ _ (h.c x hx), if_pos rfl]
  · rw [World.cell?_setCell_other _ _ _ _ (by intro h2; cases h2; exact e rfl), if_neg e]
    exact h.c x hx
theorem BoolS.cong {w : World} {B : Nat} {f g : Nat → Bool} (h : BoolS w B f) (e : ∀ k, k < 6 → f k = g k) : BoolS w B g :=
  ⟨h.lt, fun k hk => by rw [← e k hk]; exact h.c k hk, h.f⟩
theorem BoolS.new (w : World) : BoolS (w.alloc (.cells #[.bool false, .bool false, .bool false, .bool false, .bool false, .bool false] 52)) w.heap.size (fun _ => false) := by
  refine ⟨by simp, fun k hk => ?_, fun k hk => ?_⟩
  · rw [Lib.cell_of_heap (heap_alloc_new w _)]
    rcases (show k = 0 ∨ k = 1 ∨ k = 2 ∨ k = 3 ∨ k = 4 ∨ k = 5 by omega) with rfl | rfl | rfl | rfl | rfl | rfl <;> rfl
  · rcases (show k = 0 ∨ k = 1 ∨ k = 2 ∨ k = 3 ∨ k = 4 ∨ k = 5 by omega) with rfl | rfl | rfl | rfl | rfl | rfl <;> simp
/-- What At answers of a pin. -/
def atV (F : Ch) (d : De) : Vw := (lastP (isS d.2) (F d.1)).getD vw0
def isV (F : Ch) (d : De) : Bool := (lastP (isS d.2) (F d.1)).isSome
theorem World.ownsRow_blockS {w w' : World} {base e sz : Nat} {v : Value} {n : Nat} {xs : List Value} (h : w.ownsRow base e sz v n xs) (hb : ∀ g, v.ownBlock = some g → w'.heap[g]? = w.heap[g]?) : w'.ownsRow base e sz v n xs := by
  refine ⟨h.1, ?_⟩
  rcases h.2 with h0 | ⟨g, cap, cur, rfl, hbg, hg, r⟩
  · exact .inl h0
  · exact .inr ⟨g, cap, cur, rfl, hbg, (hb g rfl).trans hg, r⟩
theorem clean_pin {F : Ch} {s : Int × Int} {P : List De} {d : De} (h : d ∈ P) : lastP (isS d.2) (cleanF F s P d.1) = lastP (isS d.2) (F d.1) := clean_at (pinsOf_mem.2 h)
theorem clean_have {F : Ch} {s : Int × Int} {P : List De} (L : List ByteArray) : haveL (cleanF F s P) L = haveL F L := by
  unfold haveL
  congr 1
  funext k
  unfold headOf cleanF
  rw [clean_head]
theorem clean_kl {F : Ch} {s : Int × Int} {P : List De} {L : List ByteArray} (h : KeyL F L) : KeyL (cleanF F s P) L := h.same (fun k => by unfold cleanF; rw [clean_ne])
theorem DepAt.take6 {w : World} {a : Option Addr} {c : Nat} {l : List De} (h : DepAt w (.slice a l.length c) l) (h6 : 6 < l.length) : DepAt w (.slice a 6 c) (l.take 6) := by
  obtain ⟨a', c', e, h1, h2, h3, h4⟩ := h
  cases e
  refine ⟨a, c, by rw [List.length_take, Nat.min_eq_left (by omega)], by rw [List.length_take]; omega, h2, h3, h4.take 6⟩

set_option maxRecDepth 100000 in
set_option maxHeartbeats 6400000 in
theorem walkShardCleans (w : World) (a : Option Addr) (l : List O13) (cap : Nat) (hl : l.length ≤ 9223372036854775807) (hin : ∀ o ∈ l, o.In) (hr : RowIn KO13 w a l) (n : Int) (hnw : (Lit.int .i64 n).wf = true) (v : Value) (pins : List De) (hd : DepAt w v pins) (hz : Szd pins) (h64 : ∀ d ∈ pins, In64 d.2) :
    Calls Try.prog 4 #[.slice a l.length cap, .int .i64 n, v] w fun e w' => e = .returned (.bool true) ∧ Below w.heap.size w w' := by
  have HR := Lib.hid hr
  have HIN := Lib.hid hin
  have HD := Lib.hid hd
  have HZ := Lib.hid (fun d (h : d ∈ pins) => And.intro (show d.1.size ≤ maxLen from by have := hz d h; unfold maxLen; exact this) (h64 d h))
  obtain ⟨pa, pc, rfl, hpc1, hpc2, _⟩ := id hd
  have HPC := Lib.hid (And.intro hpc1 hpc2)
  clear hr hin hnw hd hz h64 hpc1 hpc2
  go_enter Try.func4, Try.ntmps4
  go_wp2_with fail
  refine (awake13_any _).mono ?_
  rintro e w1 ⟨rfl, hb1⟩
  have HB1 : Hid (Below w.heap.size w w1) := Lib.hid (hb1)
  clear hb1
  go_wp2_with fail
  refine (ranges13_any 0 _).mono ?_
  rintro e w2 ⟨v2, rfl, ho2, hb2⟩
  have HB2 := Lib.hid (bstep HB1.out hb2)
  have hnew := snew_any v2 (rngsOf 0) w2 (by have := rngsOf_len 0; omega) (RowAt.of_own kr_ok ho2)
  obtain ⟨ra, rc, rfl⟩ := ho2.shape
  have HRL : Hid ((rngsOf 0).length ≤ 100) := Lib.hid (by have := rngsOf_len 0; omega)
  clear ho2 hb2
  generalize rngsOf 0 = R at hnew HRL
  go_wp2_with fail
  refine hnew.mono ?_
  rintro e w3 ⟨b, S, rfl, hsd, hS, hb3⟩
  have HN0 := ShA.of_new hsd hS hb3.size
  have HB3 := Lib.hid (bstep HB2.out hb3)
  obtain ⟨A, hA⟩ : ∃ A : Nat → Prop, A = fun j => j < w2.heap.size := ⟨_, rfl⟩
  rw [← hA] at HN0
  have HN := Lib.hid HN0
  have HAA : Hid (∀ j, j < w2.heap.size → A j) := Lib.hid (fun j hj => by rw [hA]; exact hj)
  have HAW : Hid (∀ j, j < w.heap.size → A j) := Lib.hid (fun j hj => HAA.out j (by have := HB2.out.size; omega))
  clear hsd hS hb3 HN0 hnew hA
  go_wp2
  go_loopw [9] (fun i wr => ∃ k : Nat, k ≤ l.length ∧ k ≤ 40 ∧ i = .int .i64 k ∧ ShA wr A k b R (putAll R (l.take k)) ∧ Wr A w3 wr) (fun i _ => 40 - (intOf i).toNat)
  case atStart => exact ⟨0, by omega, by omega, rfl, HN.out, Mv.refl _ _⟩
  case round =>
    obtain ⟨k, hkl, hkN, rfl, hsh, hwr⟩ := hrel
    have HSH := Lib.hid hsh
    have HWR := Lib.hid hwr
    have HKL := Lib.hid (And.intro hkl hkN)
    clear hsh hwr hkl hkN HN
    go_upto_region 6 with (fail)
    go_cut [32] (fun t wx => ∃ c : Bool, t = .bool c ∧ Hid (c = true → k < l.length ∧ k < 40) ∧ wx = wr)
    case first =>
      obtain ⟨hkl, hkN⟩ := HKL.out
      by_cases hxl : k < l.length
      · have hxli : (k : Int) < (l.length : Int) := by omega
        by_cases hx10 : k < 40
        · have hxi : (k : Int) < 40 := by omega
          have HC : Hid (k < l.length ∧ k < 40) := Lib.hid ⟨hxl, hx10⟩
          go_wp2
          go_meet
          exact ⟨_, rfl, Lib.hid (fun _ => HC.out), rfl⟩
        · have q1 : decide ((k : Int) < 40) = false := by simp; omega
          go_wp2
          go_meet
          exact ⟨false, rfl, Lib.hid (fun h => by cases h), rfl⟩
      · have q1 : decide ((k : Int) < (l.length : Int)) = false := by simp; omega
        have q2 : decide (k < l.length) = false := by simp; omega
        go_wp2
        go_meet
        exact ⟨false, rfl, Lib.hid (fun h => by cases h), rfl⟩
    case rest =>
      obtain ⟨c, rfl, HC, rfl⟩ := hcut
      obtain ⟨wr, hwr0⟩ : ∃ wr, wr = wc := ⟨_, rfl⟩
      subst hwr0
      cases c with
      | true =>
        obtain ⟨hlt, hkN⟩ := HC.out rfl
        have HBW : Hid (Below w.heap.size w wr) := Lib.hid (HB3.out.trans (HWR.out.below (fun j hj => HAW.out j hj) HB3.out.size))
        obtain ⟨ab, aoff, rfl, hbl, hcell⟩ := (HR.out.below HBW.out).op13 k hlt
        have HOI := Lib.hid (HIN.out _ (List.getElem_mem hlt))
        have HTK : Hid (putAll R (l.take (k + 1)) = putF R (putAll R (l.take k)) (verO l[k])) := Lib.hid (by rw [List.take_succ_eq_append_getElem hlt, putAll_snoc])
        have HLN : Hid (∀ d, (putAll R (l.take k) d).length ≤ k) := Lib.hid (fun d => Nat.le_trans (putAll_len R _ d) (List.length_take_le _ _))
        generalize l[k] = o at hcell HOI HTK
        generalize putAll R (l.take k) = F at HSH HTK HLN
        have hve := fun W => version13_any o HOI.out W
        have HVB : Hid (∀ W, VwB W (verO o)) := Lib.hid (fun W => verO_bd o HOI.out)
        have HVP := Lib.hid (verO_past o)
        generalize verO o = x at hve HTK HVB HVP
        obtain ⟨k0, k1, k2, k3, kr, kv, kw, kg, ⟨ks, kt⟩, ⟨kpa, kpn, kpc⟩, kpk, kp, kq⟩ := o
        have c0 := hcell 0 _ rfl
        have c1 := hcell 1 _ rfl
        have c2 := hcell 2 _ rfl
        have c3 := hcell 3 _ rfl
        have c4 := hcell 4 _ rfl
        have c5 := hcell 5 _ rfl
        have c6 := hcell 6 _ rfl
        have c7 := hcell 7 _ rfl
        have c8 := hcell 8 _ rfl
        have c9 := hcell 9 _ rfl
        have c10 := hcell 10 _ rfl
        have c11 := hcell 11 _ rfl
        have c12 := hcell 12 _ rfl
        have c13 := hcell 13 _ rfl
        dsimp only [cs13] at c0 c1 c2 c3 c4 c5 c6 c7 c8 c9 c10 c11 c12 c13 hve
        simp only [Nat.add_zero] at c0
        clear hcell hbl
        have hki : (k : Int) < (l.length : Int) := by omega
        have hk9 : k < 40 := hkN
        have hput := fun W (h : Below wr.heap.size wr W) => lput_any (HSH.out.below h) HRL.out (by omega) x (by have := HLN.out x.1.key; omega) (HVB.out W) HVP.out
        generalize (ownsK R x.1.key && putOk (F x.1.key) x) = is at hput
        have HPUT := Lib.hid hput
        clear hput
        obtain ⟨⟨xk, xv, xg, ⟨xm, xt⟩, xp⟩, xa, xc⟩ := x
        dsimp only [wV, wcs, wvs, pw] at hve HPUT
        go_wp2_with fail
        refine (hve _).mono ?_
        rintro e w4 ⟨rfl, hb4⟩
        have hput := HPUT.out _ hb4
        have HB4 := Lib.hid hb4
        clear hve HPUT c0 c1 c2 c3 c4 c5 c6 c7 c8 c9 c10 c11 c12 c13 hb4
        go_wp2_with fail
        refine hput.mono ?_
        rintro e w5 ⟨rfl, hs5, hw5⟩
        have HS5 := Lib.hid hs5
        have HW5 : Hid (Wr A w3 w5) := Lib.hid ((HWR.out.step HB4.out).trans hw5)
        clear hs5 hw5 hput
        go_wp2
        go_roundw
        case rel => exact ⟨k + 1, by omega, by omega, by go_num, by rw [HTK.out]; exact HS5.out, HW5.out⟩
        case measure => simp [intOf]; omega
      | false =>
        have HFL : Hid (∀ d, (putAll R (l.take k) d).length ≤ 40) := Lib.hid (fun d => by
          have h1 := putAll_len R (l.take k) d
          have h2 := List.length_take_le k l
          have := HKL.out.2
          omega)
        have HFB : Hid (∀ W d, ∀ x ∈ putAll R (l.take k) d, VwB W x) := Lib.hid (fun W d x hx => putAll_bd (fun o ho => HIN.out o (List.mem_of_mem_take ho)) W d x hx)
        have HFP : Hid (∀ d, ∀ x ∈ putAll R (l.take k) d, x.1.past = []) := Lib.hid (putAll_past R _)
        generalize putAll R (l.take k) = F at HSH HFL HFB HFP
        have HS0 := Lib.hid (HSH.out.mono HKL.out.2)
        clear HSH HC
        have HBW : Hid (Below w.heap.size w wr) := Lib.hid (HB3.out.trans (HWR.out.below (fun j hj => HAW.out j hj) HB3.out.size))

        go_upto_if 44 with (fail)
        go_cut [2] (fun s2 wx => ∃ P : List De, s2 = .slice pa P.length pc ∧ DepAt w (.slice pa P.length pc) P ∧ P.length ≤ 6 ∧ (∀ d ∈ P, d.1.size ≤ maxLen ∧ In64 d.2) ∧ wx = wr)
        case first =>
          have hpc1 := HPC.out.1
          have hpc2 := HPC.out.2
          by_cases h6 : 6 < pins.length
          · have h6i : (6 : Int) < (pins.length : Int) := by omega
            have hc6 : 6 ≤ pc := by omega
            unfold maxLen at hpc2
            go_wp2
            go_meet
            have ht := HD.out.take6 h6
            have hl6 : (pins.take 6).length = 6 := by rw [List.length_take]; omega
            exact ⟨pins.take 6, by rw [hl6], by rw [hl6]; exact ht, by omega, fun d hd => HZ.out d (List.mem_of_mem_take hd), rfl⟩
          · have h6i : ¬ (6 : Int) < (pins.length : Int) := by omega
            go_wp2
            go_meet
            exact ⟨pins, rfl, HD.out, by omega, HZ.out, rfl⟩
        case rest =>
          obtain ⟨P, rfl, hPD, hP6, hPZ, rfl⟩ := hcut
          obtain ⟨wR, hwr0⟩ : ∃ wR, wR = wc := ⟨_, rfl⟩
          subst hwr0
          have HP := Lib.hid hPD
          have HPZ := Lib.hid hPZ
          clear hPD hPZ
          have hhv := lhave_any HS0.out (by omega) (fun d => by have := HFL.out d; omega)
          go_wp2_with fail
          refine hhv.mono ?_
          rintro e w4 ⟨v4, L, hkl, hll, rfl, ho4, hb4⟩
          have hd4 := DepAt.of_own ho4
          obtain ⟨a4, c4, rfl, _⟩ := id hd4
          have HKL := Lib.hid hkl
          have HLL := Lib.hid hll
          have HB4 := Lib.hid hb4
          have HO4 := Lib.hid ho4
          clear hkl hll ho4 hb4 hd4 hhv
          obtain ⟨w5, hw5⟩ : ∃ w5, w4.alloc (.cells #[.bool false, .bool false, .bool false, .bool false, .bool false, .bool false] 52) = w5 := ⟨_, rfl⟩
          have HBS0 : Hid (BoolS w5 w4.heap.size (fun _ => false)) := Lib.hid (by rw [← hw5]; exact BoolS.new w4)
          have HB5 : Hid (Below wR.heap.size wR w5) := Lib.hid (bstep HB4.out (by rw [← hw5]; exact balloc (Below.refl _ _) _))
          have HO5 := Lib.hid (HO4.out.below (show Below w4.heap.size w4 w5 by rw [← hw5]; exact balloc (Below.refl _ _) _))
          have HZ5 : Hid (w5.heap.size = w4.heap.size + 1) := Lib.hid (by rw [← hw5]; simp)
          go_upto_region 14 with fail
          try rw [hw5]
          clear hw5
          go_wp2
          go_loopw [11, 13] (fun o i wx => ∃ k : Nat, k ≤ P.length ∧ i = .int .i64 k ∧ OwnR KW wx w5.heap.size o ((P.take k).map (atV F)) ∧ BoolS wx w4.heap.size (fun j => decide (j < k) && isV F (P.getD j (⟨#[]⟩, 0, 0))) ∧ Mv (fun j => j = w4.heap.size) w5 wx) (fun _ i _ => P.length - (intOf i).toNat)
          case atStart => exact ⟨0, by omega, rfl, OwnR.nil _ _ _, HBS0.out.cong (fun j _ => by simp), Mv.refl _ _⟩
          case round =>
            obtain ⟨k, hk, rfl, hown, hbs, hmv⟩ := hrel
            have HOW := Lib.hid hown
            have HBS := Lib.hid hbs
            have HMV := Lib.hid hmv
            clear hown hbs hmv
            obtain ⟨sa, sc, rfl⟩ := HOW.out.shape
            have hlk : ((P.take k).map (atV F)).length = k := by rw [List.length_map, List.length_take]; omega
            have HW5 : Hid (w.heap.size ≤ w4.heap.size ∧ w5.heap.size ≤ wr.heap.size) := Lib.hid ⟨by have := HBW.out.size; have := HB4.out.size; omega, HMV.out.size⟩
            have HBR : Hid (Below w.heap.size w wr) := Lib.hid ((bstep HBW.out HB5.out).trans (HMV.out.below (n := w.heap.size) (fun j hj e => by have := HW5.out.1; omega) (by have := HW5.out.1; have := HZ5.out; omega)))
            have HSR : Hid (ShA wr (fun j => A j ∨ (wR.heap.size ≤ j ∧ j < w5.heap.size)) 40 b R F) := Lib.hid ((HS0.out.more HB5.out).wrote HMV.out (fun j e => .inr (by have := HB4.out.size; have := HZ5.out; omega)) HFP.out)
            by_cases hlt : k < P.length
            · have hki : (k : Int) < (P.length : Int) := by omega
              have hk6 : k < 6 := by omega
              have hk6i : (k : Int) < 6 := by omega
              obtain ⟨a', c', e', _, _, _, hdi⟩ := HP.out.below HBR.out
              cases e'
              obtain ⟨db, doff, rfl, hbl, d0, d1, d2⟩ := hdi k hlt
              have HTK : Hid ((P.take (k + 1)).map (atV F) = (P.take k).map (atV F) ++ [atV F P[k]]) := Lib.hid (by rw [List.take_succ_eq_append_getElem hlt, List.map_append]; rfl)
              have HGD : Hid (P.getD k (⟨#[]⟩, 0, 0) = P[k]) := Lib.hid (by rw [List.getD_eq_getElem?_getD, List.getElem?_eq_getElem hlt]; rfl)
              have HDD := Lib.hid (HPZ.out _ (List.getElem_mem hlt))
              generalize P[k] = d at d0 d1 d2 HTK HGD HDD
              obtain ⟨dk, dn, ds⟩ := d
              dsimp only at d0 d1 d2
              have hat := fun W (h : Below wr.heap.size wr W) => lat_any (HSR.out.below h) dk (dn, ds) HDD.out.1 (by have := HFL.out dk; omega)
              have HYE : Hid ((lastP (isS (dn, ds)) (F dk)).getD vw0 = atV F (dk, dn, ds)) := Lib.hid rfl
              have HIE : Hid ((lastP (isS (dn, ds)) (F dk)).isSome = isV F (dk, dn, ds)) := Lib.hid rfl
              rw [HYE.out, HIE.out] at hat
              generalize atV F (dk, dn, ds) = Y at hat HTK HYE
              generalize hii : isV F (dk, dn, ds) = isd at hat HIE
              have HII := Lib.hid hii
              obtain ⟨⟨yk, yv, yg, ⟨ym, yt⟩, yp⟩, ya, yc⟩ := Y
              dsimp only [wV, wcs, wvs, pw] at hat
              generalize hacc : (P.take k).map (atV F) = acc at hlk HOW HTK
              have g0 : wr.drew.cell? ⟨db, doff + k * 3, none⟩ = some (.string dk) ∧ wr.drew.cell? ⟨db, doff + k * 3 + 1, none⟩ = some (.int .i64 dn) ∧ wr.drew.cell? ⟨db, doff + k * 3 + 2, none⟩ = some (.int .i64 ds) := ⟨d0, d1, d2⟩
              have HLK := Lib.hid hlk
              clear hii d0 d1 d2 hbl hdi hacc hlk
              go_upto_region 17 with fail
              go_cut [14, 15] (fun s14 s15 wx => ∃ B, s14 = .pointer (some ⟨B, 0, none⟩) ∧ s15 = .bool isd ∧ wr.heap.size ≤ B ∧ VwP wx B ⟨yk, yv, yg, (ym, yt), yp⟩ (.slice ya yp.length yc) ∧ Below wr.heap.size wr wx)
              case first =>
                refine wp_region_held_drew (S := fun w' => w'.cell? ⟨db, doff + k * 3, none⟩ = some (.string dk) ∧ w'.cell? ⟨db, doff + k * 3 + 1, none⟩ = some (.int .i64 dn) ∧ w'.cell? ⟨db, doff + k * 3 + 2, none⟩ = some (.int .i64 ds)) (by kernel_rfl) (g0) (fun hHeld => ?_)
                refine wpAnyH_take (i := 0) (v := ?vp0) rfl (by kernel_rfl) (by kernel_rfl) (by kernel_rfl) (fun _ _ _ h => h) (Or.inl ⟨by rfl, ?yp0⟩) (by assumption) ?rp0
                case yp0 => (intro w hSw; (try dsimp only at hSw); go_simp; try with_reducible rfl)
                try simp only [Act.put, List.setIfInBounds_toArray, List.set_cons_zero, List.set_cons_succ, List.getElem_toArray, List.getElem_cons_zero, List.getElem_cons_succ]
                refine wpAnyH_take (i := 1) (v := ?vp1) rfl (by kernel_rfl) (by kernel_rfl) (by kernel_rfl) (fun _ _ _ h => h) (Or.inl ⟨by rfl, ?yp1⟩) (by assumption) ?rp1
                case yp1 => (intro w hSw; (try dsimp only at hSw); go_simp; try with_reducible rfl)
                try simp only [Act.put, List.setIfInBounds_toArray, List.set_cons_zero, List.set_cons_succ, List.getElem_toArray, List.getElem_cons_zero, List.getElem_cons_succ]
                refine wpAnyH_take (i := 2) (v := ?vp2) rfl (by kernel_rfl) (by kernel_rfl) (by kernel_rfl) (fun _ _ _ h => h) (Or.inl ⟨by rfl, ?yp2⟩) (by assumption) ?rp2
                case yp2 => (intro w hSw; (try dsimp only at hSw); go_simp; try with_reducible rfl)
                try simp only [Act.put, List.setIfInBounds_toArray, List.set_cons_zero, List.set_cons_succ, List.getElem_toArray, List.getElem_cons_zero, List.getElem_cons_succ]
                refine wpAnyH_take (i := 3) (v := ?vp3) rfl (by kernel_rfl) (by kernel_rfl) (by kernel_rfl) (fun _ _ _ h => h) (Or.inl ⟨by rfl, ?yp3⟩) (by assumption) ?rp3
                case yp3 => (intro w hSw; (try dsimp only at hSw); go_simp; try with_reducible rfl)
                try simp only [Act.put, List.setIfInBounds_toArray, List.set_cons_zero, List.set_cons_succ, List.getElem_toArray, List.getElem_cons_zero, List.getElem_cons_succ]
                refine wpAnyH_take (i := 4) (v := ?vp4) rfl (by kernel_rfl) (by kernel_rfl) (by kernel_rfl) (fun _ _ _ h => h) (Or.inl ⟨by rfl, ?yp4⟩) (by assumption) ?rp4
                case yp4 => (intro w hSw; (try dsimp only at hSw); go_simp; try with_reducible rfl)
                try simp only [Act.put, List.setIfInBounds_toArray, List.set_cons_zero, List.set_cons_succ, List.getElem_toArray, List.getElem_cons_zero, List.getElem_cons_succ]
                refine wpAnyH_take (i := 5) (v := ?vp5) rfl (by kernel_rfl) (by kernel_rfl) (by kernel_rfl) (fun _ _ _ h => h) (Or.inl ⟨by rfl, ?yp5⟩) (by assumption) ?rp5
                case yp5 => (intro w hSw; (try dsimp only at hSw); go_simp; try with_reducible rfl)
                try simp only [Act.put, List.setIfInBounds_toArray, List.set_cons_zero, List.set_cons_succ, List.getElem_toArray, List.getElem_cons_zero, List.getElem_cons_succ]
                refine wpAnyH_take (i := 6) (v := ?vp6) rfl (by kernel_rfl) (by kernel_rfl) (by kernel_rfl) (fun _ _ _ h => h) (Or.inl ⟨by rfl, ?yp6⟩) (by assumption) ?rp6
                case yp6 => (intro w hSw; (try dsimp only at hSw); go_simp; try with_reducible rfl)
                try simp only [Act.put, List.setIfInBounds_toArray, List.set_cons_zero, List.set_cons_succ, List.getElem_toArray, List.getElem_cons_zero, List.getElem_cons_succ]
                refine wpAnyH_take (i := 7) (v := ?vp7) rfl (by kernel_rfl) (by kernel_rfl) (by kernel_rfl) (fun _ _ _ h => h) (Or.inl ⟨by rfl, ?yp7⟩) (by assumption) ?rp7
                case yp7 => (intro w hSw; (try dsimp only at hSw); go_simp; try with_reducible rfl)
                try simp only [Act.put, List.setIfInBounds_toArray, List.set_cons_zero, List.set_cons_succ, List.getElem_toArray, List.getElem_cons_zero, List.getElem_cons_succ]
                refine wpAnyH_take (i := 8) (v := ?vp8) rfl (by kernel_rfl) (by kernel_rfl) (by kernel_rfl) (fun _ _ _ h => h) (Or.inl ⟨by rfl, ?yp8⟩) (by assumption) ?rp8
                case yp8 => (intro w hSw; (try dsimp only at hSw); go_simp; try with_reducible rfl)
                try simp only [Act.put, List.setIfInBounds_toArray, List.set_cons_zero, List.set_cons_succ, List.getElem_toArray, List.getElem_cons_zero, List.getElem_cons_succ]
                refine wpAnyH_take (i := 9) (v := ?vp9) rfl (by kernel_rfl) (by kernel_rfl) (by kernel_rfl) (fun _ _ _ h => h) (Or.inl ⟨by rfl, ?yp9⟩) (by assumption) ?rp9
                case yp9 => (intro w hSw; (try dsimp only at hSw); go_simp; try with_reducible rfl)
                try simp only [Act.put, List.setIfInBounds_toArray, List.set_cons_zero, List.set_cons_succ, List.getElem_toArray, List.getElem_cons_zero, List.getElem_cons_succ]
                refine wpAnyH_take (i := 10) (v := ?vp10) rfl (by kernel_rfl) (by kernel_rfl) (by kernel_rfl) (fun _ _ _ h => h) (Or.inl ⟨by rfl, ?yp10⟩) (by assumption) ?rp10
                case yp10 => (intro w hSw; (try dsimp only at hSw); go_simp; try with_reducible rfl)
                try simp only [Act.put, List.setIfInBounds_toArray, List.set_cons_zero, List.set_cons_succ, List.getElem_toArray, List.getElem_cons_zero, List.getElem_cons_succ]
                refine wpAnyH_ready (rs := [11, 15]) (by kernel_rfl) (by simp) ?_
                refine AllReadyH.cons rfl (fun K hK => ?_) (AllReadyH.cons rfl (fun K hK => ?_) AllReadyH.nil)
                · skip
                  go_simp
                  go_at_call 16
                  refine (hat _ (Below.refl _ _).drew).mono ?_
                  rintro e wq ⟨rfl, hbq⟩
                  have gq := keepDep hbq g0
                  have HBQ : Hid (Below wr.heap.size wr wq) := Lib.hid (bstep (Below.refl _ _).drew hbq)
                  clear hbq
                  go_wp2_with fail
                  refine hK.out _ _ (gq) (fun hHeld => ?_)
                  clear hK K
                  try simp only [Act.put, List.setIfInBounds_toArray, List.set_cons_zero, List.set_cons_succ, List.getElem_toArray, List.getElem_cons_zero, List.getElem_cons_succ]
                  refine wpAnyH_take (i := 12) (v := ?vpa12) rfl (by kernel_rfl) (by kernel_rfl) (by kernel_rfl) (fun _ _ _ h => h) (Or.inl ⟨by rfl, ?ypa12⟩) (by assumption) ?rpa12
                  case ypa12 => (intro w hSw; (try dsimp only at hSw); go_simp; try with_reducible rfl)
                  try simp only [Act.put, List.setIfInBounds_toArray, List.set_cons_zero, List.set_cons_succ, List.getElem_toArray, List.getElem_cons_zero, List.getElem_cons_succ]
                  refine wpAnyH_take (i := 13) (v := ?vpa13) rfl (by kernel_rfl) (by kernel_rfl) (by kernel_rfl) (fun _ _ _ h => h) (Or.inl ⟨by rfl, ?ypa13⟩) (by assumption) ?rpa13
                  case ypa13 => (intro w hSw; (try dsimp only at hSw); go_simp; try with_reducible rfl)
                  try simp only [Act.put, List.setIfInBounds_toArray, List.set_cons_zero, List.set_cons_succ, List.getElem_toArray, List.getElem_cons_zero, List.getElem_cons_succ]
                  refine wpAnyH_take (i := 14) (v := ?vpa14) rfl (by kernel_rfl) (by kernel_rfl) (by kernel_rfl) (fun _ _ _ h => h) (Or.inl ⟨by rfl, ?ypa14⟩) (by assumption) ?rpa14
                  case ypa14 => (intro w hSw; (try dsimp only at hSw); go_simp; try with_reducible rfl)
                  try simp only [Act.put, List.setIfInBounds_toArray, List.set_cons_zero, List.set_cons_succ, List.getElem_toArray, List.getElem_cons_zero, List.getElem_cons_succ]
                  refine wpAnyH_ready (rs := [15]) (by kernel_rfl) (by simp) ?_
                  refine AllReadyH.cons rfl (fun K hK => ?_) AllReadyH.nil
                  have g5 := allocDep gq (.cells (wvs wz (.slice none 0 0)) 32)
                  go_simp
                  refine hK.out _ _ (g5) (fun hHeld => ?_)
                  clear hK K
                  try simp only [Act.put, List.setIfInBounds_toArray, List.set_cons_zero, List.set_cons_succ, List.getElem_toArray, List.getElem_cons_zero, List.getElem_cons_succ]
                  refine wpAnyH_ready (rs := [16]) (by kernel_rfl) (by simp) ?_
                  refine AllReadyH.cons rfl (fun K hK => ?_) AllReadyH.nil
                  have HFIN := Lib.hid (show ∃ B, Value.pointer (some ⟨wq.heap.size, 0, none⟩) = .pointer (some ⟨B, 0, none⟩) ∧ wr.heap.size ≤ B ∧ VwP (wq.alloc (.cells (wvs ⟨yk, yv, yg, (ym, yt), yp⟩ (.slice ya yp.length yc)) 32)) B ⟨yk, yv, yg, (ym, yt), yp⟩ (.slice ya yp.length yc) ∧ Below wr.heap.size wr (wq.alloc (.cells (wvs ⟨yk, yv, yg, (ym, yt), yp⟩ (.slice ya yp.length yc)) 32)) from ⟨_, rfl, HBQ.out.size, VwP.new wq ⟨yk, yv, yg, (ym, yt), yp⟩ (.slice ya yp.length yc) 32, bstep HBQ.out (balloc (Below.refl _ _) _)⟩)
                  go_simp
                  refine hK.out _ _ (allocDep gq _) (fun hHeld => ?_)
                  clear hK K
                  try simp only [Act.put, List.setIfInBounds_toArray, List.set_cons_zero, List.set_cons_succ, List.getElem_toArray, List.getElem_cons_zero, List.getElem_cons_succ]
                  refine wpAnyH_take (i := 17) (v := ?vpa17) rfl (by kernel_rfl) (by kernel_rfl) (by kernel_rfl) (fun _ _ _ h => h) (Or.inl ⟨by rfl, ?ypa17⟩) (by assumption) ?rpa17
                  case ypa17 => (intro w hSw; (try dsimp only at hSw); go_simp; try with_reducible rfl)
                  try simp only [Act.put, List.setIfInBounds_toArray, List.set_cons_zero, List.set_cons_succ, List.getElem_toArray, List.getElem_cons_zero, List.getElem_cons_succ]
                  refine wpAnyH_done (by kernel_rfl) ?_ _
                  go_wp2
                  go_meet
                  obtain ⟨B, e1, e2, e3, e4⟩ := HFIN.out
                  exact ⟨B, e1, rfl, e2, e3, e4⟩
                · skip
                  have g5 := allocDep g0 (.cells (wvs wz (.slice none 0 0)) 32)
                  have HVB : Hid (VwP (wr.drew.alloc (.cells (wvs wz (.slice none 0 0)) 32)) wr.heap.size wz (.slice none 0 0)) := Lib.hid (VwP.new wr.drew wz (.slice none 0 0) 32)
                  obtain ⟨BB, hBB⟩ : ∃ BB, BB = wr.heap.size := ⟨_, rfl⟩
                  rw [← hBB] at HVB
                  have HBW : Hid (Below wr.heap.size wr (wr.drew.alloc (.cells (wvs wz (.slice none 0 0)) 32))) := Lib.hid (bstep (Below.refl _ _).drew (balloc (Below.refl _ wr.drew) (.cells (wvs wz (.slice none 0 0)) 32)))
                  have HBL : Hid (wr.heap.size ≤ BB) := Lib.hid (by omega)
                  have HDL : Hid (db < wr.heap.size) := Lib.hid (lt_of_cellN g0.1)
                  go_simp
                  refine hK.out _ _ (g5) (fun hHeld => ?_)
                  clear hK K
                  try simp only [Act.put, List.setIfInBounds_toArray, List.set_cons_zero, List.set_cons_succ, List.getElem_toArray, List.getElem_cons_zero, List.getElem_cons_succ]
                  obtain ⟨w5, hw5⟩ : ∃ w5, (wr.alloc (.cells (wvs wz (.slice none 0 0)) 32)).drew = w5 := ⟨_, rfl⟩
                  have hw6 : wr.drew.alloc (.cells (wvs wz (.slice none 0 0)) 32) = w5 := hw5
                  rw [hw6] at g5 HVB HBW
                  clear hw6
                  try rw [← hBB]
                  try dsimp only [wvs, wz] at hw5
                  try rw [hw5]
                  clear hw5 hBB
                  refine wpAnyH_ready (rs := [11]) (by kernel_rfl) (by simp) ?_
                  refine AllReadyH.cons rfl (fun K hK => ?_) AllReadyH.nil
                  go_simp
                  go_at_call 16
                  refine (hat _ HBW.out).mono ?_
                  rintro e wq ⟨rfl, hbq⟩
                  have gq := keepDep hbq g5
                  have HBW := Lib.hid (bstep HBW.out hbq)
                  have HVB := Lib.hid (HVB.out.keep hbq)
                  clear hbq
                  go_wp2_with fail
                  refine hK.out _ _ (gq) (fun hHeld => ?_)
                  clear hK K
                  try simp only [Act.put, List.setIfInBounds_toArray, List.set_cons_zero, List.set_cons_succ, List.getElem_toArray, List.getElem_cons_zero, List.getElem_cons_succ]
                  refine wpAnyH_take (i := 12) (v := ?vpb12) rfl (by kernel_rfl) (by kernel_rfl) (by kernel_rfl) (fun _ _ _ h => h) (Or.inl ⟨by rfl, ?ypb12⟩) (by assumption) ?rpb12
                  case ypb12 => (intro w hSw; (try dsimp only at hSw); go_simp; try with_reducible rfl)
                  try simp only [Act.put, List.setIfInBounds_toArray, List.set_cons_zero, List.set_cons_succ, List.getElem_toArray, List.getElem_cons_zero, List.getElem_cons_succ]
                  refine wpAnyH_take (i := 13) (v := ?vpb13) rfl (by kernel_rfl) (by kernel_rfl) (by kernel_rfl) (fun _ _ _ h => h) (Or.inl ⟨by rfl, ?ypb13⟩) (by assumption) ?rpb13
                  case ypb13 => (intro w hSw; (try dsimp only at hSw); go_simp; try with_reducible rfl)
                  try simp only [Act.put, List.setIfInBounds_toArray, List.set_cons_zero, List.set_cons_succ, List.getElem_toArray, List.getElem_cons_zero, List.getElem_cons_succ]
                  refine wpAnyH_take (i := 14) (v := ?vpb14) rfl (by kernel_rfl) (by kernel_rfl) (by kernel_rfl) (fun _ _ _ h => h) (Or.inl ⟨by rfl, ?ypb14⟩) (by assumption) ?rpb14
                  case ypb14 => (intro w hSw; (try dsimp only at hSw); go_simp; try with_reducible rfl)
                  try simp only [Act.put, List.setIfInBounds_toArray, List.set_cons_zero, List.set_cons_succ, List.getElem_toArray, List.getElem_cons_zero, List.getElem_cons_succ]
                  refine wpAnyH_ready (rs := [16]) (by kernel_rfl) (by simp) ?_
                  refine AllReadyH.cons rfl (fun K hK => ?_) AllReadyH.nil
                  obtain ⟨z0, z1, z2, z3, z4, z5, zf⟩ := HVB.out
                  have zf0 := zf 0 (by decide)
                  have zf1 := zf 1 (by decide)
                  have zf2 := zf 2 (by decide)
                  have zf3 := zf 3 (by decide)
                  have zf4 := zf 4 (by decide)
                  have zf5 := zf 5 (by decide)
                  dsimp only [wz] at z0 z1 z2 z3 z4 z5
                  have HFIN := Lib.hid (show ∃ B, Value.pointer (some ⟨BB, 0, none⟩) = .pointer (some ⟨B, 0, none⟩) ∧ wr.heap.size ≤ B ∧ VwP (World.putw wq BB ⟨yk, yv, yg, (ym, yt), yp⟩ (.slice ya yp.length yc)) B ⟨yk, yv, yg, (ym, yt), yp⟩ (.slice ya yp.length yc) ∧ Below wr.heap.size wr (World.putw wq BB ⟨yk, yv, yg, (ym, yt), yp⟩ (.slice ya yp.length yc)) from ⟨_, rfl, HBL.out, HVB.out.putw ⟨yk, yv, yg, (ym, yt), yp⟩ (.slice ya yp.length yc), below_putw HBW.out HBL.out ⟨yk, yv, yg, (ym, yt), yp⟩ (.slice ya yp.length yc)⟩)
                  have hne6 : db ≠ BB := by have := HBL.out; have := HDL.out; omega
                  have g6 := putDep hne6 gq ⟨yk, yv, yg, (ym, yt), yp⟩ (.slice ya yp.length yc)
                  dsimp only [World.putw, wz] at g6
                  clear zf
                  go_simp
                  refine hK.out _ _ (g6) (fun hHeld => ?_)
                  clear hK K
                  try simp only [Act.put, List.setIfInBounds_toArray, List.set_cons_zero, List.set_cons_succ, List.getElem_toArray, List.getElem_cons_zero, List.getElem_cons_succ]
                  refine wpAnyH_take (i := 17) (v := ?vpb17) rfl (by kernel_rfl) (by kernel_rfl) (by kernel_rfl) (fun _ _ _ h => h) (Or.inl ⟨by rfl, ?ypb17⟩) (by assumption) ?rpb17
                  case ypb17 => (intro w hSw; (try dsimp only at hSw); go_simp; try with_reducible rfl)
                  try simp only [Act.put, List.setIfInBounds_toArray, List.set_cons_zero, List.set_cons_succ, List.getElem_toArray, List.getElem_cons_zero, List.getElem_cons_succ]
                  refine wpAnyH_done (by kernel_rfl) ?_ _
                  go_wp2
                  go_meet
                  obtain ⟨B, e1, e2, e3, e4⟩ := HFIN.out
                  exact ⟨B, e1, rfl, e2, e3, e4⟩
              case rest =>
                obtain ⟨B, rfl, rfl, hBl, hY, hbx⟩ := hcut
                obtain ⟨wX, hwX⟩ : ∃ wX, wX = wc := ⟨_, rfl⟩
                subst hwX
                obtain ⟨x0, x1, x2, x3, x4, x5, _⟩ := hY
                dsimp only at x0 x1 x2 x3 x4 x5
                have HOX := Lib.hid (HOW.out.below hbx)
                have HBX := Lib.hid (HBS.out.below hbx)
                have HMX := Lib.hid (HMV.out.step hbx)
                have hsx : w5.heap.size ≤ wX.heap.size := by have := HMX.out.size; exact this
                clear hat g0 hbx
                have hB6 : ∀ w6, KeptD (.slice sa acc.length sc) wX w6 → wX.heap.size ≤ w6.heap.size → BoolS w6 w4.heap.size (fun j => decide (j < k) && isV F (P.getD j (⟨#[]⟩, 0, 0))) := fun w6 hk hs => HBX.out.block (hk _ HBX.out.lt (HOX.out.lo (by have := HZ5.out; omega))) hs
                have HB6 := Lib.hid hB6
                clear hB6
                go_wp2_with (at_builtin; refine wp_pushR kw_ok (wr := wX) rfl _ _ rfl w5.heap.size (.slice sa acc.length sc) acc (⟨yk, yv, yg, (ym, yt), yp⟩, ya, yc) #[.string yk, .string yv, .bool yg, .int .i64 ym, .int .i64 yt, .slice ya yp.length yc] rfl rfl HOX.out rfl (by have := HLK.out; omega) hsx ?_; intro g gcap w6 ho6 hb6 hkd6 hg6 hgl6; have hBX6 := HB6.out w6 hkd6 (by have := hb6.size; exact this); have s0 := hBX6.c k hk6; have sf := hBX6.f k hk6)
                go_roundw
                case rel => exact ⟨k + 1, by omega, by go_num, by
                    rw [HTK.out]
                    exact ho6.block (fun g' hg' => Below.heap_setCell _ _ _ _ (fun e => by have h1 := (ho6.lt g' hg').1; have h2 := HZ5.out; have h3 : g' = w4.heap.size := e; omega)), (hBX6.set hk6 isd).cong (fun j hj => by
                    by_cases e : j = k
                    · subst e
                      rw [if_pos rfl, HGD.out, HII.out]
                      simp
                    · rw [if_neg e]
                      have : decide (j < k + 1) = decide (j < k) := by simp; omega
                      rw [this]), (HMX.out.low hb6).set rfl _⟩
                case measure => simp [intOf]; omega
            · obtain rfl : k = P.length := by omega
              have hki : ¬ (P.length : Int) < (P.length : Int) := by omega
              rw [List.take_length] at HOW
              rw [List.length_map] at HOW
              have hbx : Below wR.heap.size wR wr := HB5.out.trans (HMV.out.below (n := wR.heap.size) (fun j hj e => by have := HB4.out.size; omega) HB5.out.size)
              have HSX := Lib.hid (HS0.out.more hbx)
              have HBX := Lib.hid hbx
              obtain ⟨wL, hwL⟩ : ∃ wL, wL = wr := ⟨_, rfl⟩
              subst hwL
              clear hbx
              obtain ⟨m, hm⟩ : ∃ m : Int, bits .and .i64 n 31 = m ∧ In64 (m, 0) := ⟨n % 32, and31S n, by unfold In64; dsimp only; omega⟩
              obtain ⟨hm, hm64⟩ := hm
              have hcl := lclean_any HSX.out (by omega) (fun d => by have := HFL.out d; omega) (m, 0) (.slice pa P.length pc) P (by omega) HPZ.out (HP.out.below HBR.out)
              have HHAD : Hid (OwnD wL wR.heap.size (.slice a4 (haveL F L).length c4) (haveL F L)) := Lib.hid (World.ownsRow_blockS HO5.out (fun g hg => HMV.out.block g (HO5.out.lt g hg).2 (fun e => by
                have h1 := (HO4.out.lt g hg).2
                omega)))
              have HE1 : Hid (∀ d ∈ P, lastP (isS d.2) (cleanF F (m, 0) P d.1) = lastP (isS d.2) (F d.1)) := Lib.hid (fun d hd => clean_pin hd)
              have HE2 : Hid (KeyL (cleanF F (m, 0) P) L ∧ haveL (cleanF F (m, 0) P) L = haveL F L) := Lib.hid ⟨clean_kl HKL.out, clean_have L⟩
              have HFL2 := Lib.hid (cleanF_len (s := (m, 0)) (pins := P) HFL.out)
              generalize hF' : cleanF F (m, 0) P = F' at hcl HE1 HE2 HFL2
              clear hF'
              go_wp2_with fail
              refine hcl.mono ?_
              rintro e wC ⟨rfl, hsC, hwC⟩
              have HZQ : Hid (w.heap.size ≤ wR.heap.size ∧ wR.heap.size ≤ w4.heap.size ∧ w4.heap.size < w5.heap.size ∧ w5.heap.size ≤ wL.heap.size ∧ wL.heap.size ≤ wC.heap.size) := Lib.hid ⟨HBW.out.size, HB4.out.size, by have := HZ5.out; omega, HMV.out.size, hwC.size⟩
              have HSC := Lib.hid hsC
              have HBC : Hid (Below w.heap.size w wC) := Lib.hid (HBR.out.trans (hwC.below (fun j hj => .inl (HAW.out j hj)) (by have := HZQ.out; omega)))
              have HRW : Hid (WRow wC (.slice sa P.length sc) (P.map (atV F))) := Lib.hid (WRow.of_own (by
                have h := hwC.own HOW.out (fun j hj hlt => .inr ⟨by have := HZQ.out; omega, hlt⟩)
                exact h) (fun x hx => by
                obtain ⟨d, hd, rfl⟩ := List.mem_map.1 hx
                exact lastP_bd (HFB.out wC d.1)))
              have HBS2 : Hid (BoolS wC w4.heap.size (fun j => decide (j < P.length) && isV F (P.getD j (⟨#[]⟩, 0, 0)))) := Lib.hid (HBS.out.block (hwC.block _ (by have := HZQ.out; omega) (fun hn => hn (.inr ⟨by have := HZQ.out; omega, by have := HZQ.out; omega⟩))) hwC.size)
              have HHC : Hid (DepAt wC (.slice a4 (haveL F L).length c4) (haveL F L)) := Lib.hid (DepAt.of_own (World.ownsRow_blockS HHAD.out (fun g hg => hwC.block g (HHAD.out.lt g hg).2 (fun hn => hn (.inr ⟨(HHAD.out.lt g hg).1, (HHAD.out.lt g hg).2⟩)))))
              clear hsC hwC hcl hm64
              go_wp2
              go_loopw [16] (fun i wx => ∃ k : Nat, k ≤ P.length ∧ i = .int .i64 k ∧ Below wC.heap.size wC wx) (fun i _ => P.length - (intOf i).toNat)
              case atStart => exact ⟨0, by omega, rfl, Below.refl _ _⟩
              case round =>
                obtain ⟨k, hk, rfl, hbk⟩ := hrel
                have HBK := Lib.hid hbk
                have HBF : Hid (Below w.heap.size w wr) := Lib.hid (bstep HBC.out hbk)
                clear hbk
                by_cases hlt : k < P.length
                · have hki : (k : Int) < (P.length : Int) := by omega
                  have hk6 : k < 6 := by omega
                  have hk6i : (k : Int) < 6 := by omega
                  obtain ⟨a', c', e', _, _, _, hdi⟩ := HP.out.below HBF.out
                  cases e'
                  obtain ⟨db, doff, rfl, hbl, d0, d1, d2⟩ := hdi k hlt
                  obtain ⟨rb, roff, rfl, hrbl, hq, _⟩ := (HRW.out.below HBK.out).at k (by rw [List.length_map]; exact hlt)
                  rw [List.getElem_map] at hq
                  have HGD : Hid (P.getD k (⟨#[]⟩, 0, 0) = P[k]) := Lib.hid (by rw [List.getD_eq_getElem?_getD, List.getElem?_eq_getElem hlt]; rfl)
                  have HDD := Lib.hid (HPZ.out _ (List.getElem_mem hlt))
                  have hE1 := HE1.out _ (List.getElem_mem hlt)
                  generalize P[k] = d at d0 d1 d2 HGD HDD hq hE1
                  obtain ⟨dk, dn, ds⟩ := d
                  dsimp only at d0 d1 d2 hE1
                  have hat := fun W (h : Below wr.heap.size wr W) => lat_any ((HSC.out.below HBK.out).below h) dk (dn, ds) HDD.out.1 (by have := HFL2.out dk; omega)
                  rw [hE1] at hat
                  have HYE : Hid ((lastP (isS (dn, ds)) (F dk)).getD vw0 = atV F (dk, dn, ds)) := Lib.hid rfl
                  have HIE : Hid ((lastP (isS (dn, ds)) (F dk)).isSome = isV F (dk, dn, ds)) := Lib.hid rfl
                  have HYB : Hid (∀ W, VwB W (atV F (dk, dn, ds))) := Lib.hid (fun W => lastP_bd (HFB.out W dk))
                  rw [HYE.out, HIE.out] at hat
                  obtain ⟨s0, sf⟩ := And.intro ((HBS2.out.below HBK.out).c k hk6) True.intro
                  rw [HGD.out] at s0
                  have hdk : decide (k < P.length) = true := by simpa using hlt
                  rw [hdk, Bool.true_and] at s0
                  generalize atV F (dk, dn, ds) = Y at hat HYE HYB hq
                  generalize isV F (dk, dn, ds) = isd at hat HIE s0
                  have hsW := fun W => refWSameB_any Y.1 Y.1 (pw Y) (pw Y) W (HYB.out W).1 (HYB.out W).1
                  rw [sameW_self] at hsW
                  obtain ⟨⟨yk, yv, yg, ⟨ym, yt⟩, yp⟩, ya, yc⟩ := Y
                  obtain ⟨q0, q1, q2, q3, q4, q5⟩ := hq
                  dsimp only [wV, wcs, wvs, pw] at hat hsW q0 q1 q2 q3 q4 q5
                  have g0 : wr.drew.cell? ⟨db, doff + k * 3, none⟩ = some (.string dk) ∧ wr.drew.cell? ⟨db, doff + k * 3 + 1, none⟩ = some (.int .i64 dn) ∧ wr.drew.cell? ⟨db, doff + k * 3 + 2, none⟩ = some (.int .i64 ds) := ⟨d0, d1, d2⟩
                  have HQ := Lib.hid (And.intro q0 (And.intro q1 (And.intro q2 (And.intro q3 (And.intro q4 q5)))))
                  have HS0C := Lib.hid s0
                  clear hE1 d0 d1 d2 q0 q1 q2 q3 q4 q5 s0 sf hdk hbl hrbl hdi
                  go_upto_region 24 with fail
                  go_cut [17, 18] (fun s14 s15 wx => ∃ B, s14 = .pointer (some ⟨B, 0, none⟩) ∧ s15 = .bool isd ∧ wr.heap.size ≤ B ∧ VwP wx B ⟨yk, yv, yg, (ym, yt), yp⟩ (.slice ya yp.length yc) ∧ Below wr.heap.size wr wx)
                  case first =>
                    refine wp_region_held_drew (S := fun w' => w'.cell? ⟨db, doff + k * 3, none⟩ = some (.string dk) ∧ w'.cell? ⟨db, doff + k * 3 + 1, none⟩ = some (.int .i64 dn) ∧ w'.cell? ⟨db, doff + k * 3 + 2, none⟩ = some (.int .i64 ds)) (by kernel_rfl) (g0) (fun hHeld => ?_)
                    refine wpAnyH_take (i := 0) (v := ?vu0) rfl (by kernel_rfl) (by kernel_rfl) (by kernel_rfl) (fun _ _ _ h => h) (Or.inl ⟨by rfl, ?yu0⟩) (by assumption) ?ru0
                    case yu0 => (intro w hSw; (try dsimp only at hSw); go_simp; try with_reducible rfl)
                    try simp only [Act.put, List.setIfInBounds_toArray, List.set_cons_zero, List.set_cons_succ, List.getElem_toArray, List.getElem_cons_zero, List.getElem_cons_succ]
                    refine wpAnyH_take (i := 1) (v := ?vu1) rfl (by kernel_rfl) (by kernel_rfl) (by kernel_rfl) (fun _ _ _ h => h) (Or.inl ⟨by rfl, ?yu1⟩) (by assumption) ?ru1
                    case yu1 => (intro w hSw; (try dsimp only at hSw); go_simp; try with_reducible rfl)
                    try simp only [Act.put, List.setIfInBounds_toArray, List.set_cons_zero, List.set_cons_succ, List.getElem_toArray, List.getElem_cons_zero, List.getElem_cons_succ]
                    refine wpAnyH_take (i := 2) (v := ?vu2) rfl (by kernel_rfl) (by kernel_rfl) (by kernel_rfl) (fun _ _ _ h => h) (Or.inl ⟨by rfl, ?yu2⟩) (by assumption) ?ru2
                    case yu2 => (intro w hSw; (try dsimp only at hSw); go_simp; try with_reducible rfl)
                    try simp only [Act.put, List.setIfInBounds_toArray, List.set_cons_zero, List.set_cons_succ, List.getElem_toArray, List.getElem_cons_zero, List.getElem_cons_succ]
                    refine wpAnyH_take (i := 3) (v := ?vu3) rfl (by kernel_rfl) (by kernel_rfl) (by kernel_rfl) (fun _ _ _ h => h) (Or.inl ⟨by rfl, ?yu3⟩) (by assumption) ?ru3
                    case yu3 => (intro w hSw; (try dsimp only at hSw); go_simp; try with_reducible rfl)
                    try simp only [Act.put, List.setIfInBounds_toArray, List.set_cons_zero, List.set_cons_succ, List.getElem_toArray, List.getElem_cons_zero, List.getElem_cons_succ]
                    refine wpAnyH_take (i := 4) (v := ?vu4) rfl (by kernel_rfl) (by kernel_rfl) (by kernel_rfl) (fun _ _ _ h => h) (Or.inl ⟨by rfl, ?yu4⟩) (by assumption) ?ru4
                    case yu4 => (intro w hSw; (try dsimp only at hSw); go_simp; try with_reducible rfl)
                    try simp only [Act.put, List.setIfInBounds_toArray, List.set_cons_zero, List.set_cons_succ, List.getElem_toArray, List.getElem_cons_zero, List.getElem_cons_succ]
                    refine wpAnyH_take (i := 5) (v := ?vu5) rfl (by kernel_rfl) (by kernel_rfl) (by kernel_rfl) (fun _ _ _ h => h) (Or.inl ⟨by rfl, ?yu5⟩) (by assumption) ?ru5
                    case yu5 => (intro w hSw; (try dsimp only at hSw); go_simp; try with_reducible rfl)
                    try simp only [Act.put, List.setIfInBounds_toArray, List.set_cons_zero, List.set_cons_succ, List.getElem_toArray, List.getElem_cons_zero, List.getElem_cons_succ]
                    refine wpAnyH_take (i := 6) (v := ?vu6) rfl (by kernel_rfl) (by kernel_rfl) (by kernel_rfl) (fun _ _ _ h => h) (Or.inl ⟨by rfl, ?yu6⟩) (by assumption) ?ru6
                    case yu6 => (intro w hSw; (try dsimp only at hSw); go_simp; try with_reducible rfl)
                    try simp only [Act.put, List.setIfInBounds_toArray, List.set_cons_zero, List.set_cons_succ, List.getElem_toArray, List.getElem_cons_zero, List.getElem_cons_succ]
                    refine wpAnyH_take (i := 7) (v := ?vu7) rfl (by kernel_rfl) (by kernel_rfl) (by kernel_rfl) (fun _ _ _ h => h) (Or.inl ⟨by rfl, ?yu7⟩) (by assumption) ?ru7
                    case yu7 => (intro w hSw; (try dsimp only at hSw); go_simp; try with_reducible rfl)
                    try simp only [Act.put, List.setIfInBounds_toArray, List.set_cons_zero, List.set_cons_succ, List.getElem_toArray, List.getElem_cons_zero, List.getElem_cons_succ]
                    refine wpAnyH_take (i := 8) (v := ?vu8) rfl (by kernel_rfl) (by kernel_rfl) (by kernel_rfl) (fun _ _ _ h => h) (Or.inl ⟨by rfl, ?yu8⟩) (by assumption) ?ru8
                    case yu8 => (intro w hSw; (try dsimp only at hSw); go_simp; try with_reducible rfl)
                    try simp only [Act.put, List.setIfInBounds_toArray, List.set_cons_zero, List.set_cons_succ, List.getElem_toArray, List.getElem_cons_zero, List.getElem_cons_succ]
                    refine wpAnyH_take (i := 9) (v := ?vu9) rfl (by kernel_rfl) (by kernel_rfl) (by kernel_rfl) (fun _ _ _ h => h) (Or.inl ⟨by rfl, ?yu9⟩) (by assumption) ?ru9
                    case yu9 => (intro w hSw; (try dsimp only at hSw); go_simp; try with_reducible rfl)
                    try simp only [Act.put, List.setIfInBounds_toArray, List.set_cons_zero, List.set_cons_succ, List.getElem_toArray, List.getElem_cons_zero, List.getElem_cons_succ]
                    refine wpAnyH_take (i := 10) (v := ?vu10) rfl (by kernel_rfl) (by kernel_rfl) (by kernel_rfl) (fun _ _ _ h => h) (Or.inl ⟨by rfl, ?yu10⟩) (by assumption) ?ru10
                    case yu10 => (intro w hSw; (try dsimp only at hSw); go_simp; try with_reducible rfl)
                    try simp only [Act.put, List.setIfInBounds_toArray, List.set_cons_zero, List.set_cons_succ, List.getElem_toArray, List.getElem_cons_zero, List.getElem_cons_succ]
                    refine wpAnyH_ready (rs := [11, 15]) (by kernel_rfl) (by simp) ?_
                    refine AllReadyH.cons rfl (fun K hK => ?_) (AllReadyH.cons rfl (fun K hK => ?_) AllReadyH.nil)
                    · skip
                      go_simp
                      go_at_call 16
                      refine (hat _ (Below.refl _ _).drew).mono ?_
                      rintro e wq ⟨rfl, hbq⟩
                      have gq := keepDep hbq g0
                      have HBQ : Hid (Below wr.heap.size wr wq) := Lib.hid (bstep (Below.refl _ _).drew hbq)
                      clear hbq
                      go_wp2_with fail
                      refine hK.out _ _ (gq) (fun hHeld => ?_)
                      clear hK K
                      try simp only [Act.put, List.setIfInBounds_toArray, List.set_cons_zero, List.set_cons_succ, List.getElem_toArray, List.getElem_cons_zero, List.getElem_cons_succ]
                      refine wpAnyH_take (i := 12) (v := ?vua12) rfl (by kernel_rfl) (by kernel_rfl) (by kernel_rfl) (fun _ _ _ h => h) (Or.inl ⟨by rfl, ?yua12⟩) (by assumption) ?rua12
                      case yua12 => (intro w hSw; (try dsimp only at hSw); go_simp; try with_reducible rfl)
                      try simp only [Act.put, List.setIfInBounds_toArray, List.set_cons_zero, List.set_cons_succ, List.getElem_toArray, List.getElem_cons_zero, List.getElem_cons_succ]
                      refine wpAnyH_take (i := 13) (v := ?vua13) rfl (by kernel_rfl) (by kernel_rfl) (by kernel_rfl) (fun _ _ _ h => h) (Or.inl ⟨by rfl, ?yua13⟩) (by assumption) ?rua13
                      case yua13 => (intro w hSw; (try dsimp only at hSw); go_simp; try with_reducible rfl)
                      try simp only [Act.put, List.setIfInBounds_toArray, List.set_cons_zero, List.set_cons_succ, List.getElem_toArray, List.getElem_cons_zero, List.getElem_cons_succ]
                      refine wpAnyH_take (i := 14) (v := ?vua14) rfl (by kernel_rfl) (by kernel_rfl) (by kernel_rfl) (fun _ _ _ h => h) (Or.inl ⟨by rfl, ?yua14⟩) (by assumption) ?rua14
                      case yua14 => (intro w hSw; (try dsimp only at hSw); go_simp; try with_reducible rfl)
                      try simp only [Act.put, List.setIfInBounds_toArray, List.set_cons_zero, List.set_cons_succ, List.getElem_toArray, List.getElem_cons_zero, List.getElem_cons_succ]
                      refine wpAnyH_ready (rs := [15]) (by kernel_rfl) (by simp) ?_
                      refine AllReadyH.cons rfl (fun K hK => ?_) AllReadyH.nil
                      have g5 := allocDep gq (.cells (wvs wz (.slice none 0 0)) 32)
                      go_simp
                      refine hK.out _ _ (g5) (fun hHeld => ?_)
                      clear hK K
                      try simp only [Act.put, List.setIfInBounds_toArray, List.set_cons_zero, List.set_cons_succ, List.getElem_toArray, List.getElem_cons_zero, List.getElem_cons_succ]
                      refine wpAnyH_ready (rs := [16]) (by kernel_rfl) (by simp) ?_
                      refine AllReadyH.cons rfl (fun K hK => ?_) AllReadyH.nil
                      have HFIN := Lib.hid (show ∃ B, Value.pointer (some ⟨wq.heap.size, 0, none⟩) = .pointer (some ⟨B, 0, none⟩) ∧ wr.heap.size ≤ B ∧ VwP (wq.alloc (.cells (wvs ⟨yk, yv, yg, (ym, yt), yp⟩ (.slice ya yp.length yc)) 32)) B ⟨yk, yv, yg, (ym, yt), yp⟩ (.slice ya yp.length yc) ∧ Below wr.heap.size wr (wq.alloc (.cells (wvs ⟨yk, yv, yg, (ym, yt), yp⟩ (.slice ya yp.length yc)) 32)) from ⟨_, rfl, HBQ.out.size, VwP.new wq ⟨yk, yv, yg, (ym, yt), yp⟩ (.slice ya yp.length yc) 32, bstep HBQ.out (balloc (Below.refl _ _) _)⟩)
                      go_simp
                      refine hK.out _ _ (allocDep gq _) (fun hHeld => ?_)
                      clear hK K
                      try simp only [Act.put, List.setIfInBounds_toArray, List.set_cons_zero, List.set_cons_succ, List.getElem_toArray, List.getElem_cons_zero, List.getElem_cons_succ]
                      refine wpAnyH_take (i := 17) (v := ?vua17) rfl (by kernel_rfl) (by kernel_rfl) (by kernel_rfl) (fun _ _ _ h => h) (Or.inl ⟨by rfl, ?yua17⟩) (by assumption) ?rua17
                      case yua17 => (intro w hSw; (try dsimp only at hSw); go_simp; try with_reducible rfl)
                      try simp only [Act.put, List.setIfInBounds_toArray, List.set_cons_zero, List.set_cons_succ, List.getElem_toArray, List.getElem_cons_zero, List.getElem_cons_succ]
                      refine wpAnyH_done (by kernel_rfl) ?_ _
                      go_wp2
                      go_meet
                      obtain ⟨B, e1, e2, e3, e4⟩ := HFIN.out
                      exact ⟨B, e1, rfl, e2, e3, e4⟩
                    · skip
                      have g5 := allocDep g0 (.cells (wvs wz (.slice none 0 0)) 32)
                      have HVB : Hid (VwP (wr.drew.alloc (.cells (wvs wz (.slice none 0 0)) 32)) wr.heap.size wz (.slice none 0 0)) := Lib.hid (VwP.new wr.drew wz (.slice none 0 0) 32)
                      obtain ⟨BB, hBB⟩ : ∃ BB, BB = wr.heap.size := ⟨_, rfl⟩
                      rw [← hBB] at HVB
                      have HBW : Hid (Below wr.heap.size wr (wr.drew.alloc (.cells (wvs wz (.slice none 0 0)) 32))) := Lib.hid (bstep (Below.refl _ _).drew (balloc (Below.refl _ wr.drew) (.cells (wvs wz (.slice none 0 0)) 32)))
                      have HBL : Hid (wr.heap.size ≤ BB) := Lib.hid (by omega)
                      have HDL : Hid (db < wr.heap.size) := Lib.hid (lt_of_cellN g0.1)
                      go_simp
                      refine hK.out _ _ (g5) (fun hHeld => ?_)
                      clear hK K
                      try simp only [Act.put, List.setIfInBounds_toArray, List.set_cons_zero, List.set_cons_succ, List.getElem_toArray, List.getElem_cons_zero, List.getElem_cons_succ]
                      obtain ⟨w5, hw5⟩ : ∃ w5, (wr.alloc (.cells (wvs wz (.slice none 0 0)) 32)).drew = w5 := ⟨_, rfl⟩
                      have hw6 : wr.drew.alloc (.cells (wvs wz (.slice none 0 0)) 32) = w5 := hw5
                      rw [hw6] at g5 HVB HBW
                      clear hw6
                      try rw [← hBB]
                      try dsimp only [wvs, wz] at hw5
                      try rw [hw5]
                      clear hw5 hBB
                      refine wpAnyH_ready (rs := [11]) (by kernel_rfl) (by simp) ?_
                      refine AllReadyH.cons rfl (fun K hK => ?_) AllReadyH.nil
                      go_simp
                      go_at_call 16
                      refine (hat _ HBW.out).mono ?_
                      rintro e wq ⟨rfl, hbq⟩
                      have gq := keepDep hbq g5
                      have HBW := Lib.hid (bstep HBW.out hbq)
                      have HVB := Lib.hid (HVB.out.keep hbq)
                      clear hbq
                      go_wp2_with fail
                      refine hK.out _ _ (gq) (fun hHeld => ?_)
                      clear hK K
                      try simp only [Act.put, List.setIfInBounds_toArray, List.set_cons_zero, List.set_cons_succ, List.getElem_toArray, List.getElem_cons_zero, List.getElem_cons_succ]
                      refine wpAnyH_take (i := 12) (v := ?vub12) rfl (by kernel_rfl) (by kernel_rfl) (by kernel_rfl) (fun _ _ _ h => h) (Or.inl ⟨by rfl, ?yub12⟩) (by assumption) ?rub12
                      case yub12 => (intro w hSw; (try dsimp only at hSw); go_simp; try with_reducible rfl)
                      try simp only [Act.put, List.setIfInBounds_toArray, List.set_cons_zero, List.set_cons_succ, List.getElem_toArray, List.getElem_cons_zero, List.getElem_cons_succ]
                      refine wpAnyH_take (i := 13) (v := ?vub13) rfl (by kernel_rfl) (by kernel_rfl) (by kernel_rfl) (fun _ _ _ h => h) (Or.inl ⟨by rfl, ?yub13⟩) (by assumption) ?rub13
                      case yub13 => (intro w hSw; (try dsimp only at hSw); go_simp; try with_reducible rfl)
                      try simp only [Act.put, List.setIfInBounds_toArray, List.set_cons_zero, List.set_cons_succ, List.getElem_toArray, List.getElem_cons_zero, List.getElem_cons_succ]
                      refine wpAnyH_take (i := 14) (v := ?vub14) rfl (by kernel_rfl) (by kernel_rfl) (by kernel_rfl) (fun _ _ _ h => h) (Or.inl ⟨by rfl, ?yub14⟩) (by assumption) ?rub14
                      case yub14 => (intro w hSw; (try dsimp only at hSw); go_simp; try with_reducible rfl)
                      try simp only [Act.put, List.setIfInBounds_toArray, List.set_cons_zero, List.set_cons_succ, List.getElem_toArray, List.getElem_cons_zero, List.getElem_cons_succ]
                      refine wpAnyH_ready (rs := [16]) (by kernel_rfl) (by simp) ?_
                      refine AllReadyH.cons rfl (fun K hK => ?_) AllReadyH.nil
                      obtain ⟨z0, z1, z2, z3, z4, z5, zf⟩ := HVB.out
                      have zf0 := zf 0 (by decide)
                      have zf1 := zf 1 (by decide)
                      have zf2 := zf 2 (by decide)
                      have zf3 := zf 3 (by decide)
                      have zf4 := zf 4 (by decide)
                      have zf5 := zf 5 (by decide)
                      dsimp only [wz] at z0 z1 z2 z3 z4 z5
                      have HFIN := Lib.hid (show ∃ B, Value.pointer (some ⟨BB, 0, none⟩) = .pointer (some ⟨B, 0, none⟩) ∧ wr.heap.size ≤ B ∧ VwP (World.putw wq BB ⟨yk, yv, yg, (ym, yt), yp⟩ (.slice ya yp.length yc)) B ⟨yk, yv, yg, (ym, yt), yp⟩ (.slice ya yp.length yc) ∧ Below wr.heap.size wr (World.putw wq BB ⟨yk, yv, yg, (ym, yt), yp⟩ (.slice ya yp.length yc)) from ⟨_, rfl, HBL.out, HVB.out.putw ⟨yk, yv, yg, (ym, yt), yp⟩ (.slice ya yp.length yc), below_putw HBW.out HBL.out ⟨yk, yv, yg, (ym, yt), yp⟩ (.slice ya yp.length yc)⟩)
                      have hne6 : db ≠ BB := by have := HBL.out; have := HDL.out; omega
                      have g6 := putDep hne6 gq ⟨yk, yv, yg, (ym, yt), yp⟩ (.slice ya yp.length yc)
                      dsimp only [World.putw, wz] at g6
                      clear zf
                      go_simp
                      refine hK.out _ _ (g6) (fun hHeld => ?_)
                      clear hK K
                      try simp only [Act.put, List.setIfInBounds_toArray, List.set_cons_zero, List.set_cons_succ, List.getElem_toArray, List.getElem_cons_zero, List.getElem_cons_succ]
                      refine wpAnyH_take (i := 17) (v := ?vub17) rfl (by kernel_rfl) (by kernel_rfl) (by kernel_rfl) (fun _ _ _ h => h) (Or.inl ⟨by rfl, ?yub17⟩) (by assumption) ?rub17
                      case yub17 => (intro w hSw; (try dsimp only at hSw); go_simp; try with_reducible rfl)
                      try simp only [Act.put, List.setIfInBounds_toArray, List.set_cons_zero, List.set_cons_succ, List.getElem_toArray, List.getElem_cons_zero, List.getElem_cons_succ]
                      refine wpAnyH_done (by kernel_rfl) ?_ _
                      go_wp2
                      go_meet
                      obtain ⟨B, e1, e2, e3, e4⟩ := HFIN.out
                      exact ⟨B, e1, rfl, e2, e3, e4⟩
                  case rest =>
                    obtain ⟨B, rfl, rfl, hBl, hY, hbx⟩ := hcut
                    obtain ⟨wX, hwX⟩ : ∃ wX, wX = wc := ⟨_, rfl⟩
                    subst hwX
                    obtain ⟨x0, x1, x2, x3, x4, x5, _⟩ := hY
                    dsimp only at x0 x1 x2 x3 x4 x5
                    have HXX := Lib.hid hbx
                    have hq2 := keepQo hbx HQ.out
                    have s0 := kcell13 hbx HS0C.out
                    have HS0D := Lib.hid s0
                    clear hat g0 hbx s0
                    go_upto_region 25 with fail
                    have g0 : (wX.drew.cell? ⟨B, 0, none⟩ = some (.string yk) ∧ wX.drew.cell? ⟨B, 1, none⟩ = some (.string yv) ∧ wX.drew.cell? ⟨B, 2, none⟩ = some (.bool yg) ∧ wX.drew.cell? ⟨B, 3, none⟩ = some (.int .i64 ym) ∧ wX.drew.cell? ⟨B, 4, none⟩ = some (.int .i64 yt) ∧ wX.drew.cell? ⟨B, 5, none⟩ = some (.slice ya yp.length yc)) ∧ (wX.drew.cell? ⟨rb, roff + k * 6, none⟩ = some (.string yk) ∧ wX.drew.cell? ⟨rb, roff + k * 6 + 1, none⟩ = some (.string yv) ∧ wX.drew.cell? ⟨rb, roff + k * 6 + 2, none⟩ = some (.bool yg) ∧ wX.drew.cell? ⟨rb, roff + k * 6 + 3, none⟩ = some (.int .i64 ym) ∧ wX.drew.cell? ⟨rb, roff + k * 6 + 4, none⟩ = some (.int .i64 yt) ∧ wX.drew.cell? ⟨rb, roff + k * 6 + 5, none⟩ = some (.slice ya yp.length yc)) := ⟨⟨x0, x1, x2, x3, x4, x5⟩, hq2⟩
                    clear x0 x1 x2 x3 x4 x5 hq2
                    refine wp_region_held_drew (S := fun w' => (w'.cell? ⟨B, 0, none⟩ = some (.string yk) ∧ w'.cell? ⟨B, 1, none⟩ = some (.string yv) ∧ w'.cell? ⟨B, 2, none⟩ = some (.bool yg) ∧ w'.cell? ⟨B, 3, none⟩ = some (.int .i64 ym) ∧ w'.cell? ⟨B, 4, none⟩ = some (.int .i64 yt) ∧ w'.cell? ⟨B, 5, none⟩ = some (.slice ya yp.length yc)) ∧ (w'.cell? ⟨rb, roff + k * 6, none⟩ = some (.string yk) ∧ w'.cell? ⟨rb, roff + k * 6 + 1, none⟩ = some (.string yv) ∧ w'.cell? ⟨rb, roff + k * 6 + 2, none⟩ = some (.bool yg) ∧ w'.cell? ⟨rb, roff + k * 6 + 3, none⟩ = some (.int .i64 ym) ∧ w'.cell? ⟨rb, roff + k * 6 + 4, none⟩ = some (.int .i64 yt) ∧ w'.cell? ⟨rb, roff + k * 6 + 5, none⟩ = some (.slice ya yp.length yc))) (by kernel_rfl) (g0) (fun hHeld => ?_)
                    refine wpAnyH_take (i := 0) (v := ?vq0) rfl (by kernel_rfl) (by kernel_rfl) (by kernel_rfl) (fun _ _ _ h => h) (Or.inl ⟨by rfl, ?yq0⟩) (by assumption) ?rq0
                    case yq0 => (intro w hSw; (try dsimp only at hSw); go_simp; try with_reducible rfl)
                    try simp only [Act.put, List.setIfInBounds_toArray, List.set_cons_zero, List.set_cons_succ, List.getElem_toArray, List.getElem_cons_zero, List.getElem_cons_succ]
                    refine wpAnyH_take (i := 1) (v := ?vq1) rfl (by kernel_rfl) (by kernel_rfl) (by kernel_rfl) (fun _ _ _ h => h) (Or.inl ⟨by rfl, ?yq1⟩) (by assumption) ?rq1
                    case yq1 => (intro w hSw; (try dsimp only at hSw); go_simp; try with_reducible rfl)
                    try simp only [Act.put, List.setIfInBounds_toArray, List.set_cons_zero, List.set_cons_succ, List.getElem_toArray, List.getElem_cons_zero, List.getElem_cons_succ]
                    refine wpAnyH_take (i := 2) (v := ?vq2) rfl (by kernel_rfl) (by kernel_rfl) (by kernel_rfl) (fun _ _ _ h => h) (Or.inl ⟨by rfl, ?yq2⟩) (by assumption) ?rq2
                    case yq2 => (intro w hSw; (try dsimp only at hSw); go_simp; try with_reducible rfl)
                    try simp only [Act.put, List.setIfInBounds_toArray, List.set_cons_zero, List.set_cons_succ, List.getElem_toArray, List.getElem_cons_zero, List.getElem_cons_succ]
                    refine wpAnyH_take (i := 3) (v := ?vq3) rfl (by kernel_rfl) (by kernel_rfl) (by kernel_rfl) (fun _ _ _ h => h) (Or.inl ⟨by rfl, ?yq3⟩) (by assumption) ?rq3
                    case yq3 => (intro w hSw; (try dsimp only at hSw); go_simp; try with_reducible rfl)
                    try simp only [Act.put, List.setIfInBounds_toArray, List.set_cons_zero, List.set_cons_succ, List.getElem_toArray, List.getElem_cons_zero, List.getElem_cons_succ]
                    refine wpAnyH_take (i := 4) (v := ?vq4) rfl (by kernel_rfl) (by kernel_rfl) (by kernel_rfl) (fun _ _ _ h => h) (Or.inl ⟨by rfl, ?yq4⟩) (by assumption) ?rq4
                    case yq4 => (intro w hSw; (try dsimp only at hSw); go_simp; try with_reducible rfl)
                    try simp only [Act.put, List.setIfInBounds_toArray, List.set_cons_zero, List.set_cons_succ, List.getElem_toArray, List.getElem_cons_zero, List.getElem_cons_succ]
                    refine wpAnyH_ready (rs := [5]) (by kernel_rfl) (by simp) ?_
                    refine AllReadyH.cons rfl (fun K hK => ?_) AllReadyH.nil
                    go_simp
                    go_at_call 17
                    refine (hsW _).mono ?_
                    rintro e w3 ⟨rfl, hb3⟩
                    have g1 := And.intro (keepQ hb3 g0.1) (keepQo hb3 g0.2)
                    go_wp2_with fail
                    refine hK.out _ _ (g1) (fun hHeld => ?_)
                    clear hK K
                    try simp only [Act.put, List.setIfInBounds_toArray, List.set_cons_zero, List.set_cons_succ, List.getElem_toArray, List.getElem_cons_zero, List.getElem_cons_succ]
                    refine wpAnyH_take (i := 6) (v := ?vq6) rfl (by kernel_rfl) (by kernel_rfl) (by kernel_rfl) (fun _ _ _ h => h) (Or.inl ⟨by rfl, ?yq6⟩) (by assumption) ?rq6
                    case yq6 => (intro w hSw; (try dsimp only at hSw); go_simp; try with_reducible rfl)
                    try simp only [Act.put, List.setIfInBounds_toArray, List.set_cons_zero, List.set_cons_succ, List.getElem_toArray, List.getElem_cons_zero, List.getElem_cons_succ]
                    refine wpAnyH_done (by kernel_rfl) ?_ _
                    have hb4 : Below wX.heap.size wX w3 := ((Below.refl _ wX).drew).trans hb3
                    have s0 := kcell13 hb4 HS0D.out
                    have HBN : Hid (Below wC.heap.size wC w3) := Lib.hid (bstep (bstep HBK.out HXX.out) hb4)
                    clear hb3 hb4 g0 g1 hsW
                    cases isd with
                    | true =>
                      go_wp2
                      go_roundw
                      case rel => exact ⟨k + 1, by omega, by go_num, HBN.out⟩
                      case measure => simp [intOf]; omega
                    | false =>
                      go_wp2
                      go_roundw
                      case rel => exact ⟨k + 1, by omega, by go_num, HBN.out⟩
                      case measure => simp [intOf]; omega
                · obtain rfl : k = P.length := by omega
                  have hki : ¬ (P.length : Int) < (P.length : Int) := by omega
                  have hh := lhave_any (HSC.out.below HBK.out) (by omega) (fun d => by have := HFL2.out d; omega)
                  have hsm := fun W v2 (h : Below wC.heap.size wC W) (h2 : DepAt W v2 (haveL F L)) => refPSame_any v2 (.slice a4 (haveL F L).length c4) (haveL F L) (haveL F L) W (by rw [haveL_len]; have := HLL.out; omega) h2 (HHC.out.below h)
                  have HHL : Hid (∀ M, KeyL F' M → haveL F' M = haveL F L) := Lib.hid (fun M hM => by rw [hM.uniq HE2.out.1]; exact HE2.out.2)
                  go_wp2_with fail
                  refine hh.mono ?_
                  rintro e w7 ⟨v7, L7, hk7, hl7, rfl, ho7, hb7⟩
                  rw [HHL.out L7 hk7] at ho7
                  have hd7 := DepAt.of_own ho7
                  have h7 := bstep HBK.out hb7
                  have hsm := hsm w7 v7 h7 hd7
                  have HB7 := Lib.hid (bstep HBF.out hb7)
                  obtain ⟨a7, c7, rfl, _⟩ := hd7
                  clear ho7 h7 hh hk7 hl7 hb7 HHL
                  go_wp2_with fail
                  refine hsm.mono ?_
                  rintro e w8 ⟨rfl, hb8⟩
                  have HB8 := Lib.hid (bstep HB7.out hb8)
                  clear hb8 hsm
                  simp only [decide_true]
                  go_wp2
                  go_ret
                  exact ⟨rfl, HB8.out⟩
end Go.Proofs.Ytjfmgplhcinkfaa
