/- What archipelagolaw14's own 'made' answers. -/
import Derived.Test.YtfmedinhlmiaeaaGQ25
import Derived.StillTailTactics
import Derived.Deep.RegionHeld3
import Derived.Deep.DrawnRows
import Derived.Deep.DeepCutAuto
namespace Go.Proofs.Ytfmedinhlmiaeaa
open Go.RowKit Go.Maps
set_option linter.unusedVariables false
set_option linter.unusedSimpArgs false

/-- A slice by its parts. -/
abbrev SlQ := Option Addr × Nat × Nat
abbrev slq (s : SlQ) : Value := .slice s.1 s.2.1 s.2.2
def KPq : RK SlQ where
  T := 23
  S := 62
  sz := 1
  bt := 24
  z := .slice none 0 0
  enc s := [slq s]
theorem kpq_ok : KPq.Ok where
  len _ := rfl
  pos := by decide
  one x u hu := by
    simp [KPq] at hu
    rw [hu]
    rfl
  und := Try.underlying62
  inf := by kernel_rfl
  zc := rfl
  bb := by decide
theorem rows_own {w : World} {base : Nat} {a : Option Addr} {n c : Nat} {ss : List SlQ} {ls : List (List De)} (h : OwnR KPq w base (.slice a n c) ss) (hl : ss.length = ls.length) (hd : ∀ i (h : i < ss.length) (h' : i < ls.length), DepAt w (slq ss[i]) ls[i]) : RowsAt w a ls := by
  have hr := RowIn.of_own kpq_ok h
  refine ⟨ss.map slq, by simpa using hl, fun i hi => ?_, fun i hi hi' => ?_⟩
  · have hi' : i < ss.length := by simpa using hi
    obtain ⟨b, off, e, hlt, hc⟩ := hr i hi'
    refine ⟨b, off, e, hlt, ?_⟩
    have := hc 0 (slq ss[i]) rfl
    rw [List.getElem_map]
    have e1 : off + i * KPq.sz + 0 = off + i := by show off + i * 1 + 0 = off + i; omega
    rw [e1] at this
    exact this
  · rw [List.getElem_map]
    exact hd i (by simpa using hi) hi'
/-- Three slices that were just laid, as a row of pasts. -/
theorem rows_lit3 {w : World} {a1 a2 a3 : Option Addr} {n1 n2 n3 c1 c2 c3 : Nat} {l1 l2 l3 : List De} (h1 : DepAt w (.slice a1 n1 c1) l1) (h2 : DepAt w (.slice a2 n2 c2) l2) (h3 : DepAt w (.slice a3 n3 c3) l3) :
    RowsAt (w.alloc (.cells #[.slice a1 n1 c1, .slice a2 n2 c2, .slice a3 n3 c3] 23)) (some ⟨w.heap.size, 0, none⟩) [l1, l2, l3] := by
  have ho := own_litS kpq_ok w w.heap.size 3 [(a1, n1, c1), (a2, n2, c2), (a3, n3, c3)] #[.slice a1 n1 c1, .slice a2 n2 c2, .slice a3 n3 c3] rfl rfl (Nat.le_refl _) (by omega)
  refine rows_own ho rfl (fun i h h' => ?_)
  match i, h with
  | 0, _ => exact h1.alloc _
  | 1, _ => exact h2.alloc _
  | 2, _ => exact h3.alloc _
  | (j + 3), hh => exact absurd hh (by simp)

theorem DepAt.ltQ {w : World} {v : Value} {l : List De} (h : DepAt w v l) (hne : l ≠ []) {b : Nat} (hb : v.ownBlock = some b) : b < w.heap.size := by
  obtain ⟨a, cap, rfl, h1, h2, h3, hr⟩ := h
  obtain ⟨b', off, rfl, hlt, _⟩ := hr 0 (by have := List.length_pos_iff.2 hne; omega)
  simp [Value.ownBlock] at hb
  omega
/-- A past that no change of the row's own block can turn. -/
def OffQ (u : Value) (x : Vw) : Prop := x.1.past = [] ∨ ∀ g, u.ownBlock = some g → (pw x).ownBlock ≠ some g
theorem DepAt.offQ {w w' : World} {u v : Value} {l : List De} (h : DepAt w v l) (ho : l = [] ∨ ∀ g, u.ownBlock = some g → v.ownBlock ≠ some g) (hs : w.heap.size ≤ w'.heap.size) (hk : KeptD u w w') : DepAt w' v l := by
  by_cases e : l = []
  · obtain ⟨a, cap, rfl, h1, h2, h3, hr⟩ := h
    exact ⟨a, cap, rfl, h1, h2, h3, fun i hi => absurd hi (by rw [e]; simp)⟩
  · rcases ho with e' | ho
    · exact absurd e' e
    · exact h.blocks hs (fun b hb => hk b (h.ltQ e hb) (fun e2 => ho b e2 hb))
/-- Rows of versions that 'made' makes: the row, and the pasts apart from it. -/
structure QMade (w : World) (base : Nat) (u : Value) (xs : List Vw) : Prop where
  own : OwnR KW w base u xs
  pst : ∀ x ∈ xs, DepAt w (pw x) x.1.past
  off : ∀ x ∈ xs, OffQ u x
theorem QMade.nil (w : World) (base : Nat) : QMade w base (.slice none 0 0) [] := ⟨OwnR.nil _ _ _, by simp, by simp⟩
theorem QMade.below {w w' : World} {base : Nat} {u : Value} {xs : List Vw} (h : QMade w base u xs) (hb : Below w.heap.size w w') : QMade w' base u xs := ⟨h.own.below hb, fun x hx => (h.pst x hx).below hb, h.off⟩
theorem QMade.mono {w : World} {base base' : Nat} {u : Value} {xs : List Vw} (h : QMade w base u xs) (hb : base' ≤ base) : QMade w base' u xs := ⟨h.own.mono hb, h.pst, h.off⟩
/-- One version more. -/
theorem QMade.push {w w' : World} {base g cap : Nat} {u : Value} {xs : List Vw} {x : Vw} (h : QMade w base u xs) (ho : OwnR KW w' base (.slice (some ⟨g, 0, none⟩) (xs.length + 1) cap) (xs ++ [x])) (hk : KeptD u w w') (hs : w.heap.size ≤ w'.heap.size) (hat : u.ownBlock = some g ∨ w.heap.size ≤ g) (hp : DepAt w (pw x) x.1.past) (hoff : OffQ u x) :
    QMade w' base (.slice (some ⟨g, 0, none⟩) (xs.length + 1) cap) (xs ++ [x]) := by
  have key : ∀ y : Vw, DepAt w (pw y) y.1.past → OffQ u y → DepAt w' (pw y) y.1.past ∧ OffQ (.slice (some ⟨g, 0, none⟩) (xs.length + 1) cap) y := by
    intro y hy hoy
    refine ⟨hy.offQ hoy hs hk, ?_⟩
    by_cases e : y.1.past = []
    · exact .inl e
    · right
      intro g' e1 e2
      have e3 : g' = g := by simpa [Value.ownBlock] using e1.symm
      subst e3
      have hlt := hy.ltQ e e2
      rcases hat with h1 | h1
      · rcases hoy with h2 | h2
        · exact e h2
        · exact h2 _ h1 e2
      · omega
  refine ⟨ho, fun y hy => ?_, fun y hy => ?_⟩
  · rw [List.mem_append, List.mem_singleton] at hy
    rcases hy with hy | rfl
    · exact (key y (h.pst y hy) (h.off y hy)).1
    · exact (key y hp hoff).1
  · rw [List.mem_append, List.mem_singleton] at hy
    rcases hy with hy | rfl
    · exact (key y (h.pst y hy) (h.off y hy)).2
    · exact (key y hp hoff).2
theorem hrow5 {w : World} {base : Nat} {a : Option Addr} {n c : Nat} {xs : List Vw} (h : QMade w base (.slice a n c) xs) (i : Nat) (hi : i < xs.length) : ∃ b off, a = some ⟨b, off, none⟩ ∧ b < w.heap.size ∧ VwQ w b (off + i * 6) xs[i] ∧ DepAt w (pw xs[i]) xs[i].1.past := by
  obtain ⟨b, off, e, hlt, hc⟩ := RowIn.of_own kw_ok h.own i hi
  exact ⟨b, off, e, hlt, VwQ.of_row hc, h.pst _ (List.getElem_mem hi)⟩
structure VOkQ (v : Wv) : Prop where
  ks : v.key.size ≤ 9223372036854775807
  st : In64 v.st
  srt : Srt v.past
  len : v.past.length ≤ 50
theorem inv_ok14 {out : List Wv} (h : Inv out) (hl : out.length ≤ 14) : ∀ v ∈ out, VOkQ v := by
  intro v hv
  obtain ⟨i, hi, e⟩ := h.keys v hv
  have h1 := h.snd.ok v hv
  have h2 := h.snd.chk v hv
  refine ⟨by rw [e]; simp [keyAt, ByteArray.size], ?_, chkD_srt h2, ?_⟩
  · simp [Sm.ok] at h1
    unfold In64
    omega
  · simp [chkD] at h2
    omega
/-- Is there one of this key and stamp? -/
def twinB (xs : List Vw) (k : ByteArray) (n s : Int) : Bool := xs.any fun y => decide (y.1.key = k) && decide (y.1.st = (n, s))
theorem twin_take (xs : List Vw) (k : ByteArray) (n s : Int) (q : Nat) (h : q < xs.length) : twinB (xs.take (q + 1)) k n s = (twinB (xs.take q) k n s || (decide (xs[q].1.key = k) && decide (xs[q].1.st = (n, s)))) := by
  unfold twinB
  rw [List.take_succ_eq_append_getElem h, List.any_append]
  simp
theorem fnd_twin (xs : List Vw) (k : ByteArray) (n s : Int) : (fnd (xs.map Prod.fst) (k, n, s)).isSome = twinB xs k n s := by
  unfold fnd twinB
  rw [Bool.eq_iff_iff, List.find?_isSome, List.any_eq_true]
  simp
theorem keepW2 {W w1 : World} {b o1 o2 : Nat} {x1 x2 : Value} (hb : Below W.heap.size W w1) (h : W.cell? ⟨b, o1, none⟩ = some x1 ∧ W.cell? ⟨b, o2, none⟩ = some x2) : w1.cell? ⟨b, o1, none⟩ = some x1 ∧ w1.cell? ⟨b, o2, none⟩ = some x2 := ⟨kc hb h.1, kc hb h.2⟩
theorem putW2 {w : World} {b BB o1 o2 : Nat} {x y : Value} (hne : b ≠ BB) (h : w.cell? ⟨b, o1, none⟩ = some x ∧ w.cell? ⟨b, o2, none⟩ = some y) (v : Wv) (u : Value) : (World.putw w BB v u).cell? ⟨b, o1, none⟩ = some x ∧ (World.putw w BB v u).cell? ⟨b, o2, none⟩ = some y := by
  have hb := putw_block w BB v u b hne
  generalize World.putw w BB v u = W at hb ⊢
  exact ⟨by rw [World.cell?_of_block hb]; exact h.1, by rw [World.cell?_of_block hb]; exact h.2⟩
theorem text_dec (x y : ByteArray) : decide (x = y) = (x.toList == y.toList) := by
  rw [Bool.eq_iff_iff]
  simp only [decide_eq_true_eq, beq_iff_eq]
  exact ⟨fun e => by rw [e], fun e => ba_inj (by rw [← Lib.toList_data, ← Lib.toList_data]; exact e)⟩

set_option maxRecDepth 100000 in
set_option maxHeartbeats 12800000 in
theorem made14_any (a : Option Addr) (cap : Nat) (ws : List Wr) (w : World) (hl : ws.length ≤ 9223372036854775807) (hr : WrIn w a ws) :
    Calls Try.prog 10 #[.slice a ws.length cap] w fun e w' => ∃ u xs, e = .returned u ∧ xs.map Prod.fst = mkV ws ∧ QMade w' w.heap.size u xs ∧ Below w.heap.size w w' := by
  have HR := Lib.hid hr
  clear hr
  go_enter Try.func10, Try.ntmps10
  go_wp2
  go_loopw [3, 4] (fun o i wr => ∃ (k : Nat) (xs : List Vw), k ≤ ws.length ∧ k ≤ 14 ∧ i = .int .i64 k ∧ xs.map Prod.fst = (ws.take k).foldl mkS [] ∧ QMade wr w.heap.size o xs ∧ w.heap.size ≤ wr.heap.size ∧ Below w.heap.size w wr) (fun _ i _ => 14 - (intOf i).toNat)
  case atStart => exact ⟨0, [], by omega, by omega, rfl, rfl, QMade.nil _ _, Nat.le_refl _, Below.refl _ _⟩
  case round =>
    obtain ⟨i, xs, hk, hk14, rfl, hxs, hvm, hsz, hbel⟩ := hrel
    obtain ⟨hinv, hil⟩ := mk_inv ws hk14
    rw [← hxs] at hinv hil
    rw [List.length_map] at hil
    have HINV := Lib.hid hinv
    have HVM := Lib.hid hvm
    have HXS := Lib.hid hxs
    obtain ⟨sa, sc, rfl⟩ := hvm.own.shape
    clear hxs hvm hinv
    by_cases hlt : i < ws.length ∧ i < 14
    · obtain ⟨h1, h2⟩ := hlt
      obtain ⟨b, off, wa, wc, rfl, hbl, c0, c1, c2, hsl, hin⟩ := HR.out.below hbel i h1
      have HMK := Lib.hid (mk_take ws h1)
      rw [← HXS.out] at HMK
      have HWI := Lib.hid (HR.out i h1)
      generalize ws[i] = wi at c0 c1 c2 hsl hin HMK HWI
      obtain ⟨wk, wst, saw⟩ := wi
      dsimp only at c0 c1 c2 hsl hin HWI
      have h1i : (i : Int) < (ws.length : Int) := by omega
      have h10 : (0 : Int) ≤ (i : Int) := by omega
      have h2i : (i : Int) < 14 := by omega
      have hd1 : decide (i < ws.length) = true := by simpa using h1
      obtain ⟨w0, hw0⟩ : ∃ w0, w0 = wr := ⟨_, rfl⟩
      subst hw0
      have HBEL := Lib.hid hbel
      have HIN := Lib.hid hin
      have HC : Hid (w0.cell? ⟨b, off + i * 3, none⟩ = some (.int .i64 wk) ∧ w0.cell? ⟨b, off + i * 3 + 1, none⟩ = some (.int .i64 wst) ∧ w0.cell? ⟨b, off + i * 3 + 2, none⟩ = some (.slice wa saw.length wc)) := Lib.hid ⟨c0, c1, c2⟩
      have HSZ := Lib.hid hsz
      clear hbel hin hsz
      go_wp2
      go_loopw [5, 7] (fun p j wr => ∃ (j' : Nat), j' ≤ saw.length ∧ j' ≤ 4 ∧ j = .int .i64 j' ∧ DepAt wr p (sawP (xs.map Prod.fst) (saw.take j')) ∧ (∀ g, p.ownBlock = some g → w0.heap.size ≤ g) ∧ Below w0.heap.size w0 wr) (fun _ j _ => 4 - (intOf j).toNat)
      case atStart => exact ⟨0, by omega, by omega, rfl, DepAt.nil _, (fun g h => by simp [Value.ownBlock] at h), Below.refl _ _⟩
      case round =>
        obtain ⟨j, hj, hj4, rfl, hdp, hfr, hbel⟩ := hrel
        obtain ⟨pa, pc, rfl, _, _, _, _⟩ := id hdp
        have HDP := Lib.hid hdp
        have HFR := Lib.hid hfr
        obtain ⟨hps, hpc⟩ := sawP_closed HINV.out.snd (saw.take j)
        have HPS := Lib.hid hps
        have hplen : (sawP (xs.map Prod.fst) (saw.take j)).length ≤ 8 := by
          refine keys_len hps (fun d hd => ?_)
          obtain ⟨v, hv, _⟩ := cl_iff.1 hpc d hd
          obtain ⟨hvo, e1, _⟩ := fnd_some hv
          rw [← e1]
          exact HINV.out.keys v hvo
        have c0 := kc hbel HC.out.1
        have c1 := kc hbel HC.out.2.1
        have c2 := kc hbel HC.out.2.2
        clear hdp hfr hps
        by_cases hjl : j < saw.length ∧ j < 4
        · obtain ⟨hj1, hj2⟩ := hjl
          have HST := Lib.hid (sawP_take (xs.map Prod.fst) saw hj1)
          obtain ⟨sb, soff, rfl, hsb, hq⟩ := HIN.out.below hbel j hj1
          generalize saw[j] = q at hq HST
          have hj1i : (j : Int) < (saw.length : Int) := by omega
          have hj0 : (0 : Int) ≤ (j : Int) := by omega
          have hj2i : (j : Int) < 4 := by omega
          have hdj : decide (j < saw.length) = true := by simpa using hj1
          clear hpc
          by_cases hx0 : xs.length = 0
          · have HXN : Hid (xs = []) := Lib.hid (List.length_eq_zero_iff.1 hx0)
            have HSO : Hid (sawP (xs.map Prod.fst) (saw.take (j + 1)) = sawP (xs.map Prod.fst) (saw.take j)) := Lib.hid (by rw [HST.out, HXN.out]; rfl)
            generalize sawP (xs.map Prod.fst) (saw.take j) = p at hplen HPS HDP HFR HSO
            have hx0i : ¬ (0 : Int) < (xs.length : Int) := by omega
            go_wp2
            go_roundw
            case rel => exact ⟨j + 1, by omega, by omega, by go_num, by rw [HSO.out]; exact HDP.out, HFR.out, hbel⟩
            case measure => simp [intOf]; omega
          · have hxp : 0 < xs.length := by omega
            have hxpi : (0 : Int) < (xs.length : Int) := by omega
            obtain ⟨hsi, hso⟩ := sawOne_at (out := xs.map Prod.fst) (p := sawP (xs.map Prod.fst) (saw.take j)) (q := q) (by simpa using hxp)
            rw [← HST.out] at hso
            have hsi' : sawI q xs.length < xs.length := by simpa using hsi
            have e1 : (xs.map Prod.fst)[sawI q (xs.map Prod.fst).length] = (xs[sawI q xs.length]).1 := by simp
            rw [e1] at hso
            have HSO := Lib.hid hso
            obtain ⟨m1, m2, m3, m4⟩ := sawI_eq q hxp (by omega)
            obtain ⟨vb, voff, ev, hvb, ⟨v0, v1, v2, v3, v4, v5⟩, hvp⟩ := (hrow5 (HVM.out.below hbel)) _ hsi'
            subst ev
            have hvk := inv_ok14 HINV.out (by rw [List.length_map]; exact hil) _ (List.mem_map.2 ⟨_, List.getElem_mem hsi', rfl⟩)
            generalize sawP (xs.map Prod.fst) (saw.take j) = p at hplen HPS HDP HFR HSO
            generalize xs[sawI q xs.length] = x at v0 v1 v2 v3 v4 v5 hvp hvk HSO
            generalize sawI q xs.length = si at hsi' m3 m4 v0 v1 v2 v3 v4 v5
            have hsii : (si : Int) < (xs.length : Int) := by omega
            have hsi0 : (0 : Int) ≤ (si : Int) := by omega
            obtain ⟨⟨key, val, gone, ⟨n1, s1⟩, past⟩, ya, yc⟩ := x
            obtain ⟨hks, _, hsrt, hlen⟩ := hvk
            dsimp only [pw, Wv.dep] at v0 v1 v2 v3 v4 v5 hvp HSO hks hsrt hlen
            clear hso hsi e1
            have hb1 : Below wr.heap.size wr (wr.alloc (.cells #[.string key, .string val, .bool gone, .int .i64 n1, .int .i64 s1, .slice ya past.length yc] 27)) := balloc (Below.refl _ wr) _
            have hb2 : Below wr.heap.size wr ((wr.alloc (.cells #[.string key, .string val, .bool gone, .int .i64 n1, .int .i64 s1, .slice ya past.length yc] 27)).alloc (.cells #[.string key, .int .i64 n1, .int .i64 s1] 34)) := balloc hb1 _
            have hb3 : Below wr.heap.size wr (((wr.alloc (.cells #[.string key, .string val, .bool gone, .int .i64 n1, .int .i64 s1, .slice ya past.length yc] 27)).alloc (.cells #[.string key, .int .i64 n1, .int .i64 s1] 34)).alloc (.cells #[.slice pa p.length pc, .slice ya past.length yc, .slice (some ⟨wr.heap.size + 1, 0, none⟩) 1 1] 23)) := balloc hb2 _
            have z1 : (wr.alloc (.cells #[.string key, .string val, .bool gone, .int .i64 n1, .int .i64 s1, .slice ya past.length yc] 27)).heap.size = wr.heap.size + 1 := by simp
            have z2 : ((wr.alloc (.cells #[.string key, .string val, .bool gone, .int .i64 n1, .int .i64 s1, .slice ya past.length yc] 27)).alloc (.cells #[.string key, .int .i64 n1, .int .i64 s1] 34)).heap.size = wr.heap.size + 1 + 1 := by simp
            have hdd := DepAt.new (wr.alloc (.cells #[.string key, .string val, .bool gone, .int .i64 n1, .int .i64 s1, .slice ya past.length yc] 27)) [(key, n1, s1)] 34 (by simp)
            rw [z1] at hdd
            have hrows := rows_lit3 (HDP.out.below hb2) (hvp.below hb2) hdd
            rw [z2] at hrows
            have hM := refMerge_new (some ⟨wr.heap.size + 1 + 1, 0, none⟩) 3 [p, past, [(key, n1, s1)]] (((wr.alloc (.cells #[.string key, .string val, .bool gone, .int .i64 n1, .int .i64 s1, .slice ya past.length yc] 27)).alloc (.cells #[.string key, .int .i64 n1, .int .i64 s1] 34)).alloc (.cells #[.slice pa p.length pc, .slice ya past.length yc, .slice (some ⟨wr.heap.size + 1, 0, none⟩) 1 1] 23)) (by simp) (by simp [tot]; omega) (by
              intro l hl
              simp at hl
              rcases hl with rfl | rfl | rfl
              · exact HPS.out.szd
              · exact hsrt.szd
              · intro d hd
                simp at hd
                subst hd
                exact hks) hrows
            have HB3 := Lib.hid hb3
            clear hb1 hb2 hb3 z1 z2 hdd hrows hvp hks hsrt hlen
            go_wp2_with fail
            refine hM.mono ?_
            rintro e w4 ⟨u4, rfl, hd4, hn4, hb4⟩
            have hb5 := bstep HB3.out hb4
            have hs5 := hbel.size
            have HN4 : Hid (∀ g, u4.ownBlock = some g → w0.heap.size ≤ g) := Lib.hid (fun g h => by have := hn4 g h; have := HB3.out.size; omega)
            have HD4 := Lib.hid hd4
            obtain ⟨qa, qc, rfl, _, _, _, _⟩ := hd4
            clear hn4 hb4 hM
            go_wp2
            go_roundw
            case rel => exact ⟨j + 1, by omega, by omega, by go_num, by rw [HSO.out]; exact HD4.out, HN4.out, bstep hbel hb5⟩
            case measure => simp [intOf]; omega
        · have hsa := saw_all saw hj hj4 hjl
          have HSA := Lib.hid hsa
          clear hsa hpc
          generalize hpp : sawP (xs.map Prod.fst) (saw.take j) = p at HDP hplen HPS HFR
          have HPP : Hid (sawP (xs.map Prod.fst) (saw.take 4) = p) := Lib.hid (by rw [← hpp, HSA.out])
          clear hpp
          have hPB : ∀ d ∈ p, 1 ≤ d.2.1 ∧ d.2.1 ≤ 1099511627776 := fun d hd => by
            have := HPS.out.1 d hd
            simp [okD, Sm.ok] at this
            omega
          have HPB := Lib.hid hPB
          clear hPB
          rcases (show (decide (j < saw.length) = false) ∨ (decide (j < saw.length) = true ∧ decide ((j : Int) < 4) = false) by simp; omega) with hd | ⟨hd, hd2⟩
          · skip
            go_wp2
            go_loopw [6, 9] (fun n m w9 => ∃ (m' : Nat), m' ≤ p.length ∧ m = .int .i64 m' ∧ n = .int .i64 (maxN (p.take m')) ∧ w9 = wr) (fun _ m _ => p.length - (intOf m).toNat)
            case atStart => exact ⟨0, by omega, rfl, rfl, rfl⟩
            case round =>
              obtain ⟨m, hm, rfl, rfl, hw9⟩ := hrel
              subst hw9
              have hmb : 0 ≤ maxN (p.take m) ∧ maxN (p.take m) ≤ 1099511627776 := by
                obtain ⟨h1, h2, h3⟩ := maxN_go (p.take m) 0
                exact ⟨h1, h3 _ (by omega) (fun d hd => (HPB.out d (List.mem_of_mem_take hd)).2)⟩
              by_cases hml : m < p.length
              · obtain ⟨a9, c9, e9, _, _, _, hd9⟩ := HDP.out
                cases e9
                obtain ⟨db, doff, rfl, hdb, d0, d1, d2⟩ := hd9 m hml
                have HMX : Hid (maxN (p.take (m + 1)) = if maxN (p.take m) < p[m].2.1 then p[m].2.1 else maxN (p.take m)) := Lib.hid (by
                  unfold maxN
                  rw [List.take_succ_eq_append_getElem hml, List.foldl_append]
                  rfl)
                generalize maxN (p.take m) = mx at hmb HMX
                generalize p[m] = d at d0 d1 d2 HMX
                obtain ⟨dx, dy, dz⟩ := d
                dsimp only at d0 d1 d2 HMX
                have hmi : (m : Int) < (p.length : Int) := by omega
                have hm0 : (0 : Int) ≤ (m : Int) := by omega
                clear hd9
                by_cases hgt : mx < dy
                · rw [if_pos hgt] at HMX
                  go_wp2
                  go_roundw
                  case rel => exact ⟨m + 1, by omega, by go_num, by rw [HMX.out], (by first | rfl | trivial)⟩
                  case measure => simp [intOf]; omega
                · rw [if_neg hgt] at HMX
                  go_wp2
                  go_roundw
                  case rel => exact ⟨m + 1, by omega, by go_num, by rw [HMX.out], (by first | rfl | trivial)⟩
                  case measure => simp [intOf]; omega
              · obtain rfl : m = p.length := by omega
                rw [List.take_length] at hmb ⊢
                obtain ⟨si, hsi⟩ : ∃ si : Int, si = wst % 4 := ⟨_, rfl⟩
                have hs3 : bits .and .i64 wst 3 = si := by rw [i64_and3, hsi]
                have HX : Hid (mkX (xs.map Prod.fst) ⟨wk, wst, saw⟩ = ⟨wordK wk, ⟨#[]⟩, false, (maxN p + 1, si), p⟩) := Lib.hid (by unfold mkX; rw [HPP.out, ← hsi]; rfl)
                have hwd := fun W => word14_any wk W
                have HKL : Hid ((wordK wk).size ≤ 9223372036854775807) := Lib.hid (by rw [wordK_size]; omega)
                clear hsi
                generalize wordK wk = kk at HX hwd HKL
                generalize maxN p = mx at hmb HX ⊢
                have hw1 : IntKind.i64.wrap (mx + 1) = mx + 1 := IntWalk.i64_in _ (by omega)
                have g0 : wr.drew.cell? ⟨b, off + i * 3, none⟩ = some (.int .i64 wk) ∧ wr.drew.cell? ⟨b, off + i * 3 + 1, none⟩ = some (.int .i64 wst) := ⟨c0, c1⟩
                go_upto_region 18 with fail
                go_cut [10] (fun s10 wx => ∃ B, s10 = .pointer (some ⟨B, 0, none⟩) ∧ wr.heap.size ≤ B ∧ VwP wx B ⟨kk, ⟨#[]⟩, false, (mx + 1, si), p⟩ (.slice pa p.length pc) ∧ Below wr.heap.size wr wx)
                case first =>
                  have HBW : Hid (Below wr.heap.size wr wr.drew) := Lib.hid ((Below.refl wr.heap.size wr).drew)
                  refine wp_region_held_drew (S := fun w' => w'.cell? ⟨b, off + i * 3, none⟩ = some (.int .i64 wk) ∧ w'.cell? ⟨b, off + i * 3 + 1, none⟩ = some (.int .i64 wst)) (by kernel_rfl) (g0) (fun hHeld => ?_)
                  refine wpAnyH_take (i := 0) (v := ?vn0) rfl (by kernel_rfl) (by kernel_rfl) (by kernel_rfl) (fun _ _ _ h => h) (Or.inl ⟨by rfl, ?yn0⟩) (by assumption) ?rn0
                  case yn0 => (intro w hSw; (try dsimp only at hSw); go_simp; try with_reducible rfl)
                  try simp only [Act.put, List.setIfInBounds_toArray, List.set_cons_zero, List.set_cons_succ, List.getElem_toArray, List.getElem_cons_zero, List.getElem_cons_succ]
                  refine wpAnyH_take (i := 1) (v := ?vn1) rfl (by kernel_rfl) (by kernel_rfl) (by kernel_rfl) (fun _ _ _ h => h) (Or.inl ⟨by rfl, ?yn1⟩) (by assumption) ?rn1
                  case yn1 => (intro w hSw; (try dsimp only at hSw); go_simp; try with_reducible rfl)
                  try simp only [Act.put, List.setIfInBounds_toArray, List.set_cons_zero, List.set_cons_succ, List.getElem_toArray, List.getElem_cons_zero, List.getElem_cons_succ]
                  refine wpAnyH_take (i := 2) (v := ?vn2) rfl (by kernel_rfl) (by kernel_rfl) (by kernel_rfl) (fun _ _ _ h => h) (Or.inl ⟨by rfl, ?yn2⟩) (by assumption) ?rn2
                  case yn2 => (intro w hSw; (try dsimp only at hSw); go_simp; try with_reducible rfl)
                  try simp only [Act.put, List.setIfInBounds_toArray, List.set_cons_zero, List.set_cons_succ, List.getElem_toArray, List.getElem_cons_zero, List.getElem_cons_succ]
                  refine wpAnyH_take (i := 3) (v := ?vn3) rfl (by kernel_rfl) (by kernel_rfl) (by kernel_rfl) (fun _ _ _ h => h) (Or.inl ⟨by rfl, ?yn3⟩) (by assumption) ?rn3
                  case yn3 => (intro w hSw; (try dsimp only at hSw); go_simp; try with_reducible rfl)
                  try simp only [Act.put, List.setIfInBounds_toArray, List.set_cons_zero, List.set_cons_succ, List.getElem_toArray, List.getElem_cons_zero, List.getElem_cons_succ]
                  refine wpAnyH_take (i := 4) (v := ?vn4) rfl (by kernel_rfl) (by kernel_rfl) (by kernel_rfl) (fun _ _ _ h => h) (Or.inl ⟨by rfl, ?yn4⟩) (by assumption) ?rn4
                  case yn4 => (intro w hSw; (try dsimp only at hSw); go_simp; try with_reducible rfl)
                  try simp only [Act.put, List.setIfInBounds_toArray, List.set_cons_zero, List.set_cons_succ, List.getElem_toArray, List.getElem_cons_zero, List.getElem_cons_succ]
                  refine wpAnyH_take (i := 6) (v := ?vn6) rfl (by kernel_rfl) (by kernel_rfl) (by kernel_rfl) (fun _ _ _ h => h) (Or.inl ⟨by rfl, ?yn6⟩) (by assumption) ?rn6
                  case yn6 => (intro w hSw; (try dsimp only at hSw); go_simp; try with_reducible rfl)
                  try simp only [Act.put, List.setIfInBounds_toArray, List.set_cons_zero, List.set_cons_succ, List.getElem_toArray, List.getElem_cons_zero, List.getElem_cons_succ]
                  refine wpAnyH_take (i := 7) (v := ?vn7) rfl (by kernel_rfl) (by kernel_rfl) (by kernel_rfl) (fun _ _ _ h => h) (Or.inl ⟨by rfl, ?yn7⟩) (by assumption) ?rn7
                  case yn7 => (intro w hSw; (try dsimp only at hSw); go_simp; try with_reducible rfl)
                  try simp only [Act.put, List.setIfInBounds_toArray, List.set_cons_zero, List.set_cons_succ, List.getElem_toArray, List.getElem_cons_zero, List.getElem_cons_succ]
                  refine wpAnyH_take (i := 8) (v := ?vn8) rfl (by kernel_rfl) (by kernel_rfl) (by kernel_rfl) (fun _ _ _ h => h) (Or.inl ⟨by rfl, ?yn8⟩) (by assumption) ?rn8
                  case yn8 => (intro w hSw; (try dsimp only at hSw); go_simp; try with_reducible rfl)
                  try simp only [Act.put, List.setIfInBounds_toArray, List.set_cons_zero, List.set_cons_succ, List.getElem_toArray, List.getElem_cons_zero, List.getElem_cons_succ]
                  refine wpAnyH_take (i := 9) (v := ?vn9) rfl (by kernel_rfl) (by kernel_rfl) (by kernel_rfl) (fun _ _ _ h => h) (Or.inl ⟨by rfl, ?yn9⟩) (by assumption) ?rn9
                  case yn9 => (intro w hSw; (try dsimp only at hSw); go_simp; try with_reducible rfl)
                  try simp only [Act.put, List.setIfInBounds_toArray, List.set_cons_zero, List.set_cons_succ, List.getElem_toArray, List.getElem_cons_zero, List.getElem_cons_succ]
                  refine wpAnyH_take (i := 10) (v := ?vn10) rfl (by kernel_rfl) (by kernel_rfl) (by kernel_rfl) (fun _ _ _ h => h) (Or.inl ⟨by rfl, ?yn10⟩) (by assumption) ?rn10
                  case yn10 => (intro w hSw; (try dsimp only at hSw); go_simp; try with_reducible rfl)
                  try simp only [Act.put, List.setIfInBounds_toArray, List.set_cons_zero, List.set_cons_succ, List.getElem_toArray, List.getElem_cons_zero, List.getElem_cons_succ]
                  refine wpAnyH_take (i := 11) (v := ?vn11) rfl (by kernel_rfl) (by kernel_rfl) (by kernel_rfl) (fun _ _ _ h => h) (Or.inl ⟨by rfl, ?yn11⟩) (by assumption) ?rn11
                  case yn11 => (intro w hSw; (try dsimp only at hSw); go_simp; try with_reducible rfl)
                  try simp only [Act.put, List.setIfInBounds_toArray, List.set_cons_zero, List.set_cons_succ, List.getElem_toArray, List.getElem_cons_zero, List.getElem_cons_succ]
                  refine wpAnyH_take (i := 12) (v := ?vn12) rfl (by kernel_rfl) (by kernel_rfl) (by kernel_rfl) (fun _ _ _ h => h) (Or.inl ⟨by rfl, ?yn12⟩) (by assumption) ?rn12
                  case yn12 => (intro w hSw; (try dsimp only at hSw); go_simp; try with_reducible rfl)
                  try simp only [Act.put, List.setIfInBounds_toArray, List.set_cons_zero, List.set_cons_succ, List.getElem_toArray, List.getElem_cons_zero, List.getElem_cons_succ]
                  refine wpAnyH_take (i := 13) (v := ?vn13) rfl (by kernel_rfl) (by kernel_rfl) (by kernel_rfl) (fun _ _ _ h => h) (Or.inl ⟨by rfl, ?yn13⟩) (by assumption) ?rn13
                  case yn13 => (intro w hSw; (try dsimp only at hSw); go_simp; try with_reducible rfl)
                  try simp only [Act.put, List.setIfInBounds_toArray, List.set_cons_zero, List.set_cons_succ, List.getElem_toArray, List.getElem_cons_zero, List.getElem_cons_succ]
                  refine wpAnyH_take (i := 14) (v := ?vn14) rfl (by kernel_rfl) (by kernel_rfl) (by kernel_rfl) (fun _ _ _ h => h) (Or.inl ⟨by rfl, ?yn14⟩) (by assumption) ?rn14
                  case yn14 => (intro w hSw; (try dsimp only at hSw); go_simp; try with_reducible rfl)
                  try simp only [Act.put, List.setIfInBounds_toArray, List.set_cons_zero, List.set_cons_succ, List.getElem_toArray, List.getElem_cons_zero, List.getElem_cons_succ]
                  refine wpAnyH_take (i := 15) (v := ?vn15) rfl (by kernel_rfl) (by kernel_rfl) (by kernel_rfl) (fun _ _ _ h => h) (Or.inl ⟨by rfl, ?yn15⟩) (by assumption) ?rn15
                  case yn15 => (intro w hSw; (try dsimp only at hSw); go_simp; try with_reducible rfl)
                  try simp only [Act.put, List.setIfInBounds_toArray, List.set_cons_zero, List.set_cons_succ, List.getElem_toArray, List.getElem_cons_zero, List.getElem_cons_succ]
                  refine wpAnyH_ready (rs := [5, 17]) (by kernel_rfl) (by simp) ?_
                  refine AllReadyH.cons rfl (fun K hK => ?_) (AllReadyH.cons rfl (fun K hK => ?_) AllReadyH.nil)
                  · skip
                    go_simp
                    go_at_call 32
                    refine (hwd _).mono ?_
                    rintro e w3 ⟨rfl, hb3⟩
                    have g3 := keepW2 hb3 g0
                    have HB3 := Lib.hid (bstep HBW.out hb3)
                    go_wp2_with fail
                    refine hK.out _ _ (g3) (fun hHeld => ?_)
                    clear hK K hb3
                    try simp only [Act.put, List.setIfInBounds_toArray, List.set_cons_zero, List.set_cons_succ, List.getElem_toArray, List.getElem_cons_zero, List.getElem_cons_succ]
                    refine wpAnyH_take (i := 16) (v := ?w16na) rfl (by kernel_rfl) (by kernel_rfl) (by kernel_rfl) (fun _ _ _ h => h) (Or.inl ⟨by rfl, ?z16na⟩) (by assumption) ?s16na
                    case z16na => (intro w hSw; (try dsimp only at hSw); go_simp; try with_reducible rfl)
                    try simp only [Act.put, List.setIfInBounds_toArray, List.set_cons_zero, List.set_cons_succ, List.getElem_toArray, List.getElem_cons_zero, List.getElem_cons_succ]
                    refine wpAnyH_ready (rs := [17]) (by kernel_rfl) (by simp) ?_
                    refine AllReadyH.cons rfl (fun K hK => ?_) AllReadyH.nil
                    have g5 := keepW2 (balloc (Below.refl _ w3) (.cells (wvs wz (.slice none 0 0)) 27)) g3
                    have HFIN := Lib.hid (show ∃ B, Value.pointer (some ⟨w3.heap.size, 0, none⟩) = .pointer (some ⟨B, 0, none⟩) ∧ wr.heap.size ≤ B ∧ VwP (w3.alloc (.cells (wvs ⟨kk, ⟨#[]⟩, false, (mx + 1, si), p⟩ (.slice pa p.length pc)) 27)) B ⟨kk, ⟨#[]⟩, false, (mx + 1, si), p⟩ (.slice pa p.length pc) ∧ Below wr.heap.size wr (w3.alloc (.cells (wvs ⟨kk, ⟨#[]⟩, false, (mx + 1, si), p⟩ (.slice pa p.length pc)) 27)) from ⟨_, rfl, HB3.out.size, VwP.new w3 ⟨kk, ⟨#[]⟩, false, (mx + 1, si), p⟩ (.slice pa p.length pc) 27, bstep HB3.out (balloc (Below.refl _ _) _)⟩)
                    go_simp
                    refine hK.out _ _ (g5) (fun hHeld => ?_)
                    clear hK K
                    try simp only [Act.put, List.setIfInBounds_toArray, List.set_cons_zero, List.set_cons_succ, List.getElem_toArray, List.getElem_cons_zero, List.getElem_cons_succ]
                    refine wpAnyH_ready (rs := [18]) (by kernel_rfl) (by simp) ?_
                    refine AllReadyH.cons rfl (fun K hK => ?_) AllReadyH.nil
                    go_simp
                    refine hK.out _ _ (keepW2 (balloc (Below.refl _ w3) _) g3) (fun hHeld => ?_)
                    clear hK K
                    try simp only [Act.put, List.setIfInBounds_toArray, List.set_cons_zero, List.set_cons_succ, List.getElem_toArray, List.getElem_cons_zero, List.getElem_cons_succ]
                    refine wpAnyH_done (by kernel_rfl) ?_ _
                    go_wp2
                    go_meet
                    exact HFIN.out
                  · skip
                    have HVB : Hid (VwP (wr.drew.alloc (.cells (wvs wz (.slice none 0 0)) 27)) wr.heap.size wz (.slice none 0 0)) := Lib.hid (VwP.new wr.drew wz (.slice none 0 0) 27)
                    have g5 := keepW2 (balloc (Below.refl _ wr.drew) (.cells (wvs wz (.slice none 0 0)) 27)) g0
                    have HB4 := Lib.hid (bstep HBW.out (balloc (Below.refl _ wr.drew) (.cells (wvs wz (.slice none 0 0)) 27)))
                    obtain ⟨BB, hBB⟩ : ∃ BB, BB = wr.heap.size := ⟨_, rfl⟩
                    have HBL : Hid (wr.heap.size ≤ BB) := Lib.hid (by omega)
                    have HNE : Hid (b ≠ BB) := Lib.hid (by have := lt_of_cellN c0; omega)
                    rw [← hBB] at HVB
                    go_simp
                    refine hK.out _ _ (g5) (fun hHeld => ?_)
                    clear hK K
                    try simp only [Act.put, List.setIfInBounds_toArray, List.set_cons_zero, List.set_cons_succ, List.getElem_toArray, List.getElem_cons_zero, List.getElem_cons_succ]
                    obtain ⟨w5, hw5⟩ : ∃ w5, (wr.alloc (.cells (wvs wz (.slice none 0 0)) 27)).drew = w5 := ⟨_, rfl⟩
                    have hw6 : wr.drew.alloc (.cells (wvs wz (.slice none 0 0)) 27) = w5 := hw5
                    rw [hw6] at g5 HVB HB4
                    clear hw6
                    try rw [← hBB]
                    try dsimp only [wvs, wz] at hw5
                    try rw [hw5]
                    clear hw5 hBB
                    refine wpAnyH_ready (rs := [5]) (by kernel_rfl) (by simp) ?_
                    refine AllReadyH.cons rfl (fun K hK => ?_) AllReadyH.nil
                    go_simp
                    go_at_call 32
                    refine (hwd _).mono ?_
                    rintro e w6 ⟨rfl, hb6⟩
                    have g6 := keepW2 hb6 g5
                    have HB6 := Lib.hid (bstep HB4.out hb6)
                    have HVB6 := Lib.hid (HVB.out.keep hb6)
                    go_wp2_with fail
                    refine hK.out _ _ (g6) (fun hHeld => ?_)
                    clear hK K hb6
                    try simp only [Act.put, List.setIfInBounds_toArray, List.set_cons_zero, List.set_cons_succ, List.getElem_toArray, List.getElem_cons_zero, List.getElem_cons_succ]
                    refine wpAnyH_take (i := 16) (v := ?w16nb) rfl (by kernel_rfl) (by kernel_rfl) (by kernel_rfl) (fun _ _ _ h => h) (Or.inl ⟨by rfl, ?z16nb⟩) (by assumption) ?s16nb
                    case z16nb => (intro w hSw; (try dsimp only at hSw); go_simp; try with_reducible rfl)
                    try simp only [Act.put, List.setIfInBounds_toArray, List.set_cons_zero, List.set_cons_succ, List.getElem_toArray, List.getElem_cons_zero, List.getElem_cons_succ]
                    refine wpAnyH_ready (rs := [18]) (by kernel_rfl) (by simp) ?_
                    refine AllReadyH.cons rfl (fun K hK => ?_) AllReadyH.nil
                    obtain ⟨z0, z1, z2, z3, z4, z5, zf⟩ := HVB6.out
                    have zf0 := zf 0 (by decide)
                    have zf1 := zf 1 (by decide)
                    have zf2 := zf 2 (by decide)
                    have zf3 := zf 3 (by decide)
                    have zf4 := zf 4 (by decide)
                    have zf5 := zf 5 (by decide)
                    dsimp only [wz] at z0 z1 z2 z3 z4 z5
                    have HFIN := Lib.hid (show ∃ B, Value.pointer (some ⟨BB, 0, none⟩) = .pointer (some ⟨B, 0, none⟩) ∧ wr.heap.size ≤ B ∧ VwP (World.putw w6 BB ⟨kk, ⟨#[]⟩, false, (mx + 1, si), p⟩ (.slice pa p.length pc)) B ⟨kk, ⟨#[]⟩, false, (mx + 1, si), p⟩ (.slice pa p.length pc) ∧ Below wr.heap.size wr (World.putw w6 BB ⟨kk, ⟨#[]⟩, false, (mx + 1, si), p⟩ (.slice pa p.length pc)) from ⟨_, rfl, HBL.out, HVB6.out.putw ⟨kk, ⟨#[]⟩, false, (mx + 1, si), p⟩ (.slice pa p.length pc), below_putw HB6.out HBL.out ⟨kk, ⟨#[]⟩, false, (mx + 1, si), p⟩ (.slice pa p.length pc)⟩)
                    have g7 := putW2 HNE.out g6 ⟨kk, ⟨#[]⟩, false, (mx + 1, si), p⟩ (.slice pa p.length pc)
                    dsimp only [World.putw, wz] at g7
                    clear zf
                    go_simp
                    refine hK.out _ _ (g7) (fun hHeld => ?_)
                    clear hK K
                    try simp only [Act.put, List.setIfInBounds_toArray, List.set_cons_zero, List.set_cons_succ, List.getElem_toArray, List.getElem_cons_zero, List.getElem_cons_succ]
                    refine wpAnyH_done (by kernel_rfl) ?_ _
                    go_wp2
                    go_meet
                    exact HFIN.out
                case rest =>
                  obtain ⟨B, rfl, hBlo, hVX, hbX⟩ := hcut
                  clear g0 hs3 hw1 hwd c0 c1
                  obtain ⟨w0c, hw0c⟩ : ∃ w0c, w0c = wc := ⟨wc, rfl⟩
                  subst hw0c
                  have HVX := Lib.hid hVX
                  have HBX := Lib.hid hbX
                  have HBLO := Lib.hid hBlo
                  have HVMx := Lib.hid ((HVM.out.below hbel).below hbX)
                  have HTW := Lib.hid (twin_take xs kk (mx + 1) si)
                  have HMS : Hid (mkS (xs.map Prod.fst) ⟨wk, wst, saw⟩ = if twinB xs kk (mx + 1) si then xs.map Prod.fst else xs.map Prod.fst ++ [⟨kk, ⟨#[]⟩, false, (mx + 1, si), p⟩]) := Lib.hid (by
                    unfold mkS
                    rw [HX.out, show (⟨kk, ⟨#[]⟩, false, (mx + 1, si), p⟩ : Wv).dep = (kk, mx + 1, si) from rfl, fnd_twin])
                  clear hVX hbX hBlo
                  go_wp2
                  go_loopw [11, 12] (fun tw q w8 => ∃ (q' : Nat), q' ≤ xs.length ∧ q = .int .i64 q' ∧ tw = .bool (twinB (xs.take q') kk (mx + 1) si) ∧ Below w0c.heap.size w0c w8) (fun _ q _ => xs.length - (intOf q).toNat)
                  case atStart => exact ⟨0, by omega, rfl, rfl, Below.refl _ _⟩
                  case round =>
                    obtain ⟨q, hq, rfl, rfl, hbq⟩ := hrel
                    have HBQ := Lib.hid hbq
                    by_cases hql : q < xs.length
                    · have HT := Lib.hid (HTW.out q hql)
                      obtain ⟨yb, yoff, ey, hyb, ⟨y0, y1, y2, y3, y4, y5⟩, _⟩ := (hrow5 (HVMx.out.below hbq)) _ hql
                      subst ey
                      obtain ⟨x0, x1, x2, x3, x4, x5, _⟩ := HVX.out.keep hbq
                      generalize xs[q] = y at y0 y3 y4 HT
                      clear y1 y2 y5 x1 x2 x5 hbq
                      obtain ⟨⟨yk, yv, yg, ⟨yn, ys⟩, yp⟩, ya', yc'⟩ := y
                      dsimp only at y0 y3 y4 x0 x3 x4 HT
                      have hqi : (q : Int) < (xs.length : Int) := by omega
                      have hq0 : (0 : Int) ≤ (q : Int) := by omega
                      have hes := fun w' => eq_stamp w' yn ys (mx + 1) si
                      generalize hts : twinB (xs.take q) kk (mx + 1) si = ts at HT ⊢
                      clear hts
                      generalize hst : decide (((yn, ys) : Int × Int) = (mx + 1, si)) = st at hes HT
                      clear hst
                      rw [text_dec] at HT
                      generalize hke : (yk.toList == kk.toList) = ke at HT
                      cases ts <;> cases ke <;> cases st
                      all_goals
                        go_upto_region 23 with fail
                        go_region
                        go_wp2
                        go_roundw
                        case rel => exact ⟨q + 1, by omega, by go_num, by rw [HT.out]; rfl, HBQ.out.drew⟩
                        case measure => simp [intOf]; omega
                    · obtain rfl : q = xs.length := by omega
                      rw [List.take_length]
                      generalize twinB xs kk (mx + 1) si = tw at HMS ⊢
                      have HBY := Lib.hid (bstep HBX.out hbq)
                      have HVM5 := Lib.hid (HVMx.out.below hbq)
                      have HVX5 := HVX.out.keep hbq
                      obtain ⟨y0, y1, y2, y3, y4, y5, _⟩ := HVX5
                      dsimp only at y0 y1 y2 y3 y4
                      have hs5 : w.heap.size ≤ wr.heap.size := by have h1 := HSZ.out; have h2 := hbel.size; have h3 := HBY.out.size; omega
                      cases tw with
                      | true =>
                        go_wp2
                        go_roundw
                        case rel => exact ⟨i + 1, xs, by omega, by omega, by go_num, by rw [HMK.out, HMS.out]; rfl, HVM5.out, hs5, HBEL.out.trans ((bstep hbel HBY.out).mono HBEL.out.size)⟩
                        case measure => simp [intOf]; omega
                      | false =>
                        go_wp2_with (at_builtin; refine wp_pushR kw_ok (wr := wr) rfl _ _ rfl w.heap.size (.slice sa xs.length sc) xs (⟨kk, ⟨#[]⟩, false, (mx + 1, si), p⟩, pa, pc) #[.string kk, .string ⟨#[]⟩, .bool false, .int .i64 (mx + 1), .int .i64 si, .slice pa p.length pc] rfl rfl HVM5.out.own rfl (by omega) hs5 ?_; intro g6 cap6 w6 ho6 hb6 hk6 hat6 hlt6)
                        have HV6 := Lib.hid (HVM5.out.push ho6 hk6 hb6.size hat6 (show DepAt _ (.slice pa p.length pc) p from (HDP.out.below HBX.out).below HBQ.out) (.inr (fun g h1 h2 => by
                          have h3 := (HVM.out.own.lt g h1).2
                          have h4 := HFR.out g h2
                          omega)))
                        go_wp2
                        go_roundw
                        case rel => exact ⟨i + 1, xs ++ [(⟨kk, ⟨#[]⟩, false, (mx + 1, si), p⟩, pa, pc)], by omega, by omega, by go_num, by rw [HMK.out, HMS.out, List.map_append]; rfl, by simpa using HV6.out, by have := hb6.size; omega, HBEL.out.trans (((bstep hbel HBY.out).mono HBEL.out.size).trans (hb6.mono (by omega)))⟩
                        case measure => simp [intOf]; omega
          · skip
            go_wp2
            go_loopw [6, 9] (fun n m w9 => ∃ (m' : Nat), m' ≤ p.length ∧ m = .int .i64 m' ∧ n = .int .i64 (maxN (p.take m')) ∧ w9 = wr) (fun _ m _ => p.length - (intOf m).toNat)
            case atStart => exact ⟨0, by omega, rfl, rfl, rfl⟩
            case round =>
              obtain ⟨m, hm, rfl, rfl, hw9⟩ := hrel
              subst hw9
              have hmb : 0 ≤ maxN (p.take m) ∧ maxN (p.take m) ≤ 1099511627776 := by
                obtain ⟨h1, h2, h3⟩ := maxN_go (p.take m) 0
                exact ⟨h1, h3 _ (by omega) (fun d hd => (HPB.out d (List.mem_of_mem_take hd)).2)⟩
              by_cases hml : m < p.length
              · obtain ⟨a9, c9, e9, _, _, _, hd9⟩ := HDP.out
                cases e9
                obtain ⟨db, doff, rfl, hdb, d0, d1, d2⟩ := hd9 m hml
                have HMX : Hid (maxN (p.take (m + 1)) = if maxN (p.take m) < p[m].2.1 then p[m].2.1 else maxN (p.take m)) := Lib.hid (by
                  unfold maxN
                  rw [List.take_succ_eq_append_getElem hml, List.foldl_append]
                  rfl)
                generalize maxN (p.take m) = mx at hmb HMX
                generalize p[m] = d at d0 d1 d2 HMX
                obtain ⟨dx, dy, dz⟩ := d
                dsimp only at d0 d1 d2 HMX
                have hmi : (m : Int) < (p.length : Int) := by omega
                have hm0 : (0 : Int) ≤ (m : Int) := by omega
                clear hd9
                by_cases hgt : mx < dy
                · rw [if_pos hgt] at HMX
                  go_wp2
                  go_roundw
                  case rel => exact ⟨m + 1, by omega, by go_num, by rw [HMX.out], (by first | rfl | trivial)⟩
                  case measure => simp [intOf]; omega
                · rw [if_neg hgt] at HMX
                  go_wp2
                  go_roundw
                  case rel => exact ⟨m + 1, by omega, by go_num, by rw [HMX.out], (by first | rfl | trivial)⟩
                  case measure => simp [intOf]; omega
              · obtain rfl : m = p.length := by omega
                rw [List.take_length] at hmb ⊢
                obtain ⟨si, hsi⟩ : ∃ si : Int, si = wst % 4 := ⟨_, rfl⟩
                have hs3 : bits .and .i64 wst 3 = si := by rw [i64_and3, hsi]
                have HX : Hid (mkX (xs.map Prod.fst) ⟨wk, wst, saw⟩ = ⟨wordK wk, ⟨#[]⟩, false, (maxN p + 1, si), p⟩) := Lib.hid (by unfold mkX; rw [HPP.out, ← hsi]; rfl)
                have hwd := fun W => word14_any wk W
                have HKL : Hid ((wordK wk).size ≤ 9223372036854775807) := Lib.hid (by rw [wordK_size]; omega)
                clear hsi
                generalize wordK wk = kk at HX hwd HKL
                generalize maxN p = mx at hmb HX ⊢
                have hw1 : IntKind.i64.wrap (mx + 1) = mx + 1 := IntWalk.i64_in _ (by omega)
                have g0 : wr.drew.cell? ⟨b, off + i * 3, none⟩ = some (.int .i64 wk) ∧ wr.drew.cell? ⟨b, off + i * 3 + 1, none⟩ = some (.int .i64 wst) := ⟨c0, c1⟩
                go_upto_region 18 with fail
                go_cut [10] (fun s10 wx => ∃ B, s10 = .pointer (some ⟨B, 0, none⟩) ∧ wr.heap.size ≤ B ∧ VwP wx B ⟨kk, ⟨#[]⟩, false, (mx + 1, si), p⟩ (.slice pa p.length pc) ∧ Below wr.heap.size wr wx)
                case first =>
                  have HBW : Hid (Below wr.heap.size wr wr.drew) := Lib.hid ((Below.refl wr.heap.size wr).drew)
                  refine wp_region_held_drew (S := fun w' => w'.cell? ⟨b, off + i * 3, none⟩ = some (.int .i64 wk) ∧ w'.cell? ⟨b, off + i * 3 + 1, none⟩ = some (.int .i64 wst)) (by kernel_rfl) (g0) (fun hHeld => ?_)
                  refine wpAnyH_take (i := 0) (v := ?vm0) rfl (by kernel_rfl) (by kernel_rfl) (by kernel_rfl) (fun _ _ _ h => h) (Or.inl ⟨by rfl, ?ym0⟩) (by assumption) ?rm0
                  case ym0 => (intro w hSw; (try dsimp only at hSw); go_simp; try with_reducible rfl)
                  try simp only [Act.put, List.setIfInBounds_toArray, List.set_cons_zero, List.set_cons_succ, List.getElem_toArray, List.getElem_cons_zero, List.getElem_cons_succ]
                  refine wpAnyH_take (i := 1) (v := ?vm1) rfl (by kernel_rfl) (by kernel_rfl) (by kernel_rfl) (fun _ _ _ h => h) (Or.inl ⟨by rfl, ?ym1⟩) (by assumption) ?rm1
                  case ym1 => (intro w hSw; (try dsimp only at hSw); go_simp; try with_reducible rfl)
                  try simp only [Act.put, List.setIfInBounds_toArray, List.set_cons_zero, List.set_cons_succ, List.getElem_toArray, List.getElem_cons_zero, List.getElem_cons_succ]
                  refine wpAnyH_take (i := 2) (v := ?vm2) rfl (by kernel_rfl) (by kernel_rfl) (by kernel_rfl) (fun _ _ _ h => h) (Or.inl ⟨by rfl, ?ym2⟩) (by assumption) ?rm2
                  case ym2 => (intro w hSw; (try dsimp only at hSw); go_simp; try with_reducible rfl)
                  try simp only [Act.put, List.setIfInBounds_toArray, List.set_cons_zero, List.set_cons_succ, List.getElem_toArray, List.getElem_cons_zero, List.getElem_cons_succ]
                  refine wpAnyH_take (i := 3) (v := ?vm3) rfl (by kernel_rfl) (by kernel_rfl) (by kernel_rfl) (fun _ _ _ h => h) (Or.inl ⟨by rfl, ?ym3⟩) (by assumption) ?rm3
                  case ym3 => (intro w hSw; (try dsimp only at hSw); go_simp; try with_reducible rfl)
                  try simp only [Act.put, List.setIfInBounds_toArray, List.set_cons_zero, List.set_cons_succ, List.getElem_toArray, List.getElem_cons_zero, List.getElem_cons_succ]
                  refine wpAnyH_take (i := 4) (v := ?vm4) rfl (by kernel_rfl) (by kernel_rfl) (by kernel_rfl) (fun _ _ _ h => h) (Or.inl ⟨by rfl, ?ym4⟩) (by assumption) ?rm4
                  case ym4 => (intro w hSw; (try dsimp only at hSw); go_simp; try with_reducible rfl)
                  try simp only [Act.put, List.setIfInBounds_toArray, List.set_cons_zero, List.set_cons_succ, List.getElem_toArray, List.getElem_cons_zero, List.getElem_cons_succ]
                  refine wpAnyH_take (i := 6) (v := ?vm6) rfl (by kernel_rfl) (by kernel_rfl) (by kernel_rfl) (fun _ _ _ h => h) (Or.inl ⟨by rfl, ?ym6⟩) (by assumption) ?rm6
                  case ym6 => (intro w hSw; (try dsimp only at hSw); go_simp; try with_reducible rfl)
                  try simp only [Act.put, List.setIfInBounds_toArray, List.set_cons_zero, List.set_cons_succ, List.getElem_toArray, List.getElem_cons_zero, List.getElem_cons_succ]
                  refine wpAnyH_take (i := 7) (v := ?vm7) rfl (by kernel_rfl) (by kernel_rfl) (by kernel_rfl) (fun _ _ _ h => h) (Or.inl ⟨by rfl, ?ym7⟩) (by assumption) ?rm7
                  case ym7 => (intro w hSw; (try dsimp only at hSw); go_simp; try with_reducible rfl)
                  try simp only [Act.put, List.setIfInBounds_toArray, List.set_cons_zero, List.set_cons_succ, List.getElem_toArray, List.getElem_cons_zero, List.getElem_cons_succ]
                  refine wpAnyH_take (i := 8) (v := ?vm8) rfl (by kernel_rfl) (by kernel_rfl) (by kernel_rfl) (fun _ _ _ h => h) (Or.inl ⟨by rfl, ?ym8⟩) (by assumption) ?rm8
                  case ym8 => (intro w hSw; (try dsimp only at hSw); go_simp; try with_reducible rfl)
                  try simp only [Act.put, List.setIfInBounds_toArray, List.set_cons_zero, List.set_cons_succ, List.getElem_toArray, List.getElem_cons_zero, List.getElem_cons_succ]
                  refine wpAnyH_take (i := 9) (v := ?vm9) rfl (by kernel_rfl) (by kernel_rfl) (by kernel_rfl) (fun _ _ _ h => h) (Or.inl ⟨by rfl, ?ym9⟩) (by assumption) ?rm9
                  case ym9 => (intro w hSw; (try dsimp only at hSw); go_simp; try with_reducible rfl)
                  try simp only [Act.put, List.setIfInBounds_toArray, List.set_cons_zero, List.set_cons_succ, List.getElem_toArray, List.getElem_cons_zero, List.getElem_cons_succ]
                  refine wpAnyH_take (i := 10) (v := ?vm10) rfl (by kernel_rfl) (by kernel_rfl) (by kernel_rfl) (fun _ _ _ h => h) (Or.inl ⟨by rfl, ?ym10⟩) (by assumption) ?rm10
                  case ym10 => (intro w hSw; (try dsimp only at hSw); go_simp; try with_reducible rfl)
                  try simp only [Act.put, List.setIfInBounds_toArray, List.set_cons_zero, List.set_cons_succ, List.getElem_toArray, List.getElem_cons_zero, List.getElem_cons_succ]
                  refine wpAnyH_take (i := 11) (v := ?vm11) rfl (by kernel_rfl) (by kernel_rfl) (by kernel_rfl) (fun _ _ _ h => h) (Or.inl ⟨by rfl, ?ym11⟩) (by assumption) ?rm11
                  case ym11 => (intro w hSw; (try dsimp only at hSw); go_simp; try with_reducible rfl)
                  try simp only [Act.put, List.setIfInBounds_toArray, List.set_cons_zero, List.set_cons_succ, List.getElem_toArray, List.getElem_cons_zero, List.getElem_cons_succ]
                  refine wpAnyH_take (i := 12) (v := ?vm12) rfl (by kernel_rfl) (by kernel_rfl) (by kernel_rfl) (fun _ _ _ h => h) (Or.inl ⟨by rfl, ?ym12⟩) (by assumption) ?rm12
                  case ym12 => (intro w hSw; (try dsimp only at hSw); go_simp; try with_reducible rfl)
                  try simp only [Act.put, List.setIfInBounds_toArray, List.set_cons_zero, List.set_cons_succ, List.getElem_toArray, List.getElem_cons_zero, List.getElem_cons_succ]
                  refine wpAnyH_take (i := 13) (v := ?vm13) rfl (by kernel_rfl) (by kernel_rfl) (by kernel_rfl) (fun _ _ _ h => h) (Or.inl ⟨by rfl, ?ym13⟩) (by assumption) ?rm13
                  case ym13 => (intro w hSw; (try dsimp only at hSw); go_simp; try with_reducible rfl)
                  try simp only [Act.put, List.setIfInBounds_toArray, List.set_cons_zero, List.set_cons_succ, List.getElem_toArray, List.getElem_cons_zero, List.getElem_cons_succ]
                  refine wpAnyH_take (i := 14) (v := ?vm14) rfl (by kernel_rfl) (by kernel_rfl) (by kernel_rfl) (fun _ _ _ h => h) (Or.inl ⟨by rfl, ?ym14⟩) (by assumption) ?rm14
                  case ym14 => (intro w hSw; (try dsimp only at hSw); go_simp; try with_reducible rfl)
                  try simp only [Act.put, List.setIfInBounds_toArray, List.set_cons_zero, List.set_cons_succ, List.getElem_toArray, List.getElem_cons_zero, List.getElem_cons_succ]
                  refine wpAnyH_take (i := 15) (v := ?vm15) rfl (by kernel_rfl) (by kernel_rfl) (by kernel_rfl) (fun _ _ _ h => h) (Or.inl ⟨by rfl, ?ym15⟩) (by assumption) ?rm15
                  case ym15 => (intro w hSw; (try dsimp only at hSw); go_simp; try with_reducible rfl)
                  try simp only [Act.put, List.setIfInBounds_toArray, List.set_cons_zero, List.set_cons_succ, List.getElem_toArray, List.getElem_cons_zero, List.getElem_cons_succ]
                  refine wpAnyH_ready (rs := [5, 17]) (by kernel_rfl) (by simp) ?_
                  refine AllReadyH.cons rfl (fun K hK => ?_) (AllReadyH.cons rfl (fun K hK => ?_) AllReadyH.nil)
                  · skip
                    go_simp
                    go_at_call 32
                    refine (hwd _).mono ?_
                    rintro e w3 ⟨rfl, hb3⟩
                    have g3 := keepW2 hb3 g0
                    have HB3 := Lib.hid (bstep HBW.out hb3)
                    go_wp2_with fail
                    refine hK.out _ _ (g3) (fun hHeld => ?_)
                    clear hK K hb3
                    try simp only [Act.put, List.setIfInBounds_toArray, List.set_cons_zero, List.set_cons_succ, List.getElem_toArray, List.getElem_cons_zero, List.getElem_cons_succ]
                    refine wpAnyH_take (i := 16) (v := ?w16ma) rfl (by kernel_rfl) (by kernel_rfl) (by kernel_rfl) (fun _ _ _ h => h) (Or.inl ⟨by rfl, ?z16ma⟩) (by assumption) ?s16ma
                    case z16ma => (intro w hSw; (try dsimp only at hSw); go_simp; try with_reducible rfl)
                    try simp only [Act.put, List.setIfInBounds_toArray, List.set_cons_zero, List.set_cons_succ, List.getElem_toArray, List.getElem_cons_zero, List.getElem_cons_succ]
                    refine wpAnyH_ready (rs := [17]) (by kernel_rfl) (by simp) ?_
                    refine AllReadyH.cons rfl (fun K hK => ?_) AllReadyH.nil
                    have g5 := keepW2 (balloc (Below.refl _ w3) (.cells (wvs wz (.slice none 0 0)) 27)) g3
                    have HFIN := Lib.hid (show ∃ B, Value.pointer (some ⟨w3.heap.size, 0, none⟩) = .pointer (some ⟨B, 0, none⟩) ∧ wr.heap.size ≤ B ∧ VwP (w3.alloc (.cells (wvs ⟨kk, ⟨#[]⟩, false, (mx + 1, si), p⟩ (.slice pa p.length pc)) 27)) B ⟨kk, ⟨#[]⟩, false, (mx + 1, si), p⟩ (.slice pa p.length pc) ∧ Below wr.heap.size wr (w3.alloc (.cells (wvs ⟨kk, ⟨#[]⟩, false, (mx + 1, si), p⟩ (.slice pa p.length pc)) 27)) from ⟨_, rfl, HB3.out.size, VwP.new w3 ⟨kk, ⟨#[]⟩, false, (mx + 1, si), p⟩ (.slice pa p.length pc) 27, bstep HB3.out (balloc (Below.refl _ _) _)⟩)
                    go_simp
                    refine hK.out _ _ (g5) (fun hHeld => ?_)
                    clear hK K
                    try simp only [Act.put, List.setIfInBounds_toArray, List.set_cons_zero, List.set_cons_succ, List.getElem_toArray, List.getElem_cons_zero, List.getElem_cons_succ]
                    refine wpAnyH_ready (rs := [18]) (by kernel_rfl) (by simp) ?_
                    refine AllReadyH.cons rfl (fun K hK => ?_) AllReadyH.nil
                    go_simp
                    refine hK.out _ _ (keepW2 (balloc (Below.refl _ w3) _) g3) (fun hHeld => ?_)
                    clear hK K
                    try simp only [Act.put, List.setIfInBounds_toArray, List.set_cons_zero, List.set_cons_succ, List.getElem_toArray, List.getElem_cons_zero, List.getElem_cons_succ]
                    refine wpAnyH_done (by kernel_rfl) ?_ _
                    go_wp2
                    go_meet
                    exact HFIN.out
                  · skip
                    have HVB : Hid (VwP (wr.drew.alloc (.cells (wvs wz (.slice none 0 0)) 27)) wr.heap.size wz (.slice none 0 0)) := Lib.hid (VwP.new wr.drew wz (.slice none 0 0) 27)
                    have g5 := keepW2 (balloc (Below.refl _ wr.drew) (.cells (wvs wz (.slice none 0 0)) 27)) g0
                    have HB4 := Lib.hid (bstep HBW.out (balloc (Below.refl _ wr.drew) (.cells (wvs wz (.slice none 0 0)) 27)))
                    obtain ⟨BB, hBB⟩ : ∃ BB, BB = wr.heap.size := ⟨_, rfl⟩
                    have HBL : Hid (wr.heap.size ≤ BB) := Lib.hid (by omega)
                    have HNE : Hid (b ≠ BB) := Lib.hid (by have := lt_of_cellN c0; omega)
                    rw [← hBB] at HVB
                    go_simp
                    refine hK.out _ _ (g5) (fun hHeld => ?_)
                    clear hK K
                    try simp only [Act.put, List.setIfInBounds_toArray, List.set_cons_zero, List.set_cons_succ, List.getElem_toArray, List.getElem_cons_zero, List.getElem_cons_succ]
                    obtain ⟨w5, hw5⟩ : ∃ w5, (wr.alloc (.cells (wvs wz (.slice none 0 0)) 27)).drew = w5 := ⟨_, rfl⟩
                    have hw6 : wr.drew.alloc (.cells (wvs wz (.slice none 0 0)) 27) = w5 := hw5
                    rw [hw6] at g5 HVB HB4
                    clear hw6
                    try rw [← hBB]
                    try dsimp only [wvs, wz] at hw5
                    try rw [hw5]
                    clear hw5 hBB
                    refine wpAnyH_ready (rs := [5]) (by kernel_rfl) (by simp) ?_
                    refine AllReadyH.cons rfl (fun K hK => ?_) AllReadyH.nil
                    go_simp
                    go_at_call 32
                    refine (hwd _).mono ?_
                    rintro e w6 ⟨rfl, hb6⟩
                    have g6 := keepW2 hb6 g5
                    have HB6 := Lib.hid (bstep HB4.out hb6)
                    have HVB6 := Lib.hid (HVB.out.keep hb6)
                    go_wp2_with fail
                    refine hK.out _ _ (g6) (fun hHeld => ?_)
                    clear hK K hb6
                    try simp only [Act.put, List.setIfInBounds_toArray, List.set_cons_zero, List.set_cons_succ, List.getElem_toArray, List.getElem_cons_zero, List.getElem_cons_succ]
                    refine wpAnyH_take (i := 16) (v := ?w16mb) rfl (by kernel_rfl) (by kernel_rfl) (by kernel_rfl) (fun _ _ _ h => h) (Or.inl ⟨by rfl, ?z16mb⟩) (by assumption) ?s16mb
                    case z16mb => (intro w hSw; (try dsimp only at hSw); go_simp; try with_reducible rfl)
                    try simp only [Act.put, List.setIfInBounds_toArray, List.set_cons_zero, List.set_cons_succ, List.getElem_toArray, List.getElem_cons_zero, List.getElem_cons_succ]
                    refine wpAnyH_ready (rs := [18]) (by kernel_rfl) (by simp) ?_
                    refine AllReadyH.cons rfl (fun K hK => ?_) AllReadyH.nil
                    obtain ⟨z0, z1, z2, z3, z4, z5, zf⟩ := HVB6.out
                    have zf0 := zf 0 (by decide)
                    have zf1 := zf 1 (by decide)
                    have zf2 := zf 2 (by decide)
                    have zf3 := zf 3 (by decide)
                    have zf4 := zf 4 (by decide)
                    have zf5 := zf 5 (by decide)
                    dsimp only [wz] at z0 z1 z2 z3 z4 z5
                    have HFIN := Lib.hid (show ∃ B, Value.pointer (some ⟨BB, 0, none⟩) = .pointer (some ⟨B, 0, none⟩) ∧ wr.heap.size ≤ B ∧ VwP (World.putw w6 BB ⟨kk, ⟨#[]⟩, false, (mx + 1, si), p⟩ (.slice pa p.length pc)) B ⟨kk, ⟨#[]⟩, false, (mx + 1, si), p⟩ (.slice pa p.length pc) ∧ Below wr.heap.size wr (World.putw w6 BB ⟨kk, ⟨#[]⟩, false, (mx + 1, si), p⟩ (.slice pa p.length pc)) from ⟨_, rfl, HBL.out, HVB6.out.putw ⟨kk, ⟨#[]⟩, false, (mx + 1, si), p⟩ (.slice pa p.length pc), below_putw HB6.out HBL.out ⟨kk, ⟨#[]⟩, false, (mx + 1, si), p⟩ (.slice pa p.length pc)⟩)
                    have g7 := putW2 HNE.out g6 ⟨kk, ⟨#[]⟩, false, (mx + 1, si), p⟩ (.slice pa p.length pc)
                    dsimp only [World.putw, wz] at g7
                    clear zf
                    go_simp
                    refine hK.out _ _ (g7) (fun hHeld => ?_)
                    clear hK K
                    try simp only [Act.put, List.setIfInBounds_toArray, List.set_cons_zero, List.set_cons_succ, List.getElem_toArray, List.getElem_cons_zero, List.getElem_cons_succ]
                    refine wpAnyH_done (by kernel_rfl) ?_ _
                    go_wp2
                    go_meet
                    exact HFIN.out
                case rest =>
                  obtain ⟨B, rfl, hBlo, hVX, hbX⟩ := hcut
                  clear g0 hs3 hw1 hwd c0 c1
                  obtain ⟨w0c, hw0c⟩ : ∃ w0c, w0c = wc := ⟨wc, rfl⟩
                  subst hw0c
                  have HVX := Lib.hid hVX
                  have HBX := Lib.hid hbX
                  have HBLO := Lib.hid hBlo
                  have HVMx := Lib.hid ((HVM.out.below hbel).below hbX)
                  have HTW := Lib.hid (twin_take xs kk (mx + 1) si)
                  have HMS : Hid (mkS (xs.map Prod.fst) ⟨wk, wst, saw⟩ = if twinB xs kk (mx + 1) si then xs.map Prod.fst else xs.map Prod.fst ++ [⟨kk, ⟨#[]⟩, false, (mx + 1, si), p⟩]) := Lib.hid (by
                    unfold mkS
                    rw [HX.out, show (⟨kk, ⟨#[]⟩, false, (mx + 1, si), p⟩ : Wv).dep = (kk, mx + 1, si) from rfl, fnd_twin])
                  clear hVX hbX hBlo
                  go_wp2
                  go_loopw [11, 12] (fun tw q w8 => ∃ (q' : Nat), q' ≤ xs.length ∧ q = .int .i64 q' ∧ tw = .bool (twinB (xs.take q') kk (mx + 1) si) ∧ Below w0c.heap.size w0c w8) (fun _ q _ => xs.length - (intOf q).toNat)
                  case atStart => exact ⟨0, by omega, rfl, rfl, Below.refl _ _⟩
                  case round =>
                    obtain ⟨q, hq, rfl, rfl, hbq⟩ := hrel
                    have HBQ := Lib.hid hbq
                    by_cases hql : q < xs.length
                    · have HT := Lib.hid (HTW.out q hql)
                      obtain ⟨yb, yoff, ey, hyb, ⟨y0, y1, y2, y3, y4, y5⟩, _⟩ := (hrow5 (HVMx.out.below hbq)) _ hql
                      subst ey
                      obtain ⟨x0, x1, x2, x3, x4, x5, _⟩ := HVX.out.keep hbq
                      generalize xs[q] = y at y0 y3 y4 HT
                      clear y1 y2 y5 x1 x2 x5 hbq
                      obtain ⟨⟨yk, yv, yg, ⟨yn, ys⟩, yp⟩, ya', yc'⟩ := y
                      dsimp only at y0 y3 y4 x0 x3 x4 HT
                      have hqi : (q : Int) < (xs.length : Int) := by omega
                      have hq0 : (0 : Int) ≤ (q : Int) := by omega
                      have hes := fun w' => eq_stamp w' yn ys (mx + 1) si
                      generalize hts : twinB (xs.take q) kk (mx + 1) si = ts at HT ⊢
                      clear hts
                      generalize hst : decide (((yn, ys) : Int × Int) = (mx + 1, si)) = st at hes HT
                      clear hst
                      rw [text_dec] at HT
                      generalize hke : (yk.toList == kk.toList) = ke at HT
                      cases ts <;> cases ke <;> cases st
                      all_goals
                        go_upto_region 23 with fail
                        go_region
                        go_wp2
                        go_roundw
                        case rel => exact ⟨q + 1, by omega, by go_num, by rw [HT.out]; rfl, HBQ.out.drew⟩
                        case measure => simp [intOf]; omega
                    · obtain rfl : q = xs.length := by omega
                      rw [List.take_length]
                      generalize twinB xs kk (mx + 1) si = tw at HMS ⊢
                      have HBY := Lib.hid (bstep HBX.out hbq)
                      have HVM5 := Lib.hid (HVMx.out.below hbq)
                      have HVX5 := HVX.out.keep hbq
                      obtain ⟨y0, y1, y2, y3, y4, y5, _⟩ := HVX5
                      dsimp only at y0 y1 y2 y3 y4
                      have hs5 : w.heap.size ≤ wr.heap.size := by have h1 := HSZ.out; have h2 := hbel.size; have h3 := HBY.out.size; omega
                      cases tw with
                      | true =>
                        go_wp2
                        go_roundw
                        case rel => exact ⟨i + 1, xs, by omega, by omega, by go_num, by rw [HMK.out, HMS.out]; rfl, HVM5.out, hs5, HBEL.out.trans ((bstep hbel HBY.out).mono HBEL.out.size)⟩
                        case measure => simp [intOf]; omega
                      | false =>
                        go_wp2_with (at_builtin; refine wp_pushR kw_ok (wr := wr) rfl _ _ rfl w.heap.size (.slice sa xs.length sc) xs (⟨kk, ⟨#[]⟩, false, (mx + 1, si), p⟩, pa, pc) #[.string kk, .string ⟨#[]⟩, .bool false, .int .i64 (mx + 1), .int .i64 si, .slice pa p.length pc] rfl rfl HVM5.out.own rfl (by omega) hs5 ?_; intro g6 cap6 w6 ho6 hb6 hk6 hat6 hlt6)
                        have HV6 := Lib.hid (HVM5.out.push ho6 hk6 hb6.size hat6 (show DepAt _ (.slice pa p.length pc) p from (HDP.out.below HBX.out).below HBQ.out) (.inr (fun g h1 h2 => by
                          have h3 := (HVM.out.own.lt g h1).2
                          have h4 := HFR.out g h2
                          omega)))
                        go_wp2
                        go_roundw
                        case rel => exact ⟨i + 1, xs ++ [(⟨kk, ⟨#[]⟩, false, (mx + 1, si), p⟩, pa, pc)], by omega, by omega, by go_num, by rw [HMK.out, HMS.out, List.map_append]; rfl, by simpa using HV6.out, by have := hb6.size; omega, HBEL.out.trans (((bstep hbel HBY.out).mono HBEL.out.size).trans (hb6.mono (by omega)))⟩
                        case measure => simp [intOf]; omega
    · have HX := Lib.hid (mk_all ws hk hk14 hlt)
      rcases (show (decide (i < ws.length) = false) ∨ (decide (i < ws.length) = true ∧ decide ((i : Int) < 14) = false) by simp; omega) with hd | ⟨hd, hd2⟩
      all_goals
        go_wp2
        go_ret
        exact ⟨_, xs, rfl, by rw [HXS.out, HX.out], HVM.out, hbel⟩
end Go.Proofs.Ytfmedinhlmiaeaa
