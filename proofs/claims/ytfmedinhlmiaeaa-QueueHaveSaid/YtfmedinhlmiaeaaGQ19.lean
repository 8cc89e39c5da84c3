/- What queue.Next answers. -/
import Derived.Test.YtfmedinhlmiaeaaGQ18
import Derived.Deep.RegionHeld3
import Derived.Deep.DeepCutAuto
namespace Go.Proofs.Ytfmedinhlmiaeaa
open Go.RowKit
set_option linter.unusedVariables false
set_option linter.unusedSimpArgs false

/-- Is nothing of it missing? -/
def readyB (rs : List (ByteArray × ByteArray)) (hs : List De) (x : Vw) : Bool := (missD rs hs x.1.past).isEmpty
/-- Which one comes next. -/
def nxI (rs : List (ByteArray × ByteArray)) (hs : List De) (l : List Vw) : Option Nat := l.findIdx? (readyB rs hs)
def nxV (rs : List (ByteArray × ByteArray)) (hs : List De) (l : List Vw) : Vw := match nxI rs hs l with | none => vw0 | some i => l[i]?.getD vw0
def nxL (rs : List (ByteArray × ByteArray)) (hs : List De) (l : List Vw) : List Vw := match nxI rs hs l with | none => l | some i => l.take i ++ l.drop (i + 1)
theorem ready_iff {rs : List (ByteArray × ByteArray)} {hs : List De} {x : Vw} : readyB rs hs x = true ↔ ∀ d ∈ onlyD rs x.1.past, Sm.less (gtD hs d.1) d.2 = false := by
  unfold readyB
  rw [List.isEmpty_iff, missD_nil]
theorem ready_no {rs : List (ByteArray × ByteArray)} {hs : List De} {x : Vw} {d : De} (hd : d ∈ onlyD rs x.1.past) (h : Sm.less (gtD hs d.1) d.2 = true) : readyB rs hs x = false := by
  cases hq : readyB rs hs x with
  | false => rfl
  | true => rw [ready_iff.1 hq d hd] at h; cases h
theorem nxI_some {rs : List (ByteArray × ByteArray)} {hs : List De} {l : List Vw} {k : Nat} (hk : k < l.length) (h : ∀ j (hj : j < l.length), j < k → readyB rs hs l[j] = false) (hh : readyB rs hs l[k] = true) : nxI rs hs l = some k := by
  unfold nxI
  rw [List.findIdx?_eq_some_iff_getElem]
  exact ⟨hk, hh, fun j hj => by simpa using h j (by omega) hj⟩
theorem nxI_none {rs : List (ByteArray × ByteArray)} {hs : List De} {l : List Vw} (h : ∀ j (hj : j < l.length), readyB rs hs l[j] = false) : nxI rs hs l = none := by
  unfold nxI
  rw [List.findIdx?_eq_none_iff]
  intro x hx
  obtain ⟨j, hj, rfl⟩ := List.getElem_of_mem hx
  exact h j hj
theorem nx_at {rs : List (ByteArray × ByteArray)} {hs : List De} {l : List Vw} {k : Nat} (hk : k < l.length) (h : nxI rs hs l = some k) : nxV rs hs l = l[k] ∧ nxL rs hs l = l.take k ++ l.drop (k + 1) ∧ (nxI rs hs l).isSome = true := by
  unfold nxV nxL
  rw [h]
  dsimp only
  rw [List.getElem?_eq_getElem hk]
  exact ⟨rfl, rfl, rfl⟩
theorem nx_not {rs : List (ByteArray × ByteArray)} {hs : List De} {l : List Vw} (h : nxI rs hs l = none) : nxV rs hs l = vw0 ∧ nxL rs hs l = l ∧ (nxI rs hs l).isSome = false := by
  unfold nxV nxL
  rw [h]
  exact ⟨rfl, rfl, rfl⟩

/-- What lies behind the first ones of a row. -/
theorem tailQ {w : World} {a : Option Addr} {cap : Nat} {xs : List Vw} (h : RowAt KW w (.slice a xs.length cap) xs) (n : Nat) (hn : n ≤ xs.length) : RowAt KW w (.slice (if cap = n then a else a.map (·.add (n * 6))) (xs.length - n) (cap - n)) (xs.drop n) := by
  obtain ⟨a', c', e, h1, h2, h3, hr⟩ := h
  cases e
  refine ⟨_, _, by rw [List.length_drop], by rw [List.length_drop]; omega, by omega, fun he => ?_, ?_⟩
  · by_cases hc : cap = n
    · omega
    · rw [if_neg hc, Option.map_eq_none_iff] at he
      have := h3 he
      omega
  · by_cases hc : cap = n
    · rw [List.drop_of_length_le (by omega)]
      intro i hi
      exact absurd hi (by simp)
    · rw [if_neg hc]
      cases xs with
      | nil => intro i hi; exact absurd hi (by simp)
      | cons x r =>
        obtain ⟨b, off, rfl, _⟩ := hr 0 (by simp)
        rw [Option.map_some, Addr.add_lit]
        exact hr.dropR n
/-- The first ones, with no room behind them. -/
theorem headQ {w : World} {a : Option Addr} {cap : Nat} {xs : List Vw} (h : RowAt KW w (.slice a xs.length cap) xs) (n : Nat) (hn : n ≤ xs.length) : RowAt KW w (.slice a n n) (xs.take n) := by
  obtain ⟨a', c', e, h1, h2, h3, hr⟩ := h
  cases e
  refine ⟨a, n, by rw [List.length_take, Nat.min_eq_left hn], by rw [List.length_take]; omega, by omega, fun he => by have := h3 he; omega, hr.takeR n⟩
theorem concat2_any (B : Nat) (v1 v2 : Value) (x y : List Vw) (w : World) (hx : x.length ≤ 300000) (hy : y.length ≤ 300000) (h1 : RowAt KW w v1 x) (h2 : RowAt KW w v2 y) (c1 : w.cell? ⟨B, 0, none⟩ = some v1) (c2 : w.cell? ⟨B, 1, none⟩ = some v2) :
    Calls Try.prog 38 #[.slice (some ⟨B, 0, none⟩) 2 2] w fun e w' => ∃ v', e = .returned v' ∧ OwnR KW w' w.heap.size v' (x ++ y) ∧ Below w.heap.size w w' := by
  have hr : RowsAtW w (some ⟨B, 0, none⟩) [x, y] := by
    refine ⟨[v1, v2], rfl, fun i hi => ?_, fun i hi hi' => ?_⟩
    · rcases (show i = 0 ∨ i = 1 by simp at hi; omega) with rfl | rfl
      · exact ⟨B, 0, rfl, lt_of_cellN c1, c1⟩
      · exact ⟨B, 0, rfl, lt_of_cellN c1, c2⟩
    · rcases (show i = 0 ∨ i = 1 by simp at hi; omega) with rfl | rfl
      · exact h1
      · exact h2
  have h := concatW_any (some ⟨B, 0, none⟩) 2 [x, y] w (by simp) (by simp [totW]; omega) hr
  have e : [x, y].flatten = x ++ y := by simp
  rw [e] at h
  exact h

theorem keepZn {W w1 : World} {b : Nat} {x0 x1 x2 x3 x4 x5 : Value} (hb : Below W.heap.size W w1) (h : W.cell? ⟨b, 0, none⟩ = some x0 ∧ W.cell? ⟨b, 1, none⟩ = some x1 ∧ W.cell? ⟨b, 2, none⟩ = some x2 ∧ W.cell? ⟨b, 3, none⟩ = some x3 ∧ W.cell? ⟨b, 4, none⟩ = some x4 ∧ W.cell? ⟨b, 5, none⟩ = some x5) :
    w1.cell? ⟨b, 0, none⟩ = some x0 ∧ w1.cell? ⟨b, 1, none⟩ = some x1 ∧ w1.cell? ⟨b, 2, none⟩ = some x2 ∧ w1.cell? ⟨b, 3, none⟩ = some x3 ∧ w1.cell? ⟨b, 4, none⟩ = some x4 ∧ w1.cell? ⟨b, 5, none⟩ = some x5 :=
  ⟨kc hb h.1, kc hb h.2.1, kc hb h.2.2.1, kc hb h.2.2.2.1, kc hb h.2.2.2.2.1, kc hb h.2.2.2.2.2⟩
theorem keepZb {W w1 : World} {b : Nat} {x0 x1 x2 x3 x4 x5 : Value} (hb : w1.heap[b]? = W.heap[b]?) (h : W.cell? ⟨b, 0, none⟩ = some x0 ∧ W.cell? ⟨b, 1, none⟩ = some x1 ∧ W.cell? ⟨b, 2, none⟩ = some x2 ∧ W.cell? ⟨b, 3, none⟩ = some x3 ∧ W.cell? ⟨b, 4, none⟩ = some x4 ∧ W.cell? ⟨b, 5, none⟩ = some x5) :
    w1.cell? ⟨b, 0, none⟩ = some x0 ∧ w1.cell? ⟨b, 1, none⟩ = some x1 ∧ w1.cell? ⟨b, 2, none⟩ = some x2 ∧ w1.cell? ⟨b, 3, none⟩ = some x3 ∧ w1.cell? ⟨b, 4, none⟩ = some x4 ∧ w1.cell? ⟨b, 5, none⟩ = some x5 := by
  refine ⟨?_, ?_, ?_, ?_, ?_, ?_⟩ <;> rw [World.cell?_of_block hb]
  · exact h.1
  · exact h.2.1
  · exact h.2.2.1
  · exact h.2.2.2.1
  · exact h.2.2.2.2.1
  · exact h.2.2.2.2.2

set_option maxRecDepth 100000 in
set_option maxHeartbeats 6400000 in
theorem next_any (v hv : Value) (l : List Vw) (hs : List De) (a : Option Addr) (cap : Nat) (rs : List (ByteArray × ByteArray)) (w : World) (hl : l.length ≤ 100000) (hV : WRow w v l) (hP : ∀ x ∈ l, x.1.past.length ≤ 100000) (hC : Ctx w hv hs a rs) :
    Calls Try.prog 18 #[v, hv, .slice a rs.length cap] w fun e w' => ∃ u, e = .returned (.tuple #[wV (nxV rs hs l), u, .bool (nxI rs hs l).isSome]) ∧ OwnR KW w' w.heap.size u (nxL rs hs l) ∧ Below w.heap.size w w' := by
  have hb0 : Below w.heap.size w (w.alloc (.cells (wvs wz (.slice none 0 0)) 27)) := balloc (Below.refl _ w) _
  have HVZ := Lib.hid (VwP.new w wz (.slice none 0 0) 27)
  have HW0 := Lib.hid (hV.below hb0)
  have HP := Lib.hid hP
  have HC0 := Lib.hid (hC.below hb0)
  have HNS : Hid (∀ k (hk : k < l.length), (∀ j (hj : j < l.length), j < k → readyB rs hs l[j] = false) → readyB rs hs l[k] = true → nxV rs hs l = l[k] ∧ nxL rs hs l = l.take k ++ l.drop (k + 1) ∧ (nxI rs hs l).isSome = true) := Lib.hid fun k hk h1 h2 => nx_at hk (nxI_some hk h1 h2)
  have HNN : Hid ((∀ j (hj : j < l.length), readyB rs hs l[j] = false) → nxV rs hs l = vw0 ∧ nxL rs hs l = l ∧ (nxI rs hs l).isSome = false) := Lib.hid fun h => nx_not (nxI_none h)
  generalize nxV rs hs l = nv at HNS HNN ⊢
  generalize nxL rs hs l = nl at HNS HNN ⊢
  generalize (nxI rs hs l).isSome = nb at HNS HNN ⊢
  obtain ⟨va, vc, rfl, _, _, _⟩ := hV.shape
  obtain ⟨ha, hc, rfl, _⟩ := hC.at_
  have HB0 := Lib.hid hb0
  have HSZ0 : Hid ((w.alloc (.cells (wvs wz (.slice none 0 0)) 27)).heap.size = w.heap.size + 1) := Lib.hid (by simp)
  clear hV hP hC hb0
  go_enter Try.func18, Try.ntmps18
  go_wp2
  go_step3
  dsimp only [wvs, wz] at *
  obtain ⟨w1, hw1⟩ : ∃ w1, w.alloc (.cells #[.string ⟨#[]⟩, .string ⟨#[]⟩, .bool false, .int .i64 0, .int .i64 0, .slice none 0 0] 27) = w1 := ⟨_, rfl⟩
  try rw [hw1] at HVZ
  try rw [hw1] at HW0
  try rw [hw1] at HC0
  try rw [hw1] at HB0
  try rw [hw1] at HSZ0
  try rw [hw1]
  clear hw1
  have hpr := present_any (.slice ha hs.length hc) hs w1 (by have := HC0.out.len; omega) HC0.out.szd HC0.out.at_
  go_wp2_with fail
  refine hpr.mono ?_
  rintro e w2 ⟨Hb, rfl, hP2, hb2⟩
  have HPR := Lib.hid hP2
  have HB2 := Lib.hid (bstep HB0.out hb2)
  have HVZ2 := Lib.hid (HVZ.out.keep hb2)
  have HW2 := Lib.hid (HW0.out.below hb2)
  have HC2 := Lib.hid (HC0.out.below hb2)
  have HS12 := Lib.hid hb2.size
  clear hP2 hb2 hpr
  go_wp2
  try go_step3
  go_wp2
  go_loopw [20] (fun i wr => ∃ k : Nat, k ≤ l.length ∧ i = .int .i64 k ∧ (∀ j (hj : j < l.length), j < k → readyB rs hs l[j] = false) ∧ Below w2.heap.size w2 wr) (fun i _ => l.length - (intOf i).toNat)
  case atStart => exact ⟨0, by omega, rfl, (fun j hj h => by omega), Below.refl _ _⟩
  case round =>
    obtain ⟨k, hk, rfl, hall, hbel⟩ := hrel
    have HA := Lib.hid hall
    obtain ⟨w0, hw0⟩ : ∃ w0, w0 = wr := ⟨wr, rfl⟩
    subst hw0
    have HBEL := Lib.hid hbel
    clear hall
    by_cases hlt : k < l.length
    · obtain ⟨b, off, rfl, hbl, hq, hvb⟩ := (HW2.out.below hbel).at k hlt
      have HVB := Lib.hid hvb
      have HPL := HP.out l[k] (List.getElem_mem hlt)
      have HR := Lib.hid (HNS.out k hlt HA.out)
      have HN : Hid (readyB rs hs l[k] = false → ∀ j (hj : j < l.length), j < k + 1 → readyB rs hs l[j] = false) := Lib.hid (fun h j hj h2 => by
        by_cases e : j = k
        · subst e; exact h
        · exact HA.out j hj (by omega))
      have HRN : Hid (∀ d ∈ onlyD rs l[k].1.past, Sm.less (gtD hs d.1) d.2 = true → readyB rs hs l[k] = false) := Lib.hid fun d hd h => ready_no hd h
      have HRY : Hid ((∀ d ∈ onlyD rs l[k].1.past, Sm.less (gtD hs d.1) d.2 = false) → readyB rs hs l[k] = true) := Lib.hid fun h => ready_iff.2 h
      generalize readyB rs hs l[k] = rb at HR HN HRN HRY
      generalize hxx : l[k] = x at hq HVB HPL HR HRN HRY
      have HXX := Lib.hid hxx
      clear hxx hvb
      have HVX := Lib.hid (VwP.new w0 x.1 (pw x) 27)
      have HB1 := Lib.hid (balloc (Below.refl _ w0) (.cells (wcs x) 27))
      obtain ⟨⟨key, val, gone, ⟨m, t⟩, past⟩, pa, pc⟩ := x
      obtain ⟨c0, c1, c2, c3, c4, c5⟩ := hq
      dsimp only [wcs, wvs, pw] at c0 c1 c2 c3 c4 c5 HVX HB1 HVB HPL HRN HRY
      have hon := only_any (.slice pa past.length pc) past a cap rs (w0.alloc (.cells #[.string key, .string val, .bool gone, .int .i64 m, .int .i64 t, .slice pa past.length pc] 27)) HPL HC2.out.few ((HC2.out.below hbel).below HB1.out).rng (HVB.out.below HB1.out).1.at_
      have hol := onlyD_len rs past
      have HOM : Hid (∀ d ∈ onlyD rs past, d.1.size ≤ 9223372036854775807) := Lib.hid fun d hd => HVB.out.1.szd d (onlyD_mem hd)
      generalize onlyD rs past = os at hon hol HRN HRY HOM
      have hki : (k : Int) < (l.length : Int) := by omega
      have hk0 : (0 : Int) ≤ (k : Int) := by omega
      clear hbel
      go_wp2_with fail
      refine hon.mono ?_
      rintro e w3 ⟨v3, rfl, ho3, hb3⟩
      obtain ⟨sa, sc, rfl⟩ := ho3.shape
      have HO3 := Lib.hid (DepAt.of_own ho3)
      have HB3 := Lib.hid (bstep HB1.out hb3)
      have HVX3 := Lib.hid (HVX.out.keep hb3)
      clear ho3 hb3 hon c0 c1 c2 c3 c4 c5
      go_wp2
      go_loopw [30] (fun i wq => ∃ j : Nat, j ≤ os.length ∧ i = .int .i64 j ∧ (∀ q (hq : q < os.length), q < j → Sm.less (gtD hs os[q].1) os[q].2 = false) ∧ Below w3.heap.size w3 wq) (fun i _ => os.length - (intOf i).toNat)
      case atStart => exact ⟨0, by omega, rfl, (fun j hj h => by omega), Below.refl _ _⟩
      case round =>
        obtain ⟨j, hj, rfl, hall, hbel⟩ := hrel
        have HA3 := Lib.hid hall
        have HB4 := Lib.hid hbel
        clear hall
        by_cases hjl : j < os.length
        · obtain ⟨a', c', e', _, _, _, hri⟩ := HO3.out.below hbel
          cases e'
          obtain ⟨b', off', rfl, hbl', d0, d1, d2⟩ := hri j hjl
          have HN3 : Hid (Sm.less (gtD hs os[j].1) os[j].2 = false → ∀ q (hq : q < os.length), q < j + 1 → Sm.less (gtD hs os[q].1) os[q].2 = false) := Lib.hid (fun h q hq h2 => by
            by_cases e : q = j
            · subst e; exact h
            · exact HA3.out q hq (by omega))
          have HT3 := Lib.hid (HRN.out os[j] (List.getElem_mem hjl))
          have HSZ3 := Lib.hid (HOM.out os[j] (List.getElem_mem hjl))
          generalize os[j] = d at d0 d1 d2 HN3 HT3 HSZ3
          obtain ⟨x, y, z⟩ := d
          dsimp only at d0 d1 d2 HN3 HT3 HSZ3
          have hb5 : Below wr.heap.size wr (wr.alloc (.cells #[.string x, .int .i64 y, .int .i64 z] 34)) := balloc (Below.refl _ wr) _
          have HBW : Hid (Below w2.heap.size w2 wr) := Lib.hid (HBEL.out.trans ((bstep HB3.out hbel).mono HBEL.out.size))
          have hcl := presentC_any hs HC0.out.szd w1.heap.size Hb x y z (wr.alloc (.cells #[.string x, .int .i64 y, .int .i64 z] 34)) (by have := HSZ3.out; unfold maxLen; exact this) ((HPR.out.below HBW.out).below hb5)
          have HB5 := Lib.hid (bstep hbel hb5)
          generalize hlc : Sm.less (gtD hs x) (y, z) = lc at hcl HN3 HT3
          clear hlc hri hb5 hbel
          cases lc with
          | true =>
            have hrb : rb = false := HT3.out rfl
            go_wp2_with (go_at_call 51; refine hcl.mono ?_; rintro e w5 ⟨rfl, hb5⟩; have HB6 := Lib.hid (bstep HB5.out hb5); clear hb5)
            go_roundw
            case rel => exact ⟨k + 1, by omega, by go_num, HN.out hrb, HBEL.out.trans ((bstep HB3.out HB6.out).mono HBEL.out.size)⟩
            case measure => simp [intOf]; omega
          | false =>
            go_wp2_with (go_at_call 51; refine hcl.mono ?_; rintro e w5 ⟨rfl, hb5⟩; have HB6 := Lib.hid (bstep HB5.out hb5); clear hb5)
            go_roundw
            case rel => exact ⟨j + 1, by omega, by go_num, HN3.out (by first | rfl | trivial), HB6.out⟩
            case measure => simp [intOf]; omega
        · obtain rfl : j = os.length := by omega
          have hrb : rb = true := HRY.out (fun d hd => by
            obtain ⟨q, hq, rfl⟩ := List.getElem_of_mem hd
            exact HA3.out q hq hq)
          obtain ⟨r1, r2, r3⟩ := HR.out hrb
          have HNL := Lib.hid r2
          subst r1 r3
          have HBQ : Hid (Below w2.heap.size w2 wr) := Lib.hid (HBEL.out.trans ((bstep HB3.out hbel).mono HBEL.out.size))
          have HVQ := Lib.hid (HVX3.out.keep hbel)
          have HVZ4 := Lib.hid (HVZ2.out.keep HBQ.out)
          have hWr := HW2.out.below HBQ.out
          have HHD := Lib.hid (headQ hWr.1 k hk)
          obtain ⟨k1, hk1⟩ : ∃ k1, k1 = k + 1 := ⟨_, rfl⟩
          have htl := tailQ hWr.1 k1 (by omega)
          rw [Option.map_some, Addr.add_lit] at htl
          have HTL := Lib.hid htl
          clear htl
          have HK1 := Lib.hid hk1
          obtain ⟨_, hcap, _, _⟩ := hWr.shape
          have hkc : (k : Int) ≤ (vc : Int) := by have := HW0.out.shape; omega
          have hk1l : (k1 : Int) ≤ (l.length : Int) := by omega
          have hk10 : (0 : Int) ≤ (k1 : Int) := by omega
          have hwk : IntKind.i64.wrap ((k : Int) + 1) = (k1 : Int) := by rw [hk1]; exact IntWalk.i64_in _ (by omega)
          clear r2 hbel hWr hk1
          go_wp2_with fail
          go_region
          generalize (if vc = k1 then (some ⟨b, off, none⟩ : Option Addr) else some ⟨b, off + k1 * 6, none⟩) = ta at *
          have HBD := Lib.hid ((Below.refl wr.heap.size wr).drew)
          obtain ⟨w6, hw6⟩ : ∃ w6, wr.drew = w6 := ⟨_, rfl⟩
          rw [hw6] at HBD
          try rw [hw6]
          clear hw6
          have HBA := Lib.hid (balloc (Below.refl w6.drew.heap.size w6.drew) (.cells #[.slice (some ⟨b, off, none⟩) k k, .slice ta (l.length - k1) (vc - k1)] 31))
          have HVX6 := Lib.hid (HVQ.out.keep (HBD.out.drew))
          have g0 : w6.drew.cell? ⟨w0.heap.size, 0, none⟩ = some (.string key) ∧ w6.drew.cell? ⟨w0.heap.size, 1, none⟩ = some (.string val) ∧ w6.drew.cell? ⟨w0.heap.size, 2, none⟩ = some (.bool gone) ∧ w6.drew.cell? ⟨w0.heap.size, 3, none⟩ = some (.int .i64 m) ∧ w6.drew.cell? ⟨w0.heap.size, 4, none⟩ = some (.int .i64 t) ∧ w6.drew.cell? ⟨w0.heap.size, 5, none⟩ = some (.slice pa past.length pc) := ⟨HVX6.out.c0, HVX6.out.c1, HVX6.out.c2, HVX6.out.c3, HVX6.out.c4, HVX6.out.c5⟩
          have hcon := concat2_any w6.heap.size (.slice (some ⟨b, off, none⟩) k k) (.slice ta (l.length - k1) (vc - k1)) (l.take k) (l.drop k1) (w6.drew.alloc (.cells #[.slice (some ⟨b, off, none⟩) k k, .slice ta (l.length - k1) (vc - k1)] 31)) (by rw [List.length_take]; omega) (by rw [List.length_drop]; omega) ((HHD.out.below HBD.out.drew).below HBA.out) ((HTL.out.below HBD.out.drew).below HBA.out) (by rw [World.cell?_alloc_at _ _ _ _ (show w6.heap.size = w6.drew.heap.size from rfl)]; rfl) (by rw [World.cell?_alloc_at _ _ _ _ (show w6.heap.size = w6.drew.heap.size from rfl)]; rfl)
          obtain ⟨cl, hcl⟩ : ∃ cl, cl = l.take k ++ l.drop k1 := ⟨_, rfl⟩
          rw [← hcl] at hcon
          have HCL := Lib.hid hcl
          clear hcl
          have HCON := Lib.hid hcon
          have HWB : Hid (w.heap.size < (w6.drew.alloc (.cells #[.slice (some ⟨b, off, none⟩) k k, .slice ta (l.length - k1) (vc - k1)] 31)).heap.size) := Lib.hid (by have h1 := HBA.out.size; have h2 := HBD.out.size; have h4 : w6.drew.heap.size = w6.heap.size := rfl; have h6 := HBEL.out.size; have h7 := HS12.out; have h8 := HSZ0.out; have h9 := HBQ.out.size; omega)
          have HVZ6 := Lib.hid (HVZ4.out.keep ((HBD.out.drew).trans (HBA.out.mono HBD.out.size)))
          clear hcon
          go_wp2_with fail
          refine wp_region_held_drew (S := fun w' => w'.cell? ⟨w0.heap.size, 0, none⟩ = some (.string key) ∧ w'.cell? ⟨w0.heap.size, 1, none⟩ = some (.string val) ∧ w'.cell? ⟨w0.heap.size, 2, none⟩ = some (.bool gone) ∧ w'.cell? ⟨w0.heap.size, 3, none⟩ = some (.int .i64 m) ∧ w'.cell? ⟨w0.heap.size, 4, none⟩ = some (.int .i64 t) ∧ w'.cell? ⟨w0.heap.size, 5, none⟩ = some (.slice pa past.length pc)) (by kernel_rfl) (g0) (fun hHeld => ?_)
          refine wpAnyH_take (i := 0) (v := ?vn0) rfl (by kernel_rfl) (by kernel_rfl) (by kernel_rfl) (fun _ _ _ h => h) (Or.inl ⟨by rfl, ?yn0⟩) (by assumption) ?rn0
          case yn0 => (intro w hSw; (try dsimp only at hSw); go_simp; try with_reducible rfl)
          try simp only [Act.put, List.setIfInBounds_toArray, List.set_cons_zero, List.set_cons_succ, List.getElem_toArray, List.getElem_cons_zero, List.getElem_cons_succ]
          refine wpAnyH_take (i := 1) (v := ?vn1) rfl (by kernel_rfl) (by kernel_rfl) (by kernel_rfl) (fun _ _ _ h => h) (Or.inl ⟨by rfl, ?yn1⟩) (by assumption) ?rn1
          case yn1 => (intro w hSw; (try dsimp only at hSw); go_simp; try with_reducible rfl)
          try simp only [Act.put, List.setIfInBounds_toArray, List.set_cons_zero, List.set_cons_succ, List.getElem_toArray, List.getElem_cons_zero, List.getElem_cons_succ]
          refine wpAnyH_take (i := 2) (v := ?vn2) rfl (by kernel_rfl) (by kernel_rfl) (by kernel_rfl) (fun _ _ _ h => h) (Or.inl ⟨by rfl, ?yn2⟩) (by assumption) ?rn2
          case yn2 => (intro w hSw; (try dsimp only at hSw); go_simp; try with_reducible rfl)
          try simp only [Act.put, List.setIfInBounds_toArray, List.set_cons_zero, List.set_cons_succ, List.getElem_toArray, List.getElem_cons_zero, List.getElem_cons_succ]
          refine wpAnyH_ready (rs := [3]) (by kernel_rfl) (by simp) ?_
          refine AllReadyH.cons rfl (fun K hK => ?_) AllReadyH.nil
          go_simp
          refine hK.out _ _ (keepZn (balloc (Below.refl _ _) _) g0) (fun hHeld => ?_)
          clear hK K
          try simp only [Act.put, List.setIfInBounds_toArray, List.set_cons_zero, List.set_cons_succ, List.getElem_toArray, List.getElem_cons_zero, List.getElem_cons_succ]
          refine wpAnyH_ready (rs := [4]) (by kernel_rfl) (by simp) ?_
          refine AllReadyH.cons rfl (fun K hK => ?_) AllReadyH.nil
          go_simp
          go_at_call 38
          refine (HCON.out).mono ?_
          rintro e w7 ⟨v7, rfl, ho7, hb7⟩
          have g4 := keepZn hb7 (keepZn (balloc (Below.refl _ _) _) g0)
          have HVZ7 := Lib.hid (HVZ6.out.keep hb7)
          obtain ⟨sa7, sc7, rfl⟩ := ho7.shape
          have HO7 := Lib.hid ho7
          have HB7 := Lib.hid hb7
          clear ho7 hb7
          go_wp2_with fail
          refine hK.out _ _ (g4) (fun hHeld => ?_)
          clear hK K
          try simp only [Act.put, List.setIfInBounds_toArray, List.set_cons_zero, List.set_cons_succ, List.getElem_toArray, List.getElem_cons_zero, List.getElem_cons_succ]
          obtain ⟨z0, z1, z2, z3, z4, z5, zf⟩ := HVZ7.out
          have zf0 := zf 0 (by decide)
          have zf1 := zf 1 (by decide)
          have zf2 := zf 2 (by decide)
          have zf3 := zf 3 (by decide)
          have zf4 := zf 4 (by decide)
          have zf5 := zf 5 (by decide)
          have HP := Lib.hid (HVZ7.out.putw ⟨key, val, gone, (m, t), past⟩ (.slice pa past.length pc))
          have HBP := Lib.hid (below_putw (n := w.heap.size) (show Below w.heap.size w w7 from ((HB2.out.trans (HBQ.out.mono HB2.out.size)).trans (((HBD.out.drew).trans (HBA.out.mono HBD.out.size)).mono (HB2.out.trans (HBQ.out.mono HB2.out.size)).size)).trans (HB7.out.mono (by have h1 := HBA.out.size; have h2 := HBD.out.size; have h3 := (HB2.out.trans (HBQ.out.mono HB2.out.size)).size; have h4 : w6.drew.heap.size = w6.heap.size := rfl; omega))) (Nat.le_refl _) ⟨key, val, gone, (m, t), past⟩ (.slice pa past.length pc))
          have hne : w0.heap.size ≠ w.heap.size := by have h1 := HBEL.out.size; have h2 := HS12.out; have h3 := HSZ0.out; omega
          have hpb := putw_block w7 w.heap.size ⟨key, val, gone, (m, t), past⟩ (.slice pa past.length pc) w0.heap.size hne
          have g5 := keepZb hpb g4
          clear zf hne hpb
          dsimp only [World.putw] at g5
          refine wpAnyH_ready (rs := [5]) (by kernel_rfl) (by simp) ?_
          refine AllReadyH.cons rfl (fun K hK => ?_) AllReadyH.nil
          go_simp
          refine hK.out _ _ (g5) (fun hHeld => ?_)
          clear hK K
          try simp only [Act.put, List.setIfInBounds_toArray, List.set_cons_zero, List.set_cons_succ, List.getElem_toArray, List.getElem_cons_zero, List.getElem_cons_succ]
          refine wpAnyH_take (i := 6) (v := ?vn6) rfl (by kernel_rfl) (by kernel_rfl) (by kernel_rfl) (fun _ _ _ h => h) (Or.inl ⟨by rfl, ?yn6⟩) (by assumption) ?rn6
          case yn6 => (intro w hSw; (try dsimp only at hSw); go_simp; try with_reducible rfl)
          try simp only [Act.put, List.setIfInBounds_toArray, List.set_cons_zero, List.set_cons_succ, List.getElem_toArray, List.getElem_cons_zero, List.getElem_cons_succ]
          refine wpAnyH_take (i := 7) (v := ?vn7) rfl (by kernel_rfl) (by kernel_rfl) (by kernel_rfl) (fun _ _ _ h => h) (Or.inl ⟨by rfl, ?yn7⟩) (by assumption) ?rn7
          case yn7 => (intro w hSw; (try dsimp only at hSw); go_simp; try with_reducible rfl)
          try simp only [Act.put, List.setIfInBounds_toArray, List.set_cons_zero, List.set_cons_succ, List.getElem_toArray, List.getElem_cons_zero, List.getElem_cons_succ]
          refine wpAnyH_done (by kernel_rfl) ?_ _
          clear g0 g4 g5 hHeld
          go_wp2_with fail
          try rw [Exit.noGoto_ret]
          obtain ⟨r0, r1, r2, r3, r4, r5, _⟩ := HP.out
          dsimp only [World.putw] at r0 r1 r2 r3 r4 r5
          refine bodyPost_ret (v := .tuple #[.agg #[.string key, .string val, .bool gone, .int .i64 m, .int .i64 t, .slice pa past.length pc], .slice sa7 cl.length sc7, .bool true]) (by simp [results, Try.results18, go_sem, r0, r1, r2, r3, r4, r5]) rfl ⟨_, rfl, ?_, HBP.out⟩
          have ho8 := HO7.out.mono (Nat.le_of_lt HWB.out)
          rw [HNL.out, ← HK1.out, ← HCL.out]
          exact ho8.block (fun g e => putw_block w7 w.heap.size ⟨key, val, gone, (m, t), past⟩ (.slice pa past.length pc) g (Nat.ne_of_gt (Nat.lt_of_lt_of_le HWB.out (HO7.out.lt g e).1)))
    · obtain rfl : k = l.length := by omega
      obtain ⟨e1, e2, e3⟩ := HNN.out (fun j hj => HA.out j hj hj)
      subst e1 e3
      have HNL := Lib.hid e2
      have HBQ := Lib.hid (HB2.out.trans (HBEL.out.mono HB2.out.size))
      have HWB : Hid (w.heap.size < w0.heap.size) := Lib.hid (by have h6 := HBEL.out.size; have h7 := HS12.out; have h8 := HSZ0.out; omega)
      obtain ⟨z0, z1, z2, z3, z4, z5, zf⟩ := HVZ2.out.keep HBEL.out
      have zf0 := zf 0 (by decide)
      have zf1 := zf 1 (by decide)
      have zf2 := zf 2 (by decide)
      have zf3 := zf 3 (by decide)
      have zf4 := zf 4 (by decide)
      have zf5 := zf 5 (by decide)
      have hcl := cloneW_any _ l w0 hl (HW2.out.below HBEL.out).1
      have HZP := Lib.hid (HVZ2.out.keep HBEL.out)
      clear zf e2
      go_wp2_with fail
      refine hcl.mono ?_
      rintro e w5 ⟨v5, rfl, ho5, hb5⟩
      obtain ⟨z0, z1, z2, z3, z4, z5, zf⟩ := HZP.out.keep hb5
      have zf0 := zf 0 (by decide)
      have zf1 := zf 1 (by decide)
      have zf2 := zf 2 (by decide)
      have zf3 := zf 3 (by decide)
      have zf4 := zf 4 (by decide)
      have zf5 := zf 5 (by decide)
      obtain ⟨sa, sc, rfl⟩ := ho5.shape
      have HO5 := Lib.hid ho5
      have HB5 := Lib.hid (bstep HBQ.out hb5)
      have HB5w := Lib.hid hb5
      clear zf ho5 hb5 hcl
      have HP := Lib.hid ((HZP.out.keep HB5w.out).putw wz (.slice none 0 0))
      have HBP := Lib.hid (below_putw (n := w.heap.size) HB5.out (Nat.le_refl _) wz (.slice none 0 0))
      go_wp2
      try rw [Exit.noGoto_ret]
      obtain ⟨r0, r1, r2, r3, r4, r5, _⟩ := HP.out
      dsimp only [World.putw, wz] at r0 r1 r2 r3 r4 r5
      refine bodyPost_ret (v := .tuple #[.agg #[.string ⟨#[]⟩, .string ⟨#[]⟩, .bool false, .int .i64 0, .int .i64 0, .slice none 0 0], .slice sa l.length sc, .bool false]) (by simp [results, Try.results18, go_sem, r0, r1, r2, r3, r4, r5]) rfl ⟨_, rfl, ?_, HBP.out⟩
      have ho6 := HO5.out.mono HBQ.out.size
      rw [HNL.out]
      exact ho6.block (fun g e => putw_block w5 w.heap.size wz (.slice none 0 0) g (Nat.ne_of_gt (Nat.lt_of_lt_of_le HWB.out (HO5.out.lt g e).1)))
end Go.Proofs.Ytfmedinhlmiaeaa
