/- What wire.RowBytes answers. -/
import Derived.Test.YtllagelopdedfaaGW18
import Derived.Deep.RegionHeld3
namespace Go.Proofs.Ytllagelopdedfaa
open Go.RowKit
set_option linter.unusedVariables false
set_option linter.unusedSimpArgs false

def rowbV (c : Rw) : List UInt8 := if okRw c then rowB c else []

set_option maxRecDepth 100000 in
set_option maxHeartbeats 400000 in
theorem rowBytes_no (c : Rw) (u0 u1 u2 : Value) (w : World) (h : RwAt w u0 u1 u2 c) (hk : okRw c = false) :
    Calls Try.prog 34 #[.agg #[u0, u1, u2]] w fun e w' => e = .returned (.string ⟨(rowbV c).toArray⟩) ∧ Below w.heap.size w w' := by
  have hb0 : Below w.heap.size w (w.alloc (.cells #[u0, u1, u2] 25)) := balloc (Below.refl _ w) _
  have hV := VrP.new w u0 u1 u2 25
  have hc := encodable_any c u0 u1 u2 _ (h.below hb0)
  obtain ⟨a0, p0, hu0, _⟩ := h.rs
  obtain ⟨a1, p1, hu1, _⟩ := h.ow
  obtain ⟨a2, p2, hu2, _⟩ := h.pa
  subst hu0 hu1 hu2
  rw [show rowbV c = [] by simp [rowbV, hk]]
  rw [hk] at hc
  clear hk h
  obtain ⟨c0, c1, c2, _⟩ := hV
  go_enter Try.func34, Try.ntmps34
  go_wp2_with fail
  refine hc.mono ?_
  rintro e w1 ⟨rfl, hb1⟩
  go_wp2
  go_ret
  exact ⟨rfl, bstep hb0 hb1⟩

/-- A parent raised in its row. -/
def upP (pa : List Int) (m : Nat) : List Int := (pa.take m).map (· + 1) ++ pa.drop m
theorem upP_len (pa : List Int) (m : Nat) : (upP pa m).length = pa.length := by simp [upP]; omega
theorem upP_get (pa : List Int) (m : Nat) (h : m < pa.length) (h' : m < (upP pa m).length) : (upP pa m)[m] = pa[m] := by
  have e : (upP pa m)[m]? = some pa[m] := by
    unfold upP
    rw [List.getElem?_append_right (by simp; omega)]
    simp [Nat.min_eq_left (Nat.le_of_lt h)]
  exact Option.some.inj (by rw [← List.getElem?_eq_getElem h']; exact e)
theorem upP_set (pa : List Int) (m : Nat) (h : m < pa.length) : (upP pa m).set m (pa[m] + 1) = upP pa (m + 1) := by
  unfold upP
  rw [List.set_append_right _ _ (by simp; omega), List.take_succ_eq_append_getElem h, List.map_append]
  simp [Nat.min_eq_left (Nat.le_of_lt h)]
  rw [List.drop_eq_getElem_cons h]
  rfl
theorem upP_zero (pa : List Int) : upP pa 0 = pa := by simp [upP]
theorem upP_all (pa : List Int) : upP pa pa.length = pa.map (· + 1) := by simp [upP]
theorem encO_up (pa : List Int) : encO (pa.map (· + 1)) = encP pa := by
  unfold encO encP
  rw [List.flatMap_map]
theorem ownI_set {w : World} {base g cap n : Nat} {l : List Int} (h : OwnR KI w base (.slice (some ⟨g, 0, none⟩) n cap) l) (i : Nat) (x : Int) : OwnR KI (w.setCell ⟨g, i, none⟩ (.int .i64 x)) base (.slice (some ⟨g, 0, none⟩) n cap) (l.set i x) := by
  obtain rfl := h.len
  have h1 := (h.stored i (.int .i64 x)).1
  have e : (rV KI l).set i (.int .i64 x) = rV KI (l.set i x) := by
    have f : ∀ k : List Int, rV KI k = k.map (fun x => Value.int .i64 x) := fun k => by
      unfold rV
      exact (List.map_eq_flatMap).symm
    rw [f, f, List.map_set]
  unfold OwnR
  rw [List.length_set, ← e]
  exact h1
theorem ownI_some {w : World} {base : Nat} {v : Value} {l : List Int} (h : OwnR KI w base v l) (hl : 1 ≤ l.length) : ∃ g cap, v = .slice (some ⟨g, 0, none⟩) l.length cap ∧ base ≤ g := by
  obtain ⟨g, cap, e, _, _, hb, _⟩ := h.cell ki_ok 0 hl
  exact ⟨g, cap, e, hb⟩
theorem ownI_cell {w : World} {base g cap n : Nat} {l : List Int} (h : OwnR KI w base (.slice (some ⟨g, 0, none⟩) n cap) l) (i : Nat) (hi : i < l.length) : w.cell? ⟨g, i, none⟩ = some (.int .i64 l[i]) := by
  obtain ⟨g', cap', e, _, _, _, _, hc⟩ := h.cell ki_ok i hi
  cases e
  have := hc 0 _ rfl
  rw [show KI.sz = 1 from rfl, Nat.mul_one, Nat.add_zero, Nat.zero_add] at this
  exact this
theorem ownI_frozen {w : World} {base g cap n : Nat} {l : List Int} (h : OwnR KI w base (.slice (some ⟨g, 0, none⟩) n cap) l) (j : Nat) : w.frozen? ⟨g, j, none⟩ = false := by
  obtain rfl := h.len
  exact World.ownsRow.frozenAt h j
theorem encO_len (l : List Int) (h : ∀ x ∈ l, 0 ≤ x ∧ x ≤ 64) : (encO l).length ≤ 10 * l.length := by
  unfold encO
  induction l with
  | nil => simp
  | cons x l ih =>
    rw [List.flatMap_cons, List.length_append, List.length_cons]
    have h1 := ih (fun y hy => h y (List.mem_cons_of_mem _ hy))
    have h2 := Vm.enc_len10 (n := x.toNat) (by have := h x List.mem_cons_self; omega)
    omega
/-- A row of one int that a statement makes. -/
def OneAt (wO W : World) (v : Value) (x : Int) : Prop := ∃ g, v = .slice (some ⟨g, 0, none⟩) 1 1 ∧ wO.heap.size ≤ g ∧ g < W.heap.size ∧ RowAt KI W v [x]
theorem OneAt.row {wO W : World} {v : Value} {x : Int} (h : OneAt wO W v x) : RowAt KI W v [x] := h.choose_spec.2.2.2
theorem OneAt.below {wO W W' : World} {v : Value} {x : Int} (h : OneAt wO W v x) (a : Below W.heap.size W W') : OneAt wO W' v x := by
  obtain ⟨g, e, h1, h2, h3⟩ := h
  exact ⟨g, e, h1, Nat.lt_of_lt_of_le h2 a.size, h3.below a⟩
theorem OneAt.mk' {wO W : World} (h : wO.heap.size ≤ W.heap.size) (n : Nat) : OneAt wO (W.alloc (.cells #[.int .i64 (n : Int)] 3)) (.slice (some ⟨W.heap.size, 0, none⟩) 1 1) (n : Int) :=
  ⟨W.heap.size, rfl, h, by simp, RowAt.oneI W n⟩
theorem rowOne_block {w w' : World} {g : Nat} {x : Int} (h : RowAt KI w (.slice (some ⟨g, 0, none⟩) 1 1) [x]) (hs : w.heap.size ≤ w'.heap.size) (hb : w'.heap[g]? = w.heap[g]?) : RowAt KI w' (.slice (some ⟨g, 0, none⟩) 1 1) [x] := by
  obtain ⟨a, cap, e, h1, h2, h3, hr⟩ := h
  cases e
  refine ⟨_, _, rfl, h1, h2, h3, fun i hi => ?_⟩
  obtain ⟨b, off, e, hl, hc⟩ := hr i hi
  cases e
  exact ⟨g, 0, rfl, by omega, fun j u hu => by rw [World.cell?_of_block hb]; exact hc j u hu⟩
/-- Ahead of String, and behind it. -/
structure Pre (w1 wO W : World) (v : Value) (l : List Int) : Prop where
  b : Below w1.heap.size w1 W
  bo : Below wO.heap.size wO W
  ro : OwnR KI W wO.heap.size v l
structure Post (w1 wO W : World) (v : Value) (l : List Int) : Prop where
  b : Below w1.heap.size w1 W
  sz : wO.heap.size ≤ W.heap.size
  ro : OwnR KI W wO.heap.size v l
theorem Pre.below {w1 wO W W' : World} {v : Value} {l : List Int} (h : Pre w1 wO W v l) (a : Below W.heap.size W W') : Pre w1 wO W' v l := ⟨bstep h.b a, bstep h.bo a, h.ro.below a⟩
theorem Post.below {w1 wO W W' : World} {v : Value} {l : List Int} (h : Post w1 wO W v l) (a : Below W.heap.size W W') : Post w1 wO W' v l := ⟨bstep h.b a, Nat.le_trans h.sz a.size, h.ro.below a⟩
theorem OneAt.new {wO W : World} (h : Below wO.heap.size wO W) (n : Nat) : OneAt wO (W.alloc (.cells #[.int .i64 (n : Int)] 3)) (.slice (some ⟨W.heap.size, 0, none⟩) 1 1) (n : Int) := OneAt.mk' h.size n
theorem OneAt.newQ {w1 wO W : World} {v : Value} {l : List Int} (h : Post w1 wO W v l) (n : Nat) : OneAt wO (W.alloc (.cells #[.int .i64 (n : Int)] 3)) (.slice (some ⟨W.heap.size, 0, none⟩) 1 1) (n : Int) := OneAt.mk' h.sz n
theorem str_keep {B b : Nat} {bs : List Value} {wO W W' : World} (hB : IsB B b bs wO) (bo : Below wO.heap.size wO W) (kp : KpB b W W') (j : Nat) (h1 : wO.heap.size ≤ j) (h2 : j < W.heap.size) : W'.heap[j]? = W.heap[j]? := by
  have hlt := isB_lt hB
  refine kp j h2 (by omega) fun v hv => ?_
  rw [bo.cell (p := ⟨b, 1, none⟩) hlt] at hv
  exact isB_own hB hv h1
theorem Pre.str {B b : Nat} {bs : List Value} {w1 wO W W' : World} {v : Value} {l : List Int} (h : Pre w1 wO W v l) (hB : IsB B b bs wO) (a : Below w1.heap.size W W') (kp : KpB b W W') : Post w1 wO W' v l :=
  ⟨h.b.trans a, Nat.le_trans h.bo.size a.size, h.ro.block (fun j hj => str_keep hB h.bo kp j (h.ro.lt j hj).1 (h.ro.lt j hj).2)⟩
theorem OneAt.str {B b base : Nat} {bs : List Value} {wO W W' : World} {v : Value} {x : Int} (h : OneAt wO W v x) (hB : IsB B b bs wO) (bo : Below wO.heap.size wO W) (a : Below base W W') (kp : KpB b W W') : OneAt wO W' v x := by
  obtain ⟨g, e, h1, h2, h3⟩ := h
  subst e
  exact ⟨g, rfl, h1, Nat.lt_of_lt_of_le h2 a.size, rowOne_block h3 a.size (str_keep hB bo kp g h1 h2)⟩
theorem keepS {w1 W : World} {B : Nat} {u0 u1 u2 : Value} (b : Below w1.heap.size w1 W) (h : VrP w1 B u0 u1 u2) : W.cell? ⟨B, 0, none⟩ = some u0 ∧ W.cell? ⟨B, 1, none⟩ = some u1 := ⟨kc b h.c0, kc b h.c1⟩

theorem ba_self (q : ByteArray) (l : List UInt8) (h : q.data.toList = l) : q = ⟨l.toArray⟩ := ba_inj (by simpa using h)

set_option maxRecDepth 100000 in
set_option maxHeartbeats 12800000 in
theorem rowBytes_ok (c : Rw) (u0 u1 u2 : Value) (w : World) (h : RwAt w u0 u1 u2 c) (hok : okRw c = true) :
    Calls Try.prog 34 #[.agg #[u0, u1, u2]] w fun e w' => e = .returned (.string ⟨(rowB c).toArray⟩) ∧ Below w.heap.size w w' := by
  have hsm := okRw_small hok
  obtain ⟨⟨k1, k2, k3, k4⟩, k5, k6, k7⟩ := okRw_parts hok
  have hpos : 1 ≤ c.rs.length := by
    obtain ⟨us, hu, _⟩ := whole_chain k5
    rw [hu, wbas_len, Km.chain_len]
    omega
  have hb0 : Below w.heap.size w (w.alloc (.cells #[u0, u1, u2] 25)) := balloc (Below.refl _ w) _
  have hA := VrP.new w u0 u1 u2 25
  have hO := h.below hb0
  have hc := encodable_any c u0 u1 u2 _ hO
  rw [hok] at hc
  obtain ⟨a0, p0, hu0, _, _, _, hi0⟩ := hO.rs
  obtain ⟨a1, p1, hu1, _, _, _, hi1⟩ := hO.ow
  obtain ⟨a2, p2, hu2, _, _, _, hi2⟩ := hO.pa
  have HRO := Lib.hid hO.ow
  have HRP := Lib.hid hO.pa
  subst hu0 hu1 hu2
  obtain ⟨rs, ow, pa⟩ := c
  dsimp only at *
  have hrow : rowB ⟨rs, ow, pa⟩ = Vm.enc rs.length ++ (encT (endsOf rs) ++ (encO ow ++ (Vm.enc pa.length ++ encP pa))) := rfl
  obtain ⟨RB, hRB⟩ : ∃ RB : ByteArray, RB = ⟨(rowB ⟨rs, ow, pa⟩).toArray⟩ := ⟨_, rfl⟩
  rw [← hRB]
  rw [hrow] at hRB
  have HI0 := Lib.hid hi0
  have HSM := Lib.hid hsm
  have HK6 := Lib.hid k6
  have HK7 := Lib.hid k7
  have HK4 := Lib.hid k4
  have HEL := Lib.hid (endsOf_len rs)
  obtain ⟨n, hn⟩ : ∃ n, rs.length = n + 1 := ⟨rs.length - 1, by omega⟩
  have HN := Lib.hid hn
  have HBD := Lib.hid (And.intro k1 (And.intro k2 (show n ≤ 7 by omega)))
  have wn : wrap64 ((rs.length : Int) - 1) = (n : Int) := by unfold wrap64; omega
  have j0 : (0 : Int) ≤ (n : Int) := by omega
  have j1 : n ≤ p0 := by omega
  generalize hL : rs.length = L at *
  have HRB := Lib.hid hRB
  have HRL : Hid (rs.length = n + 1) := Lib.hid (hL.trans hn)
  clear hpos k1 k2 k3 k4 k5 k6 k7 hi1 hi2 hrow hok hO h hsm hn hL hRB
  go_enter Try.func34, Try.ntmps34
  go_wp2_with fail
  refine hc.mono ?_
  rintro e w1 ⟨rfl, hb1⟩
  have hbA := balloc (Below.refl w1.heap.size w1) (.cells #[.pointer none, .slice none 0 0] 77)
  have HW1 : Hid (Below w.heap.size w w1) := Lib.hid (bstep hb0 hb1)
  have hA1 := hA.keep hb1
  have HRPw := Lib.hid (HRP.out.below hb1)
  have HROw := Lib.hid (HRO.out.below hb1)
  have hi01 := hi0.below hb1
  have hA2 := hA1.keep hbA
  have hB2 := isB_new w1 (B := w1.heap.size) (Nat.le_refl _)
  have hbel2 : Below w.heap.size w _ := bstep hb0 (hb1.trans (hbA.mono hb1.size))
  have hbw2 := hb1.trans (hbA.mono hb1.size)
  have hgt : w.heap.size < w1.heap.size := by have := hb1.size; simp at this; omega
  go_upto_region 4 with fail
  generalize w1.alloc (.cells #[.pointer none, .slice none 0 0] 77) = w2 at *
  generalize w.alloc (.cells #[.slice a0 L p0, .slice a1 ow.length p1, .slice a2 pa.length p2] 25) = w0 at *
  have HA2 := Lib.hid hA2
  have HB2 := Lib.hid hB2
  have HG := Lib.hid hgt
  obtain ⟨c0, c1, c2, _⟩ := hA2
  clear hA hc hb1 hb0 HRP HRO hB2 hgt c1 c2 hi0 HI0
  have HA1 := Lib.hid hA1
  have HI01 := Lib.hid (hi01)
  clear hA1 hi01
  go_wp2
  clear wn
  go_loopw [19] (fun i wr => ∃ k : Nat, k ≤ n ∧ i = .int .i64 k ∧ (encT ((endsOf rs).take k)).length ≤ 42 * k ∧ IsB w1.heap.size w1.heap.size (Lib.byteCells (encT ((endsOf rs).take k))) wr ∧ Below w1.heap.size w1 wr) (fun i _ => n - (intOf i).toNat)
  case atStart => exact ⟨0, by omega, rfl, by simp [encT], by simpa [encT, Lib.byteCells] using HB2.out, hbA⟩
  case round =>
    clear hbA
    obtain ⟨k, hk, rfl, hle, hB, hbel⟩ := hrel
    have hbs := hbel.size
    have HB := Lib.hid hB
    clear hB
    have HWK : Hid (wrap64 ((k : Int) + 1) = (k : Int) + 1) := Lib.hid (by have := HBD.out; unfold wrap64; omega)
    by_cases hlt : k < n
    · have hT := encT_step rs k (by have := HRL.out; omega)
      obtain ⟨g, o, rfl, _, d0, d1⟩ := RngIn.below (RowIn.rng HI01.out) hbel k (by have := HRL.out; omega)
      have hkr : k < rs.length := by have := HRL.out; omega
      have hsm := HSM.out rs[k] (List.getElem_mem hkr)
      generalize rs[k] = d at d0 d1 hT hsm
      obtain ⟨p, q⟩ := d
      dsimp only at d0 d1 hT hsm
      have htx := fun W => text_any q W (by omega)
      have htl : (txt q.data.toList).length ≤ 42 := by
        have := Vm.enc_len10 (n := q.size) (by omega)
        have e : q.data.toList.length = q.size := rfl
        unfold txt
        rw [List.length_append, e]
        omega
      have HTX : Hid (txt q.data.toList = Vm.enc q.size ++ q.data.toList) := Lib.hid rfl
      rw [HTX.out] at hT htl
      generalize Vm.enc q.size ++ q.data.toList = tx at htx hT htl
      have HT := Lib.hid hT
      clear hT HTX
      generalize encT ((endsOf rs).take k) = pb at HT HB hle
      have HLE := Lib.hid (And.intro hle htl)
      have hb1 : Below wr.heap.size wr (wr.alloc (.cells #[.string p, .string q] 44)) := balloc (Below.refl _ _) _
      have HBa := Lib.hid (isB_below HB.out hb1)
      have hki : (k : Int) < (n : Int) := by omega
      clear htl hsm hkr
      go_wp2_with fail
      refine (htx _).mono ?_
      rintro e w4 ⟨rfl, hb4⟩
      have hb04 := bstep hb1 hb4
      have hB4 := isB_below HBa.out hb4
      have hs4 := hb04.size
      clear hb1 hb4 HBa
      go_wp2_with fail
      refine (writeB_any w1.heap.size w1.heap.size pb tx w4 hB4 (by have := HLE.out; have := HBD.out; omega) (by omega)).mono ?_
      rintro e w5 ⟨u1', u2', rfl, hB5, hb5, _⟩
      have HB5 := Lib.hid hB5
      have hbel5 := (bstep hbel hb04).trans hb5
      clear hB5 hB4
      go_wp2
      go_roundw
      case rel => exact ⟨k + 1, by omega, by rw [HWK.out]; rfl, by rw [HT.out, List.length_append]; have := HLE.out; omega, by rw [HT.out]; exact HB5.out, hbel5⟩
      case measure => rw [HWK.out]; simp [intOf]; omega
    · obtain rfl : k = n := by omega
      have hTE : (endsOf rs).take k = endsOf rs := List.take_of_length_le (by have := HEL.out; have := HN.out; omega)
      rw [hTE] at HB hle
      have HE := Lib.hid hle
      clear hTE hle hlt hk HWK j0 j1
      have hp6 : pa.length ≤ 6 := by have := HBD.out; omega
      have hcl := fun W hr => cloneI_any (.slice a2 pa.length p2) pa W (by omega) hr
      have HRP1 := Lib.hid (HRPw.out.below hbel)
      have c2 := kc hbel HA1.out.c2
      clear hp6
      go_wp2_with fail
      refine (hcl _ HRP1.out).mono ?_
      rintro e w4 ⟨v', rfl, ho4, hb4⟩
      obtain ⟨g, cap, rfl, hgg⟩ := ownI_some ho4 (by have := HBD.out; omega)
      have hB4 := isB_below HB.out hb4
      have hbel4 := hbel.trans (hb4.mono hbs)
      have HO4 := Lib.hid ho4
      have HB4 := Lib.hid hB4
      clear hcl ho4 hB4 c2
      obtain ⟨wO, hwO⟩ : ∃ wO : World, wO = wr := ⟨wr, rfl⟩
      subst hwO
      go_wp2
      go_loopw [33] (fun i wx => ∃ m : Nat, m ≤ pa.length ∧ i = .int .i64 m ∧ OwnR KI wx wO.heap.size (.slice (some ⟨g, 0, none⟩) pa.length cap) (upP pa m) ∧ Below wO.heap.size wO wx) (fun i _ => pa.length - (intOf i).toNat)
      case atStart => exact ⟨0, by omega, rfl, by rw [upP_zero]; exact HO4.out, hb4⟩
      case round =>
        clear hb4 hbel4 HO4 HB4
        obtain ⟨m, hm, rfl, ho, hbx⟩ := hrel
        have HO := Lib.hid ho
        have HWM : Hid (wrap64 ((m : Int) + 1) = (m : Int) + 1) := Lib.hid (by have := HBD.out; unfold wrap64; omega)
        by_cases hlt : m < pa.length
        · have d0 := ownI_cell ho m (by rw [upP_len]; exact hlt)
          have f0 := ownI_frozen ho m
          rw [upP_get pa m hlt] at d0
          have HSET := Lib.hid (upP_set pa m hlt)
          have hsm := HK6.out pa[m] (List.getElem_mem hlt)
          generalize pa[m] = x at d0 HSET hsm
          have HWX : Hid (wrap64 (x + 1) = x + 1) := Lib.hid (by unfold wrap64; omega)
          have hmi : (m : Int) < (pa.length : Int) := by omega
          clear hsm ho
          go_wp2
          go_roundw
          case rel => exact ⟨m + 1, by omega, by rw [HWM.out]; rfl, by rw [HWX.out, ← HSET.out]; exact ownI_set HO.out m (x + 1), hbx.setCell hgg _⟩
          case measure => rw [HWM.out]; simp [intOf]; omega
        · obtain rfl : m = pa.length := by omega
          rw [upP_all] at HO
          obtain ⟨b1, b2, b3⟩ := HBD.out
          have hL8 := HN.out
          have hA1 := HA1.out
          have P0 : Pre w1 wO wr (.slice (some ⟨g, 0, none⟩) pa.length cap) (pa.map (· + 1)) := ⟨hbel.trans (hbx.mono hbs), hbx, HO.out⟩
          have P0d : Pre w1 wO wr.drew (.slice (some ⟨g, 0, none⟩) pa.length cap) (pa.map (· + 1)) := ⟨P0.b.drew, P0.bo.drew, P0.ro⟩
          have HBO := HB
          have hS := fun W (hb : Below wO.heap.size wO W) => string_any w1.heap.size w1.heap.size (encT (endsOf rs)) W (isB_below HBO.out hb) (Nat.le_trans hbs hb.size)
          have hN1 := fun W v0 hr => numbers_one v0 L W (by omega) hr
          have hN2 := fun W v0 hr => numbers_one v0 pa.length W (by omega) hr
          have hO := fun W (hb : Below w1.heap.size w1 W) => numbers_any (.slice a1 ow.length p1) ow W (by have := HK4.out; omega) (fun x hx => by have := HK7.out x hx; omega) (HROw.out.below hb)
          have hR := fun W (hr : OwnR KI W wO.heap.size (.slice (some ⟨g, 0, none⟩) pa.length cap) (pa.map (· + 1))) => numbers_any (.slice (some ⟨g, 0, none⟩) pa.length cap) (pa.map (· + 1)) W (by simp; omega) (fun x hx => by
            obtain ⟨y, hy, rfl⟩ := List.mem_map.1 hx
            have := HK6.out y hy
            omega) (RowAt.of_own ki_ok hr)
          rw [encO_up] at hR
          have z0 := Vm.enc_len10 (n := L) (by omega)
          have z1 := HE.out
          have z2 := encO_len ow (fun x hx => by have := HK7.out x hx; omega)
          have z3 := Vm.enc_len10 (n := pa.length) (by omega)
          have z4 := encO_len (pa.map (· + 1)) (fun x hx => by
            obtain ⟨y, hy, rfl⟩ := List.mem_map.1 hx
            have := HK6.out y hy
            omega)
          rw [encO_up, List.length_map] at z4
          have how := HK4.out
          have hRB := HRB.out
          rw [← List.append_assoc, ← List.append_assoc, ← List.append_assoc] at hRB
          clear HRB
          generalize Vm.enc L = e0 at z0 hN1 hRB
          generalize encT (endsOf rs) = e1 at z1 hS HB HBO HE hRB
          generalize encO ow = e2 at z2 hO hRB
          generalize Vm.enc pa.length = e3 at z3 hN2 hRB
          generalize encP pa = e4 at z4 hR hRB
          have hsz : ∀ l : List UInt8, (⟨l.toArray⟩ : ByteArray).size = l.length := fun l => List.size_toArray
          have HFIN : Hid ((⟨e0.toArray⟩ : ByteArray) ++ ⟨e1.toArray⟩ ++ ⟨e2.toArray⟩ ++ ⟨e3.toArray⟩ ++ ⟨e4.toArray⟩ = RB) := Lib.hid (by rw [hRB]; exact ba_inj (by simp))
          have n1 : ¬ 9223372036854775807 < (⟨e0.toArray⟩ : ByteArray).size + (⟨e1.toArray⟩ : ByteArray).size := by rw [hsz, hsz]; omega
          have n2 : ¬ 9223372036854775807 < (⟨e0.toArray⟩ : ByteArray).size + (⟨e1.toArray⟩ : ByteArray).size + (⟨e2.toArray⟩ : ByteArray).size := by rw [hsz, hsz, hsz]; omega
          have n3 : ¬ 9223372036854775807 < (⟨e0.toArray⟩ : ByteArray).size + (⟨e1.toArray⟩ : ByteArray).size + (⟨e2.toArray⟩ : ByteArray).size + (⟨e3.toArray⟩ : ByteArray).size := by rw [hsz, hsz, hsz, hsz]; omega
          have n4 : ¬ 9223372036854775807 < (⟨e0.toArray⟩ : ByteArray).size + (⟨e1.toArray⟩ : ByteArray).size + (⟨e2.toArray⟩ : ByteArray).size + (⟨e3.toArray⟩ : ByteArray).size + (⟨e4.toArray⟩ : ByteArray).size := by rw [hsz, hsz, hsz, hsz, hsz]; omega
          generalize (⟨e0.toArray⟩ : ByteArray) = F0 at *
          generalize (⟨e1.toArray⟩ : ByteArray) = F1 at *
          generalize (⟨e2.toArray⟩ : ByteArray) = F2 at *
          generalize (⟨e3.toArray⟩ : ByteArray) = F3 at *
          generalize (⟨e4.toArray⟩ : ByteArray) = F4 at *
          have HBW : Hid (∀ W, Below w1.heap.size w1 W → Below w.heap.size w W) := Lib.hid (fun W hW => HW1.out.trans (hW.mono HW1.out.size))
          clear z0 z1 z2 z3 z4 how hsz b1 b2 b3 hL8 hRB
          go_upto_region 15 with fail
          refine wp_region_held_drew (S := fun w' => w'.cell? ⟨w.heap.size, 0, none⟩ = some (.slice a0 L p0) ∧ w'.cell? ⟨w.heap.size, 1, none⟩ = some (.slice a1 ow.length p1)) (by kernel_rfl) (keepS P0d.b hA1) (fun hHeld => ?_)
          refine wpAnyH_take (i := 0) (v := ?v1) rfl (by kernel_rfl) (by kernel_rfl) (by kernel_rfl) (fun _ _ _ h => h) (Or.inl ⟨by rfl, ?y1⟩) (by assumption) ?r1
          case y1 => (intro w hSw; (try dsimp only at hSw); go_simp; try with_reducible rfl)
          try simp only [Act.put, List.setIfInBounds_toArray, List.set_cons_zero, List.set_cons_succ, List.getElem_toArray, List.getElem_cons_zero, List.getElem_cons_succ]
          refine wpAnyH_take (i := 1) (v := ?v2) rfl (by kernel_rfl) (by kernel_rfl) (by kernel_rfl) (fun _ _ _ h => h) (Or.inl ⟨by rfl, ?y2⟩) (by assumption) ?r2
          case y2 => (intro w hSw; (try dsimp only at hSw); go_simp; try with_reducible rfl)
          try simp only [Act.put, List.setIfInBounds_toArray, List.set_cons_zero, List.set_cons_succ, List.getElem_toArray, List.getElem_cons_zero, List.getElem_cons_succ]
          refine wpAnyH_take (i := 2) (v := ?v3) rfl (by kernel_rfl) (by kernel_rfl) (by kernel_rfl) (fun _ _ _ h => h) (Or.inl ⟨by rfl, ?y3⟩) (by assumption) ?r3
          case y3 => (intro w hSw; (try dsimp only at hSw); go_simp; try with_reducible rfl)
          try simp only [Act.put, List.setIfInBounds_toArray, List.set_cons_zero, List.set_cons_succ, List.getElem_toArray, List.getElem_cons_zero, List.getElem_cons_succ]
          refine wpAnyH_take (i := 7) (v := ?v4) rfl (by kernel_rfl) (by kernel_rfl) (by kernel_rfl) (fun _ _ _ h => h) (Or.inl ⟨by rfl, ?y4⟩) (by assumption) ?r4
          case y4 => (intro w hSw; (try dsimp only at hSw); go_simp; try with_reducible rfl)
          try simp only [Act.put, List.setIfInBounds_toArray, List.set_cons_zero, List.set_cons_succ, List.getElem_toArray, List.getElem_cons_zero, List.getElem_cons_succ]
          refine wpAnyH_take (i := 8) (v := ?v5) rfl (by kernel_rfl) (by kernel_rfl) (by kernel_rfl) (fun _ _ _ h => h) (Or.inl ⟨by rfl, ?y5⟩) (by assumption) ?r5
          case y5 => (intro w hSw; (try dsimp only at hSw); go_simp; try with_reducible rfl)
          try simp only [Act.put, List.setIfInBounds_toArray, List.set_cons_zero, List.set_cons_succ, List.getElem_toArray, List.getElem_cons_zero, List.getElem_cons_succ]
          refine wpAnyH_take (i := 11) (v := ?v6) rfl (by kernel_rfl) (by kernel_rfl) (by kernel_rfl) (fun _ _ _ h => h) (Or.inl ⟨by rfl, ?y6⟩) (by assumption) ?r6
          case y6 => (intro w hSw; (try dsimp only at hSw); go_simp; try with_reducible rfl)
          try simp only [Act.put, List.setIfInBounds_toArray, List.set_cons_zero, List.set_cons_succ, List.getElem_toArray, List.getElem_cons_zero, List.getElem_cons_succ]
          refine wpAnyH_take (i := 12) (v := ?v7) rfl (by kernel_rfl) (by kernel_rfl) (by kernel_rfl) (fun _ _ _ h => h) (Or.inl ⟨by rfl, ?y7⟩) (by assumption) ?r7
          case y7 => (intro w hSw; (try dsimp only at hSw); go_simp; try with_reducible rfl)
          try simp only [Act.put, List.setIfInBounds_toArray, List.set_cons_zero, List.set_cons_succ, List.getElem_toArray, List.getElem_cons_zero, List.getElem_cons_succ]
          refine wpAnyH_take (i := 16) (v := ?v8) rfl (by kernel_rfl) (by kernel_rfl) (by kernel_rfl) (fun _ _ _ h => h) (Or.inl ⟨by rfl, ?y8⟩) (by assumption) ?r8
          case y8 => (intro w hSw; (try dsimp only at hSw); go_simp; try with_reducible rfl)
          try simp only [Act.put, List.setIfInBounds_toArray, List.set_cons_zero, List.set_cons_succ, List.getElem_toArray, List.getElem_cons_zero, List.getElem_cons_succ]
          refine wpAnyH_ready (rs := [3, 13]) (by kernel_rfl) (by simp) ?_
          refine AllReadyH.cons rfl (fun K hK => ?_) (AllReadyH.cons rfl (fun K hK => ?_) AllReadyH.nil)
          · skip
            go_simp
            have o10 : OneAt wO (wr.alloc (.cells #[.int .i64 ((L : Int) : Int)] 3)).drew (.slice (some ⟨wr.heap.size, 0, none⟩) 1 1) (L : Int) := OneAt.new P0d.bo L
            have P9 : Pre w1 wO (wr.alloc (.cells #[.int .i64 ((L : Int) : Int)] 3)).drew (.slice (some ⟨g, 0, none⟩) pa.length cap) (pa.map (· + 1)) := P0d.below (balloc (Below.refl _ _) (.cells #[.int .i64 ((L : Int) : Int)] 3))
            refine hK.out _ _ (keepS P9.b hA1) (fun hHeld => ?_)
            clear hK K
            try simp only [Act.put, List.setIfInBounds_toArray, List.set_cons_zero, List.set_cons_succ, List.getElem_toArray, List.getElem_cons_zero, List.getElem_cons_succ]
            generalize (wr.alloc (.cells #[.int .i64 ((L : Int) : Int)] 3)).drew = xg9 at *
            refine wpAnyH_ready (rs := [4, 13]) (by kernel_rfl) (by simp) ?_
            refine AllReadyH.cons rfl (fun K hK => ?_) (AllReadyH.cons rfl (fun K hK => ?_) AllReadyH.nil)
            · skip
              go_simp
              go_at_call 55
              refine (hN1 _ _ o10.row).mono ?_
              rintro e x12 ⟨rfl, a11⟩
              have P13 := P9.below a11
              go_wp2_with fail
              refine hK.out _ _ (keepS P13.b hA1) (fun hHeld => ?_)
              clear hK K
              try simp only [Act.put, List.setIfInBounds_toArray, List.set_cons_zero, List.set_cons_succ, List.getElem_toArray, List.getElem_cons_zero, List.getElem_cons_succ]
              refine wpAnyH_ready (rs := [5, 13]) (by kernel_rfl) (by simp) ?_
              refine AllReadyH.cons rfl (fun K hK => ?_) (AllReadyH.cons rfl (fun K hK => ?_) AllReadyH.nil)
              · skip
                go_simp
                go_at_call 56
                refine (hS _ P13.bo).mono ?_
                rintro e x15 ⟨rfl, a14, k16⟩
                have Q17 := P13.str HBO.out a14 k16
                go_wp2_with fail
                refine hK.out _ _ (keepS Q17.b hA1) (fun hHeld => ?_)
                clear hK K
                try simp only [Act.put, List.setIfInBounds_toArray, List.set_cons_zero, List.set_cons_succ, List.getElem_toArray, List.getElem_cons_zero, List.getElem_cons_succ]
                refine wpAnyH_take (i := 6) (v := ?v18) rfl (by kernel_rfl) (by kernel_rfl) (by kernel_rfl) (fun _ _ _ h => h) (Or.inl ⟨by rfl, ?y18⟩) (by assumption) ?r18
                case y18 => (intro w hSw; (try dsimp only at hSw); go_simp; try with_reducible rfl)
                try simp only [Act.put, List.setIfInBounds_toArray, List.set_cons_zero, List.set_cons_succ, List.getElem_toArray, List.getElem_cons_zero, List.getElem_cons_succ]
                refine wpAnyH_ready (rs := [9, 13]) (by kernel_rfl) (by simp) ?_
                refine AllReadyH.cons rfl (fun K hK => ?_) (AllReadyH.cons rfl (fun K hK => ?_) AllReadyH.nil)
                · skip
                  go_simp
                  go_at_call 55
                  refine (hO _ Q17.b).mono ?_
                  rintro e x20 ⟨rfl, a19⟩
                  have Q21 := Q17.below a19
                  go_wp2_with fail
                  refine hK.out _ _ (keepS Q21.b hA1) (fun hHeld => ?_)
                  clear hK K
                  try simp only [Act.put, List.setIfInBounds_toArray, List.set_cons_zero, List.set_cons_succ, List.getElem_toArray, List.getElem_cons_zero, List.getElem_cons_succ]
                  refine wpAnyH_take (i := 10) (v := ?v22) rfl (by kernel_rfl) (by kernel_rfl) (by kernel_rfl) (fun _ _ _ h => h) (Or.inl ⟨by rfl, ?y22⟩) (by assumption) ?r22
                  case y22 => (intro w hSw; (try dsimp only at hSw); go_simp; try with_reducible rfl)
                  try simp only [Act.put, List.setIfInBounds_toArray, List.set_cons_zero, List.set_cons_succ, List.getElem_toArray, List.getElem_cons_zero, List.getElem_cons_succ]
                  refine wpAnyH_ready (rs := [13]) (by kernel_rfl) (by simp) ?_
                  refine AllReadyH.cons rfl (fun K hK => ?_) AllReadyH.nil
                  go_simp
                  have o24 := OneAt.newQ Q21 pa.length
                  have QP23 := Q21.below (balloc (Below.refl _ _) (.cells #[.int .i64 ((pa.length : Int) : Int)] 3))
                  refine hK.out _ _ (keepS QP23.b hA1) (fun hHeld => ?_)
                  clear hK K
                  try simp only [Act.put, List.setIfInBounds_toArray, List.set_cons_zero, List.set_cons_succ, List.getElem_toArray, List.getElem_cons_zero, List.getElem_cons_succ]
                  generalize (x20).alloc (.cells #[.int .i64 ((pa.length : Int) : Int)] 3) = xg23 at *
                  refine wpAnyH_ready (rs := [14]) (by kernel_rfl) (by simp) ?_
                  refine AllReadyH.cons rfl (fun K hK => ?_) AllReadyH.nil
                  go_simp
                  go_at_call 55
                  refine (hN2 _ _ o24.row).mono ?_
                  rintro e x26 ⟨rfl, a25⟩
                  have Q27 := QP23.below a25
                  go_wp2_with fail
                  refine hK.out _ _ (keepS Q27.b hA1) (fun hHeld => ?_)
                  clear hK K
                  try simp only [Act.put, List.setIfInBounds_toArray, List.set_cons_zero, List.set_cons_succ, List.getElem_toArray, List.getElem_cons_zero, List.getElem_cons_succ]
                  refine wpAnyH_take (i := 15) (v := ?v28) rfl (by kernel_rfl) (by kernel_rfl) (by kernel_rfl) (fun _ _ _ h => h) (Or.inl ⟨by rfl, ?y28⟩) (by assumption) ?r28
                  case y28 => (intro w hSw; (try dsimp only at hSw); go_simp; try with_reducible rfl)
                  try simp only [Act.put, List.setIfInBounds_toArray, List.set_cons_zero, List.set_cons_succ, List.getElem_toArray, List.getElem_cons_zero, List.getElem_cons_succ]
                  refine wpAnyH_ready (rs := [17]) (by kernel_rfl) (by simp) ?_
                  refine AllReadyH.cons rfl (fun K hK => ?_) AllReadyH.nil
                  go_simp
                  go_at_call 55
                  refine (hR _ Q27.ro).mono ?_
                  rintro e x30 ⟨rfl, a29⟩
                  have Q31 := Q27.below a29
                  go_wp2_with fail
                  refine hK.out _ _ (keepS Q31.b hA1) (fun hHeld => ?_)
                  clear hK K
                  try simp only [Act.put, List.setIfInBounds_toArray, List.set_cons_zero, List.set_cons_succ, List.getElem_toArray, List.getElem_cons_zero, List.getElem_cons_succ]
                  refine wpAnyH_take (i := 18) (v := ?v32) rfl (by kernel_rfl) (by kernel_rfl) (by kernel_rfl) (fun _ _ _ h => h) (Or.inl ⟨by rfl, ?y32⟩) (by assumption) ?r32
                  case y32 => (intro w hSw; (try dsimp only at hSw); go_simp; try with_reducible rfl)
                  try simp only [Act.put, List.setIfInBounds_toArray, List.set_cons_zero, List.set_cons_succ, List.getElem_toArray, List.getElem_cons_zero, List.getElem_cons_succ]
                  refine wpAnyH_take (i := 19) (v := ?v33) rfl (by kernel_rfl) (by kernel_rfl) (by kernel_rfl) (fun _ _ _ h => h) (Or.inl ⟨by rfl, ?y33⟩) (by assumption) ?r33
                  case y33 => (intro w hSw; (try dsimp only at hSw); go_simp; try with_reducible rfl)
                  try simp only [Act.put, List.setIfInBounds_toArray, List.set_cons_zero, List.set_cons_succ, List.getElem_toArray, List.getElem_cons_zero, List.getElem_cons_succ]
                  refine wpAnyH_done (by kernel_rfl) ?_ _
                  have PF := Lib.hid Q31
                  go_wp2
                  go_ret
                  exact ⟨ret_str (HFIN.out), HBW.out _ PF.out.b⟩
                · skip
                  go_simp
                  have o35 := OneAt.newQ Q17 pa.length
                  have QP34 := Q17.below (balloc (Below.refl _ _) (.cells #[.int .i64 ((pa.length : Int) : Int)] 3))
                  refine hK.out _ _ (keepS QP34.b hA1) (fun hHeld => ?_)
                  clear hK K
                  try simp only [Act.put, List.setIfInBounds_toArray, List.set_cons_zero, List.set_cons_succ, List.getElem_toArray, List.getElem_cons_zero, List.getElem_cons_succ]
                  generalize (x15).alloc (.cells #[.int .i64 ((pa.length : Int) : Int)] 3) = xg34 at *
                  refine wpAnyH_ready (rs := [9]) (by kernel_rfl) (by simp) ?_
                  refine AllReadyH.cons rfl (fun K hK => ?_) AllReadyH.nil
                  go_simp
                  go_at_call 55
                  refine (hO _ QP34.b).mono ?_
                  rintro e x37 ⟨rfl, a36⟩
                  have Q38 := QP34.below a36
                  have o39 := o35.below a36
                  go_wp2_with fail
                  refine hK.out _ _ (keepS Q38.b hA1) (fun hHeld => ?_)
                  clear hK K
                  try simp only [Act.put, List.setIfInBounds_toArray, List.set_cons_zero, List.set_cons_succ, List.getElem_toArray, List.getElem_cons_zero, List.getElem_cons_succ]
                  refine wpAnyH_take (i := 10) (v := ?v40) rfl (by kernel_rfl) (by kernel_rfl) (by kernel_rfl) (fun _ _ _ h => h) (Or.inl ⟨by rfl, ?y40⟩) (by assumption) ?r40
                  case y40 => (intro w hSw; (try dsimp only at hSw); go_simp; try with_reducible rfl)
                  try simp only [Act.put, List.setIfInBounds_toArray, List.set_cons_zero, List.set_cons_succ, List.getElem_toArray, List.getElem_cons_zero, List.getElem_cons_succ]
                  refine wpAnyH_ready (rs := [14]) (by kernel_rfl) (by simp) ?_
                  refine AllReadyH.cons rfl (fun K hK => ?_) AllReadyH.nil
                  go_simp
                  go_at_call 55
                  refine (hN2 _ _ o39.row).mono ?_
                  rintro e x42 ⟨rfl, a41⟩
                  have Q43 := Q38.below a41
                  go_wp2_with fail
                  refine hK.out _ _ (keepS Q43.b hA1) (fun hHeld => ?_)
                  clear hK K
                  try simp only [Act.put, List.setIfInBounds_toArray, List.set_cons_zero, List.set_cons_succ, List.getElem_toArray, List.getElem_cons_zero, List.getElem_cons_succ]
                  refine wpAnyH_take (i := 15) (v := ?v44) rfl (by kernel_rfl) (by kernel_rfl) (by kernel_rfl) (fun _ _ _ h => h) (Or.inl ⟨by rfl, ?y44⟩) (by assumption) ?r44
                  case y44 => (intro w hSw; (try dsimp only at hSw); go_simp; try with_reducible rfl)
                  try simp only [Act.put, List.setIfInBounds_toArray, List.set_cons_zero, List.set_cons_succ, List.getElem_toArray, List.getElem_cons_zero, List.getElem_cons_succ]
                  refine wpAnyH_ready (rs := [17]) (by kernel_rfl) (by simp) ?_
                  refine AllReadyH.cons rfl (fun K hK => ?_) AllReadyH.nil
                  go_simp
                  go_at_call 55
                  refine (hR _ Q43.ro).mono ?_
                  rintro e x46 ⟨rfl, a45⟩
                  have Q47 := Q43.below a45
                  go_wp2_with fail
                  refine hK.out _ _ (keepS Q47.b hA1) (fun hHeld => ?_)
                  clear hK K
                  try simp only [Act.put, List.setIfInBounds_toArray, List.set_cons_zero, List.set_cons_succ, List.getElem_toArray, List.getElem_cons_zero, List.getElem_cons_succ]
                  refine wpAnyH_take (i := 18) (v := ?v48) rfl (by kernel_rfl) (by kernel_rfl) (by kernel_rfl) (fun _ _ _ h => h) (Or.inl ⟨by rfl, ?y48⟩) (by assumption) ?r48
                  case y48 => (intro w hSw; (try dsimp only at hSw); go_simp; try with_reducible rfl)
                  try simp only [Act.put, List.setIfInBounds_toArray, List.set_cons_zero, List.set_cons_succ, List.getElem_toArray, List.getElem_cons_zero, List.getElem_cons_succ]
                  refine wpAnyH_take (i := 19) (v := ?v49) rfl (by kernel_rfl) (by kernel_rfl) (by kernel_rfl) (fun _ _ _ h => h) (Or.inl ⟨by rfl, ?y49⟩) (by assumption) ?r49
                  case y49 => (intro w hSw; (try dsimp only at hSw); go_simp; try with_reducible rfl)
                  try simp only [Act.put, List.setIfInBounds_toArray, List.set_cons_zero, List.set_cons_succ, List.getElem_toArray, List.getElem_cons_zero, List.getElem_cons_succ]
                  refine wpAnyH_done (by kernel_rfl) ?_ _
                  have PF := Lib.hid Q47
                  go_wp2
                  go_ret
                  exact ⟨ret_str (HFIN.out), HBW.out _ PF.out.b⟩
              · skip
                go_simp
                have o51 := OneAt.new P13.bo pa.length
                have P50 := P13.below (balloc (Below.refl _ _) (.cells #[.int .i64 ((pa.length : Int) : Int)] 3))
                refine hK.out _ _ (keepS P50.b hA1) (fun hHeld => ?_)
                clear hK K
                try simp only [Act.put, List.setIfInBounds_toArray, List.set_cons_zero, List.set_cons_succ, List.getElem_toArray, List.getElem_cons_zero, List.getElem_cons_succ]
                generalize (x12).alloc (.cells #[.int .i64 ((pa.length : Int) : Int)] 3) = xg50 at *
                refine wpAnyH_ready (rs := [5]) (by kernel_rfl) (by simp) ?_
                refine AllReadyH.cons rfl (fun K hK => ?_) AllReadyH.nil
                go_simp
                go_at_call 56
                refine (hS _ P50.bo).mono ?_
                rintro e x53 ⟨rfl, a52, k54⟩
                have Q55 := P50.str HBO.out a52 k54
                have o56 := o51.str HBO.out P50.bo a52 k54
                go_wp2_with fail
                refine hK.out _ _ (keepS Q55.b hA1) (fun hHeld => ?_)
                clear hK K
                try simp only [Act.put, List.setIfInBounds_toArray, List.set_cons_zero, List.set_cons_succ, List.getElem_toArray, List.getElem_cons_zero, List.getElem_cons_succ]
                refine wpAnyH_take (i := 6) (v := ?v57) rfl (by kernel_rfl) (by kernel_rfl) (by kernel_rfl) (fun _ _ _ h => h) (Or.inl ⟨by rfl, ?y57⟩) (by assumption) ?r57
                case y57 => (intro w hSw; (try dsimp only at hSw); go_simp; try with_reducible rfl)
                try simp only [Act.put, List.setIfInBounds_toArray, List.set_cons_zero, List.set_cons_succ, List.getElem_toArray, List.getElem_cons_zero, List.getElem_cons_succ]
                refine wpAnyH_ready (rs := [9]) (by kernel_rfl) (by simp) ?_
                refine AllReadyH.cons rfl (fun K hK => ?_) AllReadyH.nil
                go_simp
                go_at_call 55
                refine (hO _ Q55.b).mono ?_
                rintro e x59 ⟨rfl, a58⟩
                have Q60 := Q55.below a58
                have o61 := o56.below a58
                go_wp2_with fail
                refine hK.out _ _ (keepS Q60.b hA1) (fun hHeld => ?_)
                clear hK K
                try simp only [Act.put, List.setIfInBounds_toArray, List.set_cons_zero, List.set_cons_succ, List.getElem_toArray, List.getElem_cons_zero, List.getElem_cons_succ]
                refine wpAnyH_take (i := 10) (v := ?v62) rfl (by kernel_rfl) (by kernel_rfl) (by kernel_rfl) (fun _ _ _ h => h) (Or.inl ⟨by rfl, ?y62⟩) (by assumption) ?r62
                case y62 => (intro w hSw; (try dsimp only at hSw); go_simp; try with_reducible rfl)
                try simp only [Act.put, List.setIfInBounds_toArray, List.set_cons_zero, List.set_cons_succ, List.getElem_toArray, List.getElem_cons_zero, List.getElem_cons_succ]
                refine wpAnyH_ready (rs := [14]) (by kernel_rfl) (by simp) ?_
                refine AllReadyH.cons rfl (fun K hK => ?_) AllReadyH.nil
                go_simp
                go_at_call 55
                refine (hN2 _ _ o61.row).mono ?_
                rintro e x64 ⟨rfl, a63⟩
                have Q65 := Q60.below a63
                go_wp2_with fail
                refine hK.out _ _ (keepS Q65.b hA1) (fun hHeld => ?_)
                clear hK K
                try simp only [Act.put, List.setIfInBounds_toArray, List.set_cons_zero, List.set_cons_succ, List.getElem_toArray, List.getElem_cons_zero, List.getElem_cons_succ]
                refine wpAnyH_take (i := 15) (v := ?v66) rfl (by kernel_rfl) (by kernel_rfl) (by kernel_rfl) (fun _ _ _ h => h) (Or.inl ⟨by rfl, ?y66⟩) (by assumption) ?r66
                case y66 => (intro w hSw; (try dsimp only at hSw); go_simp; try with_reducible rfl)
                try simp only [Act.put, List.setIfInBounds_toArray, List.set_cons_zero, List.set_cons_succ, List.getElem_toArray, List.getElem_cons_zero, List.getElem_cons_succ]
                refine wpAnyH_ready (rs := [17]) (by kernel_rfl) (by simp) ?_
                refine AllReadyH.cons rfl (fun K hK => ?_) AllReadyH.nil
                go_simp
                go_at_call 55
                refine (hR _ Q65.ro).mono ?_
                rintro e x68 ⟨rfl, a67⟩
                have Q69 := Q65.below a67
                go_wp2_with fail
                refine hK.out _ _ (keepS Q69.b hA1) (fun hHeld => ?_)
                clear hK K
                try simp only [Act.put, List.setIfInBounds_toArray, List.set_cons_zero, List.set_cons_succ, List.getElem_toArray, List.getElem_cons_zero, List.getElem_cons_succ]
                refine wpAnyH_take (i := 18) (v := ?v70) rfl (by kernel_rfl) (by kernel_rfl) (by kernel_rfl) (fun _ _ _ h => h) (Or.inl ⟨by rfl, ?y70⟩) (by assumption) ?r70
                case y70 => (intro w hSw; (try dsimp only at hSw); go_simp; try with_reducible rfl)
                try simp only [Act.put, List.setIfInBounds_toArray, List.set_cons_zero, List.set_cons_succ, List.getElem_toArray, List.getElem_cons_zero, List.getElem_cons_succ]
                refine wpAnyH_take (i := 19) (v := ?v71) rfl (by kernel_rfl) (by kernel_rfl) (by kernel_rfl) (fun _ _ _ h => h) (Or.inl ⟨by rfl, ?y71⟩) (by assumption) ?r71
                case y71 => (intro w hSw; (try dsimp only at hSw); go_simp; try with_reducible rfl)
                try simp only [Act.put, List.setIfInBounds_toArray, List.set_cons_zero, List.set_cons_succ, List.getElem_toArray, List.getElem_cons_zero, List.getElem_cons_succ]
                refine wpAnyH_done (by kernel_rfl) ?_ _
                have PF := Lib.hid Q69
                go_wp2
                go_ret
                exact ⟨ret_str (HFIN.out), HBW.out _ PF.out.b⟩
            · skip
              go_simp
              have o73 := OneAt.new P9.bo pa.length
              have P72 := P9.below (balloc (Below.refl _ _) (.cells #[.int .i64 ((pa.length : Int) : Int)] 3))
              have o74 := o10.below (balloc (Below.refl _ _) (.cells #[.int .i64 ((pa.length : Int) : Int)] 3))
              refine hK.out _ _ (keepS P72.b hA1) (fun hHeld => ?_)
              clear hK K
              try simp only [Act.put, List.setIfInBounds_toArray, List.set_cons_zero, List.set_cons_succ, List.getElem_toArray, List.getElem_cons_zero, List.getElem_cons_succ]
              generalize (xg9).alloc (.cells #[.int .i64 ((pa.length : Int) : Int)] 3) = xg72 at *
              refine wpAnyH_ready (rs := [4]) (by kernel_rfl) (by simp) ?_
              refine AllReadyH.cons rfl (fun K hK => ?_) AllReadyH.nil
              go_simp
              go_at_call 55
              refine (hN1 _ _ o74.row).mono ?_
              rintro e x76 ⟨rfl, a75⟩
              have P77 := P72.below a75
              have o78 := o73.below a75
              go_wp2_with fail
              refine hK.out _ _ (keepS P77.b hA1) (fun hHeld => ?_)
              clear hK K
              try simp only [Act.put, List.setIfInBounds_toArray, List.set_cons_zero, List.set_cons_succ, List.getElem_toArray, List.getElem_cons_zero, List.getElem_cons_succ]
              refine wpAnyH_ready (rs := [5]) (by kernel_rfl) (by simp) ?_
              refine AllReadyH.cons rfl (fun K hK => ?_) AllReadyH.nil
              go_simp
              go_at_call 56
              refine (hS _ P77.bo).mono ?_
              rintro e x80 ⟨rfl, a79, k81⟩
              have Q82 := P77.str HBO.out a79 k81
              have o83 := o78.str HBO.out P77.bo a79 k81
              go_wp2_with fail
              refine hK.out _ _ (keepS Q82.b hA1) (fun hHeld => ?_)
              clear hK K
              try simp only [Act.put, List.setIfInBounds_toArray, List.set_cons_zero, List.set_cons_succ, List.getElem_toArray, List.getElem_cons_zero, List.getElem_cons_succ]
              refine wpAnyH_take (i := 6) (v := ?v84) rfl (by kernel_rfl) (by kernel_rfl) (by kernel_rfl) (fun _ _ _ h => h) (Or.inl ⟨by rfl, ?y84⟩) (by assumption) ?r84
              case y84 => (intro w hSw; (try dsimp only at hSw); go_simp; try with_reducible rfl)
              try simp only [Act.put, List.setIfInBounds_toArray, List.set_cons_zero, List.set_cons_succ, List.getElem_toArray, List.getElem_cons_zero, List.getElem_cons_succ]
              refine wpAnyH_ready (rs := [9]) (by kernel_rfl) (by simp) ?_
              refine AllReadyH.cons rfl (fun K hK => ?_) AllReadyH.nil
              go_simp
              go_at_call 55
              refine (hO _ Q82.b).mono ?_
              rintro e x86 ⟨rfl, a85⟩
              have Q87 := Q82.below a85
              have o88 := o83.below a85
              go_wp2_with fail
              refine hK.out _ _ (keepS Q87.b hA1) (fun hHeld => ?_)
              clear hK K
              try simp only [Act.put, List.setIfInBounds_toArray, List.set_cons_zero, List.set_cons_succ, List.getElem_toArray, List.getElem_cons_zero, List.getElem_cons_succ]
              refine wpAnyH_take (i := 10) (v := ?v89) rfl (by kernel_rfl) (by kernel_rfl) (by kernel_rfl) (fun _ _ _ h => h) (Or.inl ⟨by rfl, ?y89⟩) (by assumption) ?r89
              case y89 => (intro w hSw; (try dsimp only at hSw); go_simp; try with_reducible rfl)
              try simp only [Act.put, List.setIfInBounds_toArray, List.set_cons_zero, List.set_cons_succ, List.getElem_toArray, List.getElem_cons_zero, List.getElem_cons_succ]
              refine wpAnyH_ready (rs := [14]) (by kernel_rfl) (by simp) ?_
              refine AllReadyH.cons rfl (fun K hK => ?_) AllReadyH.nil
              go_simp
              go_at_call 55
              refine (hN2 _ _ o88.row).mono ?_
              rintro e x91 ⟨rfl, a90⟩
              have Q92 := Q87.below a90
              go_wp2_with fail
              refine hK.out _ _ (keepS Q92.b hA1) (fun hHeld => ?_)
              clear hK K
              try simp only [Act.put, List.setIfInBounds_toArray, List.set_cons_zero, List.set_cons_succ, List.getElem_toArray, List.getElem_cons_zero, List.getElem_cons_succ]
              refine wpAnyH_take (i := 15) (v := ?v93) rfl (by kernel_rfl) (by kernel_rfl) (by kernel_rfl) (fun _ _ _ h => h) (Or.inl ⟨by rfl, ?y93⟩) (by assumption) ?r93
              case y93 => (intro w hSw; (try dsimp only at hSw); go_simp; try with_reducible rfl)
              try simp only [Act.put, List.setIfInBounds_toArray, List.set_cons_zero, List.set_cons_succ, List.getElem_toArray, List.getElem_cons_zero, List.getElem_cons_succ]
              refine wpAnyH_ready (rs := [17]) (by kernel_rfl) (by simp) ?_
              refine AllReadyH.cons rfl (fun K hK => ?_) AllReadyH.nil
              go_simp
              go_at_call 55
              refine (hR _ Q92.ro).mono ?_
              rintro e x95 ⟨rfl, a94⟩
              have Q96 := Q92.below a94
              go_wp2_with fail
              refine hK.out _ _ (keepS Q96.b hA1) (fun hHeld => ?_)
              clear hK K
              try simp only [Act.put, List.setIfInBounds_toArray, List.set_cons_zero, List.set_cons_succ, List.getElem_toArray, List.getElem_cons_zero, List.getElem_cons_succ]
              refine wpAnyH_take (i := 18) (v := ?v97) rfl (by kernel_rfl) (by kernel_rfl) (by kernel_rfl) (fun _ _ _ h => h) (Or.inl ⟨by rfl, ?y97⟩) (by assumption) ?r97
              case y97 => (intro w hSw; (try dsimp only at hSw); go_simp; try with_reducible rfl)
              try simp only [Act.put, List.setIfInBounds_toArray, List.set_cons_zero, List.set_cons_succ, List.getElem_toArray, List.getElem_cons_zero, List.getElem_cons_succ]
              refine wpAnyH_take (i := 19) (v := ?v98) rfl (by kernel_rfl) (by kernel_rfl) (by kernel_rfl) (fun _ _ _ h => h) (Or.inl ⟨by rfl, ?y98⟩) (by assumption) ?r98
              case y98 => (intro w hSw; (try dsimp only at hSw); go_simp; try with_reducible rfl)
              try simp only [Act.put, List.setIfInBounds_toArray, List.set_cons_zero, List.set_cons_succ, List.getElem_toArray, List.getElem_cons_zero, List.getElem_cons_succ]
              refine wpAnyH_done (by kernel_rfl) ?_ _
              have PF := Lib.hid Q96
              go_wp2
              go_ret
              exact ⟨ret_str (HFIN.out), HBW.out _ PF.out.b⟩
          · skip
            go_simp
            have o100 : OneAt wO (wr.alloc (.cells #[.int .i64 ((pa.length : Int) : Int)] 3)).drew (.slice (some ⟨wr.heap.size, 0, none⟩) 1 1) (pa.length : Int) := OneAt.new P0d.bo pa.length
            have P99 : Pre w1 wO (wr.alloc (.cells #[.int .i64 ((pa.length : Int) : Int)] 3)).drew (.slice (some ⟨g, 0, none⟩) pa.length cap) (pa.map (· + 1)) := P0d.below (balloc (Below.refl _ _) (.cells #[.int .i64 ((pa.length : Int) : Int)] 3))
            refine hK.out _ _ (keepS P99.b hA1) (fun hHeld => ?_)
            clear hK K
            try simp only [Act.put, List.setIfInBounds_toArray, List.set_cons_zero, List.set_cons_succ, List.getElem_toArray, List.getElem_cons_zero, List.getElem_cons_succ]
            generalize (wr.alloc (.cells #[.int .i64 ((pa.length : Int) : Int)] 3)).drew = xg99 at *
            refine wpAnyH_ready (rs := [3]) (by kernel_rfl) (by simp) ?_
            refine AllReadyH.cons rfl (fun K hK => ?_) AllReadyH.nil
            go_simp
            have o102 := OneAt.new P99.bo L
            have P101 := P99.below (balloc (Below.refl _ _) (.cells #[.int .i64 ((L : Int) : Int)] 3))
            have o103 := o100.below (balloc (Below.refl _ _) (.cells #[.int .i64 ((L : Int) : Int)] 3))
            refine hK.out _ _ (keepS P101.b hA1) (fun hHeld => ?_)
            clear hK K
            try simp only [Act.put, List.setIfInBounds_toArray, List.set_cons_zero, List.set_cons_succ, List.getElem_toArray, List.getElem_cons_zero, List.getElem_cons_succ]
            generalize (xg99).alloc (.cells #[.int .i64 ((L : Int) : Int)] 3) = xg101 at *
            refine wpAnyH_ready (rs := [4]) (by kernel_rfl) (by simp) ?_
            refine AllReadyH.cons rfl (fun K hK => ?_) AllReadyH.nil
            go_simp
            go_at_call 55
            refine (hN1 _ _ o102.row).mono ?_
            rintro e x105 ⟨rfl, a104⟩
            have P106 := P101.below a104
            have o107 := o103.below a104
            go_wp2_with fail
            refine hK.out _ _ (keepS P106.b hA1) (fun hHeld => ?_)
            clear hK K
            try simp only [Act.put, List.setIfInBounds_toArray, List.set_cons_zero, List.set_cons_succ, List.getElem_toArray, List.getElem_cons_zero, List.getElem_cons_succ]
            refine wpAnyH_ready (rs := [5]) (by kernel_rfl) (by simp) ?_
            refine AllReadyH.cons rfl (fun K hK => ?_) AllReadyH.nil
            go_simp
            go_at_call 56
            refine (hS _ P106.bo).mono ?_
            rintro e x109 ⟨rfl, a108, k110⟩
            have Q111 := P106.str HBO.out a108 k110
            have o112 := o107.str HBO.out P106.bo a108 k110
            go_wp2_with fail
            refine hK.out _ _ (keepS Q111.b hA1) (fun hHeld => ?_)
            clear hK K
            try simp only [Act.put, List.setIfInBounds_toArray, List.set_cons_zero, List.set_cons_succ, List.getElem_toArray, List.getElem_cons_zero, List.getElem_cons_succ]
            refine wpAnyH_take (i := 6) (v := ?v113) rfl (by kernel_rfl) (by kernel_rfl) (by kernel_rfl) (fun _ _ _ h => h) (Or.inl ⟨by rfl, ?y113⟩) (by assumption) ?r113
            case y113 => (intro w hSw; (try dsimp only at hSw); go_simp; try with_reducible rfl)
            try simp only [Act.put, List.setIfInBounds_toArray, List.set_cons_zero, List.set_cons_succ, List.getElem_toArray, List.getElem_cons_zero, List.getElem_cons_succ]
            refine wpAnyH_ready (rs := [9]) (by kernel_rfl) (by simp) ?_
            refine AllReadyH.cons rfl (fun K hK => ?_) AllReadyH.nil
            go_simp
            go_at_call 55
            refine (hO _ Q111.b).mono ?_
            rintro e x115 ⟨rfl, a114⟩
            have Q116 := Q111.below a114
            have o117 := o112.below a114
            go_wp2_with fail
            refine hK.out _ _ (keepS Q116.b hA1) (fun hHeld => ?_)
            clear hK K
            try simp only [Act.put, List.setIfInBounds_toArray, List.set_cons_zero, List.set_cons_succ, List.getElem_toArray, List.getElem_cons_zero, List.getElem_cons_succ]
            refine wpAnyH_take (i := 10) (v := ?v118) rfl (by kernel_rfl) (by kernel_rfl) (by kernel_rfl) (fun _ _ _ h => h) (Or.inl ⟨by rfl, ?y118⟩) (by assumption) ?r118
            case y118 => (intro w hSw; (try dsimp only at hSw); go_simp; try with_reducible rfl)
            try simp only [Act.put, List.setIfInBounds_toArray, List.set_cons_zero, List.set_cons_succ, List.getElem_toArray, List.getElem_cons_zero, List.getElem_cons_succ]
            refine wpAnyH_ready (rs := [14]) (by kernel_rfl) (by simp) ?_
            refine AllReadyH.cons rfl (fun K hK => ?_) AllReadyH.nil
            go_simp
            go_at_call 55
            refine (hN2 _ _ o117.row).mono ?_
            rintro e x120 ⟨rfl, a119⟩
            have Q121 := Q116.below a119
            go_wp2_with fail
            refine hK.out _ _ (keepS Q121.b hA1) (fun hHeld => ?_)
            clear hK K
            try simp only [Act.put, List.setIfInBounds_toArray, List.set_cons_zero, List.set_cons_succ, List.getElem_toArray, List.getElem_cons_zero, List.getElem_cons_succ]
            refine wpAnyH_take (i := 15) (v := ?v122) rfl (by kernel_rfl) (by kernel_rfl) (by kernel_rfl) (fun _ _ _ h => h) (Or.inl ⟨by rfl, ?y122⟩) (by assumption) ?r122
            case y122 => (intro w hSw; (try dsimp only at hSw); go_simp; try with_reducible rfl)
            try simp only [Act.put, List.setIfInBounds_toArray, List.set_cons_zero, List.set_cons_succ, List.getElem_toArray, List.getElem_cons_zero, List.getElem_cons_succ]
            refine wpAnyH_ready (rs := [17]) (by kernel_rfl) (by simp) ?_
            refine AllReadyH.cons rfl (fun K hK => ?_) AllReadyH.nil
            go_simp
            go_at_call 55
            refine (hR _ Q121.ro).mono ?_
            rintro e x124 ⟨rfl, a123⟩
            have Q125 := Q121.below a123
            go_wp2_with fail
            refine hK.out _ _ (keepS Q125.b hA1) (fun hHeld => ?_)
            clear hK K
            try simp only [Act.put, List.setIfInBounds_toArray, List.set_cons_zero, List.set_cons_succ, List.getElem_toArray, List.getElem_cons_zero, List.getElem_cons_succ]
            refine wpAnyH_take (i := 18) (v := ?v126) rfl (by kernel_rfl) (by kernel_rfl) (by kernel_rfl) (fun _ _ _ h => h) (Or.inl ⟨by rfl, ?y126⟩) (by assumption) ?r126
            case y126 => (intro w hSw; (try dsimp only at hSw); go_simp; try with_reducible rfl)
            try simp only [Act.put, List.setIfInBounds_toArray, List.set_cons_zero, List.set_cons_succ, List.getElem_toArray, List.getElem_cons_zero, List.getElem_cons_succ]
            refine wpAnyH_take (i := 19) (v := ?v127) rfl (by kernel_rfl) (by kernel_rfl) (by kernel_rfl) (fun _ _ _ h => h) (Or.inl ⟨by rfl, ?y127⟩) (by assumption) ?r127
            case y127 => (intro w hSw; (try dsimp only at hSw); go_simp; try with_reducible rfl)
            try simp only [Act.put, List.setIfInBounds_toArray, List.set_cons_zero, List.set_cons_succ, List.getElem_toArray, List.getElem_cons_zero, List.getElem_cons_succ]
            refine wpAnyH_done (by kernel_rfl) ?_ _
            have PF := Lib.hid Q125
            go_wp2
            go_ret
            exact ⟨ret_str (HFIN.out), HBW.out _ PF.out.b⟩

end Go.Proofs.Ytllagelopdedfaa
