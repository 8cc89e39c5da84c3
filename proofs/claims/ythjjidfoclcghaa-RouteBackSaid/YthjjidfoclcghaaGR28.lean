/- Texts of this proof, one behind the other: RouteLaw, TreeSeen. -/
import Derived.Test.YthjjidfoclcghaaGR27
/- What the laws of route ask: plain mathematics. -/
namespace Go.Proofs.Ythjjidfoclcghaa
open Go.RowKit
set_option linter.unusedVariables false
set_option linter.unusedSimpArgs false

theorem filt_snoc (f : Nat → Bool) {L : List Nat} {i : Nat} (h : i < L.length) : (L.take (i + 1)).filter f = (L.take i).filter f ++ if f L[i] = true then [L[i]] else [] := by
  rw [List.take_succ_eq_append_getElem h, List.filter_append]
  congr 1
  split <;> rename_i hq <;> simp [hq]
theorem filt_at (f : Nat → Bool) {L : List Nat} {i : Nat} (h : i < L.length) (hf : f L[i] = true) : ∃ h2 : ((L.take i).filter f).length < (L.filter f).length, (L.filter f)[((L.take i).filter f).length] = L[i] := by
  have e : L.filter f = (L.take i).filter f ++ L[i] :: (L.drop (i + 1)).filter f := by
    conv => lhs; rw [← List.take_append_drop i L, List.filter_append]
    congr 1
    rw [List.drop_eq_getElem_cons h, List.filter_cons, if_pos hf]
  refine ⟨by rw [e]; simp, ?_⟩
  simp only [e]
  rw [List.getElem_append_right (Nat.le_refl _)]
  simp
/-- From elsewhere a label goes to the same sites, but for that one. -/
theorem route_back {c : Rw} (h : chk9 c = true) (key : List UInt8) {x : Nat} (hx : x < c.pa.length) (s : Nat) : nx9 c key (x : Int) (s : Int) = (nx9 c key (x : Int) (-1)).filter fun (b : Nat) => decide ((b : Int) ≠ (s : Int)) := by
  rw [nx9_eq h]
  unfold Tm.nextI
  rw [Tm.okS_nat (chk9_parts h).2 hx, if_pos rfl, if_pos rfl, Int.toNat_natCast]
  exact Tm.nextL_but c.pa _ x _ (by omega)
theorem nx9_near_nat {c : Rw} (h : chk9 c = true) (key : List UInt8) (a : Int) : nx9 c key a (-1) = (Tm.nearI c.pa a).filter fun (b : Nat) => Tm.meetN (Tm.sideI c.pa a (b : Int)) (ownN c key) := by
  rw [nx9_near h]
  refine List.filter_congr fun b _ => ?_
  unfold nxG
  rw [decide_eq_true (by omega), Bool.true_and]
theorem goes_any {c : Rw} (h : chk9 c = true) (key : List UInt8) (a : Int) {b : Nat} (hb : b ∈ Tm.nearI c.pa a) : (nx9 c key a (-1)).any (fun y => decide (y = b)) = Tm.meetN (Tm.sideI c.pa a (b : Int)) (ownN c key) := by
  rw [nx9_near_nat h, Bool.eq_iff_iff, List.any_eq_true]
  constructor
  · rintro ⟨y, hy, e⟩
    rw [decide_eq_true_eq] at e
    subst e
    exact (List.mem_filter.1 hy).2
  · intro hm
    exact ⟨b, List.mem_filter.2 ⟨hb, hm⟩, by simp⟩
theorem serves_key {c : Rw} (h : chk9 c = true) (key : List UInt8) (s n : Int) : decide (0 ≤ Km.fidx (tls (serves9 c s n)) key) = Tm.meetN (Tm.sideI c.pa s n) (ownN c key) := by
  have ht := (tOk_iff c).1 (chk9_parts h).1
  obtain ⟨k, hk, hf⟩ := Km.fidx_some (Km.whole_has ht.wh key)
  obtain ⟨_, hh⟩ := Km.fidx_has hf
  have hkr : k < c.rs.length := by simpa [tls] using hk
  have hko : k < c.ow.length := by rw [ht.ol]; exact hkr
  have ho : ownN c key = c.ow[k].toNat := by
    unfold ownN
    rw [if_pos (chk9_parts h).1, hf, Int.toNat_natCast, List.getElem?_eq_getElem hko]
    rfl
  have hu := Km.whole_one ht.wh key
  rw [Km.fidx_ge, serves9_eq h, ho]
  unfold srvK
  have hz : (c.rs.zip c.ow).take c.rs.length = c.rs.zip c.ow := List.take_of_length_le (by simp; omega)
  rw [hz, Bool.eq_iff_iff]
  unfold tls
  rw [List.any_map, List.any_map, List.any_filter, List.any_eq_true]
  constructor
  · rintro ⟨x, hx, e⟩
    obtain ⟨i, hi, rfl⟩ := List.getElem_of_mem hx
    rw [List.getElem_zip] at e
    have hi2 : i < c.rs.length := by simp at hi; omega
    simp only [Bool.and_eq_true, Function.comp] at e
    have := hu i k (by simpa [tls] using hi2) hk (by simpa [tls] using e.2) hh
    subst this
    exact e.1
  · intro hm
    refine ⟨(c.rs[k], c.ow[k]), ?_, ?_⟩
    · have : k < (c.rs.zip c.ow).length := by simp; omega
      rw [← List.getElem_zip (h := this)]
      exact List.getElem_mem this
    · simp only [Bool.and_eq_true, Function.comp]
      exact ⟨hm, by simpa [tls] using hh⟩

/-- One step of a label's way. -/
structure Step9 (c : Rw) (key : List UInt8) (x i : Nat) (e : Int × Int) (a b : Nat) : Prop where
  e1 : e.1 = (a : Int)
  e2 : e.2 = (b : Int)
  ha : a < c.pa.length
  hb : b < c.pa.length
  ca : came9 c key (x : Int) i a = true
  cb : came9 c key (x : Int) i b = false
  mt : Tm.meetN (Tm.sideI c.pa (a : Int) (b : Int)) (ownN c key) = true
theorem came9_take {c : Rw} (h : chk9 c = true) (key : List UInt8) (x i s : Nat) : came9 c key (x : Int) i s = ((Tm.bfq c.pa (own9 c key) (x : Int)).take (i + 1)).any fun e => decide (e.1 = (s : Int)) := by
  obtain ⟨t, ht⟩ := st9_head c key (x : Int) 7
  have e : Tm.bfq c.pa (own9 c key) (x : Int) = ((x : Int), -1) :: t := by
    rw [← ht]
    unfold st9 Tm.bfq
    rw [nx9_eq h]
  unfold came9 ways9 Tm.stepsL
  rw [e, ht, List.take_succ_cons, List.any_cons, List.drop_succ_cons, List.drop_zero, ← List.map_take, List.any_map]
  rfl
theorem step9 {c : Rw} (h : chk9 c = true) (key : List UInt8) {x i : Nat} (hx : x < c.pa.length) (hi : i < (ways9 c key (x : Int)).length) : ∃ a b : Nat, Step9 c key x i (ways9 c key (x : Int))[i] a b := by
  have hT := (Tm.chkT_iff c.pa).1 (chk9_parts h).2
  have hB := hT.bfq_bf (own := own9 c key) hx
  have hq : ways9 c key (x : Int) = ((Tm.bfq c.pa (own9 c key) (x : Int)).drop 1).map fun e => (e.2, e.1) := by rw [ways9_eq h]; rfl
  have hct := came9_take h key x i
  generalize Tm.bfq c.pa (own9 c key) (x : Int) = q at hB hq hct
  have hi1 : i + 1 < q.length := by
    have := congrArg List.length hq
    rw [List.length_map, List.length_drop] at this
    omega
  have hg : (ways9 c key (x : Int))[i] = (q[i + 1].2, q[i + 1].1) := by
    simp only [hq]
    rw [List.getElem_map, List.getElem_drop]
    simp only [Nat.add_comm 1 i]
  have hnd := List.pairwise_iff_getElem.1 hB.nd
  have hx0 : q[0] = ((x : Int), -1) := (List.getElem?_eq_some_iff.1 hB.hd).2
  have hne : q[i + 1] ≠ ((x : Int), -1) := fun e => by
    have := hnd 0 (i + 1) (by simp; omega) (by simpa using hi1) (by omega)
    rw [List.getElem_map, List.getElem_map, hx0, e] at this
    exact this rfl
  rcases hB.ok q[i + 1] (List.getElem_mem hi1) with e | ⟨b, a, e, hb, ha, hab, hv, hl⟩
  · exact absurd e hne
  · rcases hB.pr (i + 1) _ (List.getElem?_eq_getElem hi1) with e0 | ⟨j, e2, _, hj, hj2, e3⟩
    · exact absurd e0 hne
    · rw [e] at e3 hg
      refine ⟨a, b, by rw [hg], by rw [hg], ha, hb, ?_, ?_, ?_⟩
      · rw [hct, List.any_eq_true]
        obtain ⟨hjl, rfl⟩ := List.getElem?_eq_some_iff.1 hj2
        exact ⟨q[j], List.mem_take_iff_getElem.2 ⟨j, by omega, rfl⟩, by rw [decide_eq_true_eq]; exact e3⟩
      · rw [hct, List.any_eq_false]
        intro e4 he4
        obtain ⟨j, hj, rfl⟩ := List.mem_take_iff_getElem.1 he4
        have := hnd j (i + 1) (by simp; omega) (by simpa using hi1) (by omega)
        rw [List.getElem_map, List.getElem_map, e] at this
        rw [decide_eq_true_eq]
        exact this
      · rw [Tm.sideI_nat (chk9_parts h).2 ha, Tm.meet_side]
        exact hl
theorem came_owner {c : Rw} (h : chk9 c = true) (key : List UInt8) {x s : Nat} (hx : x < c.pa.length) (hs : s < c.pa.length) (ho : bitN (ownN c key) (s : Int) = true) : came9 c key (x : Int) (ways9 c key (x : Int)).length s = true := by
  have hT := (Tm.chkT_iff c.pa).1 (chk9_parts h).2
  rw [came9_all h, hT.came_iff hx]
  refine ⟨hs, .inr ⟨s, hs, ?_, ?_⟩⟩
  · unfold bitN at ho
    unfold own9
    simpa using ho
  · obtain ⟨t, et⟩ := hT.way_cons hs hx
    rw [hT.way_rev hs hx, et]
    simp

/-- What is wanted behind so many sites. -/
def wantK (c : Rw) (key : List UInt8) (x s z : Nat) : Bool := decide (z = x) || (List.range s).any fun t => bitN (ownN c key) (t : Int) && (Tm.way c.pa x t).contains z
theorem wantK_zero (c : Rw) (key : List UInt8) (x z : Nat) : wantK c key x 0 z = decide (z = x) := by
  unfold wantK
  rw [List.range_zero, List.any_nil, Bool.or_false]
theorem wantK_succ (c : Rw) (key : List UInt8) (x s z : Nat) : wantK c key x (s + 1) z = (wantK c key x s z || (bitN (ownN c key) (s : Int) && (Tm.way c.pa x s).contains z)) := by
  unfold wantK
  rw [List.range_succ, List.any_append, Bool.or_assoc]
  simp
theorem want_came {c : Rw} (h : chk9 c = true) (key : List UInt8) {x : Nat} (hx : x < c.pa.length) (z : Nat) : wantK c key x c.pa.length z = came9 c key (x : Int) (ways9 c key (x : Int)).length z := by
  have hT := (Tm.chkT_iff c.pa).1 (chk9_parts h).2
  rw [came9_all h, Bool.eq_iff_iff, hT.came_iff hx]
  unfold wantK
  rw [Bool.or_eq_true, decide_eq_true_eq, List.any_eq_true]
  constructor
  · rintro (rfl | ⟨t, ht, e⟩)
    · exact ⟨hx, .inl rfl⟩
    · rw [List.mem_range] at ht
      rw [Bool.and_eq_true, List.contains_iff_mem] at e
      refine ⟨(hT.way_wk hx ht).lt z e.2, .inr ⟨t, ht, ?_, e.2⟩⟩
      have := e.1
      unfold bitN at this
      unfold own9
      simpa using this
  · rintro ⟨hz, rfl | ⟨t, ht, ho, hm⟩⟩
    · exact .inl rfl
    · refine .inr ⟨t, List.mem_range.2 ht, ?_⟩
      rw [Bool.and_eq_true, List.contains_iff_mem]
      refine ⟨?_, hm⟩
      unfold own9 at ho
      unfold bitN
      simpa using ho
theorem ways9_few {c : Rw} (h : chk9 c = true) (key : List UInt8) {x : Nat} (hx : x < c.pa.length) : (ways9 c key (x : Int)).length < c.pa.length := by
  have hT := (Tm.chkT_iff c.pa).1 (chk9_parts h).2
  rw [ways9_eq h]
  exact hT.ways_few hx
theorem bits_half (f : Nat → Bool) {i n : Nat} (hi : i < n) : (Tm.sumB f n / 2 ^ i % 2 = 1) ↔ f i = true := by
  have h := Tm.sumB_bit f n i
  rw [Nat.testBit_eq_decide_div_mod_eq, decide_eq_true hi, Bool.true_and] at h
  rw [← h, decide_eq_true_eq]

/-- Rows of other owners, all alike. -/
theorem chk9_same {c : Rw} (h : chk9 c = true) {o : Nat} (ho : 1 ≤ o ∧ o < 2 ^ c.pa.length) : chk9 ⟨c.rs, List.replicate c.rs.length (o : Int), c.pa⟩ = true := by
  obtain ⟨h1, h2⟩ := chk9_parts h
  have ht := (tOk_iff c).1 h1
  unfold chk9
  have : tOk ⟨c.rs, List.replicate c.rs.length (o : Int), c.pa⟩ = true := (tOk_iff _).2 ⟨ht.n1, ht.n6, ht.r8, by simp, ht.wh, fun y hy => by
    have := (List.mem_replicate.1 hy).2
    subst this
    show 1 ≤ (o : Int) ∧ (o : Int) < ((2 ^ c.pa.length : Nat) : Int)
    omega⟩
  rw [this, h2]
  rfl
theorem own_same {c : Rw} (h : chk9 c = true) {o : Nat} (ho : 1 ≤ o ∧ o < 2 ^ c.pa.length) (key : List UInt8) : ownN ⟨c.rs, List.replicate c.rs.length (o : Int), c.pa⟩ key = o := by
  have h1 := (chk9_parts (chk9_same h ho)).1
  have ht := (tOk_iff _).1 h1
  obtain ⟨k, hk, hf⟩ := Km.fidx_some (Km.whole_has ht.wh key)
  unfold ownN
  rw [if_pos h1, hf, Int.toNat_natCast]
  have hkr : k < c.rs.length := by simpa [tls] using hk
  show (((List.replicate c.rs.length (o : Int))[k]?).getD 0).toNat = o
  rw [List.getElem?_eq_getElem (by simpa using hkr), List.getElem_replicate]
  rfl
theorem only_all {c : Rw} (h : chk9 c = true) (key : List UInt8) {x : Nat} (hx : x < c.pa.length) : reach9 ⟨c.rs, List.replicate c.rs.length ((2 ^ c.pa.length - 1 : Nat) : Int), c.pa⟩ key (x : Int) = 2 ^ c.pa.length - 1 ∧ (ways9 ⟨c.rs, List.replicate c.rs.length ((2 ^ c.pa.length - 1 : Nat) : Int), c.pa⟩ key (x : Int)).length = c.pa.length - 1 := by
  have hT := (Tm.chkT_iff c.pa).1 (chk9_parts h).2
  have h2 : 2 ≤ 2 ^ c.pa.length := by
    have := Nat.pow_le_pow_right (n := 2) (by omega) hT.n1
    rwa [Nat.pow_one] at this
  have ho : 1 ≤ 2 ^ c.pa.length - 1 ∧ 2 ^ c.pa.length - 1 < 2 ^ c.pa.length := by omega
  have hc := chk9_same h ho
  have hw := own_same h ho key
  have hcm : ∀ y, y < c.pa.length → Tm.cameB c.pa (own9 ⟨c.rs, List.replicate c.rs.length ((2 ^ c.pa.length - 1 : Nat) : Int), c.pa⟩ key) (x : Int) y = true := fun y hy => hT.came_all hx hy (by
    unfold own9
    rw [hw, Nat.testBit_two_pow_sub_one, decide_eq_true hy])
  constructor
  · unfold reach9 Tm.reachI
    rw [if_pos hc, Tm.okS_nat (chk9_parts h).2 hx, if_pos rfl]
    refine Nat.eq_of_testBit_eq fun k => ?_
    rw [Tm.sumB_bit, Nat.testBit_two_pow_sub_one]
    by_cases hk : k < c.pa.length
    · have := hT.n6
      rw [decide_eq_true hk, decide_eq_true (by omega), hcm k hk]
      rfl
    · rw [decide_eq_false hk]
      have : Tm.cameB c.pa (own9 ⟨c.rs, List.replicate c.rs.length ((2 ^ c.pa.length - 1 : Nat) : Int), c.pa⟩ key) (x : Int) k = false := by
        cases hq : Tm.cameB c.pa (own9 ⟨c.rs, List.replicate c.rs.length ((2 ^ c.pa.length - 1 : Nat) : Int), c.pa⟩ key) (x : Int) k with
        | false => rfl
        | true => exact absurd ((hT.came_iff hx).1 hq).1 hk
      rw [this, Bool.and_false]
  · rw [ways9_eq hc]
    show (Tm.waysI c.pa _ (x : Int)).length = c.pa.length - 1
    have h3 := Tm.waysI_len c.pa (own9 ⟨c.rs, List.replicate c.rs.length ((2 ^ c.pa.length - 1 : Nat) : Int), c.pa⟩ key) (x : Int)
    have h4 := Tm.bf_len hx (hT.bfq_bf (own := own9 ⟨c.rs, List.replicate c.rs.length ((2 ^ c.pa.length - 1 : Nat) : Int), c.pa⟩ key) hx)
    have h5 : (Tm.ln (List.range c.pa.length)).length ≤ ((Tm.bfq c.pa (own9 ⟨c.rs, List.replicate c.rs.length ((2 ^ c.pa.length - 1 : Nat) : Int), c.pa⟩ key) (x : Int)).map Prod.fst).length := by
      refine List.Nodup.length_le_of_subset ?_ fun y hy => ?_
      · unfold Tm.ln List.Nodup
        rw [List.pairwise_map]
        exact (List.nodup_range (n := c.pa.length)).imp (fun hne => by omega)
      · obtain ⟨z, hz, rfl⟩ := List.mem_map.1 hy
        have := hcm z (List.mem_range.1 hz)
        unfold Tm.cameB at this
        rw [List.any_eq_true] at this
        obtain ⟨e, he, h6⟩ := this
        rw [decide_eq_true_eq] at h6
        exact List.mem_map.2 ⟨e, he, h6⟩
    rw [Tm.ln_len, List.length_range, List.length_map] at h5
    omega
theorem only_one {c : Rw} (h : chk9 c = true) (key : List UInt8) {x : Nat} (hx : x < c.pa.length) : reach9 ⟨c.rs, List.replicate c.rs.length ((2 ^ x : Nat) : Int), c.pa⟩ key (x : Int) = 2 ^ x ∧ (ways9 ⟨c.rs, List.replicate c.rs.length ((2 ^ x : Nat) : Int), c.pa⟩ key (x : Int)).length = 0 := by
  have hT := (Tm.chkT_iff c.pa).1 (chk9_parts h).2
  have ho : 1 ≤ 2 ^ x ∧ 2 ^ x < 2 ^ c.pa.length := ⟨Nat.two_pow_pos x, Nat.pow_lt_pow_right (by omega) hx⟩
  have hc := chk9_same h ho
  have hw := own_same h ho key
  have hcm : ∀ y, Tm.cameB c.pa (own9 ⟨c.rs, List.replicate c.rs.length ((2 ^ x : Nat) : Int), c.pa⟩ key) (x : Int) y = decide (y = x) := fun y => hT.came_one hx (fun s hs e => by
    unfold own9 at e
    rw [hw, Nat.testBit_two_pow, decide_eq_true_eq] at e
    exact e.symm)
  constructor
  · unfold reach9 Tm.reachI
    rw [if_pos hc, Tm.okS_nat (chk9_parts h).2 hx, if_pos rfl]
    refine Nat.eq_of_testBit_eq fun k => ?_
    rw [Tm.sumB_bit, Nat.testBit_two_pow]
    show (decide (k < 6) && Tm.cameB c.pa _ (x : Int) k) = _
    rw [hcm, Bool.eq_iff_iff]
    have := hT.n6
    simp
    omega
  · rw [ways9_eq hc]
    show (Tm.waysI c.pa _ (x : Int)).length = 0
    have h3 := Tm.waysI_len c.pa (own9 ⟨c.rs, List.replicate c.rs.length ((2 ^ x : Nat) : Int), c.pa⟩ key) (x : Int)
    have hB := hT.bfq_bf (own := own9 ⟨c.rs, List.replicate c.rs.length ((2 ^ x : Nat) : Int), c.pa⟩ key) hx
    have h5 : ((Tm.bfq c.pa (own9 ⟨c.rs, List.replicate c.rs.length ((2 ^ x : Nat) : Int), c.pa⟩ key) (x : Int)).map Prod.fst).length ≤ [(x : Int)].length := by
      refine List.Nodup.length_le_of_subset hB.nd fun y hy => ?_
      obtain ⟨e, he, rfl⟩ := List.mem_map.1 hy
      obtain ⟨z, hz, _⟩ := Tm.good_site hx (hB.ok e he)
      have h6 : Tm.cameB c.pa (own9 ⟨c.rs, List.replicate c.rs.length ((2 ^ x : Nat) : Int), c.pa⟩ key) (x : Int) z = true := by
        unfold Tm.cameB
        rw [List.any_eq_true]
        exact ⟨e, he, by rw [decide_eq_true_eq]; exact hz⟩
      rw [hcm, decide_eq_true_eq] at h6
      subst h6
      rw [hz]
      simp
    rw [List.length_map, show [(x : Int)].length = 1 from rfl] at h5
    omega
end Go.Proofs.Ythjjidfoclcghaa
/- Six counters in memory; how often a site lies behind those that are near. -/
namespace Go.Proofs.Ythjjidfoclcghaa
open Go.RowKit
set_option linter.unusedVariables false
set_option linter.unusedSimpArgs false

/-- So many counters. -/
structure SeenIn (w : World) (B n : Nat) (f : Nat → Nat) : Prop where
  lt : B < w.heap.size
  c : ∀ k, k < n → w.cell? ⟨B, k, none⟩ = some (.int .i64 (f k : Int))
  f : ∀ k, k < n → w.frozen? ⟨B, k, none⟩ = false
theorem SeenIn.below {w w' : World} {B n : Nat} {f : Nat → Nat} (h : SeenIn w B n f) (hb : Below w.heap.size w w') : SeenIn w' B n f :=
  ⟨by have := h.lt; have := hb.size; omega, fun k hk => kc hb (h.c k hk), fun k hk => by rw [hb.frozen (p := ⟨B, k, none⟩) h.lt]; exact h.f k hk⟩
theorem SeenIn.set {w : World} {B n : Nat} {f : Nat → Nat} (h : SeenIn w B n f) {k : Nat} (hk : k < n) (m : Nat) : SeenIn (w.setCell ⟨B, k, none⟩ (.int .i64 (m : Int))) B n (fun x => if x = k then m else f x) := by
  refine ⟨by simpa using h.lt, fun x hx => ?_, fun x hx => by rw [World.frozen?_setCell]; exact h.f x hx⟩
  by_cases e : x = k
  · subst e
    rw [World.cell?_setCell_same _ _ _ (h.c x hx), if_pos rfl]
  · rw [World.cell?_setCell_other _ _ _ _ (by intro h2; cases h2; exact e rfl), if_neg e]
    exact h.c x hx
theorem SeenIn.cong {w : World} {B n : Nat} {f g : Nat → Nat} (h : SeenIn w B n f) (e : ∀ k, k < n → f k = g k) : SeenIn w B n g :=
  ⟨h.lt, fun k hk => by rw [← e k hk]; exact h.c k hk, h.f⟩
theorem SeenIn.new (w : World) {n : Nat} (hn : n ≤ 6) : SeenIn (w.alloc (.cells #[.int .i64 0, .int .i64 0, .int .i64 0, .int .i64 0, .int .i64 0, .int .i64 0] 42)) w.heap.size n (fun _ => 0) := by
  refine ⟨by simp, fun k hk => ?_, fun k hk => ?_⟩
  · rw [Lib.cell_of_heap (heap_alloc_new w _)]
    rcases (show k = 0 ∨ k = 1 ∨ k = 2 ∨ k = 3 ∨ k = 4 ∨ k = 5 by omega) with rfl | rfl | rfl | rfl | rfl | rfl <;> rfl
  · rcases (show k = 0 ∨ k = 1 ∨ k = 2 ∨ k = 3 ∨ k = 4 ∨ k = 5 by omega) with rfl | rfl | rfl | rfl | rfl | rfl <;> simp
namespace Tm
theorem via_same {p : List Int} {a b c k : Nat} (h1 : via p a b k = true) (h2 : via p a c k = true) : b = c := by
  rw [via_iff] at h1 h2
  rw [h1] at h2
  simpa using h2
/-- How often it was seen behind the first so many. -/
def seenK (p : List Int) (a i k : Nat) : Nat := ((nearL p a).take i).countP fun c => via p a c k
theorem seenK_zero (p : List Int) (a k : Nat) : seenK p a 0 k = 0 := rfl
theorem seenK_succ {p : List Int} {a i : Nat} (h : i < (nearL p a).length) (k : Nat) : seenK p a (i + 1) k = seenK p a i k + if via p a (nearL p a)[i] k = true then 1 else 0 := by
  unfold seenK
  rw [List.take_succ_eq_append_getElem h, List.countP_append, List.countP_singleton]
theorem seenK_le (p : List Int) (a i k : Nat) : seenK p a i k ≤ i := by
  unfold seenK
  have h1 := List.countP_le_length (p := fun c => via p a c k) (l := (nearL p a).take i)
  rw [List.length_take] at h1
  omega
theorem countP_zero {f : Nat → Bool} : ∀ l : List Nat, (∀ x ∈ l, f x = false) → l.countP f = 0
  | [], _ => rfl
  | x :: l, h => by
    rw [List.countP_cons_of_neg (by rw [h x List.mem_cons_self]; simp)]
    exact countP_zero l fun y hy => h y (List.mem_cons_of_mem _ hy)
theorem countP_one {f : Nat → Bool} : ∀ {l : List Nat} {b : Nat}, l.Nodup → b ∈ l → f b = true → (∀ x, f x = true → x = b) → l.countP f = 1
  | x :: l, b, hn, hb, hf, hu => by
    rw [List.nodup_cons] at hn
    rcases List.mem_cons.1 hb with rfl | hb
    · rw [List.countP_cons_of_pos hf, countP_zero l fun y hy => by
        cases hy2 : f y with
        | false => rfl
        | true => have := hu y hy2; subst this; exact absurd hy hn.1]
    · have hx : f x = false := by
        cases hx : f x with
        | false => rfl
        | true => have := hu x hx; subst this; exact absurd hb hn.1
      rw [List.countP_cons_of_neg (by rw [hx]; simp)]
      exact countP_one hn.2 hb hf hu
theorem nearL_nodup (p : List Int) (a : Nat) : (nearL p a).Nodup := (nearL_rise p a).imp (fun h => by omega)
theorem Tr.seen_all {p : List Int} (h : Tr p) {a k : Nat} (ha : a < p.length) (hk : k < p.length) : seenK p a (nearL p a).length k = if k = a then 0 else 1 := by
  unfold seenK
  rw [List.take_length]
  by_cases e : k = a
  · rw [if_pos e]
    subst e
    exact countP_zero _ fun x _ => h.via_self ha
  · rw [if_neg e]
    obtain ⟨b, hb, hv, hu⟩ := h.via_one ha hk e
    exact countP_one (nearL_nodup p a) hb hv hu
theorem Tr.seen_own {p : List Int} (h : Tr p) {a i : Nat} (ha : a < p.length) (hi : i < (nearL p a).length) : seenK p a (i + 1) (nearL p a)[i] = 1 := by
  have hm := nearL_mem.1 (List.getElem_mem hi)
  have hv := h.via_near ha hm.1 hm.2
  rw [seenK_succ hi, hv, if_pos rfl]
  have : seenK p a i (nearL p a)[i] = 0 := by
    unfold seenK
    refine countP_zero _ fun x hx => ?_
    cases hx2 : via p a x (nearL p a)[i] with
    | false => rfl
    | true =>
      have e := via_same hx2 hv
      obtain ⟨j, hj, e2⟩ := List.mem_take_iff_getElem.1 hx
      have hr := List.pairwise_iff_getElem.1 (nearL_rise p a) j i (by omega) hi (by omega)
      omega
  rw [this]
theorem bit_of {S k : Nat} {f : Nat → Bool} {n : Nat} (hS : S = sumB f n) (hk : k < n) : (S / 2 ^ k % 2 = 1) ↔ f k = true := by
  have h := sumB_bit f n k
  rw [← hS] at h
  rw [Nat.testBit_eq_decide_div_mod_eq, decide_eq_true hk, Bool.true_and] at h
  rw [← h, decide_eq_true_eq]
end Tm
end Go.Proofs.Ythjjidfoclcghaa
