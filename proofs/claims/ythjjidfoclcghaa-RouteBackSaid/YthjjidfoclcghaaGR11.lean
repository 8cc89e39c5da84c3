/- Texts of this proof, one behind the other: RouteMath2, RoutePair. -/
import Derived.Test.YthjjidfoclcghaaGR10
import Derived.WalkSmall
import Derived.ChangeKeysEq
import Derived.Deep.RegionHeld3
import Derived.Deep.AppendLies
/- What route's functions answer, of whatever numbers. -/
namespace Go.Proofs.Ythjjidfoclcghaa
set_option linter.unusedVariables false
set_option linter.unusedSimpArgs false

def chk9 (c : Rw) : Bool := tOk c && Tm.chkT c.pa
def own9 (c : Rw) (key : List UInt8) (s : Nat) : Bool := (ownN c key).testBit s
def nx9 (c : Rw) (key : List UInt8) (a fr : Int) : List Nat := if chk9 c then Tm.nextI c.pa (own9 c key) a fr else []
def nxG (c : Rw) (key : List UInt8) (a fr : Int) (b : Nat) : Bool := decide ((b : Int) ≠ fr) && Tm.meetN (Tm.sideI c.pa a (b : Int)) (ownN c key)
theorem chk9_parts {c : Rw} (h : chk9 c = true) : tOk c = true ∧ Tm.chkT c.pa = true := by
  unfold chk9 at h
  simpa using h
theorem nx9_near {c : Rw} (h : chk9 c = true) (key : List UInt8) (a fr : Int) : nx9 c key a fr = (Tm.nearI c.pa a).filter (nxG c key a fr) := by
  unfold nx9 Tm.nextI Tm.nearI
  rw [if_pos h]
  cases ho : Tm.okS c.pa a with
  | false => rfl
  | true =>
    obtain ⟨ht, x, rfl, hx⟩ := Tm.okS_some ho
    simp only [if_true, Int.toNat_natCast]
    unfold Tm.nextL
    refine List.filter_congr fun b hb => ?_
    unfold nxG
    rw [Tm.sideI_nat (chk9_parts h).2 hx, Tm.meet_side]
    rfl
theorem nx9_no {c : Rw} (h : chk9 c = false) (key : List UInt8) (a fr : Int) : nx9 c key a fr = [] := by
  unfold nx9
  rw [h]
  rfl
def nxK (c : Rw) (key : List UInt8) (a fr : Int) (k : Nat) : List Nat := ((Tm.nearI c.pa a).take k).filter (nxG c key a fr)
theorem nxK_zero (c : Rw) (key : List UInt8) (a fr : Int) : nxK c key a fr 0 = [] := rfl
theorem nxK_snoc {c : Rw} {key : List UInt8} {a fr : Int} {k : Nat} (hk : k < (Tm.nearI c.pa a).length) : nxK c key a fr (k + 1) = nxK c key a fr k ++ if nxG c key a fr (Tm.nearI c.pa a)[k] = true then [(Tm.nearI c.pa a)[k]] else [] := by
  unfold nxK
  rw [List.take_succ_eq_append_getElem hk, List.filter_append]
  congr 1
  split <;> rename_i hq <;> simp [hq]
theorem nxK_len (c : Rw) (key : List UInt8) (a fr : Int) (k : Nat) : (nxK c key a fr k).length ≤ 6 :=
  Nat.le_trans (List.length_filter_le _ _) (Nat.le_trans (by rw [List.length_take]; exact Nat.min_le_right _ _) (Tm.nearI_len c.pa a))
theorem nxK_all {c : Rw} (h : chk9 c = true) (key : List UInt8) (a fr : Int) : nxK c key a fr (Tm.nearI c.pa a).length = nx9 c key a fr := by
  rw [nx9_near h]
  unfold nxK
  rw [List.take_length]
theorem nx9_len (c : Rw) (key : List UInt8) (a fr : Int) : (nx9 c key a fr).length ≤ 6 := by
  cases h : chk9 c with
  | false => rw [nx9_no h]; simp
  | true => rw [← nxK_all h]; exact nxK_len _ _ _ _ _
/-- The search. -/
def st9 (c : Rw) (key : List UInt8) (fr : Int) (i : Nat) : List (Int × Int) := Tm.stB (nx9 c key) fr i
theorem nx9_eq {c : Rw} (h : chk9 c = true) (key : List UInt8) : nx9 c key = Tm.nextI c.pa (own9 c key) := by
  funext a fr
  unfold nx9
  rw [if_pos h]
theorem st9_no {c : Rw} (h : chk9 c = false) (key : List UInt8) (fr : Int) : ∀ i, st9 c key fr i = [(fr, -1)]
  | 0 => rfl
  | i + 1 => by
    have ih := st9_no h key fr i
    unfold st9 at ih ⊢
    rw [Tm.stB, ih]
    cases i with
    | zero => simp [nx9_no h]
    | succ i => rfl
theorem st9_len (c : Rw) (key : List UInt8) (fr : Int) (i : Nat) : 1 ≤ (st9 c key fr i).length ∧ (st9 c key fr i).length ≤ 6 := by
  cases h : chk9 c with
  | false => rw [st9_no h]; simp
  | true =>
    unfold st9
    rw [nx9_eq h]
    exact Tm.stB_len i
theorem st9_stop {c : Rw} {key : List UInt8} {fr : Int} {i : Nat} (hi : (st9 c key fr i).length ≤ i) : st9 c key fr i = st9 c key fr 7 := by
  unfold st9 at hi ⊢
  by_cases h7 : i ≤ 7
  · exact (Tm.stB_stop hi 7 h7).symm
  · exact Tm.stB_stop (by have := (st9_len c key fr 7).2; unfold st9 at this; omega) i (by omega)
theorem st9_some {c : Rw} {key : List UInt8} {fr : Int} {i : Nat} (hi : i < (st9 c key fr i).length) : st9 c key fr (i + 1) = st9 c key fr i ++ (nx9 c key (st9 c key fr i)[i].1 (st9 c key fr i)[i].2).map fun (s : Nat) => ((s : Int), (st9 c key fr i)[i].1) := Tm.stB_some hi
theorem st9_head (c : Rw) (key : List UInt8) (fr : Int) (i : Nat) : ∃ t, st9 c key fr i = (fr, -1) :: t := by
  obtain ⟨t, ht⟩ := Tm.stB_pre2 (nx9 c key) fr 0 i (by omega)
  exact ⟨t, by unfold st9; rw [ht]; rfl⟩
def swp (e : Int × Int) : Int × Int := (e.2, e.1)
def ways9 (c : Rw) (key : List UInt8) (fr : Int) : List (Int × Int) := Tm.stepsL (st9 c key fr 7)
theorem ways9_len (c : Rw) (key : List UInt8) (fr : Int) : (ways9 c key fr).length ≤ 5 := by
  have := st9_len c key fr 7
  unfold ways9 Tm.stepsL
  rw [List.length_map, List.length_drop]
  omega
theorem ways9_tl (c : Rw) (key : List UInt8) (fr : Int) : (st9 c key fr 7).map swp = (-1, fr) :: ways9 c key fr := by
  obtain ⟨t, ht⟩ := st9_head c key fr 7
  unfold ways9 Tm.stepsL
  rw [ht]
  rfl
theorem ways9_eq {c : Rw} (h : chk9 c = true) (key : List UInt8) (fr : Int) : ways9 c key fr = Tm.waysI c.pa (own9 c key) fr := by
  unfold ways9 st9 Tm.waysI Tm.bfq
  rw [nx9_eq h]
def reach9 (c : Rw) (key : List UInt8) (fr : Int) : Nat := if chk9 c then Tm.reachI c.pa (own9 c key) fr else 0
/-- Was a site come to? -/
def came9 (c : Rw) (key : List UInt8) (fr : Int) (k s : Nat) : Bool := decide (fr = (s : Int)) || ((ways9 c key fr).take k).any fun e => decide (e.2 = (s : Int))
theorem came9_all {c : Rw} (h : chk9 c = true) (key : List UInt8) (fr : Int) (s : Nat) : came9 c key fr (ways9 c key fr).length s = Tm.cameB c.pa (own9 c key) fr s := by
  unfold came9 Tm.cameB
  rw [List.take_length]
  obtain ⟨t, ht⟩ := st9_head c key fr 7
  have e : Tm.bfq c.pa (own9 c key) fr = (fr, -1) :: t := by
    rw [← ht]
    unfold st9 Tm.bfq
    rw [nx9_eq h]
  rw [e, List.any_cons]
  congr 1
  unfold ways9 Tm.stepsL
  rw [ht, List.drop_succ_cons, List.drop_zero, List.any_map]
  rfl
theorem came9_snoc {c : Rw} {key : List UInt8} {fr : Int} {k : Nat} (hk : k < (ways9 c key fr).length) (s : Nat) : came9 c key fr (k + 1) s = (came9 c key fr k s || decide ((ways9 c key fr)[k].2 = (s : Int))) := by
  unfold came9
  rw [List.take_succ_eq_append_getElem hk, List.any_append, Bool.or_assoc]
  simp
theorem reach9_eq {c : Rw} (h : chk9 c = true) (key : List UInt8) {fr : Int} (ho : Tm.isS c.pa fr = true) : reach9 c key fr = Tm.sumB (came9 c key fr (ways9 c key fr).length) 6 := by
  unfold reach9 Tm.reachI
  rw [if_pos h, Tm.okS_eq, (chk9_parts h).2, ho]
  simp only [Bool.and_self, if_true]
  exact Tm.sumB_cong 6 fun s _ => (came9_all h key fr s).symm
theorem reach9_no {c : Rw} (key : List UInt8) {fr : Int} (h : chk9 c = false ∨ Tm.isS c.pa fr = false) : reach9 c key fr = 0 := by
  unfold reach9 Tm.reachI
  rcases h with h | h
  · rw [h]; rfl
  · rw [Tm.okS_eq, h, Bool.and_false]
    split <;> rfl
/-- Each step's end is a site. -/
theorem ways9_site {c : Rw} {key : List UInt8} {fr : Int} {e : Int × Int} (he : e ∈ ways9 c key fr) : ∃ s : Nat, e.2 = (s : Int) ∧ s < c.pa.length ∧ s < 6 := by
  cases h : chk9 c with
  | false =>
    unfold ways9 at he
    rw [st9_no h] at he
    simp [Tm.stepsL] at he
  | true =>
    have ht := (Tm.chkT_iff c.pa).1 (chk9_parts h).2
    have h6 := ht.n6
    cases ho : Tm.okS c.pa fr with
    | false =>
      rw [ways9_eq h] at he
      unfold Tm.waysI Tm.bfq at he
      rw [Tm.stB_no ho] at he
      simp [Tm.stepsL] at he
    | true =>
      obtain ⟨_, x, rfl, hx⟩ := Tm.okS_some ho
      rw [ways9_eq h] at he
      unfold Tm.waysI Tm.stepsL at he
      obtain ⟨e1, he1, rfl⟩ := List.mem_map.1 he
      obtain ⟨y, h1, h2, _⟩ := ht.found_hit hx (ht.bfq_bf (own := own9 c key) hx) (List.mem_of_mem_drop he1)
      exact ⟨y, h1, h2, by omega⟩
theorem or_came {f : Nat → Bool} {s : Nat} (hs : s < 6) : Tm.sumB f 6 ||| 2 ^ s = Tm.sumB (fun k => f k || decide (k = s)) 6 := by
  refine Nat.eq_of_testBit_eq fun k => ?_
  rw [Nat.testBit_or, Tm.sumB_bit, Tm.sumB_bit, Nat.testBit_two_pow]
  by_cases hk : k < 6
  · rw [decide_eq_true hk]
    simp [eq_comm]
  · rw [decide_eq_false hk]
    have : ¬ s = k := by omega
    simp [this]
theorem came_step {c : Rw} {key : List UInt8} {fr : Int} {k s : Nat} (hk : k < (ways9 c key fr).length) (hs : (ways9 c key fr)[k].2 = (s : Int)) (h6 : s < 6) : Tm.sumB (came9 c key fr (k + 1)) 6 = Tm.sumB (came9 c key fr k) 6 ||| 2 ^ s := by
  rw [or_came h6]
  refine Tm.sumB_cong 6 fun x _ => ?_
  rw [came9_snoc hk, hs]
  congr 1
  rw [Bool.eq_iff_iff, decide_eq_true_eq, decide_eq_true_eq]
  omega
theorem came_zero (c : Rw) (key : List UInt8) {x : Nat} (h6 : x < 6) : Tm.sumB (came9 c key (x : Int) 0) 6 = 2 ^ x := by
  have h := or_came (f := fun _ => false) h6
  have e0 : Tm.sumB (fun _ => false) 6 = 0 := rfl
  rw [e0, Nat.zero_or] at h
  rw [h]
  refine Tm.sumB_cong 6 fun s _ => ?_
  unfold came9
  rw [Bool.eq_iff_iff]
  simp
  omega
/-- What a step serves. -/
def srvG (c : Rw) (s n o : Int) : Bool := Tm.meetN (Tm.sideI c.pa s n) o.toNat
def srvK (c : Rw) (s n : Int) (k : Nat) : List (ByteArray × ByteArray) := (((c.rs.zip c.ow).take k).filter fun x => srvG c s n x.2).map (·.1)
def serves9 (c : Rw) (s n : Int) : List (ByteArray × ByteArray) := if chk9 c then srvK c s n c.rs.length else []
theorem srvK_zero (c : Rw) (s n : Int) : srvK c s n 0 = [] := rfl
theorem srvK_snoc (c : Rw) (s n : Int) (k : Nat) (h : k < c.rs.length) (h' : k < c.ow.length) : srvK c s n (k + 1) = srvK c s n k ++ (if srvG c s n c.ow[k] = true then [c.rs[k]] else []) := by
  unfold srvK
  have hz : k < (c.rs.zip c.ow).length := by simp; omega
  rw [List.take_succ_eq_append_getElem hz, List.filter_append, List.map_append]
  congr 1
  rw [List.getElem_zip]
  split <;> rename_i hq <;> simp [hq]
theorem srvK_len (c : Rw) (s n : Int) (k : Nat) : (srvK c s n k).length ≤ k := by
  unfold srvK
  rw [List.length_map]
  refine Nat.le_trans (List.length_filter_le _ _) ?_
  simp
  omega
theorem serves9_no {c : Rw} (h : chk9 c = false) (s n : Int) : serves9 c s n = [] := by
  unfold serves9
  rw [h]
  rfl
theorem serves9_eq {c : Rw} (h : chk9 c = true) (s n : Int) : serves9 c s n = srvK c s n c.rs.length := by
  unfold serves9
  rw [if_pos h]
theorem meetN_hit {x y : Nat} (hx : x % 2 = 1) (hy : y % 2 = 1) : Tm.meetN x y = true :=
  Tm.meetN_iff.2 ⟨0, by rw [Nat.testBit_zero]; simpa using hx, by rw [Nat.testBit_zero]; simpa using hy⟩
theorem meetN_half {x y : Nat} (h : ¬ (x % 2 = 1 ∧ y % 2 = 1)) : Tm.meetN (x / 2) (y / 2) = Tm.meetN x y := by
  rw [Bool.eq_iff_iff, Tm.meetN_iff, Tm.meetN_iff]
  constructor
  · rintro ⟨k, h1, h2⟩
    exact ⟨k + 1, by rw [Nat.testBit_succ]; exact h1, by rw [Nat.testBit_succ]; exact h2⟩
  · rintro ⟨k, h1, h2⟩
    cases k with
    | zero =>
      rw [Nat.testBit_zero, decide_eq_true_eq] at h1 h2
      exact absurd ⟨h1, h2⟩ h
    | succ k =>
      rw [Nat.testBit_succ] at h1 h2
      exact ⟨k, h1, h2⟩
theorem meetN_zero (x : Nat) : Tm.meetN 0 x = false := by
  unfold Tm.meetN
  rw [Nat.zero_and]
  rfl
theorem meetN_none {x y : Nat} (h : x = 0 ∨ y = 0) : Tm.meetN x y = false := by
  rcases h with rfl | rfl
  · exact meetN_zero y
  · unfold Tm.meetN
    rw [Nat.and_zero]
    rfl
theorem srv_far {c : Rw} {s n : Int} (h : Tm.sideI c.pa s n = 0) (k : Nat) : srvK c s n k = [] := by
  unfold srvK srvG
  rw [h, List.map_eq_nil_iff, List.filter_eq_nil_iff]
  intro x _
  rw [meetN_zero]
  simp
theorem sideI_lt (p : List Int) (a b : Int) : Tm.sideI p a b < 64 := by
  unfold Tm.sideI
  split
  · rename_i h
    have h6 := ((Tm.chkT_iff p).1 h).n6
    have h1 := Tm.sumB_lt (fun k => Tm.viaI p a b (k : Int)) p.length
    have h2 : 2 ^ p.length ≤ 2 ^ 6 := Nat.pow_le_pow_right (by omega) h6
    omega
  · omega
/-- Behind so many near sites, the document's row. -/
def srvD (c : Rw) (s n : Int) (i : Nat) : List (ByteArray × ByteArray) := if ((Tm.nearI c.pa s).take i).any (fun b => decide ((b : Int) = n)) then srvK c s n c.rs.length else []
theorem srvD_zero (c : Rw) (s n : Int) : srvD c s n 0 = [] := rfl
theorem srvD_no {c : Rw} {s n : Int} {i : Nat} (hi : i < (Tm.nearI c.pa s).length) (h : ((Tm.nearI c.pa s)[i] : Int) ≠ n) : srvD c s n (i + 1) = srvD c s n i := by
  unfold srvD
  rw [List.take_succ_eq_append_getElem hi, List.any_append]
  simp [h]
theorem nearI_nodup (p : List Int) (a : Int) : (Tm.nearI p a).Nodup := by
  unfold Tm.nearI
  split
  · exact (Tm.nearL_rise p a.toNat).imp (fun h => by omega)
  · exact List.nodup_nil
theorem srvD_yes {c : Rw} {s n : Int} {i : Nat} (hi : i < (Tm.nearI c.pa s).length) (h : ((Tm.nearI c.pa s)[i] : Int) = n) : srvD c s n i = [] ∧ srvD c s n (i + 1) = srvK c s n c.rs.length := by
  unfold srvD
  have e : ((Tm.nearI c.pa s).take i).any (fun b => decide ((b : Int) = n)) = false := by
    rw [List.any_eq_false]
    intro b hb
    obtain ⟨j, hj, rfl⟩ := List.getElem_of_mem hb
    rw [List.getElem_take]
    rw [List.length_take] at hj
    have hp := List.pairwise_iff_getElem.1 (nearI_nodup c.pa s) j i (by omega) hi (by omega)
    rw [decide_eq_true_eq]
    omega
  rw [e]
  refine ⟨rfl, ?_⟩
  rw [List.take_succ_eq_append_getElem hi, List.any_append]
  simp [h]
theorem srvD_all {c : Rw} (h : chk9 c = true) (s n : Int) : srvD c s n (Tm.nearI c.pa s).length = serves9 c s n := by
  rw [serves9_eq h]
  unfold srvD
  rw [List.take_length]
  split
  · rfl
  · rename_i hn
    refine (srv_far (Tm.sideI_far fun x e ho hadj => hn ?_) _).symm
    obtain ⟨ht, y, rfl, hy⟩ := Tm.okS_some ho
    rw [List.any_eq_true]
    refine ⟨x, ?_, by simp [e]⟩
    unfold Tm.nearI
    rw [if_pos ho]
    rw [Int.toNat_natCast] at hadj ⊢
    refine Tm.nearL_mem.2 ⟨?_, hadj⟩
    rcases hadj with h1 | h1
    · have := ht.rg y hy
      omega
    · refine Classical.byContradiction fun h2 => ?_
      have h3 : Tm.par c.pa x = -1 := by
        unfold Tm.par
        rw [List.getElem?_eq_none (by omega)]
        rfl
      omega
end Go.Proofs.Ythjjidfoclcghaa
/- Rows of steps: pairs of ints. -/
namespace Go.Proofs.Ythjjidfoclcghaa
open Go.RowKit
set_option linter.unusedVariables false
set_option linter.unusedSimpArgs false

def KP : RK (Int × Int) where
  T := 43
  S := 37
  sz := 2
  bt := 16
  z := .agg #[.int .i64 0, .int .i64 0]
  enc x := [.int .i64 x.1, .int .i64 x.2]
theorem kp_ok : KP.Ok where
  len _ := rfl
  pos := by decide
  one x u hu := by
    simp [KP] at hu
    rcases hu with rfl | rfl <;> rfl
  und := Try.underlying37
  inf := by kernel_rfl
  zc := rfl
  bb := by decide
theorem RowIn.pair {w : World} {a : Option Addr} {l : List (Int × Int)} (h : RowIn KP w a l) (i : Nat) (hi : i < l.length) : ∃ b off, a = some ⟨b, off, none⟩ ∧ b < w.heap.size ∧ w.cell? ⟨b, off + i * 2, none⟩ = some (.int .i64 l[i].1) ∧ w.cell? ⟨b, off + i * 2 + 1, none⟩ = some (.int .i64 l[i].2) := by
  obtain ⟨b, off, e, hl, hc⟩ := h i hi
  exact ⟨b, off, e, hl, hc 0 _ rfl, hc 1 _ rfl⟩
/-- A row with its first element left out. -/
theorem RowIn.tail {w : World} {b off : Nat} {x : Int × Int} {l : List (Int × Int)} (h : RowIn KP w (some ⟨b, off, none⟩) (x :: l)) : RowIn KP w (some ⟨b, off + 2, none⟩) l := by
  intro i hi
  obtain ⟨b', off', e, hl, hc⟩ := h (i + 1) (by simp; omega)
  cases e
  refine ⟨b, off + 2, rfl, hl, fun j u hu => ?_⟩
  have := hc j u (by simpa using hu)
  rw [show off + 2 + i * KP.sz + j = off + (i + 1) * KP.sz + j by show off + 2 + i * 2 + j = off + (i + 1) * 2 + j; omega]
  exact this

theorem own_lit9 {α : Type} {K : RK α} (hK : K.Ok) (w : World) (base n : Nat) (l : List α) (cs : Array Value) (hcs : cs.toList = rV K l) (hn : l.length = n) (hb : base ≤ w.heap.size) (hm : n ≤ 1000) : OwnR K (w.alloc (.cells cs K.T)) base (.slice (some ⟨w.heap.size, 0, none⟩) n n) l := by
  subst hn
  have hl := rV_len hK l
  refine ⟨by rw [hl], .inr ⟨w.heap.size, l.length, cs, rfl, hb, heap_alloc_new w _, Nat.le_refl _, by unfold maxLen; omega, ?_, ?_⟩⟩
  · rw [← hl, ← hcs]; simp
  · rw [hcs, ← hl, List.take_length]
theorem OwnR.keptP {α : Type} {K : RK α} {w w' : World} {base : Nat} {v u : Value} {l : List α} (h : OwnR K w base v l) (hk : KeptD u w w') (hd : ∀ g, v.ownBlock = some g → u.ownBlock ≠ some g) : OwnR K w' base v l :=
  h.block fun g e => hk g (h.lt g e).2 (hd g e)
theorem step_push9 {α : Type} {K : RK α} (hK : K.Ok) {ops : Array Oper} {o : Oper} {a : Act} {KK : Act → World → Prop} {Q : Exit → Act → World → Prop} {E : Prop} {wr : World} (hgd : o.guard = none) (s x : Operand)
    (hop : o.op = .call { callee := .builtin .append, args := #[s, x], argTypes := #[K.S, K.S] })
    (base : Nat) (v : Value) (l : List α) (y : α) (cs : Array Value) (hcs : cs.toList = K.enc y) (hs : a.eval s = v) (hown : OwnR K wr base v l) (hx : a.eval x = .slice (some ⟨wr.heap.size, 0, none⟩) 1 1) (hl : l.length ≤ 1000000) (hbs : base ≤ wr.heap.size)
    (h : ∀ g cap w', OwnR K w' base (.slice (some ⟨g, 0, none⟩) (l.length + 1) cap) (l ++ [y]) → Below base wr w' → KeptD v wr w' → (v.ownBlock = some g ∨ wr.heap.size ≤ g) → g < w'.heap.size → KK (a.put o.dst (.slice (some ⟨g, 0, none⟩) (l.length + 1) cap)) w') :
    if Region.wanted o (yielded ops a.tmps) = true then Oper.wp Try.prog o a (wr.alloc (.cells cs K.T)) KK Q else E := by
  obtain ⟨i0, hi, hz0, hz1, hz2⟩ := info_parts hK.inf
  have hbb := hK.bb
  refine step_append_lies _ hgd s x K.S hop base K.T i0 _ K.sz K.bt hK.und hi hz0 hz1 hz2 hK.zc hK.pos v l.length (rV K l) hs (hown.alloc _) ⟨wr.heap.size, 0, none⟩ 1 1 (K.enc y) hx (by rw [hK.len, Nat.one_mul])
    (fun j u hu => World.news_of_block (cs := cs) (t := K.T) (fr := (0, 0)) (heap_alloc_new wr _) j u (by rw [hcs]; exact hu)) (hK.one y) (by omega) (by unfold maxLen; omega) (Nat.le_trans (Nat.mul_le_mul (show l.length + 1 ≤ 1000001 by omega) hbb) (by decide)) (by simp; omega) (wr.heap.size + 1) (by simp) ?_
  intro g cap w' ho hg hat hlt
  refine h g cap w' (by unfold OwnR; rw [rV_snoc]; simpa using ho) (((Below.refl base wr).alloc hbs _).grown hg (by simp; omega) (fun k hk => (hown.lt k hk).1)) (fun j hj hne => ?_) (by rcases hat with h1 | h1; exact .inl h1; exact .inr (by omega)) hlt
  rw [hg.block j (by simp; omega) (fun e => hne e.symm)]
  exact Below.heap_alloc _ _ _ hj
theorem OwnR.intAt {w : World} {base b off n cap : Nat} {l : List Int} (h : OwnR KI w base (.slice (some ⟨b, off, none⟩) n cap) l) (i : Nat) (hi : i < l.length) : w.cell? ⟨b, off + i, none⟩ = some (.int .i64 l[i]) := by
  obtain ⟨b', off', e, _, hc⟩ := (RowIn.of_own ki_ok h).int i hi
  cases e
  exact hc
theorem eq_pair (w : World) (k l k' l' : Int) : (binOp .eql 43 (.agg #[.int .i64 k, .int .i64 l]) (.agg #[.int .i64 k', .int .i64 l'])).run Try.prog w = .ok (.bool (decide ((k, l) = (k', l')))) w := by
  obtain ⟨i, hi⟩ : ∃ i, Try.prog.info? 3 = some i := by
    have := Try.underlying3
    unfold Program.underlying at this
    cases h : Try.prog.info? 3 with
    | none => rw [h] at this; simp at this
    | some i => exact ⟨i, rfl⟩
  have hc : Try.prog.cellsOf 3 = 1 := by kernel_rfl
  rw [run_eql_struct, run_equalIn_array w 9999 _ _ Try.underlying43 hi, hc]
  simp [go_sem, Op.eqItems, List.range, List.range.loop, Try.underlying3]
  by_cases h1 : k = k' <;> by_cases h2 : l = l' <;> simp [h1, h2]
theorem ne_pair (w : World) (k l k' l' : Int) : (binOp .neq 43 (.agg #[.int .i64 k, .int .i64 l]) (.agg #[.int .i64 k', .int .i64 l'])).run Try.prog w = .ok (.bool (!decide ((k, l) = (k', l')))) w := by
  have h := eq_pair w k l k' l'
  rw [run_eql_struct] at h
  rw [run_neq_struct]
  generalize (Op.equalIn 10000 _ _ _).run _ _ = r at h
  cases r with
  | ok b w1 => simp at h ⊢; simp [h]
  | halt x w1 => simp at h
end Go.Proofs.Ythjjidfoclcghaa
