/- Rows of ranges that a call makes; what the laws' own helper 'few' answers. -/
import Derived.Test.YtmmgicdnbedmdaaKeysRows
import Derived.Test.YtmmgicdnbedmdaaKeysAwake
import Derived.OwnWalk
import Derived.Deep.AppendLies
import Derived.Deep.RegionHeld3
namespace Go.Proofs.Ytmmgicdnbedmdaa
open Go.RowKit
set_option linter.unusedVariables false

def rngV (rs : List (ByteArray × ByteArray)) : List Value := rs.flatMap fun r => [.string r.1, .string r.2]
theorem rngV_len (rs : List (ByteArray × ByteArray)) : (rngV rs).length = rs.length * 2 := by
  induction rs with
  | nil => rfl
  | cons r t ih => simp [rngV] at ih ⊢; omega
theorem rngV_get (rs : List (ByteArray × ByteArray)) (i : Nat) (h : i < rs.length) : (rngV rs)[i * 2]? = some (.string rs[i].1) ∧ (rngV rs)[i * 2 + 1]? = some (.string rs[i].2) := by
  induction rs generalizing i with
  | nil => simp at h
  | cons r t ih =>
    have e : rngV (r :: t) = .string r.1 :: .string r.2 :: rngV t := by simp [rngV]
    rw [e]
    cases i with
    | zero => simp
    | succ i =>
      have := ih i (by simpa using h)
      rw [show (i + 1) * 2 = i * 2 + 1 + 1 by omega]
      simpa using this
theorem rngV_snoc (rs : List (ByteArray × ByteArray)) (f t : ByteArray) : rngV (rs ++ [(f, t)]) = rngV rs ++ [.string f, .string t] := by simp [rngV]

theorem info_rng : (Try.prog.info? 30).map (fun i => (i.zero, i.size, i.bytes)) = some (some (.agg #[.string ⟨#[]⟩, .string ⟨#[]⟩]), 2, 32) := by kernel_rfl

/-- A slice that reads as these ranges. -/
def RngAt (w : World) (v : Value) (rs : List (ByteArray × ByteArray)) : Prop := ∃ a cap, v = .slice a rs.length cap ∧ RngIn w a rs
theorem RngAt.below {w w' : World} {v : Value} {rs : List (ByteArray × ByteArray)} (h : RngAt w v rs) (hb : Below w.heap.size w w') : RngAt w' v rs := by
  obtain ⟨a, cap, rfl, hr⟩ := h
  exact ⟨a, cap, rfl, hr.below hb⟩
theorem RngAt.of_own {w : World} {base : Nat} {e : TypeId} {v : Value} {rs : List (ByteArray × ByteArray)} (h : w.ownsRow base e 2 v rs.length (rngV rs)) : RngAt w v rs := by
  rcases h.2 with ⟨rfl, h0⟩ | ⟨g, cap, cur, rfl, hb, hg, hn, hm, hs, ht⟩
  · obtain rfl : rs = [] := List.length_eq_zero_iff.1 h0
    exact ⟨none, 0, rfl, fun i h => absurd h (by simp)⟩
  · refine ⟨some ⟨g, 0, none⟩, cap, rfl, fun i hi => ⟨g, 0, rfl, (Array.getElem?_eq_some_iff.1 hg).1, ?_, ?_⟩⟩
    · have h1 := (rngV_get rs i hi).1
      rw [← ht, List.getElem?_take, if_pos (by omega), Array.getElem?_toList] at h1
      simp [World.cell?, hg, h1]
    · have h1 := (rngV_get rs i hi).2
      rw [← ht, List.getElem?_take, if_pos (by omega), Array.getElem?_toList] at h1
      simp [World.cell?, hg, h1]

theorem ownR_shape {w1 : World} {base e n : Nat} {v' : Value} {xs : List Value} (h : w1.ownsRow base e 2 v' n xs) : ∃ a k c, v' = .slice a k c := by
  rcases h.2 with ⟨rfl, _⟩ | ⟨g, cap, cur, rfl, _⟩
  · exact ⟨_, _, _, rfl⟩
  · exact ⟨_, _, _, rfl⟩
/-- One range appended to a row of the call's own. -/
theorem ownR_push {base : Nat} {rs : List (ByteArray × ByteArray)} {f t : ByteArray} {wr w1 : World} {v v' : Value} {T : TypeId} {X : Array Value} (hbs : base ≤ wr.heap.size)
    (ho : wr.ownsRow base 30 2 v rs.length (rngV rs)) (ho' : w1.ownsRow base 30 2 v' (rs.length + 1) (rngV rs ++ [.string f, .string t])) (hg : (wr.alloc (.cells X T)).grownBy w1 v.ownBlock) :
    w1.ownsRow base 30 2 v' (rs ++ [(f, t)]).length (rngV (rs ++ [(f, t)])) ∧ Below base wr w1 := by
  refine ⟨by rw [rngV_snoc]; simpa using ho', ((Below.refl base wr).alloc hbs _).grown hg (by simp; omega) ?_⟩
  intro k hk
  exact (ho.lt k hk).1

/-- At most eight ranges, texts of 20 bytes at most. -/
def fewL (rs : List (ByteArray × ByteArray)) : List (ByteArray × ByteArray) := (rs.take 8).map fun r => (kcut 20 r.1, kcut 20 r.2)
theorem fewL_len (rs : List (ByteArray × ByteArray)) : (fewL rs).length ≤ 8 := by simp [fewL]; omega
theorem fewL_size (rs : List (ByteArray × ByteArray)) : ∀ r ∈ fewL rs, r.1.size ≤ 20 ∧ r.2.size ≤ 20 := by
  intro r hr
  simp only [fewL, List.mem_map] at hr
  obtain ⟨x, _, rfl⟩ := hr
  exact ⟨kcut_size _ _, kcut_size _ _⟩
def fewK (rs : List (ByteArray × ByteArray)) (k : Nat) : List (ByteArray × ByteArray) := (rs.take k).map fun r => (kcut 20 r.1, kcut 20 r.2)
theorem fewK_snoc (rs : List (ByteArray × ByteArray)) (k : Nat) (h : k < rs.length) : fewK rs (k + 1) = fewK rs k ++ [(kcut 20 rs[k].1, kcut 20 rs[k].2)] := by
  unfold fewK
  rw [List.take_succ_eq_append_getElem h, List.map_append]
  rfl
theorem fewK_len (rs : List (ByteArray × ByteArray)) (k : Nat) (h : k ≤ rs.length) : (fewK rs k).length = k := by simp [fewK]; omega
theorem fewK_all (rs : List (ByteArray × ByteArray)) (k : Nat) (h : k ≤ rs.length) (h8 : k ≤ 8) (hx : ¬ (k < rs.length ∧ k < 8)) : fewK rs k = fewL rs := by
  unfold fewK fewL
  by_cases e : k = 8
  · rw [e]
  · rw [List.take_of_length_le (by omega), List.take_of_length_le (by omega)]

def FewPost (w : World) (rs : List (ByteArray × ByteArray)) (e : Ending) (w' : World) : Prop :=
  ∃ v, e = .returned v ∧ RngAt w' v (fewL rs) ∧ Below w.heap.size w w'

set_option maxRecDepth 100000 in
set_option maxHeartbeats 1600000 in
theorem few_any (a : Option Addr) (cap : Nat) (rs : List (ByteArray × ByteArray)) (w : World) (hl : rs.length ≤ 9223372036854775807) (hsz : ∀ r ∈ rs, r.1.size ≤ maxLen ∧ r.2.size ≤ maxLen) (hr : RngIn w a rs) :
    Calls Try.prog 17 #[.slice a rs.length cap] w (FewPost w rs) := by
  have HR := Lib.hid hr
  have HZ := Lib.hid hsz
  clear hr hsz
  obtain ⟨i0, hi, hz0, hz1, hz2⟩ := info_parts info_rng
  go_enter Try.func17, Try.ntmps17
  go_wp2
  go_loopw [3, 4] (fun o i wr => ∃ k : Nat, k ≤ rs.length ∧ k ≤ 8 ∧ i = .int .i64 k ∧ wr.ownsRow w.heap.size 30 2 o (fewK rs k).length (rngV (fewK rs k)) ∧ Below w.heap.size w wr) (fun _ i _ => 8 - (intOf i).toNat)
  case atStart => exact ⟨0, by omega, by omega, rfl, ⟨by simp [fewK, rngV], .inl ⟨rfl, by simp [fewK]⟩⟩, Below.refl _ _⟩
  case round =>
    obtain ⟨k, hk, hk8, rfl, ho, hbel⟩ := hrel
    by_cases hlt : k < rs.length ∧ k < 8
    · obtain ⟨hk1, hk2⟩ := hlt
      obtain ⟨b, off, rfl, hbl, hc0, hc1⟩ := HR.out.below hbel k hk1
      obtain ⟨hs1, hs2⟩ := HZ.out rs[k] (List.getElem_mem hk1)
      unfold maxLen at hs1 hs2
      have HN := Lib.hid (fewK_snoc rs k hk1)
      have HLn := Lib.hid (fewK_len rs k hk)
      generalize rs[k].1 = p at hc0 hs1 HN
      generalize rs[k].2 = q at hc1 hs2 HN
      have hbw : b < w.heap.size := by
        obtain ⟨b', off', e', h', _⟩ := HR.out k hk1
        cases e'
        exact h'
      have ag : (o : Value) → wr.ownsRow w.heap.size 30 2 o (fewK rs k).length (rngV (fewK rs k)) → o.ownBlock ≠ some b := by
        intro o ho e
        have := (ho.lt b e).1
        omega
      have ag := ag _ ho
      have hol : (fewK rs k).length ≤ 8 := by rw [HLn.out]; exact hk8
      have hbs : w.heap.size ≤ wr.heap.size := hbel.size
      obtain ⟨sa, sn, sc, rfl⟩ := ownR_shape ho
      have HAG := Lib.hid ag
      clear ag
      go_wp2_with fail
      go_region_held3 (fun w' => w'.cell? ⟨b, off + k * 2, none⟩ = some (.string p) ∧ w'.cell? ⟨b, off + k * 2 + 1, none⟩ = some (.string q))
        (first
          | exact ⟨hc0, hc1⟩
          | go_keep
          | (refine ⟨?_, ?_⟩
             · (rw [hgrow.cell_far _ (by simp; omega) (Ne.symm HAG.out)]; go_keep)
             · (rw [hgrow.cell_far _ (by simp; omega) (Ne.symm HAG.out)]; go_keep)))
        (first
          | (refine step_append_lies _ (by rfl) _ _ _ (by rfl) w.heap.size 30 i0 _ 2 32 Try.underlying26 hi hz0 hz1 hz2 rfl (by omega) _ _ _ (by rfl) ((ho.alloc _).drew) ⟨wr.heap.size, 0, none⟩ 1 1 [.string (kcut 20 p), .string (kcut 20 q)] (by rfl) (by rfl) (World.news_of_block (cs := #[.string (kcut 20 p), .string (kcut 20 q)]) (t := 30) (fr := (0, 0)) (heap_alloc_new wr _)) (by simp [Value.oneCell']) (by omega) (by unfold maxLen; omega) (by omega) (by simp; omega) (wr.heap.size + 1) (by simp) ?_; intro gg gcap w1 hown1 hgrow hat hglt)
          | (go_at_call_of 12 (p); ((refine (kcut_any p 20 _ hs1 (by omega)).mono ?_); rintro e wx ⟨rfl, rfl⟩))
          | (go_at_call_of 12 (q); ((refine (kcut_any q 20 _ hs2 (by omega)).mono ?_); rintro e wx ⟨rfl, rfl⟩)))
      obtain ⟨k1, k2⟩ := ownR_push (wr := wr.drew) (f := kcut 20 p) (t := kcut 20 q) hbs ho.drew hown1 hgrow
      clear hown1 hgrow hat ho
      go_wp2
      go_roundw
      case rel => exact ⟨k + 1, by omega, by omega, by go_num, by rw [HN.out]; exact k1, hbel.drew.trans k2⟩
      case measure => simp [intOf]; omega
    · have HX := Lib.hid (fewK_all rs k hk hk8 hlt)
      obtain ⟨sa, sn, sc, rfl⟩ := ownR_shape ho
      have HO := Lib.hid ho
      clear ho
      rcases (show (decide (k < rs.length) = false) ∨ (decide (k < rs.length) = true ∧ decide ((k : Int) < 8) = false) by simp; omega) with hd | ⟨hd, hd2⟩
      all_goals
        go_wp2
        go_ret
        exact ⟨_, rfl, by rw [← HX.out]; exact RngAt.of_own HO.out, hbel⟩
end Go.Proofs.Ytmmgicdnbedmdaa
