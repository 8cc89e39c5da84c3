/- Texts of this proof, one behind the other: PastRefMerge, PastAddMath, PastLawMath, PastMade. -/
import Derived.Test.YtfmedinhlmiaeaaGQ20
/- What the document's Merge, and the law's own 'made', answer. -/
namespace Go.Proofs.Ytfmedinhlmiaeaa
open Go.RowKit
set_option linter.unusedVariables false
set_option linter.unusedSimpArgs false

theorem addAll_len (l : List De) : ∀ r, (addAll r l).length ≤ r.length + l.length := by
  induction l with
  | nil => intro r; simp [addAll]
  | cons d l ih =>
    intro r
    have h1 := ih (addR r d)
    have h2 := addR_len r d
    simp only [addAll, List.foldl_cons, List.length_cons] at *
    omega
theorem addAll_snoc (r l : List De) (d : De) : addAll r (l ++ [d]) = addR (addAll r l) d := by simp [addAll]
theorem addAll_take (r l : List De) (k : Nat) (h : k < l.length) : addAll r (l.take (k + 1)) = addR (addAll r (l.take k)) l[k] := by
  rw [List.take_succ_eq_append_getElem h, addAll_snoc]
/-- The document's Merge. -/
def mergeR (ls : List (List De)) : List De := ls.foldl addAll []
theorem mergeR_take (ls : List (List De)) (k : Nat) (h : k < ls.length) : mergeR (ls.take (k + 1)) = addAll (mergeR (ls.take k)) ls[k] := by
  unfold mergeR
  rw [List.take_succ_eq_append_getElem h, List.foldl_append]
  rfl
theorem mergeR_len (ls : List (List De)) (k : Nat) (h : k ≤ ls.length) : (mergeR (ls.take k)).length ≤ tot (ls.take k) := by
  induction k with
  | zero => simp [mergeR, tot]
  | succ k ih =>
    have h1 := ih (by omega)
    rw [mergeR_take ls k (by omega), tot_take ls k (by omega)]
    have h2 := addAll_len ls[k] (mergeR (ls.take k))
    omega
theorem mergeR_is : ∀ (ls : List (List De)) (f r : List De), IsMerge f r → IsMerge (f ++ ls.flatten) (ls.foldl addAll r)
  | [], f, r, h => by simpa using h
  | l :: ls, f, r, h => by
    have := mergeR_is ls _ _ (h.all l)
    simpa [List.append_assoc] using this
theorem mergeR_spec (ls : List (List De)) : IsMerge ls.flatten (mergeR ls) := by unfold mergeR; simpa using mergeR_is ls [] [] IsMerge.nil

set_option maxRecDepth 100000 in
set_option maxHeartbeats 3200000 in
theorem refMerge_new (a : Option Addr) (cap : Nat) (ls : List (List De)) (w : World) (hn : ls.length ≤ 1000) (ht : tot ls ≤ 10000) (hz : ∀ l ∈ ls, Szd l) (hr : RowsAt w a ls) :
    Calls Try.prog 30 #[.slice a ls.length cap] w fun e w' => ∃ v', e = .returned v' ∧ DepAt w' v' (mergeR ls) ∧ (∀ b, v'.ownBlock = some b → w.heap.size ≤ b) ∧ Below w.heap.size w w' := by
  have HR := Lib.hid hr
  have HZ := Lib.hid hz
  clear hr hz
  go_enter Try.func30, Try.ntmps30
  go_wp2
  go_loopw [3, 4] (fun o i wr => ∃ k : Nat, k ≤ ls.length ∧ i = .int .i64 k ∧ DepAt wr o (mergeR (ls.take k)) ∧ (∀ b, o.ownBlock = some b → w.heap.size ≤ b) ∧ Below w.heap.size w wr) (fun _ i _ => ls.length - (intOf i).toNat)
  case atStart => exact ⟨0, by omega, rfl, DepAt.nil w, by simp [Value.ownBlock], Below.refl _ _⟩
  case round =>
    obtain ⟨k, hk, rfl, hd, hnew, hbel⟩ := hrel
    obtain ⟨da, dc, rfl, _, _, _, _⟩ := id hd
    have HD := Lib.hid hd
    have HNW := Lib.hid hnew
    clear hd hnew
    by_cases hlt : k < ls.length
    · have hml := mergeR_len ls k hk
      have hm1 := tot_mono ls (k + 1)
      rw [tot_take ls k hlt] at hm1
      have HT := Lib.hid (mergeR_take ls k hlt)
      have HZK := Lib.hid (HZ.out ls[k] (List.getElem_mem hlt))
      obtain ⟨b, off, u, rfl, hbl, hc, hu⟩ := (HR.out.below hbel).get k hlt
      generalize ls[k] = m at hu HT HZK hm1
      generalize hq : mergeR (ls.take k) = q at HD HT hml HNW
      have HQ := Lib.hid hq
      clear hq
      obtain ⟨ma, mc, rfl, _, _, _, _⟩ := id hu
      have HU := Lib.hid hu
      clear hu
      go_wp2
      go_loopw [3, 5] (fun o i wr' => ∃ j : Nat, j ≤ m.length ∧ i = .int .i64 j ∧ DepAt wr' o (addAll q (m.take j)) ∧ (∀ b, o.ownBlock = some b → w.heap.size ≤ b) ∧ Below w.heap.size w wr' ∧ Below wr.heap.size wr wr') (fun _ i _ => m.length - (intOf i).toNat)
      case atStart => exact ⟨0, by omega, rfl, HD.out, HNW.out, hbel, Below.refl _ _⟩
      case round =>
        rename_i wr'
        obtain ⟨j, hj, rfl, hd, hnew', hbel', hbw⟩ := hrel
        obtain ⟨ea, ec, rfl, _, _, _, _⟩ := id hd
        have HD' := Lib.hid hd
        have HNW' := Lib.hid hnew'
        clear hnew'
        have hc' := kcell hbw hbl hc
        clear hd
        by_cases hlt' : j < m.length
        · obtain ⟨ua, uc, ue, _, _, _, hur⟩ := HU.out.below hbw
          cases ue
          obtain ⟨b2, off2, rfl, hbl2, c0, c1, c2⟩ := hur j hlt'
          have HA := Lib.hid (addAll_take q m j hlt')
          have hsz := HZK.out m[j] (List.getElem_mem hlt')
          have hal := addAll_len (m.take j) q
          have htl : (m.take j).length ≤ m.length := by simp; omega
          generalize m[j] = d at c0 c1 c2 HA hsz
          obtain ⟨x, y, z⟩ := d
          dsimp only at c0 c1 c2 hsz
          generalize hqq : addAll q (m.take j) = q' at HD' HA hal HNW'
          clear hqq
          go_wp2_with fail
          refine (refAddP_new _ q' x y z _ (by omega) hsz HD'.out).mono ?_
          rintro e w2 ⟨v2, rfl, hd2, hnw2, hb2⟩
          have HNW2 : Hid (∀ b, v2.ownBlock = some b → w.heap.size ≤ b) := Lib.hid (fun b hb => by
            rcases hnw2 with rfl | h
            · exact HNW'.out b hb
            · have h1 := h b hb
              have h2 := hbel'.size
              omega)
          clear hnw2
          obtain ⟨va, vc, rfl, _, _, _, _⟩ := id hd2
          have HD2 := Lib.hid hd2
          clear hd2
          go_wp2
          go_roundw
          case rel => exact ⟨j + 1, by omega, by go_num, by rw [HA.out]; exact HD2.out, HNW2.out, bstep hbel' hb2, bstep hbw hb2⟩
          case measure => simp [intOf]; omega
        · obtain rfl : j = m.length := by omega
          have HE : Hid (addAll q (m.take m.length) = addAll q m) := Lib.hid (by rw [List.take_length])
          go_wp2
          go_roundw
          case rel => exact ⟨k + 1, by omega, by go_num, by rw [HT.out, ← HE.out]; exact HD'.out, HNW'.out, hbel'⟩
          case measure => simp [intOf]; omega
    · obtain rfl : k = ls.length := by omega
      go_wp2
      go_ret
      exact ⟨_, rfl, by have h := HD.out; rw [List.take_length] at h ⊢; exact h, HNW.out, hbel⟩
theorem refMerge_any (a : Option Addr) (cap : Nat) (ls : List (List De)) (w : World) (hn : ls.length ≤ 1000) (ht : tot ls ≤ 10000) (hz : ∀ l ∈ ls, Szd l) (hr : RowsAt w a ls) :
    Calls Try.prog 30 #[.slice a ls.length cap] w fun e w' => ∃ v', e = .returned v' ∧ DepAt w' v' (mergeR ls) ∧ Below w.heap.size w w' :=
  (refMerge_new a cap ls w hn ht hz hr).mono fun e w' ⟨v', h1, h2, _, h3⟩ => ⟨v', h1, h2, h3⟩
end Go.Proofs.Ytfmedinhlmiaeaa
/- A dependency put into a past, by its place: plain mathematics, and a row of the call's own whose stamp is written. -/
namespace Go.Proofs.Ytfmedinhlmiaeaa
open Go.RowKit
set_option linter.unusedVariables false

theorem mx_two {x y : Int × Int} (h : 1 ≤ x.1) : Sm.mx (0, 0) [x, y] = if Sm.less x y = true then y else x := by
  have h1 : Sm.less x (0, 0) = false := by rw [Sm.less_false]; left; simp; omega
  have h2 : Sm.mx (0, 0) [x, y] = Sm.later x y := by simp [Sm.mx, Sm.later, h1]
  rw [h2]
  unfold Sm.later
  by_cases h3 : Sm.less y x = true
  · rw [if_pos h3]
    have : Sm.less x y = false := by rw [Sm.less_iff] at h3; rw [Sm.less_false]; omega
    simp [this]
  · rw [if_neg h3]
    by_cases h4 : Sm.less x y = true
    · rw [if_pos h4]
    · rw [if_neg h4]; exact Sm.le_antisymm (by simpa using h4) (by simpa using h3)
theorem okD_pos {d : De} (h : okD d = true) : 1 ≤ d.2.1 := by
  simp [okD, Sm.ok] at h
  omega
/-- The key is there, at k. -/
theorem addGo_at {d : De} : ∀ (l : List De), Srt l → ∀ (k : Nat) (h : k < l.length), l[k].1 = d.1 → addGo d false l = l.set k (l[k].1, if Sm.less l[k].2 d.2 = true then d.2 else l[k].2)
  | [], _, k, h, _ => absurd h (by simp)
  | x :: r, hs, 0, _, e => by
    have ha := List.pairwise_cons.1 hs.2
    have e' : x.1 = d.1 := e
    have hne : ∀ y ∈ r, y.1 ≠ d.1 := fun y hy e2 => klt_ne (ha.1 y hy) (e'.trans e2.symm)
    cases hl : Sm.less x.2 d.2 with
    | true => rw [addGo_eq e' hl, addGo_true hne]; simp [hl, e']
    | false => rw [addGo_eq' e' hl, addGo_true hne]; simp [hl]
  | x :: r, hs, k + 1, h, e => by
    have ha := List.pairwise_cons.1 hs.2
    have hk : k < r.length := by simpa using h
    have e' : (r[k]'hk).1 = d.1 := e
    have h1 := ha.1 (r[k]'hk) (List.getElem_mem hk)
    rw [e'] at h1
    rw [addGo_le (klt_ne h1) (klt_asymm h1), addGo_at r hs.tail k hk e']
    simp
/-- The key is not there: k is its place. -/
theorem addGo_ins {d : De} : ∀ (l : List De), (∀ y ∈ l, y.1 ≠ d.1) → ∀ (k : Nat) (h : k ≤ l.length), (∀ j (hj : j < l.length), j < k → klt d.1 l[j].1 = false) → (∀ hk : k < l.length, klt d.1 l[k].1 = true) → addGo d false l = l.take k ++ d :: l.drop k
  | [], _, k, h, _, _ => by
    have : k = 0 := by simpa using h
    subst this
    simp [addGo]
  | x :: r, hne, 0, _, _, h2 => by
    rw [addGo_gt (hne x (by simp)) (h2 (by simp)), addGo_true (fun y hy => hne y (List.mem_cons_of_mem _ hy))]
    simp
  | x :: r, hne, k + 1, h, h1, h2 => by
    have hx : klt d.1 x.1 = false := h1 0 (by simp) (by omega)
    rw [addGo_le (hne x (by simp)) hx, addGo_ins r (fun y hy => hne y (List.mem_cons_of_mem _ hy)) k (by simpa using h) (fun j hj hjk => h1 (j + 1) (by simpa using hj) (by omega)) (fun hk => h2 (by simpa using hk))]
    simp
/-- Where IndexFunc says that the greater ones begin. -/
theorem fidx_ins {d : De} {l : List De} (hne : ∀ y ∈ l, y.1 ≠ d.1) (hg : fidxD (fun e => klt d.1 e.1) l = -1) : addGo d false l = l ++ [d] := by
  unfold fidxD at hg
  cases e : l.findIdx? (fun e => klt d.1 e.1) with
  | some i => rw [e] at hg; simp at hg
  | none =>
    rw [List.findIdx?_eq_none_iff] at e
    rw [addGo_ins l hne l.length (Nat.le_refl _) (fun j hj _ => by simpa using e l[j] (List.getElem_mem hj)) (fun hk => absurd hk (by simp))]
    simp
theorem fidx_ins' {d : De} {l : List De} (hne : ∀ y ∈ l, y.1 ≠ d.1) : fidxD (fun e => klt d.1 e.1) l = -1 ∨ ∃ k : Nat, k < l.length ∧ fidxD (fun e => klt d.1 e.1) l = k ∧ addGo d false l = l.take k ++ d :: l.drop k := by
  unfold fidxD
  cases e : l.findIdx? (fun e => klt d.1 e.1) with
  | none => exact .inl rfl
  | some i =>
    right
    rw [List.findIdx?_eq_some_iff_getElem] at e
    obtain ⟨hi, hh, hn⟩ := e
    exact ⟨i, hi, rfl, addGo_ins l hne i (by omega) (fun j hj hjk => by simpa using hn j hjk) (fun _ => hh)⟩
/-- Which key is where. -/
theorem kidx_no {l : List De} {key : ByteArray} (h : kidx l key = -1) : ∀ y ∈ l, y.1 ≠ key := by
  unfold kidx fidxD at h
  cases e : l.findIdx? (fun d => decide (d.1 = key)) with
  | some i => rw [e] at h; simp at h
  | none =>
    rw [List.findIdx?_eq_none_iff] at e
    intro y hy
    simpa using e y hy

/-- One stamp written. -/
theorem OwnD.setS {w : World} {base g cap : Nat} {l : List De} (h : OwnD w base (.slice (some ⟨g, 0, none⟩) l.length cap) l) (i : Nat) (hi : i < l.length) (y z : Int) :
    OwnD ((w.setCell ⟨g, i * 3 + 1, none⟩ (.int .i64 y)).setCell ⟨g, i * 3 + 2, none⟩ (.int .i64 z)) base (.slice (some ⟨g, 0, none⟩) l.length cap) (l.set i (l[i].1, y, z)) := by
  have h3 := ((h.stored (i * 3 + 1) (.int .i64 y)).1.stored (i * 3 + 2) (.int .i64 z)).1
  have e : (dV l).set (i * 3) (.string l[i].1) = dV l := by
    apply List.ext_getElem?
    intro j
    rw [List.getElem?_set]
    split
    · rename_i hj
      subst hj
      rw [dV_len, if_pos (by omega), (dV_get l i hi).1]
    · rfl
  unfold OwnD
  rw [← dV_set l i (l[i].1, y, z) hi, List.length_set, e]
  exact h3
end Go.Proofs.Ytfmedinhlmiaeaa
/- What Get, Covers and Add say of a past to which a dependency is added, and of a part of a past: plain mathematics. -/
namespace Go.Proofs.Ytfmedinhlmiaeaa
open Go.RowKit
set_option linter.unusedVariables false

theorem gtD_mem {l : List De} (h : Srt l) {d : De} (hd : d ∈ l) : gtD l d.1 = d.2 := by
  rcases kidx_cases l d.1 with ⟨h1, _⟩ | ⟨i, hi, _, h2, h3⟩
  · exact absurd rfl (kidx_no h1 d hd)
  · rw [h3, srt_key h (List.getElem_mem hi) hd h2]
theorem gtD_no {l : List De} {key : ByteArray} (h : ∀ y ∈ l, y.1 ≠ key) : gtD l key = (0, 0) := gtD_none (fun j hj => h _ (List.getElem_mem hj))
theorem addR_mem {d : De} (hd : okD d = true) {r : List De} (h : Srt r) (m : De) : m ∈ addR r d ↔ ((m ∈ r ∧ m.1 ≠ d.1) ∨ (m.1 = d.1 ∧ ((m = d ∧ ∀ x ∈ r, x.1 = d.1 → Sm.less x.2 d.2 = true) ∨ (m ∈ r ∧ Sm.less m.2 d.2 = false)))) := by
  rw [show addR r d = addGo d false r by simp [addR, hd]]
  exact (addGo_spec hd h).2.2 m
theorem gtD_add {d : De} (hd : okD d = true) {r : List De} (h : Srt r) : gtD (addR r d) d.1 = if Sm.less (gtD r d.1) d.2 = true then d.2 else gtD r d.1 := by
  have hq := addR_srt h d
  by_cases hx : ∃ x ∈ r, x.1 = d.1
  · obtain ⟨x, hx, e⟩ := hx
    have hg : gtD r d.1 = x.2 := by rw [← e]; exact gtD_mem h hx
    rw [hg]
    cases hl : Sm.less x.2 d.2 with
    | true =>
      rw [if_pos rfl]
      refine gtD_mem hq ((addR_mem hd h d).2 (.inr ⟨rfl, .inl ⟨rfl, fun y hy ey => ?_⟩⟩))
      rw [srt_key h hy hx (ey.trans e.symm)]
      exact hl
    | false =>
      rw [if_neg (by simp), ← e]
      exact gtD_mem hq ((addR_mem hd h x).2 (.inr ⟨e, .inr ⟨hx, hl⟩⟩))
  · have hn : ∀ y ∈ r, y.1 ≠ d.1 := fun y hy e => hx ⟨y, hy, e⟩
    rw [gtD_no hn]
    have hp := okD_pos hd
    rw [if_pos (by rw [Sm.less_iff]; left; simp; omega)]
    exact gtD_mem hq ((addR_mem hd h d).2 (.inr ⟨rfl, .inl ⟨rfl, fun y hy ey => absurd ey (hn y hy)⟩⟩))
theorem gtD_add_other {d : De} (hd : okD d = true) {r : List De} (h : Srt r) {o : ByteArray} (ho : o ≠ d.1) : gtD (addR r d) o = gtD r o := by
  have hq := addR_srt h d
  by_cases hx : ∃ x ∈ r, x.1 = o
  · obtain ⟨x, hx, rfl⟩ := hx
    rw [gtD_mem h hx]
    exact gtD_mem hq ((addR_mem hd h x).2 (.inl ⟨hx, ho⟩))
  · have hn : ∀ y ∈ r, y.1 ≠ o := fun y hy e => hx ⟨y, hy, e⟩
    rw [gtD_no hn]
    refine gtD_no (fun y hy e => ?_)
    rcases (addR_mem hd h y).1 hy with ⟨h1, _⟩ | ⟨h1, _⟩
    · exact hn y h1 e
    · exact ho (e.symm.trans h1)
theorem add_covers {d : De} (hd : okD d = true) {r : List De} (h : Srt r) : (!(r.any fun x => Sm.less (gtD (addR r d) x.1) x.2)) = true := by
  rw [Bool.not_eq_true', List.any_eq_false]
  intro x hx
  by_cases e : x.1 = d.1
  · have h1 := gtD_add hd h
    rw [← e, gtD_mem h hx] at h1
    rw [h1]
    split
    · rename_i hl
      rw [Sm.less_iff] at hl
      simp only [Bool.not_eq_true, Sm.less_false]
      omega
    · simp [Sm.less_self]
  · rw [gtD_add_other hd h e, gtD_mem h hx]
    simp [Sm.less_self]
theorem addR_again {d : De} (hd : okD d = true) {r : List De} (h : Srt r) : addR (addR r d) d = addR r d := by
  have hq := addR_srt h d
  have hk : ∀ x ∈ addR r d, x.1 = d.1 → Sm.less x.2 d.2 = false := by
    intro x hx e
    have h1 := gtD_add hd h
    rw [← e, gtD_mem hq hx] at h1
    rw [h1]
    split
    · exact Sm.less_self _
    · rename_i hl; simpa using hl
  have he : ∃ x ∈ addR r d, x.1 = d.1 := by
    by_cases hx : ∃ x ∈ r, x.1 = d.1 ∧ Sm.less x.2 d.2 = false
    · obtain ⟨x, hx, e, hl⟩ := hx
      exact ⟨x, (addR_mem hd h x).2 (.inr ⟨e, .inr ⟨hx, hl⟩⟩), e⟩
    · refine ⟨d, (addR_mem hd h d).2 (.inr ⟨rfl, .inl ⟨rfl, fun x hx' e => ?_⟩⟩), rfl⟩
      cases hl : Sm.less x.2 d.2 with
      | true => rfl
      | false => exact absurd ⟨x, hx', e, hl⟩ hx
  obtain ⟨x0, hx0, e0⟩ := he
  refine srt_ext (addR_srt hq d) hq (fun m => ?_)
  rw [addR_mem hd hq m]
  constructor
  · rintro (⟨h1, _⟩ | ⟨_, ⟨rfl, h2⟩ | ⟨h1, _⟩⟩)
    · exact h1
    · have := h2 x0 hx0 e0
      rw [hk x0 hx0 e0] at this
      cases this
    · exact h1
  · intro h1
    by_cases e : m.1 = d.1
    · exact .inr ⟨e, .inr ⟨h1, hk m h1 e⟩⟩
    · exact .inl ⟨h1, e⟩
theorem chkD_one (d : De) : chkD [d] = okD d := by
  have h1 : Srt [d] ↔ okD d = true := by simp [Srt]
  unfold chkD
  cases h : okD d with
  | true => simp [h1, h]
  | false => simp [h1, h]
/-- What the law wants. -/
theorem want_eq {h0 h1 n s : Int} : (if Sm.less (h0, h1) (n, s) = true then (n, s) else (h0, h1)) = if (h0 < n ∨ (h0 = n ∧ h1 < s)) then (n, s) else (h0, h1) := by
  simp [Sm.less]

/-! A part of a past. -/
theorem part_get {l : List De} (h : Srt l) (p : De → Bool) {d : De} (hd : d ∈ l) : gtD (l.filter p) d.1 = if p d = true then d.2 else (0, 0) := by
  have hs : Srt (l.filter p) := h.sub List.filter_sublist
  by_cases hp : p d = true
  · rw [if_pos hp]
    exact gtD_mem hs (List.mem_filter.2 ⟨hd, hp⟩)
  · rw [if_neg hp]
    refine gtD_no (fun y hy e => ?_)
    obtain ⟨h1, h2⟩ := List.mem_filter.1 hy
    rw [srt_key h h1 hd e] at h2
    exact hp h2
theorem part_covers {l : List De} (h : Srt l) (p : De → Bool) : (!((l.filter p).any fun x => Sm.less (gtD l x.1) x.2)) = true := by
  rw [Bool.not_eq_true', List.any_eq_false]
  intro x hx
  rw [gtD_mem h (List.mem_filter.1 hx).1]
  simp [Sm.less_self]
end Go.Proofs.Ytfmedinhlmiaeaa
/- What the law's own 'made' answers. -/
namespace Go.Proofs.Ytfmedinhlmiaeaa
open Go.RowKit
set_option linter.unusedVariables false
set_option linter.unusedSimpArgs false

def k20 (k : ByteArray) : ByteArray := if 20 < k.size then k.extract 0 20 else k
theorem k20_size (k : ByteArray) : (k20 k).size ≤ 20 := by
  unfold k20
  split
  · rw [ByteArray.size_extract]; omega
  · omega
def cutD (d : De) : De := (k20 d.1, d.2)
/-- The past that 'made' makes. -/
def mdD (l : List De) : List De := addAll [] ((l.take 12).map cutD)
theorem mdD_srt (l : List De) : Srt (mdD l) := (IsMerge.nil.all ((l.take 12).map cutD)).srt
theorem mdD_len (l : List De) : (mdD l).length ≤ 12 := by
  have h1 := addAll_len ((l.take 12).map cutD) []
  rw [List.length_map, List.length_take, List.length_nil] at h1
  unfold mdD
  omega
theorem mdK_step (l : List De) (k : Nat) (h : k < l.length) : addAll [] ((l.take (k + 1)).map cutD) = addR (addAll [] ((l.take k).map cutD)) (cutD l[k]) := by
  rw [List.take_succ_eq_append_getElem h, List.map_append, List.map_singleton, addAll_snoc]
theorem mdK_all (l : List De) (k : Nat) (hk : k ≤ l.length) (h12 : k ≤ 12) (hx : ¬ (k < l.length ∧ k < 12)) : addAll [] ((l.take k).map cutD) = mdD l := by
  unfold mdD
  by_cases e : k = 12
  · rw [e]
  · rw [List.take_of_length_le (by omega), List.take_of_length_le (by omega)]

end Go.Proofs.Ytfmedinhlmiaeaa
