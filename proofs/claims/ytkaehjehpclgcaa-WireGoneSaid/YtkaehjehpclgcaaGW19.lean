/- Texts of this proof, one behind the other: WireFew, WireRefBytes, WireLaw. -/
import Derived.Test.YtkaehjehpclgcaaGW18
import Derived.Deep.RegionHeld3
/- What the law's own 'few' answers. -/
namespace Go.Proofs.Ytkaehjehpclgcaa
open Go.RowKit
set_option linter.unusedVariables false
set_option linter.unusedSimpArgs false

def kcutw (n : Nat) (k : ByteArray) : ByteArray := if n < k.size then k.extract 0 n else k
theorem kcutw_size (n : Nat) (k : ByteArray) : (kcutw n k).size ≤ n := by
  unfold kcutw
  split
  · simp
    omega
  · omega
def cutw (d : De) : De := (kcutw 12 d.1, d.2)
def addW (r : List De) (l : List De) : List De := l.foldl addR r
def fewP (l : List De) : List De := addW [] ((l.take 8).map cutw)
def fewW (v : Wv) : Wv := ⟨kcutw 40 v.key, kcutw 40 v.val, v.gone, v.st, fewP v.past⟩
theorem addW_snoc (r l : List De) (d : De) : addW r (l ++ [d]) = addR (addW r l) d := by simp [addW]
theorem addW_len (l : List De) : ∀ r, (addW r l).length ≤ r.length + l.length := by
  induction l with
  | nil => intro r; simp [addW]
  | cons d l ih =>
    intro r
    have h1 := ih (addR r d)
    have h2 : (addR r d).length ≤ r.length + 1 := by
      unfold addR
      split
      · exact (addGo_len d r false).1
      · omega
    show (addW (addR r d) l).length ≤ _
    simp
    omega
theorem addGo_mem (d : De) : ∀ (l : List De) (put : Bool) (x : De), x ∈ addGo d put l → x = d ∨ x ∈ l
  | [], put, x, h => by
    cases put with
    | true => simp [addGo] at h
    | false => simp [addGo] at h; exact .inl h
  | y :: r, put, x, h => by
    rw [addGo] at h
    by_cases c : y.1 = d.1
    · rw [if_pos c] at h
      rcases List.mem_cons.1 h with h | h
      · by_cases c2 : Sm.less y.2 d.2 = true
        · rw [if_pos c2] at h; exact .inl h
        · rw [if_neg c2] at h; exact .inr (by simp [h])
      · rcases addGo_mem d r true x h with h | h
        · exact .inl h
        · exact .inr (by simp [h])
    · rw [if_neg c] at h
      by_cases c2 : (!put && klt d.1 y.1) = true
      · rw [if_pos c2] at h
        rcases List.mem_cons.1 h with h | h
        · exact .inl h
        · rcases List.mem_cons.1 h with h | h
          · exact .inr (by simp [h])
          · rcases addGo_mem d r true x h with h | h
            · exact .inl h
            · exact .inr (by simp [h])
      · rw [if_neg c2] at h
        rcases List.mem_cons.1 h with h | h
        · exact .inr (by simp [h])
        · rcases addGo_mem d r put x h with h | h
          · exact .inl h
          · exact .inr (by simp [h])
theorem addW_ok : ∀ (l r : List De), (∀ d ∈ r, okD d = true) → ∀ d ∈ addW r l, okD d = true
  | [], r, h => by simpa [addW] using h
  | x :: l, r, h => by
    show ∀ d ∈ addW (addR r x) l, okD d = true
    refine addW_ok l _ (fun d hd => ?_)
    unfold addR at hd
    by_cases c : okD x = true
    · rw [if_pos c] at hd
      rcases addGo_mem x r false d hd with e | e
      · rw [e]; exact c
      · exact h d e
    · rw [if_neg c] at hd
      exact h d hd
theorem fewP_ok (l : List De) : ∀ d ∈ fewP l, okD d = true := addW_ok _ _ (by simp)
theorem fewP_len (l : List De) : (fewP l).length ≤ 8 := by
  have := addW_len ((l.take 8).map cutw) []
  unfold fewP
  simp at this ⊢
  omega
theorem fewW_facts (v : Wv) : (fewW v).key.size ≤ 40 ∧ (fewW v).val.size ≤ 40 ∧ (fewW v).past.length ≤ 8 ∧ ∀ d ∈ (fewW v).past, d.1.size ≤ 32 :=
  ⟨kcutw_size _ _, kcutw_size _ _, fewP_len _, fun d hd => okD_size (fewP_ok _ d hd)⟩
theorem few_step (l : List De) (k : Nat) (h : k < l.length) : addW [] ((l.take (k + 1)).map cutw) = addR (addW [] ((l.take k).map cutw)) (cutw l[k]) := by
  rw [List.take_succ_eq_append_getElem h, List.map_append, List.map_singleton, addW_snoc]
theorem few_all (l : List De) (k : Nat) (hk : k ≤ l.length) (hh : k ≤ 8) (hx : ¬ (k < l.length ∧ k < 8)) : addW [] ((l.take k).map cutw) = fewP l := by
  unfold fewP
  by_cases e : k = 8
  · rw [e]
  · rw [List.take_of_length_le (by omega), List.take_of_length_le (by omega)]
/-- What stands in the two blocks. -/
structure FewS (w W : World) (v : Wv) (u : Value) : Prop where
  a : VwP W w.heap.size v u
  b : VwP W (w.heap.size + 1) wz (.slice none 0 0)
  m : Below w.heap.size w W
theorem FewS.put0 {w W : World} {v : Wv} {u : Value} (h : FewS w W v u) (x : ByteArray) : FewS w (W.setCell ⟨w.heap.size, 0, none⟩ (.string x)) ⟨x, v.val, v.gone, v.st, v.past⟩ u := ⟨h.a.put0 x, h.b.other (by omega) _, h.m.setCell (Nat.le_refl _) _⟩
theorem FewS.put1 {w W : World} {v : Wv} {u : Value} (h : FewS w W v u) (x : ByteArray) : FewS w (W.setCell ⟨w.heap.size, 1, none⟩ (.string x)) ⟨v.key, x, v.gone, v.st, v.past⟩ u := ⟨h.a.put1 x, h.b.other (by omega) _, h.m.setCell (Nat.le_refl _) _⟩
theorem FewS.put5 {w W : World} {v : Wv} {u : Value} (h : FewS w W v u) (x : Value) (p : List De) : FewS w (W.setCell ⟨w.heap.size, 5, none⟩ x) ⟨v.key, v.val, v.gone, v.st, p⟩ x := ⟨h.a.put5 x p, h.b.other (by omega) _, h.m.setCell (Nat.le_refl _) _⟩
theorem FewS.keep {w W W' : World} {v : Wv} {u : Value} (h : FewS w W v u) (hb : Below W.heap.size W W') : FewS w W' v u := ⟨h.a.keep hb, h.b.keep hb, bstep h.m hb⟩

set_option maxRecDepth 100000 in
set_option maxHeartbeats 6400000 in
theorem wfew_any (v : Wv) (u : Value) (w : World) (hk : v.key.size ≤ 9223372036854775807) (hvl : v.val.size ≤ 9223372036854775807) (hz : Szd v.past) (hr : DepAt w u v.past) :
    Calls Try.prog 12 #[.agg (wvs v u)] w fun e w' => ∃ u', e = .returned (.agg (wvs (fewW v) u')) ∧ DepAt w' u' (fewW v).past ∧ (∀ b, u'.ownBlock = some b → w.heap.size ≤ b) ∧ Below w.heap.size w w' := by
  have hb1 : Below w.heap.size w (w.alloc (.cells (wvs v u) 26)) := balloc (Below.refl _ w) _
  have hv1 := VwP.new w v u 26
  have hz1 : (w.alloc (.cells (wvs v u) 26)).heap.size = w.heap.size + 1 := by simp
  generalize hw1 : w.alloc (.cells (wvs v u) 26) = w1 at *
  have hb2 := balloc (Below.refl _ w1) (.cells (wvs wz (.slice none 0 0)) 26)
  have hv2 := VwP.new w1 wz (.slice none 0 0) 26
  rw [hz1] at hv2
  have hS : FewS w (w1.alloc (.cells (wvs wz (.slice none 0 0)) 26)) v u := ⟨hv1.keep hb2, hv2, bstep hb1 hb2⟩
  rw [← hw1] at hS
  clear hb1 hv1 hz1 hb2 hv2 hw1 w1
  obtain ⟨a, cap, hu, hc1, hc2, hc3, hri⟩ := hr
  subst hu
  have hpl : v.past.length ≤ 9223372036854775807 := by unfold maxLen at hc2; omega
  obtain ⟨key, val, gone, ⟨n, t⟩, past⟩ := v
  dsimp only [wvs, wz] at *
  have HR := Lib.hid hri
  have HZ := Lib.hid hz
  clear hz hri hc1 hc2 hc3
  have hfw : fewW ⟨key, val, gone, (n, t), past⟩ = ⟨kcutw 40 key, kcutw 40 val, gone, (n, t), fewP past⟩ := rfl
  rw [hfw]
  clear hfw
  generalize hK : kcutw 40 key = K
  generalize hX : kcutw 40 val = X
  have HK := Lib.hid hK
  have HX := Lib.hid hX
  generalize hF : fewP past = fp
  have HF := Lib.hid hF
  clear hK hX hF
  go_enter Try.func12, Try.ntmps12
  go_upto_if 9 with (fail)
  generalize (w.alloc (.cells #[.string key, .string val, .bool gone, .int .i64 n, .int .i64 t, .slice a past.length cap] 26)).alloc (.cells #[.string ⟨#[]⟩, .string ⟨#[]⟩, .bool false, .int .i64 0, .int .i64 0, .slice none 0 0] 26) = w2 at *
  have HS := Lib.hid hS
  obtain ⟨a0, a1, a2, a3, a4, a5, hf⟩ := hS.a
  have f0 := hf 0 (by decide)
  dsimp only at a0 a1 a2 a3 a4
  clear hS hf
  go_cut [1] (fun s1 wx => s1 = .pointer (some ⟨w.heap.size, 0, none⟩) ∧ FewS w wx ⟨K, val, gone, (n, t), past⟩ (.slice a past.length cap))
  case first =>
    by_cases h40 : 40 < key.size
    · have h40i : (40 : Int) < (key.size : Int) := by omega
      have HKK : Hid (K = key.extract 0 40) := Lib.hid (by rw [← HK.out, kcutw, if_pos h40])
      go_wp2
      go_meet
      exact ⟨rfl, by rw [HKK.out]; exact HS.out.put0 _⟩
    · have h40i : ¬ (40 : Int) < (key.size : Int) := by omega
      have HKK : Hid (K = key) := Lib.hid (by rw [← HK.out, kcutw, if_neg h40])
      go_wp2
      go_meet
      exact ⟨rfl, by rw [HKK.out]; exact HS.out⟩
  case rest =>
    obtain ⟨rfl, hS1⟩ := hcut
    clear HS HK a0 a1 a2 a3 a4 a5 f0 w2
    have HS := Lib.hid hS1
    obtain ⟨a0, a1, a2, a3, a4, a5, hf⟩ := hS1.a
    have f1 := hf 1 (by decide)
    dsimp only at a0 a1 a2 a3 a4
    clear hS1 hf
    go_upto_if 17 with (fail)
    go_cut [1] (fun s1 wx => s1 = .pointer (some ⟨w.heap.size, 0, none⟩) ∧ FewS w wx ⟨K, X, gone, (n, t), past⟩ (.slice a past.length cap))
    case first =>
      by_cases h40 : 40 < val.size
      · have h40i : (40 : Int) < (val.size : Int) := by omega
        have HKK : Hid (X = val.extract 0 40) := Lib.hid (by rw [← HX.out, kcutw, if_pos h40])
        go_wp2
        go_meet
        exact ⟨rfl, by rw [HKK.out]; exact HS.out.put1 _⟩
      · have h40i : ¬ (40 : Int) < (val.size : Int) := by omega
        have HKK : Hid (X = val) := Lib.hid (by rw [← HX.out, kcutw, if_neg h40])
        go_wp2
        go_meet
        exact ⟨rfl, by rw [HKK.out]; exact HS.out⟩
    case rest =>
      obtain ⟨rfl, hS1⟩ := hcut
      clear HS HX a0 a1 a2 a3 a4 a5 f1
      have HS := Lib.hid hS1
      have hsz2 : w.heap.size + 1 < wc.heap.size := hS1.b.lt
      have ha5 := hS1.a.c5
      have hw0 := hS1.m.size
      clear hS1
      have HSZ := Lib.hid hsz2
      have HA5 := Lib.hid ha5
      clear hsz2 ha5
      go_wp2
      go_loopw [3, 4] (fun o i wr => ∃ k : Nat, k ≤ past.length ∧ k ≤ 8 ∧ i = .int .i64 k ∧ DepAt wr o (addW [] ((past.take k).map cutw)) ∧ (∀ b, o.ownBlock = some b → wc.heap.size ≤ b) ∧ Below wc.heap.size wc wr) (fun _ i _ => 8 - (intOf i).toNat)
      case atStart => exact ⟨0, by omega, by omega, rfl, DepAt.nil _, (fun b h => by simp [Value.ownBlock] at h), Below.refl _ _⟩
      case round =>
        obtain ⟨k, hk1, hk8, rfl, hd, hnw, hbel⟩ := hrel
        have HNW := Lib.hid hnw
        have hbsz := hbel.size
        obtain ⟨da, dc, rfl, _, _, _, _⟩ := id hd
        have HD := Lib.hid hd
        have a5 := kc hbel HA5.out
        clear hd hnw
        by_cases hlt : k < past.length ∧ k < 8
        · obtain ⟨h1, h2⟩ := hlt
          obtain ⟨b, off, rfl, hbl, c0, c1, c2⟩ := (HR.out.below HS.out.m).below hbel k h1
          have HSTEP := Lib.hid (few_step past k h1)
          have hdz := HZ.out past[k] (List.getElem_mem h1)
          have hal := addW_len ((past.take k).map cutw) []
          have htl : ((past.take k).map cutw).length ≤ 8 := by simp; omega
          generalize past[k] = d at c0 c1 c2 HSTEP hdz
          obtain ⟨x, y, z⟩ := d
          dsimp only at c0 c1 c2 hdz
          generalize hqq : addW [] ((past.take k).map cutw) = q at HD HSTEP hal HNW
          clear hqq
          have hql : q.length ≤ 8 := by simp at hal; omega
          have h1i : (k : Int) < (past.length : Int) := by omega
          have h2i : (k : Int) < 8 := by omega
          have hb1 : Below wr.heap.size wr (wr.alloc (.cells #[.string x, .int .i64 y, .int .i64 z] 58)) := balloc (Below.refl _ _) _
          by_cases H2 : 12 < x.size
          · have H2i : (12 : Int) < (x.size : Int) := by omega
            have hks : (x.extract 0 12).size ≤ 12 := by have := kcutw_size 12 x; rw [kcutw, if_pos H2] at this; exact this
            have HC : Hid (cutw (x, y, z) = (x.extract 0 12, y, z)) := Lib.hid (by simp [cutw, kcutw, H2])
            have hb3 : Below wr.heap.size wr (wr.alloc (.cells #[.string (x.extract 0 12), .int .i64 y, .int .i64 z] 58)) := balloc (Below.refl _ _) _
            go_wp2_with fail
            refine (refAddP_new _ q (x.extract 0 12) y z _ (by omega) (by omega) (HD.out.below hb3)).mono ?_
            rintro e w3 ⟨v2, rfl, hd2, hn2, hb4⟩
            obtain ⟨va, vc, rfl, _, _, _, _⟩ := id hd2
            have HD2 := Lib.hid hd2
            have hn3 : ∀ b', (Value.slice va (addR q (x.extract 0 12, y, z)).length vc).ownBlock = some b' → wc.heap.size ≤ b' := by
              intro b' e
              rcases hn2 with h | h
              · rw [h] at e; exact HNW.out b' e
              · have := h b' e; have := hb3.size; omega
            have HN3 := Lib.hid hn3
            clear hd2 hn2 hn3
            go_wp2
            go_roundw
            case rel => exact ⟨k + 1, by omega, by omega, by go_num, by rw [HSTEP.out, HC.out]; exact HD2.out, HN3.out, bstep hbel (bstep hb3 hb4)⟩
            case measure => simp [intOf]; omega
          · have H2i : ¬ (12 : Int) < (x.size : Int) := by omega
            have HC : Hid (cutw (x, y, z) = (x, y, z)) := Lib.hid (by simp [cutw, kcutw, H2])
            go_wp2_with fail
            refine (refAddP_new _ q x y z _ (by omega) hdz (HD.out.below hb1)).mono ?_
            rintro e w3 ⟨v2, rfl, hd2, hn2, hb4⟩
            obtain ⟨va, vc, rfl, _, _, _, _⟩ := id hd2
            have HD2 := Lib.hid hd2
            have hn3 : ∀ b', (Value.slice va (addR q (x, y, z)).length vc).ownBlock = some b' → wc.heap.size ≤ b' := by
              intro b' e
              rcases hn2 with h | h
              · rw [h] at e; exact HNW.out b' e
              · have := h b' e; have := hb1.size; omega
            have HN3 := Lib.hid hn3
            clear hd2 hn2 hn3
            go_wp2
            go_roundw
            case rel => exact ⟨k + 1, by omega, by omega, by go_num, by rw [HSTEP.out, HC.out]; exact HD2.out, HN3.out, bstep hbel (bstep hb1 hb4)⟩
            case measure => simp [intOf]; omega
        · have hx := few_all past k hk1 hk8 hlt
          rw [HF.out] at hx
          rw [hx] at HD HNW
          rw [hx]
          clear hx
          have hSr := HS.out.keep hbel
          have HSR := Lib.hid hSr
          obtain ⟨a0, a1, a2, a3, a4, _, hfa⟩ := hSr.a
          obtain ⟨b0, b1, b2, b3, b4, b5, hfb⟩ := hSr.b
          have f5 := hfa 5 (by decide)
          have q0 := hfb 0 (by decide)
          have q1 := hfb 1 (by decide)
          have q2 := hfb 2 (by decide)
          have q3 := hfb 3 (by decide)
          have q4 := hfb 4 (by decide)
          have q5 := hfb 5 (by decide)
          dsimp only [wz] at a0 a1 a2 a3 a4 b0 b1 b2 b3 b4
          have hlen : Hid (DepAt wr (.slice da fp.length dc) fp) := HD
          clear hfa hfb hSr
          rcases (show (decide (k < past.length) = false) ∨ (decide (k < past.length) = true ∧ decide ((k : Int) < 8) = false) by simp; omega) with hd1 | ⟨hd1, hd2⟩
          all_goals
            go_wp2
            have hS5 := HSR.out.put5 (.slice da fp.length dc) fp
            have hp := hS5.b.putw ⟨K, X, gone, (n, t), fp⟩ (.slice da fp.length dc)
            obtain ⟨r0, r1, r2, r3, r4, r5, _⟩ := hp
            dsimp only [World.putw] at r0 r1 r2 r3 r4 r5
            refine bodyPost_ret (v := .agg (wvs ⟨K, X, gone, (n, t), fp⟩ (.slice da fp.length dc))) (by simp [results, Try.results12, go_sem, wvs, r0, r1, r2, r3, r4, r5]) rfl ⟨_, rfl, ?_, ?_, ?_⟩
            · have hne1 : ∀ b', (Value.slice da fp.length dc).ownBlock = some b' → b' ≠ w.heap.size ∧ b' ≠ w.heap.size + 1 := fun b' e => by have := HNW.out b' e; have := HSZ.out; omega
              refine DepAt.blocks (w' := World.putw (wr.setCell ⟨w.heap.size, 5, none⟩ (.slice da fp.length dc)) (w.heap.size + 1) ⟨K, X, gone, (n, t), fp⟩ (.slice da fp.length dc)) HD.out (by simp [World.putw]) (fun b' e => ?_)
              rw [putw_block _ _ _ _ _ (hne1 b' e).2]
              exact Below.heap_setCell _ _ _ _ (hne1 b' e).1
            · intro b' e
              have := HNW.out b' e
              omega
            · exact below_putw hS5.m (show w.heap.size ≤ w.heap.size + 1 by omega) ⟨K, X, gone, (n, t), fp⟩ (.slice da fp.length dc)
end Go.Proofs.Ytkaehjehpclgcaa
/- What the document's Bytes answers of a version. -/
namespace Go.Proofs.Ytkaehjehpclgcaa
open Go.RowKit
set_option linter.unusedVariables false
set_option linter.unusedSimpArgs false

set_option maxRecDepth 100000 in
set_option maxHeartbeats 400000 in
theorem refWBytes_any (v : Wv) (u : Value) (w : World) (hv : WvOk w v u) :
    Calls Try.prog 16 #[.agg (wvs v u)] w fun e w' => e = .returned (.string ⟨(wbV v).toArray⟩) ∧ Below w.heap.size w w' := by
  have hb0 : Below w.heap.size w (w.alloc (.cells (wvs v u) 26)) := balloc (Below.refl _ w) _
  have hV := VwP.new w v u 26
  have hO := hv.below hb0
  have hc := refWCheck_any v u _ hO
  have HVV := Lib.hid hv
  obtain ⟨a, cp, hu, _⟩ := hv.at_
  subst hu
  have HPA := fun W (hW : Below w.heap.size w W) => (HVV.out.below hW).at_
  clear hO hv
  cases hk : okW v with
  | false =>
    rw [wbV_no hk]
    rw [hk] at hc
    clear hk
    obtain ⟨c0, c1, c2, c3, c4, c5, _⟩ := hV
    go_enter Try.func16, Try.ntmps16
    go_wp2_with fail
    refine hc.mono ?_
    rintro e w1 ⟨rfl, hb1⟩
    go_wp2
    go_ret
    exact ⟨rfl, bstep hb0 hb1⟩
  | true =>
    rw [hk] at hc
    obtain ⟨T1, G, T2, U, P, hBW⟩ := bytesW hk
    rw [hBW.eq]
    have hz := HVV.out
    have ht1 := fun W => refText v.key W (by have := hz.key; omega)
    have ht3 := fun W => refText v.val W (by have := hz.val; omega)
    have hst := fun W => refBytes_any v.st.1 v.st.2 W
    have hpb := fun W (hW : Below w.heap.size w W) => refPBytes_any _ v.past W hz.len hz.szd (HPA W hW)
    have hnm := fun W  => refNumber (gN v.gone) W (by cases v.gone <;> simp [gN])
    rw [← hBW.t1] at ht1
    rw [← hBW.t2] at hnm
    rw [← hBW.t3] at ht3
    rw [← hBW.t4] at hst
    rw [← hBW.t5] at hpb
    have n1 : ¬ 9223372036854775807 < T1.size + G.size := by have := hBW.s1; have := hBW.s2; omega
    have n2 : ¬ 9223372036854775807 < T1.size + G.size + T2.size := by have := hBW.s1; have := hBW.s2; have := hBW.s3; omega
    have n3 : ¬ 9223372036854775807 < T1.size + G.size + T2.size + U.size := by have := hBW.s1; have := hBW.s2; have := hBW.s3; have := hBW.s4; omega
    have n4 : ¬ 9223372036854775807 < T1.size + G.size + T2.size + U.size + P.size := by have := hBW.s1; have := hBW.s2; have := hBW.s3; have := hBW.s4; have := hBW.s5; omega
    clear hBW hz HVV HPA hk
    obtain ⟨key, val, gone, ⟨n, t⟩, past⟩ := v
    dsimp only [wvs] at *
    go_enter Try.func16, Try.ntmps16
    go_wp2_with fail
    refine hc.mono ?_
    rintro e w1 ⟨rfl, hb1⟩
    obtain ⟨c0, c1, c2, c3, c4, c5, _⟩ := hV.keep hb1
    dsimp only at c0 c1 c2 c3 c4
    have b0 := bstep hb0 hb1
    clear hb0 hb1 hV hc
    have g0 : w1.cell? ⟨w.heap.size, 0, none⟩ = some (.string key) ∧ w1.cell? ⟨w.heap.size, 1, none⟩ = some (.string val) ∧ w1.cell? ⟨w.heap.size, 3, none⟩ = some (.int .i64 n) ∧ w1.cell? ⟨w.heap.size, 4, none⟩ = some (.int .i64 t) ∧ w1.cell? ⟨w.heap.size, 5, none⟩ = some (.slice a past.length cp) := ⟨c0, c1, c3, c4, c5⟩
    clear c0 c1 c3 c4 c5
    cases gone with
    | false =>
      simp only [gN, Bool.false_eq_true, if_false] at hnm
      go_wp2_with fail
      go_region_held3 (fun w' => w'.cell? ⟨w.heap.size, 0, none⟩ = some (.string key) ∧ w'.cell? ⟨w.heap.size, 1, none⟩ = some (.string val) ∧ w'.cell? ⟨w.heap.size, 3, none⟩ = some (.int .i64 n) ∧ w'.cell? ⟨w.heap.size, 4, none⟩ = some (.int .i64 t) ∧ w'.cell? ⟨w.heap.size, 5, none⟩ = some (.slice a past.length cp))
        (first | exact g0 | exact g1 | exact g2 | exact g3 | exact g4 | exact g5)
        (first
          | (go_at_call_of 38 (key); ((refine (ht1 _).mono ?_); rintro e wa ⟨rfl, ha⟩; have g1 := keepV5 ha g0; have b1 := bstep b0.drew ha))
          | (go_at_call 39; ((refine (hnm _).mono ?_); rintro e wb ⟨rfl, hb⟩; have g2 := keepV5 hb g1; have b2 := bstep b1 hb))
          | (go_at_call_of 38 (val); ((refine (ht3 _).mono ?_); rintro e wc ⟨rfl, hc⟩; have g3 := keepV5 hc g2; have b3 := bstep b2 hc))
          | (go_at_call 40; ((refine (hst _).mono ?_); rintro e wd ⟨rfl, hd⟩; have g4 := keepV5 hd g3; have b4 := bstep b3 hd))
          | (go_at_call 41; ((refine (hpb _ b4).mono ?_); rintro e we ⟨rfl, he⟩; have g5 := keepV5 he g4; have b5 := bstep b4 he)))
      clear g0 g1 g2 g3 g4 g5
      go_wp2
      go_ret
      exact ⟨ret_str (add5 _ _ _ _ _), b5⟩
    | true =>
      simp only [gN, if_true] at hnm
      go_wp2_with fail
      go_region_held3 (fun w' => w'.cell? ⟨w.heap.size, 0, none⟩ = some (.string key) ∧ w'.cell? ⟨w.heap.size, 1, none⟩ = some (.string val) ∧ w'.cell? ⟨w.heap.size, 3, none⟩ = some (.int .i64 n) ∧ w'.cell? ⟨w.heap.size, 4, none⟩ = some (.int .i64 t) ∧ w'.cell? ⟨w.heap.size, 5, none⟩ = some (.slice a past.length cp))
        (first | exact g0 | exact g1 | exact g2 | exact g3 | exact g4 | exact g5)
        (first
          | (go_at_call_of 38 (key); ((refine (ht1 _).mono ?_); rintro e wa ⟨rfl, ha⟩; have g1 := keepV5 ha g0; have b1 := bstep b0.drew ha))
          | (go_at_call 39; ((refine (hnm _).mono ?_); rintro e wb ⟨rfl, hb⟩; have g2 := keepV5 hb g1; have b2 := bstep b1 hb))
          | (go_at_call_of 38 (val); ((refine (ht3 _).mono ?_); rintro e wc ⟨rfl, hc⟩; have g3 := keepV5 hc g2; have b3 := bstep b2 hc))
          | (go_at_call 40; ((refine (hst _).mono ?_); rintro e wd ⟨rfl, hd⟩; have g4 := keepV5 hd g3; have b4 := bstep b3 hd))
          | (go_at_call 41; ((refine (hpb _ b4).mono ?_); rintro e we ⟨rfl, he⟩; have g5 := keepV5 he g4; have b5 := bstep b4 he)))
      clear g0 g1 g2 g3 g4 g5
      go_wp2
      go_ret
      exact ⟨ret_str (add5 _ _ _ _ _), b5⟩

end Go.Proofs.Ytkaehjehpclgcaa
/- What the laws of versions share. -/
namespace Go.Proofs.Ytkaehjehpclgcaa
open Go.RowKit
set_option linter.unusedVariables false
set_option linter.unusedSimpArgs false

/-- The six cells of a version. -/
def Cells6 (W : World) (b : Nat) (v : Wv) (u : Value) : Prop :=
  W.cell? ⟨b, 0, none⟩ = some (.string v.key) ∧ W.cell? ⟨b, 1, none⟩ = some (.string v.val) ∧ W.cell? ⟨b, 2, none⟩ = some (.bool v.gone) ∧ W.cell? ⟨b, 3, none⟩ = some (.int .i64 v.st.1) ∧ W.cell? ⟨b, 4, none⟩ = some (.int .i64 v.st.2) ∧ W.cell? ⟨b, 5, none⟩ = some u
theorem VwP.six {w : World} {b : Nat} {v : Wv} {u : Value} (h : VwP w b v u) : Cells6 w b v u := ⟨h.c0, h.c1, h.c2, h.c3, h.c4, h.c5⟩
theorem Cells6.keep {w w' : World} {b : Nat} {v : Wv} {u : Value} (h : Cells6 w b v u) (hb : Below w.heap.size w w') : Cells6 w' b v u :=
  ⟨kc hb h.1, kc hb h.2.1, kc hb h.2.2.1, kc hb h.2.2.2.1, kc hb h.2.2.2.2.1, kc hb h.2.2.2.2.2⟩
theorem fewW_ok {w : World} {v : Wv} {u : Value} (h : DepAt w u (fewW v).past) : WvOk w (fewW v) u := by
  obtain ⟨h1, h2, h3, h4⟩ := fewW_facts v
  exact ⟨by omega, by omega, by omega, fun d hd => by have := h4 d hd; omega, h⟩
/-- What is asked of a version that comes in. -/
structure WvIn (w : World) (v : Wv) (u : Value) : Prop where
  key : v.key.size ≤ 9223372036854775807
  val : v.val.size ≤ 9223372036854775807
  szd : Szd v.past
  at_ : DepAt w u v.past
theorem WvIn.below {w w' : World} {v : Wv} {u : Value} (h : WvIn w v u) (hb : Below w.heap.size w w') : WvIn w' v u := ⟨h.key, h.val, h.szd, h.at_.below hb⟩
/-- A store of a version into a block of its own leaves a past that lies elsewhere. -/
theorem DepAt.putw {w : World} {b : Nat} {x : Wv} {z u : Value} {l : List De} (h : DepAt w u l) (hne : ∀ g, u.ownBlock = some g → g ≠ b) : DepAt (World.putw w b x z) u l :=
  h.blocks (by simp [World.putw]) (fun g e => putw_block _ _ _ _ _ (hne g e))
theorem VwP.otherw {w : World} {b b' : Nat} {v x : Wv} {u z : Value} (h : VwP w b v u) (hne : b ≠ b') : VwP (World.putw w b' x z) b v u := h.block (putw_block _ _ _ _ _ hne)
theorem WvIn.putw {w : World} {n b : Nat} {x v : Wv} {z u : Value} (h : WvIn w v u) (hne : ∀ g, u.ownBlock = some g → g ≠ b) : WvIn (World.putw w b x z) v u := ⟨h.key, h.val, h.szd, h.at_.putw hne⟩
/-- Where the row of a past that comes in lies: below. -/
theorem DepAt.low {w : World} {u : Value} {l : List De} (h : DepAt w u l) (hne : l ≠ []) : ∀ g, u.ownBlock = some g → g < w.heap.size := by
  intro g e
  obtain ⟨a, cap, rfl, _, _, _, hr⟩ := h
  have h0 : 0 < l.length := List.length_pos_iff.2 hne
  obtain ⟨b, off, rfl, hl, _⟩ := hr 0 h0
  have : b = g := by simpa [Value.ownBlock] using e
  omega
theorem DepAt.putw_low {w w0 : World} {b : Nat} {x : Wv} {z u : Value} {l : List De} (h0 : DepAt w0 u l) (h : DepAt w u l) (hb : w0.heap.size ≤ b) : DepAt (World.putw w b x z) u l := by
  by_cases e : l = []
  · subst e
    obtain ⟨a, cap, rfl, h1, h2, h3, _⟩ := h
    exact ⟨a, cap, rfl, h1, h2, h3, fun i hi => absurd hi (by simp)⟩
  · exact h.putw (fun g eg => by have := h0.low e g eg; omega)
theorem WvIn.putw_low {w w0 : World} {b : Nat} {x v : Wv} {z u : Value} (h0 : WvIn w0 v u) (h : WvIn w v u) (hb : w0.heap.size ≤ b) : WvIn (World.putw w b x z) v u := ⟨h.key, h.val, h.szd, h0.at_.putw_low h.at_ hb⟩
end Go.Proofs.Ytkaehjehpclgcaa
