/- What the law's own 'made' answers. -/
import Derived.Test.YtfnfpanmbmkhmaaGN512
import Derived.StillTailTactics
namespace Go.Proofs.Ytfnfpanmbmkhmaa
open Go.RowKit Go.Maps
set_option linter.unusedVariables false
set_option linter.unusedSimpArgs false

/-- The eight keys in memory. -/
def KeyB (w : World) (b : Nat) : Prop := ∀ i, i < 8 → w.cell? ⟨b, i, none⟩ = some (.string (keyAt i))
theorem KeyB.below {w w' : World} {b : Nat} (h : KeyB w b) (hb : Below w.heap.size w w') : KeyB w' b := fun i hi => kc hb (h i hi)
theorem KeyB.lt {w : World} {b : Nat} (h : KeyB w b) : b < w.heap.size := lt_of_cellN (h 0 (by omega))
theorem KeyB.block {w w' : World} {b : Nat} (h : KeyB w b) (hb : w'.heap[b]? = w.heap[b]?) : KeyB w' b := fun i hi => by rw [World.cell?_of_block hb]; exact h i hi
theorem KeyB.new (w : World) (T : TypeId) : KeyB (w.alloc (.cells #[.string ⟨#[97]⟩, .string ⟨#[98]⟩, .string ⟨#[99]⟩, .string ⟨#[100]⟩, .string ⟨#[101]⟩, .string ⟨#[102]⟩, .string ⟨#[103]⟩, .string ⟨#[104]⟩] T)) w.heap.size := by
  intro i hi
  rw [Lib.cell_of_heap (heap_alloc_new w _)]
  match i, hi with
  | 0, _ => rfl
  | 1, _ => rfl
  | 2, _ => rfl
  | 3, _ => rfl
  | 4, _ => rfl
  | 5, _ => rfl
  | 6, _ => rfl
  | 7, _ => rfl
theorem sawP_take (out : List Ve) (saw : List Int) {j : Nat} (h : j < saw.length) : sawP out (saw.take (j + 1)) = sawOne out (sawP out (saw.take j)) saw[j] := by
  unfold sawP
  rw [List.take_succ_eq_append_getElem h, List.foldl_append]
  rfl
theorem sawOne_at {out : List Ve} {p : List De} {q : Int} (h : 0 < out.length) : ∃ hi : sawI q out.length < out.length, sawOne out p q = mergeR [p, out[sawI q out.length].past, [out[sawI q out.length].dep]] := by
  have hi := sawI_lt q h
  refine ⟨hi, ?_⟩
  unfold sawOne
  rw [List.getElem?_eq_getElem hi]
theorem saw_all (saw : List Int) {j : Nat} (hj : j ≤ saw.length) (h4 : j ≤ 4) (h : ¬ (j < saw.length ∧ j < 4)) : saw.take j = saw.take 4 := by
  by_cases e : j = 4
  · rw [e]
  · rw [List.take_of_length_le (by omega), List.take_of_length_le (by omega)]
theorem sawI_eq (q : Int) {n : Nat} (h : 0 < n) (hn : n ≤ 1000) : IntKind.i64.wrap (q.tmod (n : Int)) = q.tmod (n : Int) ∧ IntKind.i64.wrap (q.tmod (n : Int) + (n : Int)) = q.tmod (n : Int) + (n : Int) ∧ (q.tmod (n : Int) + (n : Int)).tmod (n : Int) = (sawI q n : Int) ∧ IntKind.i64.wrap (sawI q n : Int) = (sawI q n : Int) := by
  have a1 := Int.tmod_lt_of_pos q (b := (n : Int)) (by omega)
  have a2 := Int.lt_tmod_of_pos q (b := (n : Int)) (by omega)
  have b2 := Int.tmod_nonneg (n : Int) (a := q.tmod (n : Int) + (n : Int)) (by omega)
  have hlt := sawI_lt q h
  refine ⟨IntWalk.i64_in _ (by omega), IntWalk.i64_in _ (by omega), ?_, IntWalk.i64_in _ (by omega)⟩
  unfold sawI
  omega

set_option maxRecDepth 100000 in
set_option maxHeartbeats 12800000 in
theorem made5_any (a : Option Addr) (cap : Nat) (ws : List Wr) (w : World) (hl : ws.length ≤ 9223372036854775807) (hr : WrIn w a ws) :
    Calls Try.prog 10 #[.slice a ws.length cap] w fun e w' => ∃ u xs, e = .returned u ∧ xs.map Prod.fst = mkV ws ∧ VMade w' w.heap.size u xs ∧ Below w.heap.size w w' := by
  have HR := Lib.hid hr
  clear hr
  go_enter Try.func10, Try.ntmps10
  go_wp2
  go_loopw [4, 5] (fun o i wr => ∃ (k : Nat) (xs : List Vp), k ≤ ws.length ∧ k ≤ 14 ∧ i = .int .i64 k ∧ xs.map Prod.fst = (ws.take k).foldl mkS [] ∧ VMade wr (w.heap.size + 1) o xs ∧ KeyB wr w.heap.size ∧ w.heap.size + 1 ≤ wr.heap.size ∧ Below w.heap.size w wr) (fun _ i _ => 14 - (intOf i).toNat)
  case atStart => exact ⟨0, [], by omega, by omega, rfl, rfl, VMade.nil _ _, KeyB.new w _, by simp, balloc (Below.refl _ w) _⟩
  case round =>
    obtain ⟨i, xs, hk, hk14, rfl, hxs, hvm, hkb, hsz, hbel⟩ := hrel
    obtain ⟨hinv, hil⟩ := mk_inv ws hk14
    rw [← hxs] at hinv hil
    rw [List.length_map] at hil
    have HINV := Lib.hid hinv
    have HVM := Lib.hid hvm
    have HKB := Lib.hid hkb
    have HXS := Lib.hid hxs
    obtain ⟨sa, sc, rfl⟩ := hvm.own.shape
    clear hxs hvm hkb hinv
    by_cases hlt : i < ws.length ∧ i < 14
    · obtain ⟨h1, h2⟩ := hlt
      obtain ⟨b, off, wa, wc, rfl, hbl, c0, c1, c2, hsl, hin⟩ := HR.out.below hbel i h1
      have HMK := Lib.hid (mk_take ws h1)
      rw [← HXS.out] at HMK
      have HWI := Lib.hid (HR.out i h1)
      generalize ws[i] = wi at c0 c1 c2 hsl hin HMK HWI
      obtain ⟨wk, wst, saw⟩ := wi
      dsimp only at c0 c1 c2 hsl hin HWI
      have h1i : (i : Int) < (ws.length : Int) := by omega
      have h10 : (0 : Int) ≤ (i : Int) := by omega
      have h2i : (i : Int) < 14 := by omega
      have hd1 : decide (i < ws.length) = true := by simpa using h1
      obtain ⟨w0, hw0⟩ : ∃ w0, w0 = wr := ⟨_, rfl⟩
      subst hw0
      have HBEL := Lib.hid hbel
      have HIN := Lib.hid hin
      have HC : Hid (w0.cell? ⟨b, off + i * 3, none⟩ = some (.int .i64 wk) ∧ w0.cell? ⟨b, off + i * 3 + 1, none⟩ = some (.int .i64 wst) ∧ w0.cell? ⟨b, off + i * 3 + 2, none⟩ = some (.slice wa saw.length wc)) := Lib.hid ⟨c0, c1, c2⟩
      have HSZ := Lib.hid hsz
      clear hbel hin hsz
      go_wp2
      go_loopw [6, 8] (fun p j wr => ∃ (j' : Nat), j' ≤ saw.length ∧ j' ≤ 4 ∧ j = .int .i64 j' ∧ DepAt wr p (sawP (xs.map Prod.fst) (saw.take j')) ∧ (∀ g, p.ownBlock = some g → w0.heap.size ≤ g) ∧ Below w0.heap.size w0 wr) (fun _ j _ => 4 - (intOf j).toNat)
      case atStart => exact ⟨0, by omega, by omega, rfl, DepAt.nil _, (fun g h => by simp [Value.ownBlock] at h), Below.refl _ _⟩
      case round =>
        obtain ⟨j, hj, hj4, rfl, hdp, hfr, hbel⟩ := hrel
        obtain ⟨pa, pc, rfl, _, _, _, _⟩ := id hdp
        have HDP := Lib.hid hdp
        have HFR := Lib.hid hfr
        obtain ⟨hps, hpc⟩ := sawP_closed HINV.out.snd (saw.take j)
        have HPS := Lib.hid hps
        have hplen : (sawP (xs.map Prod.fst) (saw.take j)).length ≤ 8 := by
          refine keys_len hps (fun d hd => ?_)
          obtain ⟨v, hv, _⟩ := cl_iff.1 hpc d hd
          obtain ⟨hvo, e1, _⟩ := fnd_some hv
          rw [← e1]
          exact HINV.out.keys v hvo
        have c0 := kc hbel HC.out.1
        have c1 := kc hbel HC.out.2.1
        have c2 := kc hbel HC.out.2.2
        clear hdp hfr hps
        by_cases hjl : j < saw.length ∧ j < 4
        · obtain ⟨hj1, hj2⟩ := hjl
          have HST := Lib.hid (sawP_take (xs.map Prod.fst) saw hj1)
          obtain ⟨sb, soff, rfl, hsb, hq⟩ := HIN.out.below hbel j hj1
          generalize saw[j] = q at hq HST
          have hj1i : (j : Int) < (saw.length : Int) := by omega
          have hj0 : (0 : Int) ≤ (j : Int) := by omega
          have hj2i : (j : Int) < 4 := by omega
          have hdj : decide (j < saw.length) = true := by simpa using hj1
          clear hpc
          by_cases hx0 : xs.length = 0
          · have HXN : Hid (xs = []) := Lib.hid (List.length_eq_zero_iff.1 hx0)
            have HSO : Hid (sawP (xs.map Prod.fst) (saw.take (j + 1)) = sawP (xs.map Prod.fst) (saw.take j)) := Lib.hid (by rw [HST.out, HXN.out]; rfl)
            generalize sawP (xs.map Prod.fst) (saw.take j) = p at hplen HPS HDP HFR HSO
            have hx0i : (xs.length : Int) = 0 := by omega
            go_wp2
            go_roundw
            case rel => exact ⟨j + 1, by omega, by omega, by go_num, by rw [HSO.out]; exact HDP.out, HFR.out, hbel⟩
            case measure => simp [intOf]; omega
          · have hxp : 0 < xs.length := by omega
            have hxpi : (0 : Int) < (xs.length : Int) := by omega
            have hx0i : ¬ (xs.length : Int) = 0 := by omega
            obtain ⟨hsi, hso⟩ := sawOne_at (out := xs.map Prod.fst) (p := sawP (xs.map Prod.fst) (saw.take j)) (q := q) (by simpa using hxp)
            rw [← HST.out] at hso
            have hsi' : sawI q xs.length < xs.length := by simpa using hsi
            have e1 : (xs.map Prod.fst)[sawI q (xs.map Prod.fst).length] = (xs[sawI q xs.length]).1 := by simp
            rw [e1] at hso
            have HSO := Lib.hid hso
            obtain ⟨m1, m2, m3, m4⟩ := sawI_eq q hxp (by omega)
            obtain ⟨vb, voff, ev, hvb, ⟨v0, v1, v2, v3, v4, v5⟩, hvp⟩ := (HVM.out.row.below hbel).at _ hsi'
            subst ev
            have hvk := inv_ok HINV.out (by rw [List.length_map]; exact hil) _ (List.mem_map.2 ⟨_, List.getElem_mem hsi', rfl⟩)
            generalize sawP (xs.map Prod.fst) (saw.take j) = p at hplen HPS HDP HFR HSO
            generalize xs[sawI q xs.length] = x at v0 v1 v2 v3 v4 v5 hvp hvk HSO
            generalize sawI q xs.length = si at hsi' m3 m4 v0 v1 v2 v3 v4 v5
            have hsii : (si : Int) < (xs.length : Int) := by omega
            have hsi0 : (0 : Int) ≤ (si : Int) := by omega
            obtain ⟨⟨key, val, gone, ⟨n1, s1⟩, past⟩, ya, yc⟩ := x
            obtain ⟨hks, _, hsrt, hlen⟩ := hvk
            dsimp only [pu, Ve.dep] at v0 v1 v2 v3 v4 v5 hvp HSO hks hsrt hlen
            clear hso hsi e1
            have hb1 : Below wr.heap.size wr (wr.alloc (.cells #[.string key, .string val, .bool gone, .int .i64 n1, .int .i64 s1, .slice ya past.length yc] 34)) := balloc (Below.refl _ wr) _
            have hb2 : Below wr.heap.size wr ((wr.alloc (.cells #[.string key, .string val, .bool gone, .int .i64 n1, .int .i64 s1, .slice ya past.length yc] 34)).alloc (.cells #[.string key, .int .i64 n1, .int .i64 s1] 26)) := balloc hb1 _
            have hb3 : Below wr.heap.size wr (((wr.alloc (.cells #[.string key, .string val, .bool gone, .int .i64 n1, .int .i64 s1, .slice ya past.length yc] 34)).alloc (.cells #[.string key, .int .i64 n1, .int .i64 s1] 26)).alloc (.cells #[.slice pa p.length pc, .slice ya past.length yc, .slice (some ⟨wr.heap.size + 1, 0, none⟩) 1 1] 29)) := balloc hb2 _
            have z1 : (wr.alloc (.cells #[.string key, .string val, .bool gone, .int .i64 n1, .int .i64 s1, .slice ya past.length yc] 34)).heap.size = wr.heap.size + 1 := by simp
            have z2 : ((wr.alloc (.cells #[.string key, .string val, .bool gone, .int .i64 n1, .int .i64 s1, .slice ya past.length yc] 34)).alloc (.cells #[.string key, .int .i64 n1, .int .i64 s1] 26)).heap.size = wr.heap.size + 1 + 1 := by simp
            have hdd := DepAt.new (wr.alloc (.cells #[.string key, .string val, .bool gone, .int .i64 n1, .int .i64 s1, .slice ya past.length yc] 34)) [(key, n1, s1)] 26 (by simp)
            rw [z1] at hdd
            have hrows := RowsAt.lit3 (HDP.out.below hb2) (hvp.below hb2) hdd
            rw [z2] at hrows
            have hM := refMerge_new (some ⟨wr.heap.size + 1 + 1, 0, none⟩) 3 [p, past, [(key, n1, s1)]] (((wr.alloc (.cells #[.string key, .string val, .bool gone, .int .i64 n1, .int .i64 s1, .slice ya past.length yc] 34)).alloc (.cells #[.string key, .int .i64 n1, .int .i64 s1] 26)).alloc (.cells #[.slice pa p.length pc, .slice ya past.length yc, .slice (some ⟨wr.heap.size + 1, 0, none⟩) 1 1] 29)) (by simp) (by simp [tot]; omega) (by
              intro l hl
              simp at hl
              rcases hl with rfl | rfl | rfl
              · exact HPS.out.szd
              · exact hsrt.szd
              · intro d hd
                simp at hd
                subst hd
                exact hks) hrows
            have HB3 := Lib.hid hb3
            clear hb1 hb2 hb3 z1 z2 hdd hrows hvp hks hsrt hlen
            go_wp2_with fail
            refine hM.mono ?_
            rintro e w4 ⟨u4, rfl, hd4, hn4, hb4⟩
            have hb5 := bstep HB3.out hb4
            have hs5 := hbel.size
            have HN4 : Hid (∀ g, u4.ownBlock = some g → w0.heap.size ≤ g) := Lib.hid (fun g h => by have := hn4 g h; have := HB3.out.size; omega)
            have HD4 := Lib.hid hd4
            obtain ⟨qa, qc, rfl, _, _, _, _⟩ := hd4
            clear hn4 hb4 hM
            go_wp2
            go_roundw
            case rel => exact ⟨j + 1, by omega, by omega, by go_num, by rw [HSO.out]; exact HD4.out, HN4.out, bstep hbel hb5⟩
            case measure => simp [intOf]; omega
        · have hsa := saw_all saw hj hj4 hjl
          have HSA := Lib.hid hsa
          clear hsa hpc
          generalize hpp : sawP (xs.map Prod.fst) (saw.take j) = p at HDP hplen HPS HFR
          have HPP : Hid (sawP (xs.map Prod.fst) (saw.take 4) = p) := Lib.hid (by rw [← hpp, HSA.out])
          clear hpp
          have hPB : ∀ d ∈ p, 1 ≤ d.2.1 ∧ d.2.1 ≤ 1099511627776 := fun d hd => by
            have := HPS.out.1 d hd
            simp [okD, Sm.ok] at this
            omega
          have HPB := Lib.hid hPB
          clear hPB
          rcases (show (decide (j < saw.length) = false) ∨ (decide (j < saw.length) = true ∧ decide ((j : Int) < 4) = false) by simp; omega) with hd | ⟨hd, hd2⟩
          · skip
            go_wp2
            go_loopw [7, 10] (fun n m w9 => ∃ (m' : Nat), m' ≤ p.length ∧ m = .int .i64 m' ∧ n = .int .i64 (maxN (p.take m')) ∧ w9 = wr) (fun _ m _ => p.length - (intOf m).toNat)
            case atStart => exact ⟨0, by omega, rfl, rfl, rfl⟩
            case round =>
              obtain ⟨m, hm, rfl, rfl, hw9⟩ := hrel
              subst hw9
              have hmb : 0 ≤ maxN (p.take m) ∧ maxN (p.take m) ≤ 1099511627776 := by
                obtain ⟨h1, h2, h3⟩ := maxN_go (p.take m) 0
                exact ⟨h1, h3 _ (by omega) (fun d hd => (HPB.out d (List.mem_of_mem_take hd)).2)⟩
              by_cases hml : m < p.length
              · obtain ⟨a9, c9, e9, _, _, _, hd9⟩ := HDP.out
                cases e9
                obtain ⟨db, doff, rfl, hdb, d0, d1, d2⟩ := hd9 m hml
                have HMX : Hid (maxN (p.take (m + 1)) = if maxN (p.take m) < p[m].2.1 then p[m].2.1 else maxN (p.take m)) := Lib.hid (by
                  unfold maxN
                  rw [List.take_succ_eq_append_getElem hml, List.foldl_append]
                  rfl)
                generalize maxN (p.take m) = mx at hmb HMX
                generalize p[m] = d at d0 d1 d2 HMX
                obtain ⟨dx, dy, dz⟩ := d
                dsimp only at d0 d1 d2 HMX
                have hmi : (m : Int) < (p.length : Int) := by omega
                have hm0 : (0 : Int) ≤ (m : Int) := by omega
                clear hd9
                by_cases hgt : mx < dy
                · rw [if_pos hgt] at HMX
                  go_wp2
                  go_roundw
                  case rel => exact ⟨m + 1, by omega, by go_num, by rw [HMX.out], (by first | rfl | trivial)⟩
                  case measure => simp [intOf]; omega
                · rw [if_neg hgt] at HMX
                  go_wp2
                  go_roundw
                  case rel => exact ⟨m + 1, by omega, by go_num, by rw [HMX.out], (by first | rfl | trivial)⟩
                  case measure => simp [intOf]; omega
              · obtain rfl : m = p.length := by omega
                rw [List.take_length] at hmb ⊢
                obtain ⟨ki, hki⟩ : ∃ ki : Nat, ki = (wk % 8).toNat := ⟨_, rfl⟩
                obtain ⟨si, hsi⟩ : ∃ si : Int, si = wst % 4 := ⟨_, rfl⟩
                have hki8 : ki < 8 := by omega
                have hk7 : bits .and .i64 wk 7 = (ki : Int) := by rw [i64_and7]; omega
                have hs3 : bits .and .i64 wst 3 = si := by rw [i64_and3, hsi]
                have HX : Hid (mkX (xs.map Prod.fst) ⟨wk, wst, saw⟩ = ⟨keyAt ki, ⟨#[]⟩, false, (maxN p + 1, si), p⟩) := Lib.hid (by unfold mkX; rw [HPP.out, ← hki, ← hsi])
                have hkc := (HKB.out.below hbel) ki hki8
                have hkl : (keyAt ki).size ≤ 9223372036854775807 := by simp [keyAt, ByteArray.size]
                clear hki hsi
                generalize keyAt ki = kk at HX hkc hkl
                generalize maxN p = mx at hmb HX ⊢
                have hki0 : (0 : Int) ≤ (ki : Int) := by omega
                have hki8i : (ki : Int) < 8 := by omega
                have hw1 : IntKind.i64.wrap (mx + 1) = mx + 1 := IntWalk.i64_in _ (by omega)
                have gA : wr.cell? ⟨b, off + i * 3, none⟩ = some (.int .i64 wk) ∧ wr.cell? ⟨b, off + i * 3 + 1, none⟩ = some (.int .i64 wst) ∧ wr.cell? ⟨w.heap.size, ki, none⟩ = some (.string kk) := ⟨c0, c1, hkc⟩
                have hbZ : Below wr.heap.size wr (wr.alloc (.cells #[.string ⟨#[]⟩, .string ⟨#[]⟩, .bool false, .int .i64 0, .int .i64 0, .slice none 0 0] 34)).drew := (balloc (Below.refl _ wr) _).drew
                have hbX : Below wr.heap.size wr (wr.alloc (.cells #[.string kk, .string ⟨#[]⟩, .bool false, .int .i64 (mx + 1), .int .i64 si, .slice pa p.length pc] 34)).drew := (balloc (Below.refl _ wr) _).drew
                have gB := And.intro (kc hbZ gA.1) (And.intro (kc hbZ gA.2.1) (kc hbZ gA.2.2))
                have gC := And.intro (kc hbX gA.1) (And.intro (kc hbX gA.2.1) (kc hbX gA.2.2))
                have HBX := Lib.hid hbX
                clear hbZ hbX hkc c0 c1 c2
                go_wp2_with fail
                refine wp_region_held_drew (S := fun w' => w'.cell? ⟨b, off + i * 3, none⟩ = some (.int .i64 wk) ∧ w'.cell? ⟨b, off + i * 3 + 1, none⟩ = some (.int .i64 wst) ∧ w'.cell? ⟨w.heap.size, ki, none⟩ = some (.string kk)) (by kernel_rfl) (gA) (fun hHeld => ?_)
                refine wpAnyH_take (i := 0) (v := ?vm0) rfl (by kernel_rfl) (by kernel_rfl) (by kernel_rfl) (fun _ _ _ h => h) (Or.inl ⟨by rfl, ?ym0⟩) (by assumption) ?rm0
                case ym0 => (intro w hSw; (try dsimp only at hSw); go_simp; try with_reducible rfl)
                try simp only [Act.put, List.setIfInBounds_toArray, List.set_cons_zero, List.set_cons_succ, List.getElem_toArray, List.getElem_cons_zero, List.getElem_cons_succ]
                refine wpAnyH_take (i := 1) (v := ?vm1) rfl (by kernel_rfl) (by kernel_rfl) (by kernel_rfl) (fun _ _ _ h => h) (Or.inl ⟨by rfl, ?ym1⟩) (by assumption) ?rm1
                case ym1 => (intro w hSw; (try dsimp only at hSw); go_simp; try with_reducible rfl)
                try simp only [Act.put, List.setIfInBounds_toArray, List.set_cons_zero, List.set_cons_succ, List.getElem_toArray, List.getElem_cons_zero, List.getElem_cons_succ]
                refine wpAnyH_take (i := 2) (v := ?vm2) rfl (by kernel_rfl) (by kernel_rfl) (by kernel_rfl) (fun _ _ _ h => h) (Or.inl ⟨by rfl, ?ym2⟩) (by assumption) ?rm2
                case ym2 => (intro w hSw; (try dsimp only at hSw); go_simp; try with_reducible rfl)
                try simp only [Act.put, List.setIfInBounds_toArray, List.set_cons_zero, List.set_cons_succ, List.getElem_toArray, List.getElem_cons_zero, List.getElem_cons_succ]
                refine wpAnyH_take (i := 3) (v := ?vm3) rfl (by kernel_rfl) (by kernel_rfl) (by kernel_rfl) (fun _ _ _ h => h) (Or.inl ⟨by rfl, ?ym3⟩) (by assumption) ?rm3
                case ym3 => (intro w hSw; (try dsimp only at hSw); go_simp; try with_reducible rfl)
                try simp only [Act.put, List.setIfInBounds_toArray, List.set_cons_zero, List.set_cons_succ, List.getElem_toArray, List.getElem_cons_zero, List.getElem_cons_succ]
                refine wpAnyH_take (i := 4) (v := ?vm4) rfl (by kernel_rfl) (by kernel_rfl) (by kernel_rfl) (fun _ _ _ h => h) (Or.inl ⟨by rfl, ?ym4⟩) (by assumption) ?rm4
                case ym4 => (intro w hSw; (try dsimp only at hSw); go_simp; try with_reducible rfl)
                try simp only [Act.put, List.setIfInBounds_toArray, List.set_cons_zero, List.set_cons_succ, List.getElem_toArray, List.getElem_cons_zero, List.getElem_cons_succ]
                refine wpAnyH_take (i := 5) (v := ?vm5) rfl (by kernel_rfl) (by kernel_rfl) (by kernel_rfl) (fun _ _ _ h => h) (Or.inl ⟨by rfl, ?ym5⟩) (by assumption) ?rm5
                case ym5 => (intro w hSw; (try dsimp only at hSw); go_simp; try with_reducible rfl)
                try simp only [Act.put, List.setIfInBounds_toArray, List.set_cons_zero, List.set_cons_succ, List.getElem_toArray, List.getElem_cons_zero, List.getElem_cons_succ]
                refine wpAnyH_take (i := 6) (v := ?vm6) rfl (by kernel_rfl) (by kernel_rfl) (by kernel_rfl) (fun _ _ _ h => h) (Or.inl ⟨by rfl, ?ym6⟩) (by assumption) ?rm6
                case ym6 => (intro w hSw; (try dsimp only at hSw); go_simp; try with_reducible rfl)
                try simp only [Act.put, List.setIfInBounds_toArray, List.set_cons_zero, List.set_cons_succ, List.getElem_toArray, List.getElem_cons_zero, List.getElem_cons_succ]
                refine wpAnyH_take (i := 7) (v := ?vm7) rfl (by kernel_rfl) (by kernel_rfl) (by kernel_rfl) (fun _ _ _ h => h) (Or.inl ⟨by rfl, ?ym7⟩) (by assumption) ?rm7
                case ym7 => (intro w hSw; (try dsimp only at hSw); go_simp; try with_reducible rfl)
                try simp only [Act.put, List.setIfInBounds_toArray, List.set_cons_zero, List.set_cons_succ, List.getElem_toArray, List.getElem_cons_zero, List.getElem_cons_succ]
                refine wpAnyH_take (i := 8) (v := ?vm8) rfl (by kernel_rfl) (by kernel_rfl) (by kernel_rfl) (fun _ _ _ h => h) (Or.inl ⟨by rfl, ?ym8⟩) (by assumption) ?rm8
                case ym8 => (intro w hSw; (try dsimp only at hSw); go_simp; try with_reducible rfl)
                try simp only [Act.put, List.setIfInBounds_toArray, List.set_cons_zero, List.set_cons_succ, List.getElem_toArray, List.getElem_cons_zero, List.getElem_cons_succ]
                refine wpAnyH_take (i := 9) (v := ?vm9) rfl (by kernel_rfl) (by kernel_rfl) (by kernel_rfl) (fun _ _ _ h => h) (Or.inl ⟨by rfl, ?ym9⟩) (by assumption) ?rm9
                case ym9 => (intro w hSw; (try dsimp only at hSw); go_simp; try with_reducible rfl)
                try simp only [Act.put, List.setIfInBounds_toArray, List.set_cons_zero, List.set_cons_succ, List.getElem_toArray, List.getElem_cons_zero, List.getElem_cons_succ]
                refine wpAnyH_take (i := 10) (v := ?vm10) rfl (by kernel_rfl) (by kernel_rfl) (by kernel_rfl) (fun _ _ _ h => h) (Or.inl ⟨by rfl, ?ym10⟩) (by assumption) ?rm10
                case ym10 => (intro w hSw; (try dsimp only at hSw); go_simp; try with_reducible rfl)
                try simp only [Act.put, List.setIfInBounds_toArray, List.set_cons_zero, List.set_cons_succ, List.getElem_toArray, List.getElem_cons_zero, List.getElem_cons_succ]
                refine wpAnyH_take (i := 11) (v := ?vm11) rfl (by kernel_rfl) (by kernel_rfl) (by kernel_rfl) (fun _ _ _ h => h) (Or.inl ⟨by rfl, ?ym11⟩) (by assumption) ?rm11
                case ym11 => (intro w hSw; (try dsimp only at hSw); go_simp; try with_reducible rfl)
                try simp only [Act.put, List.setIfInBounds_toArray, List.set_cons_zero, List.set_cons_succ, List.getElem_toArray, List.getElem_cons_zero, List.getElem_cons_succ]
                refine wpAnyH_take (i := 12) (v := ?vm12) rfl (by kernel_rfl) (by kernel_rfl) (by kernel_rfl) (fun _ _ _ h => h) (Or.inl ⟨by rfl, ?ym12⟩) (by assumption) ?rm12
                case ym12 => (intro w hSw; (try dsimp only at hSw); go_simp; try with_reducible rfl)
                try simp only [Act.put, List.setIfInBounds_toArray, List.set_cons_zero, List.set_cons_succ, List.getElem_toArray, List.getElem_cons_zero, List.getElem_cons_succ]
                refine wpAnyH_take (i := 13) (v := ?vm13) rfl (by kernel_rfl) (by kernel_rfl) (by kernel_rfl) (fun _ _ _ h => h) (Or.inl ⟨by rfl, ?ym13⟩) (by assumption) ?rm13
                case ym13 => (intro w hSw; (try dsimp only at hSw); go_simp; try with_reducible rfl)
                try simp only [Act.put, List.setIfInBounds_toArray, List.set_cons_zero, List.set_cons_succ, List.getElem_toArray, List.getElem_cons_zero, List.getElem_cons_succ]
                refine wpAnyH_take (i := 14) (v := ?vm14) rfl (by kernel_rfl) (by kernel_rfl) (by kernel_rfl) (fun _ _ _ h => h) (Or.inl ⟨by rfl, ?ym14⟩) (by assumption) ?rm14
                case ym14 => (intro w hSw; (try dsimp only at hSw); go_simp; try with_reducible rfl)
                try simp only [Act.put, List.setIfInBounds_toArray, List.set_cons_zero, List.set_cons_succ, List.getElem_toArray, List.getElem_cons_zero, List.getElem_cons_succ]
                refine wpAnyH_take (i := 15) (v := ?vm15) rfl (by kernel_rfl) (by kernel_rfl) (by kernel_rfl) (fun _ _ _ h => h) (Or.inl ⟨by rfl, ?ym15⟩) (by assumption) ?rm15
                case ym15 => (intro w hSw; (try dsimp only at hSw); go_simp; try with_reducible rfl)
                try simp only [Act.put, List.setIfInBounds_toArray, List.set_cons_zero, List.set_cons_succ, List.getElem_toArray, List.getElem_cons_zero, List.getElem_cons_succ]
                refine wpAnyH_take (i := 16) (v := ?vm16) rfl (by kernel_rfl) (by kernel_rfl) (by kernel_rfl) (fun _ _ _ h => h) (Or.inl ⟨by rfl, ?ym16⟩) (by assumption) ?rm16
                case ym16 => (intro w hSw; (try dsimp only at hSw); go_simp; try with_reducible rfl)
                try simp only [Act.put, List.setIfInBounds_toArray, List.set_cons_zero, List.set_cons_succ, List.getElem_toArray, List.getElem_cons_zero, List.getElem_cons_succ]
                refine wpAnyH_take (i := 17) (v := ?vm17) rfl (by kernel_rfl) (by kernel_rfl) (by kernel_rfl) (fun _ _ _ h => h) (Or.inl ⟨by rfl, ?ym17⟩) (by assumption) ?rm17
                case ym17 => (intro w hSw; (try dsimp only at hSw); go_simp; try with_reducible rfl)
                try simp only [Act.put, List.setIfInBounds_toArray, List.set_cons_zero, List.set_cons_succ, List.getElem_toArray, List.getElem_cons_zero, List.getElem_cons_succ]
                refine wpAnyH_take (i := 18) (v := ?vm18) rfl (by kernel_rfl) (by kernel_rfl) (by kernel_rfl) (fun _ _ _ h => h) (Or.inl ⟨by rfl, ?ym18⟩) (by assumption) ?rm18
                case ym18 => (intro w hSw; (try dsimp only at hSw); go_simp; try with_reducible rfl)
                try simp only [Act.put, List.setIfInBounds_toArray, List.set_cons_zero, List.set_cons_succ, List.getElem_toArray, List.getElem_cons_zero, List.getElem_cons_succ]
                refine wpAnyH_ready (rs := [19]) (by kernel_rfl) (by simp) ?_
                refine AllReadyH.cons rfl (fun K hK => ?_) AllReadyH.nil
                go_simp
                refine hK.out _ _ (gB) (fun hHeld => ?_)
                clear hK K
                try simp only [Act.put, List.setIfInBounds_toArray, List.set_cons_zero, List.set_cons_succ, List.getElem_toArray, List.getElem_cons_zero, List.getElem_cons_succ]
                refine wpAnyH_ready (rs := [20]) (by kernel_rfl) (by simp) ?_
                refine AllReadyH.cons rfl (fun K hK => ?_) AllReadyH.nil
                go_simp
                refine hK.out _ _ (gC) (fun hHeld => ?_)
                clear hK K
                try simp only [Act.put, List.setIfInBounds_toArray, List.set_cons_zero, List.set_cons_succ, List.getElem_toArray, List.getElem_cons_zero, List.getElem_cons_succ]
                refine wpAnyH_done (by kernel_rfl) ?_ _
                clear gA gB gC hHeld hk7 hs3 hw1
                have HVX : Hid (VarV (wr.alloc (.cells #[.string kk, .string ⟨#[]⟩, .bool false, .int .i64 (mx + 1), .int .i64 si, .slice pa p.length pc] 34)).drew wr.heap.size (⟨kk, ⟨#[]⟩, false, (mx + 1, si), p⟩, pa, pc)) := Lib.hid ((VarV.new wr (⟨kk, ⟨#[]⟩, false, (mx + 1, si), p⟩, pa, pc) 34).keep ((Below.refl _ _).drew))
                have hF := refFind5_any (.slice sa xs.length sc) xs kk (mx + 1) si (wr.alloc (.cells #[.string kk, .string ⟨#[]⟩, .bool false, .int .i64 (mx + 1), .int .i64 si, .slice pa p.length pc] 34)).drew (by omega) ((HVM.out.row.below hbel).below HBX.out)
                have HFN := Lib.hid (fndP_isSome xs (kk, mx + 1, si))
                generalize (fndP xs (kk, mx + 1, si)).getD vz = r at hF
                obtain ⟨⟨rk, rv, rg, ⟨rn, rs⟩, rp⟩, ra, rc⟩ := r
                dsimp only [vv, vcs, pu] at hF
                have HMS : Hid (mkS (xs.map Prod.fst) ⟨wk, wst, saw⟩ = if (fndP xs (kk, mx + 1, si)).isSome then xs.map Prod.fst else xs.map Prod.fst ++ [⟨kk, ⟨#[]⟩, false, (mx + 1, si), p⟩]) := Lib.hid (by
                  unfold mkS
                  rw [HX.out, HFN.out]
                  rfl)
                generalize (fndP xs (kk, mx + 1, si)).isSome = tw at hF HMS
                go_wp2_with fail
                refine hF.mono ?_
                rintro e w5 ⟨rfl, hb5⟩
                have hbY : Below wr.heap.size wr (w5.alloc (.cells #[.string rk, .string rv, .bool rg, .int .i64 rn, .int .i64 rs, .slice ra rp.length rc] 34)) := balloc (bstep HBX.out hb5) _
                obtain ⟨⟨y0, y1, y2, y3, y4, y5⟩, _⟩ := HVX.out.keep (balloc hb5 (.cells #[.string rk, .string rv, .bool rg, .int .i64 rn, .int .i64 rs, .slice ra rp.length rc] 34))
                dsimp only [pu, Nat.zero_add] at y0 y1 y2 y3 y4 y5
                have HBY := Lib.hid hbY
                have HVM5 := Lib.hid ((HVM.out.below hbel).below hbY)
                have hz5 : (w5.alloc (.cells #[.string rk, .string rv, .bool rg, .int .i64 rn, .int .i64 rs, .slice ra rp.length rc] 34)).heap.size = w5.heap.size + 1 := by simp
                have HZ5 := Lib.hid hz5
                have hs5 : w.heap.size + 1 ≤ w5.heap.size := by have h1 := HSZ.out; have h2 := hbel.size; have h3 := HBX.out.size; have h4 := hb5.size; omega
                clear hF hb5 hbY hz5
                cases tw with
                | true =>
                  go_wp2
                  go_roundw
                  case rel => exact ⟨i + 1, xs, by omega, by omega, by go_num, by rw [HMK.out, HMS.out]; rfl, HVM5.out, (HKB.out.below hbel).below HBY.out, by rw [HZ5.out]; omega, HBEL.out.trans (((bstep hbel HBY.out)).mono HBEL.out.size)⟩
                  case measure => simp [intOf]; omega
                | false =>
                  go_wp2_with (at_builtin; refine wp_pushR kv_ok (wr := w5.alloc (.cells #[.string rk, .string rv, .bool rg, .int .i64 rn, .int .i64 rs, .slice ra rp.length rc] 34)) rfl _ _ rfl (w.heap.size + 1) (.slice sa xs.length sc) xs (⟨kk, ⟨#[]⟩, false, (mx + 1, si), p⟩, pa, pc) #[.string kk, .string ⟨#[]⟩, .bool false, .int .i64 (mx + 1), .int .i64 si, .slice pa p.length pc] rfl rfl HVM5.out.own (by rw [HZ5.out]; rfl) (by omega) (by rw [HZ5.out]; omega) ?_; intro g6 cap6 w6 ho6 hb6 hk6 hat6 hlt6)
                  have HV6 := Lib.hid (HVM5.out.push ho6 hk6 hb6.size hat6 (show DepAt _ (.slice pa p.length pc) p from HDP.out.below HBY.out) (.inr (fun g h1 h2 => by
                    have h3 := (HVM.out.own.lt g h1).2
                    have h4 := HFR.out g h2
                    omega)))
                  go_wp2
                  go_roundw
                  case rel => exact ⟨i + 1, xs ++ [(⟨kk, ⟨#[]⟩, false, (mx + 1, si), p⟩, pa, pc)], by omega, by omega, by go_num, by rw [HMK.out, HMS.out, List.map_append]; rfl, by simpa using HV6.out, ((HKB.out.below hbel).below HBY.out).block (hk6 _ (by rw [HZ5.out]; omega) (HVM.out.own.lo (by omega))), by have := hb6.size; rw [HZ5.out] at this; omega, HBEL.out.trans (((bstep hbel HBY.out).mono HBEL.out.size).trans (hb6.mono (by omega)))⟩
                  case measure => simp [intOf]; omega
          · skip
            go_wp2
            go_loopw [7, 10] (fun n m w9 => ∃ (m' : Nat), m' ≤ p.length ∧ m = .int .i64 m' ∧ n = .int .i64 (maxN (p.take m')) ∧ w9 = wr) (fun _ m _ => p.length - (intOf m).toNat)
            case atStart => exact ⟨0, by omega, rfl, rfl, rfl⟩
            case round =>
              obtain ⟨m, hm, rfl, rfl, hw9⟩ := hrel
              subst hw9
              have hmb : 0 ≤ maxN (p.take m) ∧ maxN (p.take m) ≤ 1099511627776 := by
                obtain ⟨h1, h2, h3⟩ := maxN_go (p.take m) 0
                exact ⟨h1, h3 _ (by omega) (fun d hd => (HPB.out d (List.mem_of_mem_take hd)).2)⟩
              by_cases hml : m < p.length
              · obtain ⟨a9, c9, e9, _, _, _, hd9⟩ := HDP.out
                cases e9
                obtain ⟨db, doff, rfl, hdb, d0, d1, d2⟩ := hd9 m hml
                have HMX : Hid (maxN (p.take (m + 1)) = if maxN (p.take m) < p[m].2.1 then p[m].2.1 else maxN (p.take m)) := Lib.hid (by
                  unfold maxN
                  rw [List.take_succ_eq_append_getElem hml, List.foldl_append]
                  rfl)
                generalize maxN (p.take m) = mx at hmb HMX
                generalize p[m] = d at d0 d1 d2 HMX
                obtain ⟨dx, dy, dz⟩ := d
                dsimp only at d0 d1 d2 HMX
                have hmi : (m : Int) < (p.length : Int) := by omega
                have hm0 : (0 : Int) ≤ (m : Int) := by omega
                clear hd9
                by_cases hgt : mx < dy
                · rw [if_pos hgt] at HMX
                  go_wp2
                  go_roundw
                  case rel => exact ⟨m + 1, by omega, by go_num, by rw [HMX.out], (by first | rfl | trivial)⟩
                  case measure => simp [intOf]; omega
                · rw [if_neg hgt] at HMX
                  go_wp2
                  go_roundw
                  case rel => exact ⟨m + 1, by omega, by go_num, by rw [HMX.out], (by first | rfl | trivial)⟩
                  case measure => simp [intOf]; omega
              · obtain rfl : m = p.length := by omega
                rw [List.take_length] at hmb ⊢
                obtain ⟨ki, hki⟩ : ∃ ki : Nat, ki = (wk % 8).toNat := ⟨_, rfl⟩
                obtain ⟨si, hsi⟩ : ∃ si : Int, si = wst % 4 := ⟨_, rfl⟩
                have hki8 : ki < 8 := by omega
                have hk7 : bits .and .i64 wk 7 = (ki : Int) := by rw [i64_and7]; omega
                have hs3 : bits .and .i64 wst 3 = si := by rw [i64_and3, hsi]
                have HX : Hid (mkX (xs.map Prod.fst) ⟨wk, wst, saw⟩ = ⟨keyAt ki, ⟨#[]⟩, false, (maxN p + 1, si), p⟩) := Lib.hid (by unfold mkX; rw [HPP.out, ← hki, ← hsi])
                have hkc := (HKB.out.below hbel) ki hki8
                have hkl : (keyAt ki).size ≤ 9223372036854775807 := by simp [keyAt, ByteArray.size]
                clear hki hsi
                generalize keyAt ki = kk at HX hkc hkl
                generalize maxN p = mx at hmb HX ⊢
                have hki0 : (0 : Int) ≤ (ki : Int) := by omega
                have hki8i : (ki : Int) < 8 := by omega
                have hw1 : IntKind.i64.wrap (mx + 1) = mx + 1 := IntWalk.i64_in _ (by omega)
                have gA : wr.cell? ⟨b, off + i * 3, none⟩ = some (.int .i64 wk) ∧ wr.cell? ⟨b, off + i * 3 + 1, none⟩ = some (.int .i64 wst) ∧ wr.cell? ⟨w.heap.size, ki, none⟩ = some (.string kk) := ⟨c0, c1, hkc⟩
                have hbZ : Below wr.heap.size wr (wr.alloc (.cells #[.string ⟨#[]⟩, .string ⟨#[]⟩, .bool false, .int .i64 0, .int .i64 0, .slice none 0 0] 34)).drew := (balloc (Below.refl _ wr) _).drew
                have hbX : Below wr.heap.size wr (wr.alloc (.cells #[.string kk, .string ⟨#[]⟩, .bool false, .int .i64 (mx + 1), .int .i64 si, .slice pa p.length pc] 34)).drew := (balloc (Below.refl _ wr) _).drew
                have gB := And.intro (kc hbZ gA.1) (And.intro (kc hbZ gA.2.1) (kc hbZ gA.2.2))
                have gC := And.intro (kc hbX gA.1) (And.intro (kc hbX gA.2.1) (kc hbX gA.2.2))
                have HBX := Lib.hid hbX
                clear hbZ hbX hkc c0 c1 c2
                go_wp2_with fail
                refine wp_region_held_drew (S := fun w' => w'.cell? ⟨b, off + i * 3, none⟩ = some (.int .i64 wk) ∧ w'.cell? ⟨b, off + i * 3 + 1, none⟩ = some (.int .i64 wst) ∧ w'.cell? ⟨w.heap.size, ki, none⟩ = some (.string kk)) (by kernel_rfl) (gA) (fun hHeld => ?_)
                refine wpAnyH_take (i := 0) (v := ?vn0) rfl (by kernel_rfl) (by kernel_rfl) (by kernel_rfl) (fun _ _ _ h => h) (Or.inl ⟨by rfl, ?yn0⟩) (by assumption) ?rn0
                case yn0 => (intro w hSw; (try dsimp only at hSw); go_simp; try with_reducible rfl)
                try simp only [Act.put, List.setIfInBounds_toArray, List.set_cons_zero, List.set_cons_succ, List.getElem_toArray, List.getElem_cons_zero, List.getElem_cons_succ]
                refine wpAnyH_take (i := 1) (v := ?vn1) rfl (by kernel_rfl) (by kernel_rfl) (by kernel_rfl) (fun _ _ _ h => h) (Or.inl ⟨by rfl, ?yn1⟩) (by assumption) ?rn1
                case yn1 => (intro w hSw; (try dsimp only at hSw); go_simp; try with_reducible rfl)
                try simp only [Act.put, List.setIfInBounds_toArray, List.set_cons_zero, List.set_cons_succ, List.getElem_toArray, List.getElem_cons_zero, List.getElem_cons_succ]
                refine wpAnyH_take (i := 2) (v := ?vn2) rfl (by kernel_rfl) (by kernel_rfl) (by kernel_rfl) (fun _ _ _ h => h) (Or.inl ⟨by rfl, ?yn2⟩) (by assumption) ?rn2
                case yn2 => (intro w hSw; (try dsimp only at hSw); go_simp; try with_reducible rfl)
                try simp only [Act.put, List.setIfInBounds_toArray, List.set_cons_zero, List.set_cons_succ, List.getElem_toArray, List.getElem_cons_zero, List.getElem_cons_succ]
                refine wpAnyH_take (i := 3) (v := ?vn3) rfl (by kernel_rfl) (by kernel_rfl) (by kernel_rfl) (fun _ _ _ h => h) (Or.inl ⟨by rfl, ?yn3⟩) (by assumption) ?rn3
                case yn3 => (intro w hSw; (try dsimp only at hSw); go_simp; try with_reducible rfl)
                try simp only [Act.put, List.setIfInBounds_toArray, List.set_cons_zero, List.set_cons_succ, List.getElem_toArray, List.getElem_cons_zero, List.getElem_cons_succ]
                refine wpAnyH_take (i := 4) (v := ?vn4) rfl (by kernel_rfl) (by kernel_rfl) (by kernel_rfl) (fun _ _ _ h => h) (Or.inl ⟨by rfl, ?yn4⟩) (by assumption) ?rn4
                case yn4 => (intro w hSw; (try dsimp only at hSw); go_simp; try with_reducible rfl)
                try simp only [Act.put, List.setIfInBounds_toArray, List.set_cons_zero, List.set_cons_succ, List.getElem_toArray, List.getElem_cons_zero, List.getElem_cons_succ]
                refine wpAnyH_take (i := 5) (v := ?vn5) rfl (by kernel_rfl) (by kernel_rfl) (by kernel_rfl) (fun _ _ _ h => h) (Or.inl ⟨by rfl, ?yn5⟩) (by assumption) ?rn5
                case yn5 => (intro w hSw; (try dsimp only at hSw); go_simp; try with_reducible rfl)
                try simp only [Act.put, List.setIfInBounds_toArray, List.set_cons_zero, List.set_cons_succ, List.getElem_toArray, List.getElem_cons_zero, List.getElem_cons_succ]
                refine wpAnyH_take (i := 6) (v := ?vn6) rfl (by kernel_rfl) (by kernel_rfl) (by kernel_rfl) (fun _ _ _ h => h) (Or.inl ⟨by rfl, ?yn6⟩) (by assumption) ?rn6
                case yn6 => (intro w hSw; (try dsimp only at hSw); go_simp; try with_reducible rfl)
                try simp only [Act.put, List.setIfInBounds_toArray, List.set_cons_zero, List.set_cons_succ, List.getElem_toArray, List.getElem_cons_zero, List.getElem_cons_succ]
                refine wpAnyH_take (i := 7) (v := ?vn7) rfl (by kernel_rfl) (by kernel_rfl) (by kernel_rfl) (fun _ _ _ h => h) (Or.inl ⟨by rfl, ?yn7⟩) (by assumption) ?rn7
                case yn7 => (intro w hSw; (try dsimp only at hSw); go_simp; try with_reducible rfl)
                try simp only [Act.put, List.setIfInBounds_toArray, List.set_cons_zero, List.set_cons_succ, List.getElem_toArray, List.getElem_cons_zero, List.getElem_cons_succ]
                refine wpAnyH_take (i := 8) (v := ?vn8) rfl (by kernel_rfl) (by kernel_rfl) (by kernel_rfl) (fun _ _ _ h => h) (Or.inl ⟨by rfl, ?yn8⟩) (by assumption) ?rn8
                case yn8 => (intro w hSw; (try dsimp only at hSw); go_simp; try with_reducible rfl)
                try simp only [Act.put, List.setIfInBounds_toArray, List.set_cons_zero, List.set_cons_succ, List.getElem_toArray, List.getElem_cons_zero, List.getElem_cons_succ]
                refine wpAnyH_take (i := 9) (v := ?vn9) rfl (by kernel_rfl) (by kernel_rfl) (by kernel_rfl) (fun _ _ _ h => h) (Or.inl ⟨by rfl, ?yn9⟩) (by assumption) ?rn9
                case yn9 => (intro w hSw; (try dsimp only at hSw); go_simp; try with_reducible rfl)
                try simp only [Act.put, List.setIfInBounds_toArray, List.set_cons_zero, List.set_cons_succ, List.getElem_toArray, List.getElem_cons_zero, List.getElem_cons_succ]
                refine wpAnyH_take (i := 10) (v := ?vn10) rfl (by kernel_rfl) (by kernel_rfl) (by kernel_rfl) (fun _ _ _ h => h) (Or.inl ⟨by rfl, ?yn10⟩) (by assumption) ?rn10
                case yn10 => (intro w hSw; (try dsimp only at hSw); go_simp; try with_reducible rfl)
                try simp only [Act.put, List.setIfInBounds_toArray, List.set_cons_zero, List.set_cons_succ, List.getElem_toArray, List.getElem_cons_zero, List.getElem_cons_succ]
                refine wpAnyH_take (i := 11) (v := ?vn11) rfl (by kernel_rfl) (by kernel_rfl) (by kernel_rfl) (fun _ _ _ h => h) (Or.inl ⟨by rfl, ?yn11⟩) (by assumption) ?rn11
                case yn11 => (intro w hSw; (try dsimp only at hSw); go_simp; try with_reducible rfl)
                try simp only [Act.put, List.setIfInBounds_toArray, List.set_cons_zero, List.set_cons_succ, List.getElem_toArray, List.getElem_cons_zero, List.getElem_cons_succ]
                refine wpAnyH_take (i := 12) (v := ?vn12) rfl (by kernel_rfl) (by kernel_rfl) (by kernel_rfl) (fun _ _ _ h => h) (Or.inl ⟨by rfl, ?yn12⟩) (by assumption) ?rn12
                case yn12 => (intro w hSw; (try dsimp only at hSw); go_simp; try with_reducible rfl)
                try simp only [Act.put, List.setIfInBounds_toArray, List.set_cons_zero, List.set_cons_succ, List.getElem_toArray, List.getElem_cons_zero, List.getElem_cons_succ]
                refine wpAnyH_take (i := 13) (v := ?vn13) rfl (by kernel_rfl) (by kernel_rfl) (by kernel_rfl) (fun _ _ _ h => h) (Or.inl ⟨by rfl, ?yn13⟩) (by assumption) ?rn13
                case yn13 => (intro w hSw; (try dsimp only at hSw); go_simp; try with_reducible rfl)
                try simp only [Act.put, List.setIfInBounds_toArray, List.set_cons_zero, List.set_cons_succ, List.getElem_toArray, List.getElem_cons_zero, List.getElem_cons_succ]
                refine wpAnyH_take (i := 14) (v := ?vn14) rfl (by kernel_rfl) (by kernel_rfl) (by kernel_rfl) (fun _ _ _ h => h) (Or.inl ⟨by rfl, ?yn14⟩) (by assumption) ?rn14
                case yn14 => (intro w hSw; (try dsimp only at hSw); go_simp; try with_reducible rfl)
                try simp only [Act.put, List.setIfInBounds_toArray, List.set_cons_zero, List.set_cons_succ, List.getElem_toArray, List.getElem_cons_zero, List.getElem_cons_succ]
                refine wpAnyH_take (i := 15) (v := ?vn15) rfl (by kernel_rfl) (by kernel_rfl) (by kernel_rfl) (fun _ _ _ h => h) (Or.inl ⟨by rfl, ?yn15⟩) (by assumption) ?rn15
                case yn15 => (intro w hSw; (try dsimp only at hSw); go_simp; try with_reducible rfl)
                try simp only [Act.put, List.setIfInBounds_toArray, List.set_cons_zero, List.set_cons_succ, List.getElem_toArray, List.getElem_cons_zero, List.getElem_cons_succ]
                refine wpAnyH_take (i := 16) (v := ?vn16) rfl (by kernel_rfl) (by kernel_rfl) (by kernel_rfl) (fun _ _ _ h => h) (Or.inl ⟨by rfl, ?yn16⟩) (by assumption) ?rn16
                case yn16 => (intro w hSw; (try dsimp only at hSw); go_simp; try with_reducible rfl)
                try simp only [Act.put, List.setIfInBounds_toArray, List.set_cons_zero, List.set_cons_succ, List.getElem_toArray, List.getElem_cons_zero, List.getElem_cons_succ]
                refine wpAnyH_take (i := 17) (v := ?vn17) rfl (by kernel_rfl) (by kernel_rfl) (by kernel_rfl) (fun _ _ _ h => h) (Or.inl ⟨by rfl, ?yn17⟩) (by assumption) ?rn17
                case yn17 => (intro w hSw; (try dsimp only at hSw); go_simp; try with_reducible rfl)
                try simp only [Act.put, List.setIfInBounds_toArray, List.set_cons_zero, List.set_cons_succ, List.getElem_toArray, List.getElem_cons_zero, List.getElem_cons_succ]
                refine wpAnyH_take (i := 18) (v := ?vn18) rfl (by kernel_rfl) (by kernel_rfl) (by kernel_rfl) (fun _ _ _ h => h) (Or.inl ⟨by rfl, ?yn18⟩) (by assumption) ?rn18
                case yn18 => (intro w hSw; (try dsimp only at hSw); go_simp; try with_reducible rfl)
                try simp only [Act.put, List.setIfInBounds_toArray, List.set_cons_zero, List.set_cons_succ, List.getElem_toArray, List.getElem_cons_zero, List.getElem_cons_succ]
                refine wpAnyH_ready (rs := [19]) (by kernel_rfl) (by simp) ?_
                refine AllReadyH.cons rfl (fun K hK => ?_) AllReadyH.nil
                go_simp
                refine hK.out _ _ (gB) (fun hHeld => ?_)
                clear hK K
                try simp only [Act.put, List.setIfInBounds_toArray, List.set_cons_zero, List.set_cons_succ, List.getElem_toArray, List.getElem_cons_zero, List.getElem_cons_succ]
                refine wpAnyH_ready (rs := [20]) (by kernel_rfl) (by simp) ?_
                refine AllReadyH.cons rfl (fun K hK => ?_) AllReadyH.nil
                go_simp
                refine hK.out _ _ (gC) (fun hHeld => ?_)
                clear hK K
                try simp only [Act.put, List.setIfInBounds_toArray, List.set_cons_zero, List.set_cons_succ, List.getElem_toArray, List.getElem_cons_zero, List.getElem_cons_succ]
                refine wpAnyH_done (by kernel_rfl) ?_ _
                clear gA gB gC hHeld hk7 hs3 hw1
                have HVX : Hid (VarV (wr.alloc (.cells #[.string kk, .string ⟨#[]⟩, .bool false, .int .i64 (mx + 1), .int .i64 si, .slice pa p.length pc] 34)).drew wr.heap.size (⟨kk, ⟨#[]⟩, false, (mx + 1, si), p⟩, pa, pc)) := Lib.hid ((VarV.new wr (⟨kk, ⟨#[]⟩, false, (mx + 1, si), p⟩, pa, pc) 34).keep ((Below.refl _ _).drew))
                have hF := refFind5_any (.slice sa xs.length sc) xs kk (mx + 1) si (wr.alloc (.cells #[.string kk, .string ⟨#[]⟩, .bool false, .int .i64 (mx + 1), .int .i64 si, .slice pa p.length pc] 34)).drew (by omega) ((HVM.out.row.below hbel).below HBX.out)
                have HFN := Lib.hid (fndP_isSome xs (kk, mx + 1, si))
                generalize (fndP xs (kk, mx + 1, si)).getD vz = r at hF
                obtain ⟨⟨rk, rv, rg, ⟨rn, rs⟩, rp⟩, ra, rc⟩ := r
                dsimp only [vv, vcs, pu] at hF
                have HMS : Hid (mkS (xs.map Prod.fst) ⟨wk, wst, saw⟩ = if (fndP xs (kk, mx + 1, si)).isSome then xs.map Prod.fst else xs.map Prod.fst ++ [⟨kk, ⟨#[]⟩, false, (mx + 1, si), p⟩]) := Lib.hid (by
                  unfold mkS
                  rw [HX.out, HFN.out]
                  rfl)
                generalize (fndP xs (kk, mx + 1, si)).isSome = tw at hF HMS
                go_wp2_with fail
                refine hF.mono ?_
                rintro e w5 ⟨rfl, hb5⟩
                have hbY : Below wr.heap.size wr (w5.alloc (.cells #[.string rk, .string rv, .bool rg, .int .i64 rn, .int .i64 rs, .slice ra rp.length rc] 34)) := balloc (bstep HBX.out hb5) _
                obtain ⟨⟨y0, y1, y2, y3, y4, y5⟩, _⟩ := HVX.out.keep (balloc hb5 (.cells #[.string rk, .string rv, .bool rg, .int .i64 rn, .int .i64 rs, .slice ra rp.length rc] 34))
                dsimp only [pu, Nat.zero_add] at y0 y1 y2 y3 y4 y5
                have HBY := Lib.hid hbY
                have HVM5 := Lib.hid ((HVM.out.below hbel).below hbY)
                have hz5 : (w5.alloc (.cells #[.string rk, .string rv, .bool rg, .int .i64 rn, .int .i64 rs, .slice ra rp.length rc] 34)).heap.size = w5.heap.size + 1 := by simp
                have HZ5 := Lib.hid hz5
                have hs5 : w.heap.size + 1 ≤ w5.heap.size := by have h1 := HSZ.out; have h2 := hbel.size; have h3 := HBX.out.size; have h4 := hb5.size; omega
                clear hF hb5 hbY hz5
                cases tw with
                | true =>
                  go_wp2
                  go_roundw
                  case rel => exact ⟨i + 1, xs, by omega, by omega, by go_num, by rw [HMK.out, HMS.out]; rfl, HVM5.out, (HKB.out.below hbel).below HBY.out, by rw [HZ5.out]; omega, HBEL.out.trans (((bstep hbel HBY.out)).mono HBEL.out.size)⟩
                  case measure => simp [intOf]; omega
                | false =>
                  go_wp2_with (at_builtin; refine wp_pushR kv_ok (wr := w5.alloc (.cells #[.string rk, .string rv, .bool rg, .int .i64 rn, .int .i64 rs, .slice ra rp.length rc] 34)) rfl _ _ rfl (w.heap.size + 1) (.slice sa xs.length sc) xs (⟨kk, ⟨#[]⟩, false, (mx + 1, si), p⟩, pa, pc) #[.string kk, .string ⟨#[]⟩, .bool false, .int .i64 (mx + 1), .int .i64 si, .slice pa p.length pc] rfl rfl HVM5.out.own (by rw [HZ5.out]; rfl) (by omega) (by rw [HZ5.out]; omega) ?_; intro g6 cap6 w6 ho6 hb6 hk6 hat6 hlt6)
                  have HV6 := Lib.hid (HVM5.out.push ho6 hk6 hb6.size hat6 (show DepAt _ (.slice pa p.length pc) p from HDP.out.below HBY.out) (.inr (fun g h1 h2 => by
                    have h3 := (HVM.out.own.lt g h1).2
                    have h4 := HFR.out g h2
                    omega)))
                  go_wp2
                  go_roundw
                  case rel => exact ⟨i + 1, xs ++ [(⟨kk, ⟨#[]⟩, false, (mx + 1, si), p⟩, pa, pc)], by omega, by omega, by go_num, by rw [HMK.out, HMS.out, List.map_append]; rfl, by simpa using HV6.out, ((HKB.out.below hbel).below HBY.out).block (hk6 _ (by rw [HZ5.out]; omega) (HVM.out.own.lo (by omega))), by have := hb6.size; rw [HZ5.out] at this; omega, HBEL.out.trans (((bstep hbel HBY.out).mono HBEL.out.size).trans (hb6.mono (by omega)))⟩
                  case measure => simp [intOf]; omega
    · have HX := Lib.hid (mk_all ws hk hk14 hlt)
      rcases (show (decide (i < ws.length) = false) ∨ (decide (i < ws.length) = true ∧ decide ((i : Int) < 14) = false) by simp; omega) with hd | ⟨hd, hd2⟩
      all_goals
        go_wp2
        go_ret
        exact ⟨_, xs, rfl, by rw [HXS.out, HX.out], HVM.out.mono (by omega), hbel⟩
end Go.Proofs.Ytfnfpanmbmkhmaa
