/- What the laws' own helpers made and row answer: some row that may be. -/
import Derived.Test.YtllagelopdedfaaGW22
import Derived.Deep.DeepCutAuto
namespace Go.Proofs.Ytllagelopdedfaa
open Go.RowKit
set_option linter.unusedVariables false
set_option linter.unusedSimpArgs false

theorem tmod_bd (x m : Int) (hm : 0 < m) : -m < x.tmod m ∧ x.tmod m < m := by
  have h1 := Int.natAbs_tmod x m
  have h2 := Nat.mod_lt x.natAbs (show 0 < m.natAbs by omega)
  omega
theorem strl7 (l : List UInt8) : (⟨l.toArray⟩ : ByteArray).toList = l := by rw [Lib.toList_data]
/-- Ends that rise, of one letter each. -/
structure Ends (us : List (List UInt8)) : Prop where
  words : ∀ u ∈ us, Km.isWord u ∧ u.length = 1
  rises : Km.rises us
theorem Ends.nil : Ends [] := ⟨by simp, List.Pairwise.nil⟩
theorem Ends.w {us : List (List UInt8)} (h : Ends us) : ∀ u ∈ us, Km.isWord u := fun u hu => (h.words u hu).1
theorem letter_word (c : UInt8) (h1 : 97 ≤ c.toNat) (h2 : c.toNat ≤ 122) : Km.isWord [c] := by
  have h : Km.run 1 ([] ++ [c]) := Km.run_snoc Km.run_nil (Km.rune_letter c h1 h2) (by simp)
  exact ⟨1, h, by omega, by omega⟩
theorem Ends.snoc {us : List (List UInt8)} (h : Ends us) (c : UInt8) (h1 : 97 ≤ c.toNat) (h2 : c.toNat ≤ 122) (hlt : Op.bytesLess (Km.lastL [] us) [c] = true) : Ends (us ++ [[c]]) := by
  refine ⟨fun u hu => ?_, Km.rises_snoc h.w h.rises hlt⟩
  rcases List.mem_append.1 hu with h3 | h3
  · exact h.words u h3
  · obtain rfl : u = [c] := by simpa using h3
    exact ⟨letter_word c h1 h2, rfl⟩
theorem wbas_szs {us : List (List UInt8)} (h : Ends us) : Szs (wbas (Km.chainL [] us)) := by
  intro r hr
  unfold wbas at hr
  obtain ⟨x, hx, rfl⟩ := List.mem_map.1 hr
  obtain ⟨i, hi, rfl⟩ := List.getElem_of_mem hx
  rw [Km.chain_get]
  have h1 : ∀ j (hj : j < ([] :: us).length), (([] :: us)[j]).length ≤ 1 := by
    intro j hj
    cases j with
    | zero => simp
    | succ j => have := (h.words (us[j]'(by simpa using hj)) (by simp)).2; simpa using Nat.le_of_eq this
  have h2 : ∀ j (hj : j < (us ++ [[]]).length), ((us ++ [[]])[j]).length ≤ 1 := by
    intro j hj
    by_cases e : j < us.length
    · rw [List.getElem_append_left e]; exact Nat.le_of_eq (h.words us[j] (by simp)).2
    · rw [List.getElem_append_right (by omega)]; simp
  rw [Km.chain_len] at hi
  have a1 := h1 i (by simpa using hi)
  have a2 := h2 i (by simpa using hi)
  refine ⟨?_, ?_⟩
  · show (([] :: us)[i]'(by simpa using hi)).toArray.size ≤ _
    rw [List.size_toArray]
    omega
  · show ((us ++ [[]])[i]'(by simpa using hi)).toArray.size ≤ _
    rw [List.size_toArray]
    omega
theorem made_ok {us : List (List UInt8)} {c : Rw} (h : Ends us) (hu : us.length ≤ 7) (hr : c.rs = wbas (Km.chainL [] us)) (hp : 1 ≤ c.pa.length ∧ c.pa.length ≤ 6) (hl : c.ow.length = c.rs.length) (ho : ∀ o ∈ c.ow, 1 ≤ o ∧ o < ((2 ^ c.pa.length : Nat) : Int)) : tOk c = true := by
  refine (tOk_iff c).2 ⟨hp.1, hp.2, ?_, hl, ?_, ho⟩
  · rw [hr, wbas_len, Km.chain_len]; omega
  · rw [hr, tls_wbas]
    exact Km.one_whole h.w h.rises
/-- What made leaves. -/
def MadePost (w : World) (e : Ending) (w' : World) : Prop := ∃ c u0 u1 u2, e = .returned (.agg #[u0, u1, u2]) ∧ RwO w.heap.size w' u0 u1 u2 c ∧ tOk c = true ∧ Below w.heap.size w w'
theorem last_len1 {us : List (List UInt8)} (h : Ends us) : (Km.lastL [] us).length ≤ 1 := by
  rcases Km.last_mem [] us with e | e
  · rw [e]; simp
  · exact Nat.le_of_eq (h.words _ e).2

/-- How the variable, and the result's, stand. -/
structure MdS (w wr : World) (u0 u1 u2 : Value) (c : Rw) : Prop where
  R : RwV (w.heap.size + 1) (w.heap.size + 1) wr u0 u1 u2 c
  V : VrP wr w.heap.size (.slice none 0 0) (.slice none 0 0) (.slice none 0 0)
  B : Below w.heap.size w wr
theorem MdS.below {w wr w' : World} {u0 u1 u2 : Value} {c : Rw} (h : MdS w wr u0 u1 u2 c) (hb : Below wr.heap.size wr w') : MdS w w' u0 u1 u2 c := ⟨h.R.below hb, h.V.keep hb, bstep h.B hb⟩
theorem MdS.put0 {w wr w2 : World} {u0 u1 u2 : Value} {c : Rw} {g n cap : Nat} {l : List (ByteArray × ByteArray)} (h : MdS w wr u0 u1 u2 c) (ho : OwnR KR w2 (w.heap.size + 1) (.slice (some ⟨g, 0, none⟩) n cap) l) (hb : Below (w.heap.size + 1) wr w2) (hk : KeptD u0 wr w2) (hat : u0.ownBlock = some g ∨ wr.heap.size ≤ g) :
    MdS w (w2.setCell ⟨w.heap.size + 1, 0, none⟩ (.slice (some ⟨g, 0, none⟩) n cap)) (.slice (some ⟨g, 0, none⟩) n cap) u1 u2 ⟨l, c.ow, c.pa⟩ :=
  ⟨h.R.put0 ho hk (fun g e => by obtain rfl := own_at7 g e; exact hat), (h.V.block (hk _ h.V.lt (h.R.r.lo (by omega)))).block (Below.heap_setCell _ _ _ _ (by simp)), (h.B.trans (hb.mono (by omega))).setCell (p := ⟨w.heap.size + 1, 0, none⟩) (by simp) _⟩
theorem MdS.put1 {w wr w2 : World} {u0 u1 u2 : Value} {c : Rw} {g n cap : Nat} {l : List Int} (h : MdS w wr u0 u1 u2 c) (ho : OwnR KI w2 (w.heap.size + 1) (.slice (some ⟨g, 0, none⟩) n cap) l) (hb : Below (w.heap.size + 1) wr w2) (hk : KeptD u1 wr w2) (hat : u1.ownBlock = some g ∨ wr.heap.size ≤ g) :
    MdS w (w2.setCell ⟨w.heap.size + 1, 1, none⟩ (.slice (some ⟨g, 0, none⟩) n cap)) u0 (.slice (some ⟨g, 0, none⟩) n cap) u2 ⟨c.rs, l, c.pa⟩ :=
  ⟨h.R.put1 ho hk (fun g e => by obtain rfl := own_at7 g e; exact hat), (h.V.block (hk _ h.V.lt (h.R.o.lo (by omega)))).block (Below.heap_setCell _ _ _ _ (by simp)), (h.B.trans (hb.mono (by omega))).setCell (p := ⟨w.heap.size + 1, 1, none⟩) (by simp) _⟩
theorem MdS.put2 {w wr w2 : World} {u0 u1 u2 : Value} {c : Rw} {g n cap : Nat} {l : List Int} (h : MdS w wr u0 u1 u2 c) (ho : OwnR KI w2 (w.heap.size + 1) (.slice (some ⟨g, 0, none⟩) n cap) l) (hb : Below (w.heap.size + 1) wr w2) (hk : KeptD u2 wr w2) (hat : u2.ownBlock = some g ∨ wr.heap.size ≤ g) :
    MdS w (w2.setCell ⟨w.heap.size + 1, 2, none⟩ (.slice (some ⟨g, 0, none⟩) n cap)) u0 u1 (.slice (some ⟨g, 0, none⟩) n cap) ⟨c.rs, c.ow, l⟩ :=
  ⟨h.R.put2 ho hk (fun g e => by obtain rfl := own_at7 g e; exact hat), (h.V.block (hk _ h.V.lt (h.R.p.lo (by omega)))).block (Below.heap_setCell _ _ _ _ (by simp)), (h.B.trans (hb.mono (by omega))).setCell (p := ⟨w.heap.size + 1, 2, none⟩) (by simp) _⟩
/-- Behind an append: the variable's cell may be written. -/
theorem MdS.cells {w wr w2 : World} {u0 u1 u2 u : Value} {c : Rw} (h : MdS w wr u0 u1 u2 c) (hk : KeptD u wr w2) (hn : u.ownBlock ≠ some (w.heap.size + 1)) : VrP w2 (w.heap.size + 1) u0 u1 u2 := h.R.v.block (hk _ h.R.v.lt hn)

/-- The variable copied to the result's. -/
theorem MdS.fin {w wr : World} {u0 u1 u2 : Value} {c : Rw} (h : MdS w wr u0 u1 u2 c) (hz : Szs c.rs) :
    RwO w.heap.size (((wr.setCell ⟨w.heap.size, 0, none⟩ u0).setCell ⟨w.heap.size, 1, none⟩ u1).setCell ⟨w.heap.size, 2, none⟩ u2) u0 u1 u2 c ∧
      VrP (((wr.setCell ⟨w.heap.size, 0, none⟩ u0).setCell ⟨w.heap.size, 1, none⟩ u1).setCell ⟨w.heap.size, 2, none⟩ u2) w.heap.size u0 u1 u2 ∧
      Below w.heap.size w (((wr.setCell ⟨w.heap.size, 0, none⟩ u0).setCell ⟨w.heap.size, 1, none⟩ u1).setCell ⟨w.heap.size, 2, none⟩ u2) := by
  have n0 := h.R.r.lo (k := w.heap.size) (by omega)
  have n1 := h.R.o.lo (k := w.heap.size) (by omega)
  have n2 := h.R.p.lo (k := w.heap.size) (by omega)
  exact ⟨⟨(((h.R.r.put7 n0).put7 n0).put7 n0).mono (by omega), (((h.R.o.put7 n1).put7 n1).put7 n1).mono (by omega), (((h.R.p.put7 n2).put7 n2).put7 n2).mono (by omega), hz⟩,
    ((h.V.put0 u0).put1 u1).put2 u2, ((h.B.setCell (p := ⟨w.heap.size, 0, none⟩) (Nat.le_refl _) u0).setCell (p := ⟨w.heap.size, 1, none⟩) (Nat.le_refl _) u1).setCell (p := ⟨w.heap.size, 2, none⟩) (Nat.le_refl _) u2⟩

/-- Behind so many parents; behind so many ends; behind so many owners. -/
def MdP (w wr : World) (k : Nat) : Prop := ∃ u2 pa, pa.length = k ∧ MdS w wr (.slice none 0 0) (.slice none 0 0) u2 ⟨[], [], pa⟩
def MdR (w wr : World) (N j : Nat) (us : List (List UInt8)) : Prop := ∃ u0 u2 pa, pa.length = N ∧ Ends us ∧ us.length ≤ j ∧ MdS w wr u0 (.slice none 0 0) u2 ⟨wbas (Km.preL [] us), [], pa⟩
def MdO (w wr : World) (N k : Nat) (us : List (List UInt8)) : Prop := ∃ u0 u1 u2 ow pa, pa.length = N ∧ ow.length = k ∧ (∀ o ∈ ow, 1 ≤ o ∧ o < ((2 ^ N : Nat) : Int)) ∧ MdS w wr u0 u1 u2 ⟨wbas (Km.chainL [] us), ow, pa⟩

set_option maxRecDepth 100000 in
set_option maxHeartbeats 3200000 in
theorem made7_any (v0 v1 : Value) (l0 l1 : List Int) (n : Int) (w : World) (h0 : RowAt KI w v0 l0) (h1 : RowAt KI w v1 l1) (hb0 : ∀ z ∈ l0, -9223372036854775808 ≤ z ∧ z ≤ 9223372036854775807) (hb1 : ∀ z ∈ l1, -9223372036854775808 ≤ z ∧ z ≤ 9223372036854775807) (hn : -9223372036854775808 ≤ n ∧ n ≤ 9223372036854775807) :
    Calls Try.prog 47 #[v0, v1, .int .i64 n] w (MadePost w) := by
  obtain ⟨a0, p0, rfl, hq0, hm0, _, hi0⟩ := h0
  obtain ⟨a1, p1, rfl, hq1, hm1, _, hi1⟩ := h1
  unfold maxLen at hm0 hm1
  have HI0 := Lib.hid hi0
  have HI1 := Lib.hid hi1
  have HZ0 := Lib.hid hb0
  have HZ1 := Lib.hid hb1
  clear hi0 hi1 hb0 hb1
  obtain ⟨hn1, hn2⟩ := hn
  obtain ⟨hy1, hy2⟩ := tmod_bd n 6 (by omega)
  generalize hy : n.tmod 6 = y at hy1 hy2
  obtain ⟨N, hN⟩ : ∃ N : Nat, 1 + y % 6 = (N : Int) := ⟨(1 + y % 6).toNat, by omega⟩
  have hN1 : 1 ≤ N := by omega
  have hN6 : N ≤ 6 := by omega
  have hM0 : MdS w ((w.alloc (.cells #[.slice none 0 0, .slice none 0 0, .slice none 0 0] 25)).alloc (.cells #[.slice none 0 0, .slice none 0 0, .slice none 0 0] 25)) (.slice none 0 0) (.slice none 0 0) (.slice none 0 0) ⟨[], [], []⟩ := by
    have hR0 := RwV.nil (w.alloc (.cells #[.slice none 0 0, .slice none 0 0, .slice none 0 0] 25)) 25 (w.heap.size + 1) (by simp)
    rw [World.size_alloc] at hR0
    have hb2 := balloc (Below.refl _ (w.alloc (.cells #[.slice none 0 0, .slice none 0 0, .slice none 0 0] 25))) (.cells #[.slice none 0 0, .slice none 0 0, .slice none 0 0] 25)
    exact ⟨hR0, (VrP.new w (.slice none 0 0) (.slice none 0 0) (.slice none 0 0) 25).keep hb2, bstep (balloc (Below.refl _ w) _) hb2⟩
  have HM0 := Lib.hid hM0
  clear hM0
  go_enter Try.func47, Try.ntmps47
  go_wp2_with fail
  clear hy
  generalize (w.alloc (.cells #[.slice none 0 0, .slice none 0 0, .slice none 0 0] 25)).alloc (.cells #[.slice none 0 0, .slice none 0 0, .slice none 0 0] 25) = wa at *
  generalize (y + 6) % 6 = y2
  generalize y + 6 = y3
  generalize 1 + y % 6 = N' at *
  subst hN
  clear hy1 hy2
  go_loopw [9] (fun i wr => ∃ k : Nat, k ≤ N ∧ i = .int .i64 k ∧ MdP w wr k) (fun i _ => N - (intOf i).toNat)
  case atStart => exact ⟨0, by omega, rfl, _, [], rfl, HM0.out⟩
  case round =>
    obtain ⟨k, hk, rfl, u2, pa, hpl, hM⟩ := hrel
    clear HM0
    have HM := Lib.hid hM
    have HPL := Lib.hid hpl
    obtain ⟨c0, c1, c2, hf⟩ := hM.R.v
    obtain ⟨sa, sc, rfl⟩ := hM.R.p.shape
    have hol : pa.length ≤ 6 := by omega
    have hbs := hM.R.v.lt
    dsimp only at c2 HM
    clear hM hpl
    by_cases hlt : k < N
    · have hki : (k : Int) < (N : Int) := by omega
      go_wp2_with (at_builtin; refine wp_pushR ki_ok (wr := wr) rfl _ _ rfl (w.heap.size + 1) (.slice sa pa.length sc) pa ((k : Int) - 1) #[.int .i64 ((k : Int) - 1)] rfl rfl HM.out.R.p rfl (by omega) (by omega) ?_; intro g2 cap2 w2 ho2 hb2 hk2 hat2 hlt2; obtain ⟨d0, d1, d2, df⟩ := HM.out.cells hk2 HM.out.R.n2; have f2 := df 2 (by decide))
      have hM3 := HM.out.put2 ho2 hb2 hk2 hat2
      go_roundw
      case rel => exact ⟨k + 1, by omega, by go_num, _, _, by rw [List.length_append, HPL.out]; rfl, hM3⟩
      case measure => simp [intOf]; omega
    · obtain rfl : k = N := by omega
      have HR0 : Hid (MdR w wr k 0 []) := Lib.hid ⟨_, _, pa, HPL.out, Ends.nil, by simp, HM.out⟩
      clear hk hlt c0 c1 c2 hf HM HPL hbs
      clear hol
      go_wp2_with fail
      clear sa sc
      go_loopw [10, 11] (fun s i wr => ∃ (j : Nat) (us : List (List UInt8)), j ≤ 6 ∧ i = .int .i64 j ∧ s = .string ⟨(Km.lastL [] us).toArray⟩ ∧ MdR w wr k j us) (fun _ i _ => 6 - (intOf i).toNat)
      case atStart => exact ⟨0, [], by omega, rfl, rfl, HR0.out⟩
      case round =>
        clear HR0
        obtain ⟨j, us, hj, rfl, rfl, u0, u2, pa, hpl, hE, hul, hM⟩ := hrel
        have HM := Lib.hid hM
        have HPL := Lib.hid hpl
        have HE := Lib.hid hE
        obtain ⟨c0, c1, c2, hf⟩ := hM.R.v
        obtain ⟨sa, sc, rfl⟩ := hM.R.r.shape
        dsimp only at c0 HM
        have hol : (wbas (Km.preL [] us)).length ≤ 6 := by rw [wbas_len, Km.pre_len]; omega
        have hbs := hM.R.v.lt
        have hlz := last_len1 hE
        clear hM hpl hE
        by_cases hgo : j < l0.length ∧ j < 6
        · obtain ⟨hj1, hj2⟩ := hgo
          have hji : (j : Int) < (l0.length : Int) := by omega
          have hji2 : (j : Int) < 6 := by omega
          obtain ⟨b, off, rfl, hbl, cc⟩ := (HI0.out.below HM.out.B).int j hj1
          have hz := HZ0.out _ (List.getElem_mem hj1)
          generalize l0[j] = z at cc hz
          obtain ⟨hz1, hz2⟩ := hz
          obtain ⟨ht1, ht2⟩ := tmod_bd z 26 (by omega)
          generalize ht : z.tmod 26 = t at ht1 ht2
          obtain ⟨c, hc⟩ : ∃ c : UInt8, c.toNat = 97 + (t % 26).toNat := ⟨UInt8.ofNat (97 + (t % 26).toNat), by rw [UInt8.toNat_ofNat']; omega⟩
          have hcv : ∀ (w' : World) (b off : Nat), w'.cell? ⟨b, off, none⟩ = some (.int .u8 (97 + t % 26)) → _ := fun w' b off h => kconv_one w' b off c _ (by omega) h
          have HC1 : Hid (97 ≤ c.toNat ∧ c.toNat ≤ 122) := Lib.hid (by omega)
          have HMX := Lib.hid (HM.out.below (balloc (Below.refl _ wr) (.cells #[.int .u8 (97 + t % 26)] 5)))
          clear hc
          go_upto_region 12 with fail
          generalize wr.alloc (.cells #[.int .u8 (97 + t % 26)] 5) = wx at *
          clear hcv cc HM c0 c1 c2 hf hbl
          have hgt := Km.bl_gtr (Km.lastL [] us) [c]
          have HNE : Hid (Op.bytesLess (Km.lastL [] us) [c] = true → Ends (us ++ [[c]])) := Lib.hid (fun h => HE.out.snoc c HC1.out.1 HC1.out.2 h)
          have HPR : Hid (wbas (Km.preL [] us) ++ [((⟨(Km.lastL [] us).toArray⟩ : ByteArray), (⟨#[c]⟩ : ByteArray))] = wbas (Km.preL [] (us ++ [[c]]))) := Lib.hid (by rw [Km.pre_snoc]; simp [wbas])
          have HLS : Hid (Km.lastL [] (us ++ [[c]]) = [c]) := Lib.hid (Km.last_snoc _ _ _)
          have hbx := HMX.out.R.v.lt
          obtain ⟨c0, c1, c2, hf⟩ := HMX.out.R.v
          have hul2 : us.length ≤ j + 1 := by omega
          cases hls : Op.bytesLess (Km.lastL [] us) [c] with
          | false =>
            rw [hls] at hgt
            have t1 : (!Op.bytesLess [c] (⟨(Km.lastL [] us).toArray⟩ : ByteArray).toList && ![c] == (⟨(Km.lastL [] us).toArray⟩ : ByteArray).toList) = false := by rw [strl7]; exact hgt
            have HRL : Hid (MdR w wx k (j + 1) us) := Lib.hid ⟨_, _, pa, HPL.out, HE.out, hul2, HMX.out⟩
            clear hls hgt HNE HPR HLS HMX HE
            have HL : Hid (∃ L : ByteArray, L = ⟨(Km.lastL [] us).toArray⟩) := Lib.hid ⟨_, rfl⟩
            generalize hL : (⟨(Km.lastL [] us).toArray⟩ : ByteArray) = L at *
            have HLL := Lib.hid hL
            clear hL
            have t2 : Op.bytesLess [c] L.toList = true ∨ (Op.bytesLess [c] L.toList = false ∧ ([c] == L.toList) = true) := by
              cases hx : Op.bytesLess [c] L.toList with
              | true => exact .inl rfl
              | false =>
                rw [hx] at t1
                exact .inr ⟨rfl, by simpa using t1⟩
            clear t1
            rcases t2 with t2 | ⟨t2, t3⟩
            all_goals
              go_wp2
              go_roundw
              case rel => exact ⟨j + 1, us, by omega, by go_num, by rw [HLL.out], HRL.out⟩
              case measure => simp [intOf]; omega
          | true =>
            rw [hls] at hgt
            have t1 : (!Op.bytesLess [c] (⟨(Km.lastL [] us).toArray⟩ : ByteArray).toList && ![c] == (⟨(Km.lastL [] us).toArray⟩ : ByteArray).toList) = true := by rw [strl7]; exact hgt
            have HNE2 := Lib.hid (HNE.out hls)
            have HLT2 : Hid ((us ++ [[c]]).length ≤ j + 1) := Lib.hid (by simp; omega)
            clear hls hgt HNE HE
            generalize (⟨(Km.lastL [] us).toArray⟩ : ByteArray) = L at *
            generalize wbas (Km.preL [] us) = acc at *
            go_wp2_with (at_builtin; refine wp_pushR kr_ok (wr := wx) rfl _ _ rfl (w.heap.size + 1) (.slice sa acc.length sc) acc (L, ⟨#[c]⟩) #[.string L, .string ⟨#[c]⟩] rfl rfl HMX.out.R.r rfl (by omega) (by omega) ?_; intro g2 cap2 w2 ho2 hb2 hk2 hat2 hlt2; obtain ⟨d0, d1, d2, df⟩ := HMX.out.cells hk2 HMX.out.R.n0; have f2 := df 0 (by decide))
            have hM3 := HMX.out.put0 ho2 hb2 hk2 hat2
            rw [HPR.out] at hM3
            go_wp2
            go_roundw
            case rel => exact ⟨j + 1, us ++ [[c]], by omega, by go_num, by rw [HLS.out], _, _, pa, HPL.out, HNE2.out, HLT2.out, hM3⟩
            case measure => simp [intOf]; omega
        · have HPR : Hid (wbas (Km.preL [] us) ++ [((⟨(Km.lastL [] us).toArray⟩ : ByteArray), (⟨#[]⟩ : ByteArray))] = wbas (Km.chainL [] us)) := Lib.hid (by rw [Km.pre_chain]; simp [wbas])
          have hrl : (wbas (Km.chainL [] us)).length ≤ 7 := by rw [wbas_len, Km.chain_len]; omega
          generalize (⟨(Km.lastL [] us).toArray⟩ : ByteArray) = L at *
          generalize wbas (Km.preL [] us) = acc at *
          rcases (show (decide (j < l0.length) = false) ∨ (decide (j < l0.length) = true ∧ decide ((j : Int) < 6) = false) by simp; omega) with hd | ⟨hd, hd2⟩
          all_goals
            clear hgo
            go_wp2_with (at_builtin; refine wp_pushR kr_ok (wr := wr) rfl _ _ rfl (w.heap.size + 1) (.slice sa acc.length sc) acc (L, ⟨#[]⟩) #[.string L, .string ⟨#[]⟩] rfl rfl HM.out.R.r rfl (by omega) (by omega) ?_; intro g2 cap2 w2 ho2 hb2 hk2 hat2 hlt2; obtain ⟨d0, d1, d2, df⟩ := HM.out.cells hk2 HM.out.R.n0; have f2 := df 0 (by decide))
            have hM3 := HM.out.put0 ho2 hb2 hk2 hat2
            rw [HPR.out] at hM3
            have HMO : Hid (MdO w (w2.setCell ⟨w.heap.size + 1, 0, none⟩ (.slice (some ⟨g2, 0, none⟩) (acc.length + 1) cap2)) k 0 us) := Lib.hid ⟨_, _, _, [], pa, HPL.out, rfl, by simp, hM3⟩
            clear hM3 d0 d1 d2 df f2 ho2 hb2 hk2 hat2 hlt2 c0 c1 c2 hf HM HPR
            generalize w2.setCell ⟨w.heap.size + 1, 0, none⟩ (.slice (some ⟨g2, 0, none⟩) (acc.length + 1) cap2) = w3 at *
            have HUL : Hid (us.length ≤ 6) := Lib.hid (by omega)
            clear hd hlz hul hbs hol
            try clear hd2
            go_wp2_with fail
            go_loop [13, 14] (fun p i => ∃ m q : Nat, m ≤ k ∧ i = .int .i64 m ∧ p = .int .i64 (q : Int) ∧ q = 2 ^ m) (fun _ i => k - (intOf i).toNat)
            case atStart => exact ⟨0, 1, by omega, rfl, rfl, rfl⟩
            case round =>
              obtain ⟨m, q, hm, rfl, rfl, hq⟩ := hrel
              have hq6 : q ≤ 64 := by rw [hq]; exact Nat.pow_le_pow_right (n := 2) (by omega) (show m ≤ 6 by omega)
              have HQ := Lib.hid hq
              clear hq
              by_cases hlt : m < k
              · have hmi : (m : Int) < (k : Int) := by omega
                go_wp2
                go_round
                case rel => exact ⟨m + 1, q * 2, by omega, by go_num, by go_num, by rw [HQ.out, Nat.pow_succ]⟩
                case measure => simp [intOf]; omega
              · obtain rfl : m = k := by omega
                have hq2 : 2 ≤ q := by
                  have h2 := Nat.pow_le_pow_right (n := 2) (by omega) hN1
                  rw [HQ.out]
                  rwa [Nat.pow_one] at h2
                clear hm hlt
                go_wp2_with fail
                go_loopw [15] (fun i wr => ∃ x : Nat, x ≤ (wbas (Km.chainL [] us)).length ∧ i = .int .i64 x ∧ MdO w wr m x us) (fun i _ => (wbas (Km.chainL [] us)).length - (intOf i).toNat)
                case atStart => exact ⟨0, by omega, rfl, HMO.out⟩
                case round =>
                  clear HMO
                  obtain ⟨x, hx, rfl, v0, v1, v2, ow, pa2, hpl, how, hob, hM⟩ := hrel
                  have HM := Lib.hid hM
                  have HPL2 := Lib.hid hpl
                  have HOW := Lib.hid how
                  have HOB := Lib.hid hob
                  obtain ⟨c0, c1, c2, hf⟩ := hM.R.v
                  obtain ⟨ra, rc, rfl⟩ := hM.R.r.shape
                  obtain ⟨sa, sc, rfl⟩ := hM.R.o.shape
                  obtain ⟨ta, tc, rfl⟩ := hM.R.p.shape
                  dsimp only at c0 c1 c2 HM
                  have hbs := hM.R.v.lt
                  have hol : ow.length ≤ 7 := by omega
                  clear hM hpl how hob
                  generalize hrs : wbas (Km.chainL [] us) = rs at *
                  have HRS := Lib.hid hrs
                  clear hrs
                  by_cases hgo : x < rs.length
                  · have hgi : (x : Int) < (rs.length : Int) := by omega
                    have hsn : ∀ o : Int, 1 ≤ o → o < (q : Int) → ∀ y ∈ ow ++ [o], 1 ≤ y ∧ y < ((2 ^ m : Nat) : Int) := by
                      intro o h1 h2 y hy
                      rcases List.mem_append.1 hy with h3 | h3
                      · exact HOB.out y h3
                      · obtain rfl : y = o := by simpa using h3
                        rw [← HQ.out]
                        exact ⟨h1, h2⟩
                    have HSN := Lib.hid hsn
                    clear hsn
                    by_cases hown : x < l1.length
                    · have hoi : (x : Int) < (l1.length : Int) := by omega
                      obtain ⟨b, off, rfl, hbl, cc⟩ := (HI1.out.below HM.out.B).int x hown
                      have hz := HZ1.out _ (List.getElem_mem hown)
                      generalize l1[x] = z at cc hz
                      obtain ⟨hz1, hz2⟩ := hz
                      obtain ⟨ht1, ht2⟩ := tmod_bd z ((q : Int) - 1) (by omega)
                      generalize ht : z.tmod ((q : Int) - 1) = t at ht1 ht2
                      go_upto_region 27 with fail
                      have ho1 := Int.emod_nonneg (t + (q : Int) - 1) (b := (q : Int) - 1) (by omega)
                      have ho2 := Int.emod_lt_of_pos (t + (q : Int) - 1) (b := (q : Int) - 1) (by omega)
                      generalize (t + (q : Int) - 1) % ((q : Int) - 1) = o at *
                      clear ht ht1 ht2 cc
                      have HSN2 := Lib.hid (HSN.out (1 + o) (by omega) (by omega))
                      have HLN : Hid ((ow ++ [1 + o]).length = x + 1) := Lib.hid (by rw [List.length_append, HOW.out]; rfl)
                      go_wp2_with (at_builtin; refine wp_pushR ki_ok (wr := wr) rfl _ _ rfl (w.heap.size + 1) (.slice sa ow.length sc) ow (1 + o) #[.int .i64 (1 + o)] rfl rfl HM.out.R.o rfl (by omega) (by omega) ?_; intro g3 cap3 w4 hoo3 hb3 hk3 hat3 hlt3; obtain ⟨d0, d1, d2, df⟩ := HM.out.cells hk3 HM.out.R.n1; have f2 := df 1 (by decide))
                      have hM3 := HM.out.put1 hoo3 hb3 hk3 hat3
                      go_roundw
                      case rel => exact ⟨x + 1, by omega, by go_num, _, _, _, _, pa2, HPL2.out, HLN.out, HSN2.out, by rw [HRS.out]; exact hM3⟩
                      case measure => simp [intOf]; omega
                    · have hoi : ¬ (x : Int) < (l1.length : Int) := by omega
                      have HSN2 := Lib.hid (HSN.out 1 (by omega) (by omega))
                      have HLN : Hid ((ow ++ [1]).length = x + 1) := Lib.hid (by rw [List.length_append, HOW.out]; rfl)
                      go_wp2_with (at_builtin; refine wp_pushR ki_ok (wr := wr) rfl _ _ rfl (w.heap.size + 1) (.slice sa ow.length sc) ow 1 #[.int .i64 1] rfl rfl HM.out.R.o rfl (by omega) (by omega) ?_; intro g3 cap3 w4 hoo3 hb3 hk3 hat3 hlt3; obtain ⟨d0, d1, d2, df⟩ := HM.out.cells hk3 HM.out.R.n1; have f2 := df 1 (by decide))
                      have hM3 := HM.out.put1 hoo3 hb3 hk3 hat3
                      go_roundw
                      case rel => exact ⟨x + 1, by omega, by go_num, _, _, _, _, pa2, HPL2.out, HLN.out, HSN2.out, by rw [HRS.out]; exact hM3⟩
                      case measure => simp [intOf]; omega
                  · obtain rfl : x = rs.length := by omega
                    have hOK : tOk ⟨rs, ow, pa2⟩ = true := by
                      refine made_ok HE.out (by have := HUL.out; omega) HRS.out.symm (by rw [HPL2.out]; exact ⟨hN1, hN6⟩) HOW.out ?_
                      rw [HPL2.out]
                      exact HOB.out
                    have hsz : Szs rs := by rw [← HRS.out]; exact wbas_szs HE.out
                    obtain ⟨e1, e2, e3⟩ := HM.out.fin hsz
                    have HOK := Lib.hid hOK
                    have HE1 := Lib.hid e1
                    have HE3 := Lib.hid e3
                    have hfr := HM.out.V.f
                    have hv0 := HM.out.V.c0
                    have hv1 := HM.out.V.c1
                    have hv2 := HM.out.V.c2
                    have q0 := hfr 0 (by decide)
                    have q1 := hfr 1 (by decide)
                    have q2 := hfr 2 (by decide)
                    clear hOK hsz e1 e3 hfr
                    go_wp2
                    obtain ⟨r0, r1, r2, _⟩ := e2
                    refine bodyPost_ret (v := .agg #[.slice ra rs.length rc, .slice sa ow.length sc, .slice ta pa2.length tc]) (by simp [results, Try.results47, go_sem, r0, r1, r2]) rfl ⟨_, _, _, _, rfl, HE1.out, HOK.out, HE3.out⟩
end Go.Proofs.Ytllagelopdedfaa
