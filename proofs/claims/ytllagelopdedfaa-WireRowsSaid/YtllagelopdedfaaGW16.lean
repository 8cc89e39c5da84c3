/- Texts of this proof, one behind the other: RefTexts, WireRefRow, AppI, WireClone, PastSame, PastRefCheck. -/
import Derived.Test.YtllagelopdedfaaGW15
import Derived.Deep.QuietTactic
import Derived.BigQuiet
/- What the document's own Text answers. -/
namespace Go.Proofs.Ytllagelopdedfaa
open Go.RowKit
set_option linter.unusedVariables false

set_option maxRecDepth 100000 in
theorem refText (s : ByteArray) (w : World) (hs : s.size ≤ 1099511627776) :
    Calls Try.prog 66 #[.string s] w fun e w' => e = .returned (.string ⟨(Vm.enc s.size ++ s.data.toList).toArray⟩) ∧ Below w.heap.size w w' := by
  have hq := Vm.enc_len10 (n := s.size) (by omega)
  go_enter Try.func66, Try.ntmps66
  go_wp2_with (go_at_call 65; refine (refNumber s.size _ (by omega)).mono ?_; rintro e w2 ⟨rfl, hbel⟩)
  go_ret
  exact ⟨ret_str (str_add _ _), hbel⟩

end Go.Proofs.Ytllagelopdedfaa
/- What the document's RowBytes answers of a row that may be. -/
namespace Go.Proofs.Ytllagelopdedfaa
open Go.RowKit
set_option linter.unusedVariables false
set_option linter.unusedSimpArgs false

theorem encT_take (l : List (List UInt8)) (k : Nat) (h : k < l.length) : encT (l.take (k + 1)) = encT (l.take k) ++ txt l[k] := by
  unfold encT
  rw [List.take_succ_eq_append_getElem h, List.flatMap_append]
  simp
theorem encO_take (l : List Int) (k : Nat) (h : k < l.length) : encO (l.take (k + 1)) = encO (l.take k) ++ Vm.enc l[k].toNat := by
  unfold encO
  rw [List.take_succ_eq_append_getElem h, List.flatMap_append]
  simp
theorem encP_take (l : List Int) (k : Nat) (h : k < l.length) : encP (l.take (k + 1)) = encP (l.take k) ++ Vm.enc (l[k] + 1).toNat := by
  unfold encP
  rw [List.take_succ_eq_append_getElem h, List.flatMap_append]
  simp
theorem endsOf_len (rs : List (ByteArray × ByteArray)) : (endsOf rs).length = rs.length - 1 := by simp [endsOf]
theorem endsOf_get (rs : List (ByteArray × ByteArray)) (k : Nat) (h : k < (endsOf rs).length) (h' : k < rs.length) : (endsOf rs)[k] = rs[k].2.data.toList := by
  simp [endsOf]
theorem encT_step (rs : List (ByteArray × ByteArray)) (k : Nat) (h : k + 1 < rs.length) : encT ((endsOf rs).take (k + 1)) = encT ((endsOf rs).take k) ++ txt (rs[k]'(Nat.lt_of_succ_lt h)).2.data.toList := by
  have hle : k < (endsOf rs).length := by rw [endsOf_len]; omega
  rw [encT_take (endsOf rs) k hle, endsOf_get rs k hle (by omega)]
theorem txt_ba (q : ByteArray) : txt q.data.toList = (⟨(Vm.enc q.size ++ q.data.toList).toArray⟩ : ByteArray).data.toList := by
  have e : q.data.toList.length = q.size := rfl
  simp [txt, e]
theorem ba_cat (A B : ByteArray) : (A ++ B).data.toList = A.data.toList ++ B.data.toList := by simp
theorem okRw_small {c : Rw} (h : okRw c = true) : ∀ r ∈ c.rs, r.2.size ≤ 32 := by
  obtain ⟨_, h5, _, _⟩ := okRw_parts h
  obtain ⟨us, hu, hl⟩ := whole_chain h5
  intro r hr
  rw [hu] at hr
  exact (wbas_small hl r hr).2

set_option maxRecDepth 100000 in
set_option maxHeartbeats 1600000 in
theorem refRowBytes_any (c : Rw) (u0 u1 u2 : Value) (w : World) (hok : okRw c = true) (h : RwAt w u0 u1 u2 c) :
    Calls Try.prog 36 #[.agg #[u0, u1, u2]] w fun e w' => e = .returned (.string ⟨(rowB c).toArray⟩) ∧ Below w.heap.size w w' := by
  have hsm := okRw_small hok
  obtain ⟨⟨k1, k2, k3, k4⟩, k5, k6, k7⟩ := okRw_parts hok
  have hb1 : Below w.heap.size w (w.alloc (.cells #[u0, u1, u2] 25)) := balloc (Below.refl _ w) _
  have hA := VrP.new w u0 u1 u2 25
  obtain ⟨a0, p0, hu0, _, _, _, hi0⟩ := h.rs.below hb1
  obtain ⟨a1, p1, hu1, _, _, _, hi1⟩ := h.ow.below hb1
  obtain ⟨a2, p2, hu2, _, _, _, hi2⟩ := h.pa.below hb1
  subst hu0 hu1 hu2
  have hpos : 1 ≤ c.rs.length := by
    obtain ⟨us, hu, _⟩ := whole_chain k5
    rw [hu, wbas_len, Km.chain_len]
    omega
  obtain ⟨rs, ow, pa⟩ := c
  dsimp only at *
  have hrow : rowB ⟨rs, ow, pa⟩ = Vm.enc rs.length ++ (encT (endsOf rs) ++ (encO ow ++ (Vm.enc pa.length ++ encP pa))) := rfl
  rw [hrow]
  have hn0 := fun W => refNumber rs.length W (by omega)
  have hn1 := fun W => refNumber pa.length W (by omega)
  have l0 := Vm.enc_len10 (n := rs.length) (by omega)
  have l1 := Vm.enc_len10 (n := pa.length) (by omega)
  generalize Vm.enc rs.length = E0 at *
  generalize Vm.enc pa.length = E1 at *
  have v0 : IntKind.u64.wrap (rs.length : Int) = (rs.length : Int) := IntWalk.u64_in _ (by omega)
  have v1 : IntKind.u64.wrap (pa.length : Int) = (pa.length : Int) := IntWalk.u64_in _ (by omega)
  obtain ⟨F0, hF0⟩ : ∃ E : ByteArray, E = ⟨E0.toArray⟩ := ⟨_, rfl⟩
  obtain ⟨F1, hF1⟩ : ∃ E : ByteArray, E = ⟨E1.toArray⟩ := ⟨_, rfl⟩
  rw [← hF0] at hn0
  rw [← hF1] at hn1
  have HF0 : Hid (F0.data.toList = E0) := Lib.hid (by rw [hF0])
  have HF1 : Hid (F1.data.toList = E1) := Lib.hid (by rw [hF1])
  have s0 : F0.size ≤ 10 := by rw [hF0]; show (Array.size _) ≤ 10; rw [List.size_toArray]; exact l0
  have s1 : F1.size ≤ 10 := by rw [hF1]; show (Array.size _) ≤ 10; rw [List.size_toArray]; exact l1
  have HI0 := Lib.hid hi0
  have HI1 := Lib.hid hi1
  have HI2 := Lib.hid hi2
  have HSM := Lib.hid hsm
  have HK6 := Lib.hid k6
  have HK7 := Lib.hid k7
  have HK4 := Lib.hid k4
  have HBD := Lib.hid (And.intro k1 (And.intro k2 (And.intro k3 (And.intro hpos (And.intro s0 s1)))))
  clear k1 k2 k3 hpos s0 s1
  clear hF0 hF1 h hrow hi0 hi1 hi2 hsm k5 k6 k7 k4 hok l0 l1
  go_enter Try.func36, Try.ntmps36
  go_upto_region 1 with fail
  generalize w.alloc (.cells #[.slice a0 rs.length p0, .slice a1 ow.length p1, .slice a2 pa.length p2] 25) = w1 at *
  have HA := Lib.hid hA
  obtain ⟨x0, x1, x2, _⟩ := hA
  go_wp2_with fail
  refine (hn0 _).mono ?_
  rintro e w2 ⟨rfl, hb2⟩
  have HB1 := Lib.hid hb1
  have HV1 := Lib.hid v1
  clear x0 x1 x2 hb1 hn0 v0 v1
  have hel := endsOf_len rs
  have HEL := Lib.hid hel
  clear hel
  go_wp2
  go_loopw [4, 5] (fun s i wr => ∃ (k : Nat) (S : ByteArray), k + 1 ≤ rs.length ∧ i = .int .i64 k ∧ s = .string S ∧ S.data.toList = E0 ++ encT ((endsOf rs).take k) ∧ S.size ≤ 100 + 100 * k ∧ Below w1.heap.size w1 wr) (fun _ i _ => rs.length - (intOf i).toNat)
  case atStart => exact ⟨0, F0, by have := HBD.out; omega, rfl, rfl, by rw [HF0.out]; simp [encT], by have := HBD.out; omega, hb2⟩
  case round =>
    clear hb2
    obtain ⟨k, S, hk, rfl, rfl, hS, hsz, hbel⟩ := hrel
    obtain ⟨b1, b2, b3, b4, b5, b6⟩ := HBD.out
    have HS := Lib.hid hS
    clear hS
    have HWK : Hid (wrap64 ((k : Int) + 1) = (k : Int) + 1) := Lib.hid (by unfold wrap64; omega)
    have x0 := kc hbel HA.out.c0
    by_cases hlt : k + 1 < rs.length
    · have hT := encT_step rs k hlt
      have hk' : k < rs.length := Nat.lt_of_succ_lt hlt
      obtain ⟨g, o, rfl, _, c0, c1⟩ := RngIn.below (RowIn.rng HI0.out) hbel k hk'
      have hsm := HSM.out rs[k] (List.getElem_mem hk')
      generalize rs[k] = d at c0 c1 hT hsm
      obtain ⟨p, q⟩ := d
      dsimp only at c0 c1 hT hsm
      have htx := fun W => refText q W (by omega)
      obtain ⟨T, hTT⟩ : ∃ T : ByteArray, T = ⟨(Vm.enc q.size ++ q.data.toList).toArray⟩ := ⟨_, rfl⟩
      rw [← hTT] at htx
      have hTs : T.size ≤ 42 := by
        have := Vm.enc_len10 (n := q.size) (by omega)
        have e : q.data.toList.length = q.size := rfl
        rw [hTT]
        show (Array.size _) ≤ 42
        rw [List.size_toArray, List.length_append]
        omega
      have HT : Hid (encT ((endsOf rs).take (k + 1)) = encT ((endsOf rs).take k) ++ T.data.toList) := Lib.hid (by rw [hT, hTT, txt_ba])
      clear hTT hT
      have i0 : (0 : Int) ≤ (k : Int) := by omega
      have i1 : (k : Int) < (rs.length : Int) := by omega
      have i2 : decide ((k : Int) + 1 < (rs.length : Int)) = true := decide_eq_true (by omega)
      have n1 : ¬ 9223372036854775807 < S.size + T.size := by omega
      have HH := Lib.hid (And.intro hk (And.intro hsz (And.intro hlt hTs)))
      clear hlt hk hk' hsz hTs hsm
      clear b1 b2 b3 b4 b5 b6
      have wk := HWK.out
      go_wp2_with fail
      refine (htx _).mono ?_
      rintro e w3 ⟨rfl, hb3⟩
      go_wp2
      go_roundw
      case rel =>
        clear wk n1 i0 i1
        exact ⟨k + 1, _, by have := HH.out; omega, by rw [HWK.out]; rfl, rfl, by rw [HT.out, ba_cat, HS.out]; simp, by have := HH.out; simp; omega, hbel.trans (hb3.mono hbel.size)⟩
      case measure =>
        clear wk n1 i0 i1
        rw [HWK.out]; have := HH.out; simp [intOf]; omega
    · have i2 : decide ((k : Int) + 1 < (rs.length : Int)) = false := decide_eq_false (by omega)
      have HS1 : Hid (S.data.toList = E0 ++ encT (endsOf rs)) := Lib.hid (by rw [HS.out, List.take_of_length_le (by rw [HEL.out]; omega)])
      have hsz1 : S.size ≤ 1000 := by omega
      clear hlt HS hsz hk
      clear b1 b2 b3 b4 b5 b6
      have wk := HWK.out
      go_wp2
      clear wk
      go_loopw [4, 6] (fun s i wx => ∃ (j : Nat) (Z : ByteArray), j ≤ rs.length ∧ i = .int .i64 j ∧ s = .string Z ∧ Z.data.toList = E0 ++ encT (endsOf rs) ++ encO (ow.take j) ∧ Z.size ≤ 1000 + 100 * j ∧ Below w1.heap.size w1 wx) (fun _ i _ => rs.length - (intOf i).toNat)
      case atStart => exact ⟨0, S, by omega, rfl, rfl, by rw [HS1.out]; simp [encO], by omega, hbel⟩
      case round =>
        clear hbel x0 HS1 hsz1
        obtain ⟨j, Z, hj, rfl, rfl, hZ, hzz, hbel⟩ := hrel
        obtain ⟨b1, b2, b3, b4, b5, b6⟩ := HBD.out
        have HZ := Lib.hid hZ
        clear hZ
        have HWJ : Hid (wrap64 ((j : Int) + 1) = (j : Int) + 1) := Lib.hid (by unfold wrap64; omega)
        have x1 := kc hbel HA.out.c1
        by_cases hlt : j < rs.length
        · have hle : j < ow.length := by rw [HK4.out]; exact hlt
          have hT := encO_take ow j hle
          obtain ⟨g, o, rfl, _, c0⟩ := (HI1.out.below hbel).int j hle
          have hsm := HK7.out ow[j] (List.getElem_mem hle)
          generalize ow[j] = x at c0 hT hsm
          have hxx : x = ((x.toNat : Nat) : Int) := (Int.toNat_of_nonneg (by omega)).symm
          have hx63 : x.toNat ≤ 63 := by omega
          generalize x.toNat = y at hxx hT hx63
          subst hxx
          have htx := fun W => refNumber y W (by omega)
          have hTl := Vm.enc_len10 (n := y) (by omega)
          obtain ⟨T, hTT⟩ : ∃ T : ByteArray, T = ⟨(Vm.enc y).toArray⟩ := ⟨_, rfl⟩
          rw [← hTT] at htx
          have hTs : T.size ≤ 10 := by rw [hTT]; show (Array.size _) ≤ 10; rw [List.size_toArray]; exact hTl
          have HT : Hid (encO (ow.take (j + 1)) = encO (ow.take j) ++ T.data.toList) := Lib.hid (by rw [hT, hTT])
          clear hTT hT hTl hsm
          have hv : IntKind.u64.wrap (y : Int) = (y : Int) := IntWalk.u64_in _ (by omega)
          have i0 : (0 : Int) ≤ (j : Int) := by omega
          have i1 : (j : Int) < (rs.length : Int) := by omega
          have i2 : (j : Int) < (ow.length : Int) := by omega
          have n1 : ¬ 9223372036854775807 < Z.size + T.size := by omega
          have HH := Lib.hid (And.intro hj (And.intro hzz (And.intro hlt hTs)))
          clear hlt hle hzz hj hTs hx63
          clear b1 b2 b3 b4 b5 b6
          go_wp2_with fail
          refine (htx _).mono ?_
          rintro e w3 ⟨rfl, hb3⟩
          clear hv
          have wj := HWJ.out
          go_wp2
          go_roundw
          case rel =>
            clear wj n1 i0 i1
            exact ⟨j + 1, _, by have := HH.out; omega, by rw [HWJ.out]; rfl, rfl, by rw [HT.out, ba_cat, HZ.out]; simp, by have := HH.out; simp; omega, hbel.trans (hb3.mono hbel.size)⟩
          case measure =>
            clear wj n1 i0 i1
            rw [HWJ.out]; have := HH.out; simp [intOf]; omega
        · have i2 : ¬ (j : Int) < (rs.length : Int) := by omega
          have HZ1 : Hid (Z.data.toList = E0 ++ encT (endsOf rs) ++ encO ow) := Lib.hid (by rw [HZ.out, List.take_of_length_le (by rw [HK4.out]; omega)])
          have hzz1 : Z.size ≤ 2000 := by omega
          have n1 : ¬ 9223372036854775807 < Z.size + F1.size := by omega
          have x2 := kc hbel HA.out.c2
          clear hlt HZ hzz x1 hj
          have HZZ := Lib.hid hzz1
          clear hzz1
          clear b1 b2 b3 b4 b5 b6
          have v1 := HV1.out
          go_wp2_with fail
          refine (hn1 _).mono ?_
          rintro e w3 ⟨rfl, hb3⟩
          have hbel3 := hbel.trans (hb3.mono hbel.size)
          clear v1
          have HY0 : Hid ((Z ++ F1).data.toList = E0 ++ encT (endsOf rs) ++ encO ow ++ E1) := Lib.hid (by rw [ba_cat, HZ1.out, HF1.out])
          have hY0s : (Z ++ F1).size ≤ 2010 := by have := HBD.out; have := HZZ.out; simp; omega
          clear x2 hb3 hbel
          go_wp2
          go_loopw [4, 7] (fun s i wx => ∃ (m : Nat) (Y : ByteArray), m ≤ pa.length ∧ i = .int .i64 m ∧ s = .string Y ∧ Y.data.toList = E0 ++ encT (endsOf rs) ++ encO ow ++ E1 ++ encP (pa.take m) ∧ Y.size ≤ 3000 + 100 * m ∧ Below w1.heap.size w1 wx) (fun _ i _ => pa.length - (intOf i).toNat)
          case atStart => exact ⟨0, _, by omega, rfl, rfl, by rw [HY0.out]; simp [encP], by omega, hbel3⟩
          case round =>
            clear hbel3 HY0 hY0s n1 HZ1
            obtain ⟨m, Y, hm, rfl, rfl, hY, hys, hbel⟩ := hrel
            obtain ⟨b1, b2, b3, b4, b5, b6⟩ := HBD.out
            have HY := Lib.hid hY
            clear hY
            have HWM : Hid (wrap64 ((m : Int) + 1) = (m : Int) + 1) := Lib.hid (by unfold wrap64; omega)
            have x2 := kc hbel HA.out.c2
            by_cases hlt : m < pa.length
            · have hT := encP_take pa m hlt
              obtain ⟨g, o, rfl, _, c0⟩ := (HI2.out.below hbel).int m hlt
              have hsm := HK6.out pa[m] (List.getElem_mem hlt)
              generalize pa[m] = x at c0 hT hsm
              have hxx : x + 1 = (((x + 1).toNat : Nat) : Int) := (Int.toNat_of_nonneg (by omega)).symm
              have hx63 : (x + 1).toNat ≤ 63 := by omega
              generalize (x + 1).toNat = y at hxx hT hx63
              have htx := fun W => refNumber y W (by omega)
              have hTl := Vm.enc_len10 (n := y) (by omega)
              obtain ⟨T, hTT⟩ : ∃ T : ByteArray, T = ⟨(Vm.enc y).toArray⟩ := ⟨_, rfl⟩
              rw [← hTT] at htx
              have hTs : T.size ≤ 10 := by rw [hTT]; show (Array.size _) ≤ 10; rw [List.size_toArray]; exact hTl
              have HT : Hid (encP (pa.take (m + 1)) = encP (pa.take m) ++ T.data.toList) := Lib.hid (by rw [hT, hTT])
              have hv : IntKind.u64.wrap (wrap64 (x + 1)) = (y : Int) := by
                rw [show wrap64 (x + 1) = (y : Int) by unfold wrap64; omega]
                exact IntWalk.u64_in _ (by omega)
              clear hTT hT hTl hsm hxx
              have i0 : (0 : Int) ≤ (m : Int) := by omega
              have i1 : (m : Int) < (pa.length : Int) := by omega
              have n1 : ¬ 9223372036854775807 < Y.size + T.size := by omega
              have HH := Lib.hid (And.intro hm (And.intro hys (And.intro hlt hTs)))
              clear hlt hys hm hTs hx63
              clear b1 b2 b3 b4 b5 b6
              go_wp2_with fail
              refine (htx _).mono ?_
              rintro e w3 ⟨rfl, hb3⟩
              clear hv
              have wm := HWM.out
              go_wp2
              go_roundw
              case rel =>
                clear wm n1 i0 i1
                exact ⟨m + 1, _, by have := HH.out; omega, by rw [HWM.out]; rfl, rfl, by rw [HT.out, ba_cat, HY.out]; simp, by have := HH.out; simp; omega, hbel.trans (hb3.mono hbel.size)⟩
              case measure =>
                clear wm n1 i0 i1
                rw [HWM.out]; have := HH.out; simp [intOf]; omega
            · have i2 : ¬ (m : Int) < (pa.length : Int) := by omega
              obtain rfl : m = pa.length := by omega
              clear hys hlt hm
              clear b1 b2 b3 b4 b5 b6
              go_wp2
              go_ret
              exact ⟨ret_str (ba_inj (by rw [HY.out, List.take_length]; simp)), HB1.out.trans (hbel.mono HB1.out.size)⟩
end Go.Proofs.Ytllagelopdedfaa
/- A row of ints appended to a row of one's own. -/
namespace Go.Proofs.Ytllagelopdedfaa
open Go.RowKit
set_option linter.unusedVariables false
set_option linter.unusedSimpArgs false

theorem ki_news {w : World} {x : Addr} {l : List Int} (h : RowIn KI w (some x) l) : ∀ j u, (rV KI l)[j]? = some u → w.cell? (x.add j) = some u := by
  intro j u hj
  have hlt : j < (rV KI l).length := (List.getElem?_eq_some_iff.1 hj).1
  rw [rV_len ki_ok, show KI.sz = 1 from rfl, Nat.mul_one] at hlt
  obtain ⟨b, off, e, _, hc⟩ := h.int j hlt
  cases e
  have hg := rV_get ki_ok l j hlt 0 ki_ok.pos
  rw [show KI.sz = 1 from rfl, Nat.mul_one, Nat.add_zero, hj] at hg
  rw [Addr.add_lit, hc]
  exact hg.symm
theorem ki_one (l : List Int) : ∀ u ∈ rV KI l, u.oneCell' = true := by
  intro u hu
  simp only [rV, List.mem_flatMap] at hu
  obtain ⟨p, _, hp⟩ := hu
  exact ki_ok.one p u hp
theorem rV_app {α : Type} (K : RK α) (l m : List α) : rV K (l ++ m) = rV K l ++ rV K m := by simp [rV]
theorem wp_appI {ops : Array Oper} {rest : List Oper} {o : Oper} {a : Act} {Q : Exit → Act → World → Prop} {w : World} (hgd : o.guard = none) (s x : Operand)
    (hop : o.op = .call { callee := .builtin .append, args := #[s, x], argTypes := #[23, 23] })
    (base : Nat) (v u : Value) (l m : List Int) (hs : a.eval s = v) (hown : OwnR KI w base v l) (hx : a.eval x = u) (hu : RowAt KI w u m) (hl : l.length + m.length ≤ 1000000) (hbs : base ≤ w.heap.size)
    (h : ∀ v' w', OwnR KI w' base v' (l ++ m) → Below base w w' → KeptD v w w' → wpList Try.prog ops Q rest (a.put o.dst v') w') :
    wpList Try.prog ops Q (o :: rest) a w := by
  obtain ⟨i0, hi, hz0, hz1, hz2⟩ := info_parts ki_ok.inf
  obtain ⟨b, cap, rfl, hcap, hmx, hnil, hr⟩ := hu
  cases b with
  | some b =>
    refine wpList_append_own _ hgd s x 23 hop base 3 i0 _ 1 8 Try.underlying23 hi hz0 hz1 hz2 rfl (by decide) v l.length (rV KI l) hs hown b m.length cap (rV KI m) hx (rV_len ki_ok m) (ki_news hr) (ki_one m) (by unfold maxLen; omega) (by omega) hbs ?_
    intro v' w' ho hg hn
    exact h v' w' (by unfold OwnR; rw [rV_app, List.length_append]; exact ho) ((Below.refl base w).grown hg hbs (fun k hk => (hown.lt k hk).1)) (fun j hj hne => hg.block j hj (fun e => hne e.symm))
  | none =>
    have hc0 := hnil rfl
    obtain rfl : m = [] := List.length_eq_zero_iff.1 (by omega)
    subst hc0
    refine wpList_append_own_none hgd s x 23 hop base 3 i0 1 Try.underlying23 hi v l.length (rV KI l) hs hown hx ?_
    exact h v w (by rw [List.append_nil]; exact hown) (Below.refl _ _) (fun _ _ _ => rfl)

end Go.Proofs.Ytllagelopdedfaa
/- A row of ints appended to a row of one's own; what slices.Clone answers of ints. -/
namespace Go.Proofs.Ytllagelopdedfaa
open Go.RowKit
set_option linter.unusedVariables false
set_option linter.unusedSimpArgs false

set_option maxRecDepth 100000 in
set_option maxHeartbeats 1600000 in
theorem cloneI_any (v : Value) (l : List Int) (w : World) (hl : l.length ≤ 100000) (hr : RowAt KI w v l) :
    Calls Try.prog 54 #[v] w fun e w' => ∃ v', e = .returned v' ∧ OwnR KI w' w.heap.size v' l ∧ Below w.heap.size w w' := by
  have hq : ∀ (w : World) (a : Option Addr) (n c n' c' : Nat), (binOp .eql 23 (.slice a n c) (.slice none n' c')).run Try.prog w = .ok (.bool a.isNone) w := fun w a n c n' c' => Lib.run_eql_slice_nil w _ _ a n c n' c' Try.underlying23
  have HV := Lib.hid hr
  obtain ⟨a, cap, rfl, hcap, hmx, hnil, hr⟩ := hr
  cases a with
  | none =>
    have h0 := hnil rfl
    obtain rfl : l = [] := List.length_eq_zero_iff.1 (by omega)
    clear hr hnil
    go_enter Try.func54, Try.ntmps54
    go_wp2
    go_ret
    exact ⟨_, rfl, OwnR.nil _ _ _, Below.refl _ _⟩
  | some a =>
    have ho : OwnR KI (w.alloc (.cells #[] 3)) w.heap.size (.slice (some ⟨w.heap.size, 0, none⟩) 0 0) [] := World.ownsRow_made w #[] 0 (Nat.le_refl _) (Nat.zero_le _) (by simp)
    have HO := Lib.hid ho
    have HA := Lib.hid (HV.out.below (balloc (Below.refl w.heap.size w) (.cells #[] 3)))
    clear hr ho hnil
    go_enter Try.func54, Try.ntmps54
    go_wp2_with (at_builtin; refine wp_appI rfl _ _ rfl w.heap.size (.slice (some ⟨w.heap.size, 0, none⟩) 0 0) (.slice (some a) l.length cap) [] l rfl HO.out rfl HA.out (by simp; omega) (by simp) ?_; intro v' w1 ho1 hb1 hk1; obtain ⟨sa, sc, rfl⟩ := ho1.shape)
    go_ret
    exact ⟨_, rfl, by simpa using ho1, (balloc (Below.refl _ w) _).trans hb1⟩
end Go.Proofs.Ytllagelopdedfaa
/- What slices.Equal, past.Same and the document's Same answer. -/
namespace Go.Proofs.Ytllagelopdedfaa
open Go.RowKit
set_option linter.unusedVariables false

/-- Two dependencies compared as structs. -/
theorem eq_dep (w : World) (k : ByteArray) (n s : Int) (k' : ByteArray) (m t : Int) : (binOp .eql 148 (.agg #[.string k, .int .i64 n, .int .i64 s]) (.agg #[.string k', .int .i64 m, .int .i64 t])).run Try.prog w = .ok (.bool (decide (((k, n, s) : De) = (k', m, t)))) w := by
  rw [run_eql_struct, run_equalIn_agg w 9999 148 _ _ (by kernel_rfl) (by kernel_rfl)]
  unfold Program.fieldsOf
  rw [Try.underlying148]
  simp [go_sem, Try.underlying3, Try.underlying9]
  have hk : k.toList = k'.toList ↔ k = k' := by
    rw [Lib.toList_data, Lib.toList_data]
    exact ⟨fun h => ByteArray.ext (Array.toList_inj.1 h), fun h => by rw [h]⟩
  by_cases h1 : k = k' <;> by_cases h2 : n = m <;> by_cases h3 : s = t <;> simp [hk, h1, h2, h3]
theorem ne_dep (w : World) (k : ByteArray) (n s : Int) (k' : ByteArray) (m t : Int) : (binOp .neq 148 (.agg #[.string k, .int .i64 n, .int .i64 s]) (.agg #[.string k', .int .i64 m, .int .i64 t])).run Try.prog w = .ok (.bool (!decide (((k, n, s) : De) = (k', m, t)))) w := by
  have h := eq_dep w k n s k' m t
  rw [run_eql_struct] at h
  rw [run_neq_struct]
  generalize (Op.equalIn 10000 _ _ _).run _ _ = r at h
  cases r with
  | ok b w1 => simp at h ⊢; simp [h]
  | halt x w1 => simp at h
theorem bdrewN (w : World) (n : Nat) : Below w.heap.size w (w.drewN n) := ⟨rfl, rfl, rfl, Nat.le_refl _, fun _ _ => rfl⟩

set_option maxRecDepth 100000 in
set_option maxHeartbeats 1600000 in
theorem sliEqual_any (v1 v2 : Value) (l m : List De) (w : World) (hl : l.length ≤ 1000000) (h1 : DepAt w v1 l) (h2 : DepAt w v2 m) :
    Calls Try.prog 106 #[v1, v2] w fun e w' => e = .returned (.bool (decide (l = m))) ∧ Below w.heap.size w w' := by
  obtain ⟨a, ca, rfl, _, _, _, h1⟩ := h1
  obtain ⟨b, cb, rfl, _, _, _, h2⟩ := h2
  have HA := Lib.hid h1
  have HB := Lib.hid h2
  clear h1 h2
  by_cases hlen : l.length = m.length
  · rw [← hlen]
    have HN := Lib.hid hlen
    clear hlen
    have hnn : (l.length != l.length) = false := by simp
    have hni : ((l.length : Int) != (l.length : Int)) = false := by simp
    go_enter Try.func106, Try.ntmps106
    go_wp2
    go_loopw [13] (fun i wr => ∃ k n : Nat, k ≤ l.length ∧ i = .int .i64 k ∧ l.take k = m.take k ∧ wr = w.drewN n) (fun i _ => l.length - (intOf i).toNat)
    case atStart => exact ⟨0, 0, by omega, rfl, by simp, rfl⟩
    case round =>
      obtain ⟨k, n, hk, rfl, hst, rfl⟩ := hrel
      have HS := Lib.hid hst
      clear hst
      by_cases hlt : k < l.length
      · have hlm : k < m.length := by rw [← HN.out]; exact hlt
        obtain ⟨b1, o1, rfl, _, c10, c11, c12⟩ := HA.out k hlt
        obtain ⟨b2, o2, rfl, _, c20, c21, c22⟩ := HB.out k hlm
        have HL := Lib.hid (List.take_succ_eq_append_getElem hlt)
        have HM := Lib.hid (List.take_succ_eq_append_getElem hlm)
        have HNE : Hid (l[k] ≠ m[k] → l ≠ m) := Lib.hid (fun h e => h (by subst e; rfl))
        generalize l[k] = x at c10 c11 c12 HL HNE
        generalize m[k] = y at c20 c21 c22 HM HNE
        obtain ⟨x0, x1, x2⟩ := x
        obtain ⟨y0, y1, y2⟩ := y
        dsimp only at c10 c11 c12 c20 c21 c22
        have hne := fun w' => ne_dep w' x0 x1 x2 y0 y1 y2
        clear hlm
        by_cases hxy : ((x0, x1, x2) : De) = (y0, y1, y2)
        · have hd : (decide (((x0, x1, x2) : De) = (y0, y1, y2))) = true := by simpa using hxy
          rw [hd] at hne
          have HX := Lib.hid hxy
          clear hxy hd
          go_wp2_with fail
          go_quiet (fail)
          go_wp2
          go_roundw
          case rel => exact ⟨k + 1, _, by omega, by go_num, by rw [HL.out, HM.out, HS.out, HX.out], rfl⟩
          case measure => simp [intOf]; omega
        · have hd : (decide (((x0, x1, x2) : De) = (y0, y1, y2))) = false := by simpa using hxy
          rw [hd] at hne
          have HX := Lib.hid hxy
          clear hxy hd
          go_wp2_with fail
          go_quiet (fail)
          go_wp2
          go_ret
          exact ⟨ret_bool (decide_eq_false (HNE.out HX.out)).symm, bstep (bdrewN w _) (bdrewN _ _)⟩
      · obtain rfl : k = l.length := by omega
        have HE : Hid (l = m) := Lib.hid (by have h := HS.out; rw [List.take_of_length_le (Nat.le_refl _), HN.out, List.take_of_length_le (Nat.le_refl _)] at h; exact h)
        go_wp2
        go_ret
        exact ⟨ret_bool (decide_eq_true HE.out).symm, bdrewN w _⟩
  · have hnn : (l.length != m.length) = true := by simpa using hlen
    have hni : ((l.length : Int) != (m.length : Int)) = true := by simp; omega
    rw [show decide (l = m) = false from decide_eq_false (fun e => hlen (by rw [e]))]
    have hx : ¬ (l.length : Int) = (m.length : Int) := by omega
    go_enter Try.func106, Try.ntmps106
    go_wp2
    go_ret
    exact ⟨rfl, Below.refl _ _⟩

set_option maxRecDepth 100000 in
theorem same_any (v1 v2 : Value) (l m : List De) (w : World) (hl : l.length ≤ 1000000) (h1 : DepAt w v1 l) (h2 : DepAt w v2 m) :
    Calls Try.prog 84 #[v1, v2] w fun e w' => e = .returned (.bool (decide (l = m))) ∧ Below w.heap.size w w' := by
  have hcon := sliEqual_any v1 v2 l m w hl h1 h2
  generalize decide (l = m) = c at hcon ⊢
  obtain ⟨a, ca, rfl, _, _, _, _⟩ := h1
  obtain ⟨b, cb, rfl, _, _, _, _⟩ := h2
  go_enter Try.func84, Try.ntmps84
  go_wp2_with fail
  refine hcon.mono ?_
  rintro e w1 ⟨rfl, hb⟩
  go_wp2
  go_ret
  exact ⟨rfl, hb⟩
end Go.Proofs.Ytllagelopdedfaa
/- What the document's Check of pasts answers. -/
namespace Go.Proofs.Ytllagelopdedfaa
open Go.RowKit
set_option linter.unusedVariables false
set_option linter.unusedSimpArgs false

theorem folD_false {p : List De} {d : De} (h : okD d = false) : folD p d = false := by simp [folD, h]
theorem folD_nil {d : De} (h : okD d = true) : folD [] d = true := by simp [folD, h]
theorem folD_at {l : List De} {k : Nat} {d : De} (hk : k + 1 ≤ l.length) (h : okD d = true) : folD (l.take (k + 1)) d = klt (l[k]'(by omega)).1 d.1 := by
  unfold folD
  rw [h, Bool.true_and, List.take_succ_eq_append_getElem (by omega), List.getLast?_concat]

end Go.Proofs.Ytllagelopdedfaa
