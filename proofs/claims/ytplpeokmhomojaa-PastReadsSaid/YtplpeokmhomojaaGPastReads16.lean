/- PastReads, walked: any bytes are read as a past, or not. -/
import Derived.Test.YtplpeokmhomojaaGPastReads15
import Derived.Deep.DeepCutAuto
import Derived.Lib.ConvBytes
import Derived.Lib.SlBytesRow
import Derived.Lib.RabinKarpLaws
import Derived.StillTailTactics
import Derived.BigQuiet
namespace Go.Proofs.Ytplpeokmhomojaa
open Go.RowKit
set_option linter.unusedVariables false
set_option linter.unusedSimpArgs false

theorem conv_bytes (B : ByteArray) (w : World) : ∃ cp wb, (convert 9 43 (.string B)).run Try.prog w = .ok (.slice (some ⟨w.heap.size, 0, none⟩) B.size cp) wb ∧ Below w.heap.size w wb ∧ Lib.Bytes wb w.heap.size 0 B ∧ (∀ k, k < B.size → wb.frozen? ⟨w.heap.size, k, none⟩ = false) ∧ w.heap.size < wb.heap.size := by
  refine ⟨_, _, Lib.run_convert_string_bytes w _ _ 5 B Try.underlying9 Try.underlying43 Try.underlying5, ⟨rfl, rfl, rfl, by rw [Lib.bytesWorld_size]; omega, fun k hk => Lib.bytesWorld_at_old w _ B k hk⟩, ?_, ?_, by rw [Lib.bytesWorld_size]; omega⟩
  · intro i hi
    rw [Nat.zero_add, Lib.bytesWorld_cell w _ B i hi]
    congr 3
    rw [List.getD, byte_at B i hi]
    rfl
  · intro k hk
    simp [World.frozen?, Lib.bytesWorld_at_new, Lib.bytesCells]
    omega

theorem bidx (q : Int) (L : Nat) (h0 : 0 < L) (h1 : L ≤ 1600) : ∃ k : Nat, (wrap64 (q.tmod (L : Int) + (L : Int))).tmod (L : Int) = (k : Int) ∧ k < L := by
  have a1 := Int.tmod_lt_of_pos q (b := (L : Int)) (by omega)
  have a2 : -(L : Int) < q.tmod (L : Int) := by
    exact Int.lt_tmod_of_pos q (b := (L : Int)) (by omega)
  have a3 : wrap64 (q.tmod (L : Int) + (L : Int)) = q.tmod (L : Int) + (L : Int) := by unfold wrap64; omega
  rw [a3]
  have b1 := Int.tmod_lt_of_pos (q.tmod (L : Int) + (L : Int)) (b := (L : Int)) (by omega)
  have b2 := Int.tmod_nonneg (L : Int) (a := q.tmod (L : Int) + (L : Int)) (by omega)
  exact ⟨((q.tmod (L : Int) + (L : Int)).tmod (L : Int)).toNat, by omega, by omega⟩
theorem prL_len (s : List UInt8) (a : Int) : (prL (prD s a)).length ≤ 1000000 := by
  unfold prD
  cases rd s a with
  | none => simp [prL]
  | some x =>
    obtain ⟨n, e⟩ := x
    simp only
    split
    · simp [prL]
    · rename_i h24
      cases hg : goL s n [] e with
      | none => simp [finL, prL]
      | some y =>
        obtain ⟨l, e'⟩ := y
        obtain ⟨m, rfl, hm, _⟩ := goL_pre s n [] e l e' hg
        rw [finL]
        split
        · simp [prL]; omega
        · simp [prL]
theorem wrap_u8 (z : Int) : ∃ y : UInt8, IntKind.u8.wrap z = (y.toNat : Int) := by
  have h : IntKind.u8.wrap z = z % 256 := rfl
  refine ⟨UInt8.ofNat (z % 256).toNat, ?_⟩
  rw [h, UInt8.toNat_ofNat']
  omega
theorem xor_u8 (a b : Int) : ∃ y : UInt8, bits .xor .u8 a b = (y.toNat : Int) := by
  have e : bits .xor .u8 a b = IntKind.u8.wrap ((BitVec.ofInt 8 a ^^^ BitVec.ofInt 8 b).toNat : Nat) := rfl
  rw [e]
  exact wrap_u8 _
theorem bytes_put {w : World} {b : Nat} {B : ByteArray} (h : Lib.Bytes w b 0 B) {k : Nat} (hk : k < B.size) (x : UInt8) : ∃ S : ByteArray, S.size = B.size ∧ Lib.Bytes (w.setCell ⟨b, k, none⟩ (.int .u8 (x.toNat : Int))) b 0 S := by
  have hsz : ByteArray.size ⟨B.data.set k x hk⟩ = B.size := Array.size_set hk
  refine ⟨⟨B.data.set k x hk⟩, hsz, fun i hi => ?_⟩
  have hi' : i < B.size := by rw [← hsz]; exact hi
  rw [Nat.zero_add]
  have c0 := h i hi'
  rw [Nat.zero_add] at c0
  by_cases e : i = k
  · subst e
    rw [World.cell?_setCell_same _ _ _ c0]
    have : (⟨B.data.set i x hk⟩ : ByteArray)[i]'hi = x := by
      show (B.data.set i x hk)[i]'_ = x
      simp
    rw [this]
  · rw [World.cell?_setCell_other _ _ _ _ (by simp [e]), c0]
    have : (⟨B.data.set k x hk⟩ : ByteArray)[i]'hi = B[i]'hi' := by
      show (B.data.set k x hk)[i]'_ = B.data[i]'_
      rw [Array.getElem_set_ne]
      omega
    rw [this]

set_option maxRecDepth 100000 in
set_option maxHeartbeats 1600000 in
theorem walkPastReads (w : World) (v : Value) (l : List De) (hr : DepAt w v l) (hz : Szd l) (hi64 : ∀ d ∈ l, In64 d.2) (s : ByteArray) (hs : s.size ≤ maxLen) (q0 q1 q2 : Int) (hq0 : -9223372036854775808 ≤ q0 ∧ q0 ≤ 9223372036854775807) (hq1 : -9223372036854775808 ≤ q1 ∧ q1 ≤ 9223372036854775807) (hq2 : -9223372036854775808 ≤ q2 ∧ q2 ≤ 9223372036854775807) :
    Calls Try.prog 5 #[v, .string s, .agg #[.int .i64 q0, .int .i64 q1, .int .i64 q2]] w fun e w' => e = .returned (.bool true) ∧ Below w.heap.size w w' := by
  unfold maxLen at hs
  have HV := Lib.hid hr
  have hlen : l.length ≤ 9223372036854775807 := by
    obtain ⟨_, _, _, h1, h2, _⟩ := hr
    unfold maxLen at h2
    omega
  obtain ⟨ga, cap, rfl, hcap, hmx, _, _⟩ := hr
  have HZ := Lib.hid hz
  clear hz hi64
  have hml := mdD_len l
  have HS := Lib.hid (mdD_srt l)
  have hb0 : Below w.heap.size w (w.alloc (.cells #[.int .i64 q0, .int .i64 q1, .int .i64 q2] 42)) := balloc (Below.refl _ _) _
  have hQ0 := Var3.new w 42 (.int .i64 q0) (.int .i64 q1) (.int .i64 q2)
  go_enter Try.func5, Try.ntmps5
  go_wp2_with fail
  refine (pawake_any _).mono ?_
  rintro e w1 ⟨rfl, hb1⟩
  have hQ1 := hQ0.keep hb1
  have hbel1 := bstep hb0 hb1
  obtain ⟨c0, c1, c2, _, _, _⟩ := id hQ1
  clear hb0 hQ0 hb1
  go_upto_if 19 with (fail)
  go_cut [1] (fun s1 wx => ∃ C : ByteArray, C.size ≤ 60 ∧ s1 = .string C ∧ wx = w1)
  case first =>
    by_cases h6 : 60 < s.size
    · have h6i : (60 : Int) < (s.size : Int) := by omega
      go_wp2
      go_meet
      exact ⟨_, by simp; omega, rfl, rfl⟩
    · have h6i : ¬ (60 : Int) < (s.size : Int) := by omega
      go_wp2
      go_meet
      exact ⟨s, by omega, rfl, rfl⟩
  case rest =>
    obtain ⟨C, hC, rfl, rfl⟩ := hcut
    clear hs
    go_upto_if 27 with (fail)
    go_cut [1, 8] (fun s1 a8 wx => ∃ (S : ByteArray) (a : Int), S.size ≤ 2000 ∧ s1 = .string S ∧ a8 = .int .i64 a ∧ Below w.heap.size w wx)
    case first =>
      go_wp2_with fail
      · refine (made_any _ l wc hlen HZ.out (HV.out.below hbel1)).mono ?_
        rintro e w2 ⟨u, rfl, hp2, hb2⟩
        have hQ2 := hQ1.keep hb2
        have hbel2 := bstep hbel1 hb2
        clear hb2 HV HZ hQ1 hbel1
        generalize mdD l = p at hml HS hp2
        have HP2 := Lib.hid hp2
        obtain ⟨pa, pc, rfl, _, _, _, _⟩ := hp2
        obtain ⟨B, hB⟩ : ∃ B : ByteArray, B = ⟨(pbV p).toArray⟩ := ⟨_, rfl⟩
        have hBs : 0 < B.size ∧ B.size ≤ 1600 := by
          have hck : chkD p = true := by
            unfold chkD
            rw [decide_eq_true HS.out, Bool.and_true]
            simp
            omega
          have e1 : B.size = (pbV p).length := by rw [hB]; simp [ByteArray.size]
          have e2 : pbV p = Vm.enc p.length ++ pbody p := by simp [pbV, hck]
          have e3 := Vm.enc_len10 (n := p.length) (by omega)
          have e4 := Vm.enc_pos p.length
          have e5 := pbody_len p (srt_sizes HS.out)
          rw [e1, e2, List.length_append]
          omega
        have hpb := refPBytes_any _ p w2 (by omega) HS.out.szd HP2.out
        rw [← hB] at hpb
        clear hB
        obtain ⟨hB0, hB1⟩ := hBs
        go_wp2_with fail
        refine hpb.mono ?_
        rintro e w3 ⟨rfl, hb3⟩
        have hQ3 := hQ2.keep hb3
        have hbel3 := bstep hbel2 hb3
        obtain ⟨cp, wb, hcb, hb4, hby, hfr, hsz⟩ := conv_bytes B w3
        have hQ3l := lt_of_cellN hQ3.c0
        have hQ4 := hQ3.keep hb4
        have hbel4 := bstep hbel3 hb4
        have HBY := Lib.hid hby
        have HFR := Lib.hid hfr
        clear hpb hb3 hQ2 hbel2 hQ3 hbel3 hb4 hby hfr c0 c1 c2 HP2
        obtain ⟨c0, c1, c2, _, _, _⟩ := id hQ4
        have hBi : (0 : Int) < (B.size : Int) := by omega
        have hBz : ((B.size : Int) == 0) = false := beq_eq_false_iff_ne.2 (by omega)
        go_wp2_with fail
        obtain ⟨k, hk, hkl⟩ := bidx q2 B.size hB0 hB1
        rw [hk]
        clear hk hcb
        have hcell := HBY.out k hkl
        rw [Nat.zero_add] at hcell
        have hfro := HFR.out k hkl
        have hk0 : (0 : Int) ≤ (k : Int) := by omega
        have hk1 : (k : Int) < (B.size : Int) := by omega
        generalize B[k] = x at hcell
        go_still_tail 12, (by kernel_rfl)
        generalize hX : bits BinOp.xor IntKind.u8 _ _ = X
        obtain ⟨y, hy⟩ : ∃ y : UInt8, X = (y.toNat : Int) := by rw [← hX]; exact xor_u8 _ _
        clear hX
        subst hy
        obtain ⟨S, hS, hSB0⟩ := bytes_put (w := wb) (b := w3.heap.size) (B := B) HBY.out hkl y
        have hSB : Lib.Bytes (wb.setCell ⟨w3.heap.size, k, none⟩ (.int .u8 (y.toNat : Int))).drew w3.heap.size 0 S := fun i hi => hSB0 i hi
        have hcs := Lib.run_convert_whole (P := Try.prog) _ 43 5 9 Try.underlying43 Try.underlying5 Try.underlying9 w3.heap.size 0 S hSB cp
        rw [hS] at hcs
        have hn1 : ¬ 9223372036854775807 < S.size + C.size := by omega
        have hbel5 : Below w.heap.size w (wb.setCell ⟨w3.heap.size, k, none⟩ (.int .u8 (y.toNat : Int))).drew := (hbel4.setCell (p := ⟨w3.heap.size, k, none⟩) (Nat.le_of_lt hQ3l) _).drew
        have HB5 := Lib.hid hbel5
        have HSS := Lib.hid hS
        clear hbel5 hSB hSB0 HBY HFR hbel4 hS
        go_wp2
        go_meet
        exact ⟨S ++ C, 0, by have := HSS.out; simp; omega, rfl, rfl, HB5.out⟩
      · go_meet
        exact ⟨C, q0, by omega, rfl, rfl, hbel1⟩
    case rest =>
      obtain ⟨S, a, hS, rfl, rfl, hbel⟩ := hcut
      clear hQ1 hbel1 c0 c1 c2
      have hpr := pread_any S a
      have hrr := refPRead_any S a
      have HOK := Lib.hid (pr_ok S.data.toList a)
      have HRL := Lib.hid (prL_len S.data.toList a)
      generalize prD S.data.toList a = R at hpr hrr HOK HRL
      go_wp2_with fail
      refine (hpr _ (by omega)).mono ?_
      rintro e w2 ⟨u, rfl, hd2, hb2⟩
      have hbel2 := bstep hbel hb2
      have HD2 := Lib.hid hd2
      obtain ⟨pa, pc, rfl, _, _, _, _⟩ := hd2
      clear hpr hb2 hbel
      go_wp2_with fail
      refine (hrr _ (by omega)).mono ?_
      rintro e w3 ⟨u3, rfl, hd3, hb3⟩
      have hbel3 := bstep hbel2 hb3
      have HD3 := Lib.hid hd3
      obtain ⟨qa, qc, rfl, _, _, _, _⟩ := hd3
      have hb4 : Below w3.heap.size w3 (w3.alloc (.cells #[.slice qa (prL R).length qc, .int .i64 (prE R : Int)] 48)) := balloc (Below.refl _ _) _
      have hG4 := V2.new w3 48 (.slice qa (prL R).length qc) (.int .i64 (prE R : Int))
      have HD2' := Lib.hid ((HD2.out.below hb3).below hb4)
      have HD3' := Lib.hid (HD3.out.below hb4)
      have hbel4 := bstep hbel3 hb4
      clear hrr hb3 hbel2 hbel3 HD2 HD3 hb4
      have hRl : (prL R).length ≤ 1000000 := HRL.out
      go_wp2_with fail
      refine (refPSame_any _ _ (prL R) (prL R) _ hRl HD2'.out HD3'.out).mono ?_
      rintro e w5 ⟨rfl, hb5⟩
      rw [show decide (prL R = prL R) = true from decide_eq_true rfl]
      obtain ⟨g0, g1, _, _⟩ := hG4.keep hb5
      have HB5 := Lib.hid (bstep hbel4 hb5)
      clear hG4 hbel4 hb5
      go_wp2
      go_ret
      exact ⟨ret_bool (by rw [HOK.out]; exact beq_self_eq_true _), HB5.out⟩
end Go.Proofs.Ytplpeokmhomojaa
