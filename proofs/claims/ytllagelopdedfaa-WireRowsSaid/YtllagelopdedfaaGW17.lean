/- Texts of this proof, one behind the other: WireCheck, VaryNumber, StampRefBytes, Shelf, Build, PastBytes, PastRefBytes, WireBytesB. -/
import Derived.Test.YtllagelopdedfaaGW16
import Derived.Deep.DeepCutAuto
import Derived.Shelf.Strings.Builder1
import Derived.Test.YtllagelopdedfaaProg
import Derived.Lib.Builder
import Derived.Lib.Hide
import Derived.Deep.RegionHeld3
/- What wire.Check and the document's Check answer of a version. -/
namespace Go.Proofs.Ytllagelopdedfaa
open Go.RowKit
set_option linter.unusedVariables false
set_option linter.unusedSimpArgs false

/-- What is asked of a version that is given: no text is longer than a machine's, and its past is a row in memory. -/
structure WvOk (w : World) (v : Wv) (u : Value) : Prop where
  key : v.key.size ≤ 1099511627776
  val : v.val.size ≤ 1099511627776
  len : v.past.length ≤ 1000000
  szd : Szd v.past
  at_ : DepAt w u v.past
theorem WvOk.below {w w' : World} {v : Wv} {u : Value} (h : WvOk w v u) (hb : Below w.heap.size w w') : WvOk w' v u := ⟨h.key, h.val, h.len, h.szd, h.at_.below hb⟩
theorem WvOk.drew {w : World} {v : Wv} {u : Value} (h : WvOk w v u) : WvOk w.drew v u := ⟨h.key, h.val, h.len, h.szd, h.at_⟩
theorem ba_zero {s : ByteArray} (h : s.size = 0) : s = ⟨#[]⟩ := by
  obtain ⟨d⟩ := s
  have : d.size = 0 := h
  rw [Array.eq_empty_of_size_eq_zero this]
def vbW (v : Wv) : Bool := decide (v.val.size ≤ 32) && (decide (v.val.size = 0) || !v.gone)

set_option maxRecDepth 100000 in
set_option maxHeartbeats 1600000 in
theorem wcheck_any (v : Wv) (u : Value) (w : World) (hv : WvOk w v u) :
    Calls Try.prog 81 #[.agg (wvs v u)] w fun e w' => e = .returned (.bool (okW v)) ∧ Below w.heap.size w w' := by
  have hb0 : Below w.heap.size w (w.alloc (.cells (wvs v u) 70)) := balloc (Below.refl _ w) _
  have hV := VwP.new w v u 70
  have hO := hv.below hb0
  have hck := fun W => check_any v.key W (by have := hv.key; omega)
  have hsk := fun W => scheck_any v.st.1 v.st.2 W
  have hpk := fun W hW => pcheck_any u v.past W hv.len hv.szd hW
  obtain ⟨a, cp, hu, _⟩ := hv.at_
  have e0 : okW v = (vbW v && Km.chk v.key.data.toList && Sm.ok v.st.1 v.st.2 && chkD v.past) := rfl
  rw [e0]
  generalize Km.chk v.key.data.toList = kb at hck ⊢
  generalize Sm.ok v.st.1 v.st.2 = sb at hsk ⊢
  generalize chkD v.past = pb at hpk ⊢
  generalize hvb : vbW v = vb
  have HVB := Lib.hid hvb
  clear e0 hvb hv
  obtain ⟨key, val, gone, ⟨n, t⟩, past⟩ := v
  subst hu
  dsimp only [wvs] at *
  go_enter Try.func81, Try.ntmps81
  go_upto_region 1 with fail
  generalize w.alloc (.cells #[.string key, .string val, .bool gone, .int .i64 n, .int .i64 t, .slice a past.length cp] 70) = w1 at *
  have HO := Lib.hid hO
  have HB := Lib.hid hb0
  obtain ⟨c0, c1, c2, c3, c4, c5, _⟩ := id hV
  dsimp only at c0 c1 c2 c3 c4
  have HV := Lib.hid hV
  clear hO hb0 hV
  go_cut [3] (fun s3 wx => s3 = .bool vb ∧ wx = w1)
  case first =>
    by_cases hA : val.size ≤ 32
    · by_cases hB : val.size = 0
      · obtain rfl := ba_zero hB
        have : vb = true := by rw [← HVB.out]; rfl
        subst this
        go_wp2
        go_meet
        exact ⟨rfl, rfl⟩
      · have hd : decide ((val.size : Int) ≤ 32) = true := by simp; omega
        have hdi : (val.size : Int) ≤ 32 := by omega
        have hne : ¬ val.toList = [] := by rw [Lib.toList_data]; intro h; exact hB (by show val.data.toList.length = 0; rw [h]; rfl)
        have : vb = !gone := by rw [← HVB.out]; simp [vbW, hA, hB]
        subst this
        have hnb : val.toList.isEmpty = false := by simpa using hne
        clear hA hB HVB
        cases gone with
        | false =>
          go_wp2
          go_meet
          exact ⟨rfl, rfl⟩
        | true =>
          go_wp2
          go_meet
          exact ⟨rfl, rfl⟩
    · have hdi : ¬ (val.size : Int) ≤ 32 := by omega
      have : vb = false := by rw [← HVB.out]; simp [vbW, hA]
      subst this
      clear hA HVB
      go_wp2
      go_meet
      exact ⟨rfl, rfl⟩
  case rest =>
    obtain ⟨rfl, rfl⟩ := hcut
    clear HVB
    cases vb with
    | false =>
      go_wp2
      go_ret
      exact ⟨rfl, HB.out⟩
    | true =>
      go_wp2_with fail
      refine (hck _).mono ?_
      rintro e w2 ⟨rfl, hb2⟩
      cases kb with
      | false =>
        go_wp2
        go_ret
        exact ⟨rfl, bstep HB.out hb2⟩
      | true =>
        have hb3 := bstep HB.out hb2
        have c3' := kc hb2 c3
        have c4' := kc hb2 c4
        have c5' := kc hb2 c5
        have HO2 := Lib.hid (HO.out.below hb2)
        clear c0 c1 c2 c3 c4 c5 hck
        go_wp2_with fail
        refine (hsk _).mono ?_
        rintro e w3 ⟨rfl, hb4⟩
        cases sb with
        | false =>
          go_wp2
          go_ret
          exact ⟨rfl, bstep hb3 hb4⟩
        | true =>
          have c5'' := kc hb4 c5'
          have HO3 := Lib.hid (HO2.out.below hb4)
          have hb5 := bstep hb3 hb4
          clear c3' c4' c5'
          go_wp2_with fail
          refine (hpk _ HO3.out.at_).mono ?_
          rintro e w4 ⟨rfl, hb6⟩
          go_wp2
          go_ret
          exact ⟨rfl, bstep hb5 hb6⟩

end Go.Proofs.Ytllagelopdedfaa
/- What vary.Number and vary.Text answer. -/
namespace Go.Proofs.Ytllagelopdedfaa
open Go.RowKit

set_option maxRecDepth 100000 in
theorem number_any (n : Nat) (w : World) (hn : n < 18446744073709551616) :
    Calls Try.prog 88 #[.int .u64 n] w fun e w' => e = .returned (.string ⟨(Vm.enc n).toArray⟩) ∧ Below w.heap.size w w' := by
  have hu : U64s (w.alloc (.cells #[.int .u64 (n : Int)] 100)) (some ⟨w.heap.size, 0, none⟩) [n] := by
    refine ⟨by simpa using hn, fun i hi => ⟨_, _, rfl, ?_⟩⟩
    obtain rfl : i = 0 := by simpa using hi
    simp
  have he : encs [n] = Vm.enc n := by simp [encs]
  have HU := Lib.hid hu
  have HE := Lib.hid he
  clear hu he hn
  go_enter Try.func88, Try.ntmps88
  go_wp2_with (go_at_call 89; refine (join_at _ 1 1 [n] _ rfl HU.out (by simp)).mono ?_; rintro e w2 ⟨rfl, hbel⟩)
  go_ret
  refine ⟨ret_str (by rw [HE.out]), ?_⟩
  exact ((Below.refl _ w).alloc (Nat.le_refl _) _).trans (hbel.mono (by simp))

set_option maxRecDepth 100000 in
theorem text_any (s : ByteArray) (w : World) (hs : s.size ≤ 1099511627776) :
    Calls Try.prog 53 #[.string s] w fun e w' => e = .returned (.string ⟨(Vm.enc s.size ++ s.data.toList).toArray⟩) ∧ Below w.heap.size w w' := by
  have hq := Vm.enc_len10 (n := s.size) (by omega)
  go_enter Try.func53, Try.ntmps53
  go_wp2_with (go_at_call 88; refine (number_any s.size _ (by omega)).mono ?_; rintro e w2 ⟨rfl, hbel⟩)
  go_ret
  exact ⟨ret_str (str_add _ _), hbel⟩

end Go.Proofs.Ytllagelopdedfaa
/- What the document's own Bytes of stamps answers. -/
namespace Go.Proofs.Ytllagelopdedfaa
open Go.RowKit
set_option linter.unusedVariables false

end Go.Proofs.Ytllagelopdedfaa
/- Contracts of the library's own functions at this program, laid by the kit's own tool. -/
namespace Go.Proofs
open Go.Shelf
def Try.lays169_ren : Go.Shelf.Ren := ⟨fun | 169 => 56 | n => n, fun | 70 => 75 | 9 => 9 | 0 => 0 | 72 => 77 | 37 => 56 | 127 => 121 | 3 => 3 | 5 => 5 | n => n, fun | n => n⟩
theorem Try.lays169 : Go.Proofs.Lays.n169 Try.prog Try.lays169_ren := {
  mixed := by kernel_rfl
  f169 := Try.func56.trans (congrArg some (by kernel_rfl))
  t0 := Try.underlying0
  a0 := Try.isAgg0
  z0 := Try.sizeOf0
  v0 := Try.zeroValue0
  t3 := Try.underlying3
  a3 := Try.isAgg3
  z3 := Try.sizeOf3
  v3 := Try.zeroValue3
  t9 := Try.underlying9
  a9 := Try.isAgg9
  z9 := Try.sizeOf9
  v9 := Try.zeroValue9
  t37 := Try.underlying56
  a37 := Try.isAgg56
  z37 := Try.sizeOf56
  v37 := Try.zeroValue56
  t70 := Try.underlying75
  a70 := Try.isAgg75
  z70 := Try.sizeOf75
  v70 := Try.zeroValue75
  t72 := Try.underlying77
  a72 := Try.isAgg77
  z72 := Try.sizeOf77
  v72 := Try.zeroValue77
  t127 := Try.underlying121
  a127 := Try.isAgg121
  z127 := Try.sizeOf121
  v127 := Try.zeroValue121 }
theorem Try.Builder_Extra_169 : Builder.Extra Try.prog Try.lays169_ren := {
  sizeBuilder := by kernel_rfl
  liesBuilder := by kernel_rfl
  t5 := Try.underlying5
  a5 := Try.isAgg5
  z5 := Try.sizeOf5
  v5 := Try.zeroValue5
  infoByte := by kernel_rfl
  cellsByte := by kernel_rfl
  sizeByte := by kernel_rfl
  neB5 := by decide }
open Go.RowKit in
theorem Try.Builder_String (B b : Nat) (l : List UInt8) (w : World) (h : Lib.IsBuilder 77 5 B b (Lib.byteCells l) w) (h0 : l ≠ []) :
    Calls Try.prog 56 #[.pointer (some ⟨b, 0, none⟩)] w fun e w' => e = .returned (.string ⟨l.toArray⟩) ∧ Below B w w' := Any.Builder_String Try.lays169 Try.Builder_Extra_169 B b l w h h0
end Go.Proofs
/- What strings.Builder's copyCheck and WriteString do with a builder of the call's own. -/
namespace Go.Proofs.Ytllagelopdedfaa
open Go.RowKit
set_option linter.unusedVariables false
set_option linter.unusedSimpArgs false

theorem info_bld : (Try.prog.info? 77).map (·.size) = some 2 := by kernel_rfl
theorem lies_bld : liesAt Try.prog Try.prog.depth 77 (2 / Try.prog.cellsOf 77) 0 77 1 = true := by kernel_rfl
theorem info_byte : (Try.prog.info? 5).map (fun i => (i.zero, i.size, i.bytes)) = some (some (.int .u8 0), 1, 1) := by kernel_rfl
abbrev IsB (B b : Nat) (bs : List Value) (w : World) : Prop := Lib.IsBuilder 77 5 B b bs w

/-- Blocks but the builder's and its buffer's are as they were. -/
def KpB (b : Nat) (w w' : World) : Prop := ∀ j, j < w.heap.size → j ≠ b → (∀ v, w.cell? ⟨b, 1, none⟩ = some v → v.ownBlock ≠ some j) → w'.heap[j]? = w.heap[j]?
theorem isB_own {B b : Nat} {bs : List Value} {w : World} (h : IsB B b bs w) {v : Value} (hv : w.cell? ⟨b, 1, none⟩ = some v) {j : Nat} (hj : w.heap.size ≤ j) : v.ownBlock ≠ some j := by
  have key : ∀ p, Lib.BuilderAt 77 5 B b p bs w → v.ownBlock ≠ some j := by
    rintro p ⟨_, u, hb, ho, _⟩
    rw [Lib.cell_of_heap hb] at hv
    have e : u = v := by simpa using hv
    subst e
    intro e
    have := (ho.lt j e).2
    omega
  rcases h with h | h
  · exact key _ h
  · exact key _ h
theorem isB_lt {B b : Nat} {bs : List Value} {w : World} (h : IsB B b bs w) : b < w.heap.size := by
  rcases h with h | h
  · exact h.lt
  · exact h.lt

set_option maxHeartbeats 1000000 in
set_option maxRecDepth 100000 in
theorem copyCheck_used (b : Nat) (w : World) (h0 : w.cell? ⟨b, 0, none⟩ = some (.pointer (some ⟨b, 0, none⟩))) :
    Calls Try.prog 87 #[.pointer (some ⟨b, 0, none⟩)] w fun e w' => e = .returned (.tuple #[]) ∧ w' = w := by
  obtain ⟨j, hj, _⟩ := Option.map_eq_some_iff.1 info_bld
  go_enter Try.func87, Try.ntmps87
  go_wp2
  rw [Lib.run_neq_ptr_same w _ Try.underlying75 hj]
  go_wp2
  go_end0
  exact ⟨rfl, rfl⟩

set_option maxHeartbeats 1000000 in
set_option maxRecDepth 100000 in
theorem copyCheck_fresh (b : Nat) (w : World) (h0 : w.cell? ⟨b, 0, none⟩ = some (.pointer none)) (hsh : w.shape? b = some (77, 2)) (hfz : w.frozen? ⟨b, 0, none⟩ = false) :
    Calls Try.prog 87 #[.pointer (some ⟨b, 0, none⟩)] w fun e w' => e = .returned (.tuple #[]) ∧ w' = w.setCell ⟨b, 0, none⟩ (.pointer (some ⟨b, 0, none⟩)) := by
  obtain ⟨j, hj, hjs⟩ := Option.map_eq_some_iff.1 info_bld
  go_enter Try.func87, Try.ntmps87
  go_wp2
  rw [Lib.run_to_unsafe w ⟨b, 0, none⟩ Try.underlying75 Try.underlying149 hj (by rw [hjs]; decide) hsh (Nat.zero_lt_succ 1)]
  simp only [Result.andThen]
  rw [Oper.upon_value]
  go_wp2
  rw [run_callFunc_extern Try.func107 (by kernel_rfl) (by kernel_rfl) (by kernel_rfl) (e := Extern.AbiNoEscape.same) (by kernel_rfl)]
  rw [Lib.run_noEscape]
  simp only [Result.andThen]
  rw [Oper.upon_value]
  go_wp2
  rw [Lib.run_from_unsafe w ⟨b, 0, none⟩ Try.underlying149 Try.underlying75 hj hsh lies_bld]
  simp only [Result.andThen]
  rw [Oper.upon_value]
  go_wp2
  go_end0
  exact ⟨rfl, rfl⟩

theorem copyCheck_any (B b : Nat) (bs : List Value) (w : World) (h : IsB B b bs w) :
    Calls Try.prog 87 #[.pointer (some ⟨b, 0, none⟩)] w fun e w' => e = .returned (.tuple #[]) ∧ (Lib.BuilderAt 77 5 B b (.pointer (some ⟨b, 0, none⟩)) bs w' ∧ Below B w w' ∧ w'.heap.size = w.heap.size ∧ w'.cell? ⟨b, 1, none⟩ = w.cell? ⟨b, 1, none⟩ ∧ ∀ j, j ≠ b → w'.heap[j]? = w.heap[j]?) := by
  rcases h with h | h
  · refine (copyCheck_fresh b w h.cell0 h.shape h.frozen0).mono ?_
    rintro e w' ⟨rfl, rfl⟩
    exact ⟨rfl, h.used _, (Below.refl B w).setCell (p := ⟨b, 0, none⟩) h.1 _, by simp [World.setCell], World.cell?_setCell_other _ _ _ _ (by simp), fun j hj => Below.heap_setCell _ _ _ _ hj⟩
  · refine (copyCheck_used b w h.cell0).mono ?_
    rintro e w' ⟨rfl, rfl⟩
    exact ⟨rfl, h, Below.refl B _, rfl, rfl, fun _ _ => rfl⟩

set_option maxHeartbeats 1000000 in
set_option maxRecDepth 100000 in
/-- WriteString: the text's bytes behind those that are there. -/
theorem writeStr_any (B b : Nat) (bs : List Value) (s : ByteArray) (w : World) (h : IsB B b bs w) (hlen : bs.length + s.size ≤ 140737488355328) (hBw : B ≤ w.heap.size) :
    Calls Try.prog 52 #[.pointer (some ⟨b, 0, none⟩), .string s] w fun e w' => e = .returned (.tuple #[.int .i64 s.size, .nilIface]) ∧ (IsB B b (bs ++ Lib.strCells s) w' ∧ Below B w w' ∧ KpB b w w') := by
  obtain ⟨i0, hi, hz0, hz1, hz2⟩ := info_parts info_byte
  go_enter Try.func52, Try.ntmps52
  go_wp2_with fail
  refine (copyCheck_any B b bs _ h).mono ?_
  rintro e w1 ⟨rfl, h1, hb1, hsz1, hcl1, hkp1⟩
  have HK1 := Lib.hid hkp1
  have HC1 := Lib.hid hcl1
  clear hkp1 hcl1
  obtain ⟨hB, v, hbk, hown, hne⟩ := h1
  have c0 : w1.cell? ⟨b, 0, none⟩ = some (.pointer (some ⟨b, 0, none⟩)) := by rw [Lib.cell_of_heap hbk]; rfl
  have c1 : w1.cell? ⟨b, 1, none⟩ = some v := by rw [Lib.cell_of_heap hbk]; rfl
  go_wp2_with (at_builtin; refine Lib.wpList_append_own_string _ rfl _ _ 56 9 rfl B 5 i0 Try.underlying56 Try.underlying9 hi hz0 hz1 hz2 _ _ _ rfl hown s rfl ?c3 ?c4 ?c5 ?_)
  case c3 => unfold maxLen; omega
  case c4 => omega
  case c5 => have := hb1.size; omega
  intro v' w2 hown' hgrow _
  have hlt : b < w1.heap.size := by
    rcases Nat.lt_or_ge b w1.heap.size with h' | h'
    · exact h'
    · simp [Array.getElem?_eq_none h'] at hbk
  have hb2 : w2.heap[b]? = some (.cells #[.pointer (some ⟨b, 0, none⟩), v] 77 (0, 0)) := by
    rw [hgrow.block b hlt (fun e => hne e.symm)]
    exact hbk
  have d0 : w2.cell? ⟨b, 0, none⟩ = some (.pointer (some ⟨b, 0, none⟩)) := by rw [Lib.cell_of_heap hb2]; rfl
  have d1 : w2.cell? ⟨b, 1, none⟩ = some v := by rw [Lib.cell_of_heap hb2]; rfl
  have f1 : w2.frozen? ⟨b, 1, none⟩ = false := Lib.frozen_of_heap hb2 1
  obtain ⟨ao, n', cap, rfl⟩ : ∃ ao n' cap, v' = .slice ao n' cap := by
    rcases hown'.2 with ⟨hv, _⟩ | ⟨g, cap, cur, hv, _⟩
    · exact ⟨_, _, _, hv⟩
    · exact ⟨_, _, _, hv⟩
  go_wp2
  go_ret2
  refine ⟨rfl, ?_, ?_, ?_⟩
  · exact .inr (Lib.BuilderAt.put (T := 77) (e := 5) hB hb2 (bs' := bs ++ Lib.strCells s) (by simpa [Lib.strCells_length] using hown') (by decide))
  · exact (hb1.grown hgrow (by have := hb1.size; omega) (fun k hk => (hown.lt k hk).1)).setCell (p := ⟨b, 1, none⟩) hB _
  · intro j hj hjb hjo
    rw [Below.heap_setCell _ _ _ _ hjb, hgrow.block j (by omega) (fun e => hjo v (by rw [← HC1.out]; exact c1) e.symm)]
    exact HK1.out j hjb
end Go.Proofs.Ytllagelopdedfaa
/- What past.Bytes answers. -/
namespace Go.Proofs.Ytllagelopdedfaa
open Go.RowKit
set_option linter.unusedVariables false
set_option linter.unusedSimpArgs false

theorem own1_below {w w' : World} {base n : Nat} {e : TypeId} {v : Value} {xs : List Value} (h : w.ownsRow base e 1 v n xs) (hb : Below w.heap.size w w') : w'.ownsRow base e 1 v n xs := by
  refine ⟨h.1, ?_⟩
  rcases h.2 with h0 | ⟨g, cap, cur, rfl, hbg, hg, r⟩
  · exact .inl h0
  · exact .inr ⟨g, cap, cur, rfl, hbg, (hb.5 g (Array.getElem?_eq_some_iff.1 hg).1).trans hg, r⟩
theorem bldAt_below {T e : TypeId} {B b : Nat} {p : Value} {bs : List Value} {w w' : World} (h : Lib.BuilderAt T e B b p bs w) (hb : Below w.heap.size w w') : Lib.BuilderAt T e B b p bs w' := by
  obtain ⟨h1, v, h2, h3, h4⟩ := h
  exact ⟨h1, v, (hb.5 b (Array.getElem?_eq_some_iff.1 h2).1).trans h2, own1_below h3 hb, h4⟩
theorem isB_below {B b : Nat} {bs : List Value} {w w' : World} (h : IsB B b bs w) (hb : Below w.heap.size w w') : IsB B b bs w' := by
  rcases h with h | h
  · exact .inl (bldAt_below h hb)
  · exact .inr (bldAt_below h hb)
/-- A builder that was just laid. -/
theorem isB_new (w : World) {B : Nat} (h : B ≤ w.heap.size) : IsB B w.heap.size [] (w.alloc (.cells #[.pointer none, .slice none 0 0] 77)) :=
  .inl ⟨h, .slice none 0 0, heap_alloc_new w _, ⟨rfl, .inl ⟨rfl, rfl⟩⟩, by simp [Value.ownBlock]⟩
theorem writeB_any (B b : Nat) (l m : List UInt8) (w : World) (h : IsB B b (Lib.byteCells l) w) (hlen : l.length + m.length ≤ 140737488355328) (hBw : B ≤ w.heap.size) :
    Calls Try.prog 52 #[.pointer (some ⟨b, 0, none⟩), .string ⟨m.toArray⟩] w fun e w' => ∃ u1 u2, e = .returned (.tuple #[u1, u2]) ∧ IsB B b (Lib.byteCells (l ++ m)) w' ∧ Below B w w' ∧ KpB b w w' := by
  refine (writeStr_any B b (Lib.byteCells l) ⟨m.toArray⟩ w h (by rw [Lib.byteCells_length]; exact hlen) hBw).mono fun e w' ⟨he, h1, h2, h3⟩ => ⟨_, _, he, ?_, h2, h3⟩
  rw [Lib.byteCells_append]
  exact h1

set_option maxRecDepth 100000 in
set_option maxHeartbeats 3200000 in
theorem pbytes_any (v : Value) (l : List De) (w : World) (hl : l.length ≤ 1000000) (hz : Szd l) (hr : DepAt w v l) :
    Calls Try.prog 83 #[v] w fun e w' => e = .returned (.string ⟨(pbV l).toArray⟩) ∧ Below w.heap.size w w' := by
  have hchk := pcheck_any v l w hl hz hr
  have HV := Lib.hid hr
  obtain ⟨a, cap, rfl, _, _, _, hrr⟩ := hr
  have HR := Lib.hid hrr
  clear hrr hz
  cases hc : chkD l with
  | false =>
    have hp : pbV l = [] := by simp [pbV, hc]
    rw [hp]
    rw [hc] at hchk
    clear hc hp
    go_enter Try.func83, Try.ntmps83
    go_wp2_with fail
    refine hchk.mono ?_
    rintro e w1 ⟨rfl, hb1⟩
    go_wp2
    go_ret
    exact ⟨rfl, hb1⟩
  | true =>
    have hp : pbV l = Vm.enc l.length ++ pbody l := by simp [pbV, hc]
    rw [hp]
    rw [hc] at hchk
    obtain ⟨h24, hsrt⟩ := chkD_parts hc
    have HS := Lib.hid (srt_sizes hsrt)
    clear hc hp hsrt
    have hel := Vm.enc_len10 (n := l.length) (by omega)
    have HEN := Lib.hid (enc_ne l.length)
    have hnum := fun W => number_any l.length W (by omega)
    generalize Vm.enc l.length = en at hel HEN hnum ⊢
    go_enter Try.func83, Try.ntmps83
    go_wp2_with fail
    refine hchk.mono ?_
    rintro e w1 ⟨rfl, hb1⟩
    have hs1 := hb1.size
    have hB1 := isB_new w1 (B := w.heap.size) hs1
    have hbel1 : Below w.heap.size w (w1.alloc (.cells #[.pointer none, .slice none 0 0] 77)) := balloc hb1 _
    have hcv : (IntKind.u64.wrap (l.length : Int)) = (l.length : Int) := IntWalk.u64_in _ (by omega)
    go_wp2_with fail
    refine (hnum _).mono ?_
    rintro e w2 ⟨rfl, hb2⟩
    have hB2 := isB_below hB1 hb2
    have hbel2 := bstep hbel1 hb2
    clear hB1 hbel1 hb1 hnum hchk
    go_wp2_with fail
    refine (writeB_any w.heap.size w1.heap.size [] en w2 hB2 (by simp; omega) hbel2.size).mono ?_
    rintro e w3 ⟨u1, u2, rfl, hB3, hb3, _⟩
    have hbel3 := hbel2.trans hb3
    rw [List.nil_append] at hB3
    have HB3 := Lib.hid hB3
    clear hB2 hbel2 hb2 hb3 hB3
    go_wp2
    go_loopw [16] (fun i wr => ∃ k : Nat, k ≤ l.length ∧ i = .int .i64 k ∧ IsB w.heap.size w1.heap.size (Lib.byteCells (en ++ pbody (l.take k))) wr ∧ Below w.heap.size w wr) (fun i _ => l.length - (intOf i).toNat)
    case atStart => exact ⟨0, by omega, rfl, by simpa [pbody] using HB3.out, hbel3⟩
    case round =>
      obtain ⟨k, hk, rfl, hB, hbel⟩ := hrel
      have hbs := hbel.size
      have HB := Lib.hid hB
      clear hB
      by_cases hlt : k < l.length
      · obtain ⟨b, off, rfl, hbl, c0, c1, c2⟩ := HR.out.below hbel k hlt
        have HT := Lib.hid (pbody_take l k hlt)
        have hsz := HS.out l[k] (List.getElem_mem hlt)
        have hpl := pbody_len (l.take k) (fun d hd => HS.out d (List.mem_of_mem_take hd))
        have htl : (l.take k).length ≤ 24 := by simp; omega
        have hdl := dbytes_len hsz
        generalize l[k] = d at c0 c1 c2 HT hsz hdl
        obtain ⟨x, y, z⟩ := d
        dsimp only at c0 c1 c2 hsz
        have HD : Hid (dbytes (x, y, z) = (Vm.enc x.size ++ x.data.toList) ++ sbytes y z) := Lib.hid rfl
        have htx := fun W => text_any x W (by omega)
        generalize dbytes (x, y, z) = db at HT HD hdl
        generalize (Vm.enc x.size ++ x.data.toList) = tx at HD htx
        have hby := fun W => bytes_any y z W
        generalize sbytes y z = sb at HD hby
        have hdl2 : tx.length + sb.length ≤ 62 := by rw [HD.out, List.length_append] at hdl; omega
        generalize pbody (l.take k) = pb at HB HT hpl
        have hb1 : Below wr.heap.size wr (wr.alloc (.cells #[.string x, .int .i64 y, .int .i64 z] 148)) := balloc (Below.refl _ _) _
        have HBa := Lib.hid (isB_below HB.out hb1)
        have hV := VarD.new wr x y z 148
        have hki : (k : Int) < (l.length : Int) := by omega
        clear hdl
        go_wp2_with fail
        refine (htx _).mono ?_
        rintro e w4 ⟨rfl, hb4⟩
        have hV4 := hV.keep hb4
        have hb04 := bstep hb1 hb4
        have hB4 := isB_below HBa.out hb4
        have hs4 := hb04.size
        clear hV hb1 hb4 HBa
        have hVlt := hV4.lt
        have hwlt := isB_lt HB.out
        have HOW : Hid (∀ v, w4.cell? ⟨w1.heap.size, 1, none⟩ = some v → v.ownBlock ≠ some wr.heap.size) := Lib.hid (fun v hv => isB_own HB.out (by rw [hb04.cell (p := ⟨w1.heap.size, 1, none⟩) hwlt] at hv; exact hv) (Nat.le_refl _))
        go_wp2_with fail
        refine (writeB_any w.heap.size w1.heap.size (en ++ pb) tx w4 hB4 (by simp; omega) (by omega)).mono ?_
        rintro e w5 ⟨u1', u2', rfl, hB5, hb5, hk5⟩
        obtain ⟨d0, d1, d2, _, _, _⟩ := hV4.block (hk5 wr.heap.size hVlt (by omega) HOW.out)
        have hbel5 := (bstep hbel hb04).trans hb5
        clear hV4 hk5 HOW hB4
        go_wp2_with fail
        refine (hby _).mono ?_
        rintro e w6 ⟨rfl, hb6⟩
        have hB6 := isB_below hB5 hb6
        have hbel6 := bstep hbel5 hb6
        clear hB5
        go_wp2_with fail
        refine (writeB_any w.heap.size w1.heap.size (en ++ pb ++ tx) sb w6 hB6 (by simp; omega) hbel6.size).mono ?_
        rintro e w7 ⟨u1'', u2'', rfl, hB7, hb7, _⟩
        have HB7 := Lib.hid hB7
        clear hB7
        go_wp2
        go_roundw
        case rel => exact ⟨k + 1, by omega, by go_num, by rw [HT.out, HD.out]; simpa [List.append_assoc] using HB7.out, hbel6.trans hb7⟩
        case measure => simp [intOf]; omega
      · obtain rfl : k = l.length := by omega
        rw [List.take_length] at HB
        generalize hpb : pbody l = pb at HB
        have HPB := Lib.hid hpb
        clear hpb
        have hne : en ++ pb ≠ [] := by simp [HEN.out]
        go_wp2_with fail
        refine (Try.Builder_String w.heap.size w1.heap.size (en ++ pb) wr HB.out hne).mono ?_
        rintro e w6 ⟨rfl, hb6⟩
        go_wp2
        go_ret
        exact ⟨by rw [HPB.out]; rfl, hbel.trans hb6⟩
end Go.Proofs.Ytllagelopdedfaa
/- What the document's Bytes of a past answers. -/
namespace Go.Proofs.Ytllagelopdedfaa
open Go.RowKit
set_option linter.unusedVariables false
set_option linter.unusedSimpArgs false

theorem ba_size_list (S : ByteArray) : S.data.toList.length = S.size := rfl
theorem ba_app (S T : ByteArray) : (S ++ T).data.toList = S.data.toList ++ T.data.toList := by simp

end Go.Proofs.Ytllagelopdedfaa
/- What wire.Bytes and the document's Bytes answer of a version. -/
namespace Go.Proofs.Ytllagelopdedfaa
open Go.RowKit
set_option linter.unusedVariables false
set_option linter.unusedSimpArgs false

theorem keepV5 {W w' : World} {b : Nat} {x0 x1 x3 x4 x5 : Value} (hb : Below W.heap.size W w') (h : W.cell? ⟨b, 0, none⟩ = some x0 ∧ W.cell? ⟨b, 1, none⟩ = some x1 ∧ W.cell? ⟨b, 3, none⟩ = some x3 ∧ W.cell? ⟨b, 4, none⟩ = some x4 ∧ W.cell? ⟨b, 5, none⟩ = some x5) :
    w'.cell? ⟨b, 0, none⟩ = some x0 ∧ w'.cell? ⟨b, 1, none⟩ = some x1 ∧ w'.cell? ⟨b, 3, none⟩ = some x3 ∧ w'.cell? ⟨b, 4, none⟩ = some x4 ∧ w'.cell? ⟨b, 5, none⟩ = some x5 :=
  ⟨kc hb h.1, kc hb h.2.1, kc hb h.2.2.1, kc hb h.2.2.2.1, kc hb h.2.2.2.2⟩
/-- One int in new memory. -/
theorem RowAt.oneI (W : World) (g : Int) : RowAt KI (W.alloc (.cells #[.int .i64 g] KI.T)) (.slice (some ⟨W.heap.size, 0, none⟩) 1 1) [g] := by
  refine ⟨_, 1, rfl, by simp, by unfold maxLen; omega, by simp, fun i hi => ⟨W.heap.size, 0, rfl, by simp, fun j u hu => ?_⟩⟩
  obtain rfl : i = 0 := by simpa using hi
  have hj : j < 1 := by have := (List.getElem?_eq_some_iff.1 hu).1; simpa [KI] using this
  obtain rfl : j = 0 := by omega
  simp [KI] at hu ⊢
  exact hu
theorem RowAt.i0 (W : World) : RowAt KI (W.alloc (.cells #[.int .i64 0] 3)) (.slice (some ⟨W.heap.size, 0, none⟩) 1 1) [((0 : Nat) : Int)] := RowAt.oneI W 0
theorem RowAt.i1 (W : World) : RowAt KI (W.alloc (.cells #[.int .i64 1] 3)) (.slice (some ⟨W.heap.size, 0, none⟩) 1 1) [((1 : Nat) : Int)] := RowAt.oneI W 1
theorem numbers_one (v : Value) (g : Nat) (w : World) (hg : g ≤ 1000000) (hr : RowAt KI w v [(g : Int)]) :
    Calls Try.prog 55 #[v] w fun e w' => e = .returned (.string ⟨(Vm.enc g).toArray⟩) ∧ Below w.heap.size w w' := by
  have h := numbers_any v [(g : Int)] w (by simp) (by intro x hx; simp at hx; omega) hr
  rw [show encO [(g : Int)] = Vm.enc g by simp [encO]] at h
  exact h
theorem enc_le10 {n : Nat} (h : n < 18446744073709551616) : (Vm.enc n).length ≤ 10 := Vm.enc_len10 h
/-- What a version's parts make, as texts. -/
structure BytesW (v : Wv) (T1 G T2 U P : ByteArray) : Prop where
  eq : wbV v = T1.data.toList ++ G.data.toList ++ T2.data.toList ++ U.data.toList ++ P.data.toList
  s1 : T1.size ≤ 100
  s2 : G.size ≤ 100
  s3 : T2.size ≤ 100
  s4 : U.size ≤ 100
  s5 : P.size ≤ 10000
  t1 : T1 = ⟨(Vm.enc v.key.size ++ v.key.data.toList).toArray⟩
  t2 : G = ⟨(Vm.enc (gN v.gone)).toArray⟩
  t3 : T2 = ⟨(Vm.enc v.val.size ++ v.val.data.toList).toArray⟩
  t4 : U = ⟨(sbytes v.st.1 v.st.2).toArray⟩
  t5 : P = ⟨(pbV v.past).toArray⟩
theorem bytesW {v : Wv} (h : okW v = true) : ∃ T1 G T2 U P, BytesW v T1 G T2 U P := by
  obtain ⟨h1, h2, h3, h4, h5, h6, h7⟩ := okW_parts h
  have l1 := Vm.enc_len10 (n := v.key.size) (by omega)
  have l2 := Vm.enc_len10 (n := v.val.size) (by omega)
  have hg : gN v.gone ≤ 1 := by cases v.gone <;> simp [gN]
  have l3 := Vm.enc_len10 (n := gN v.gone) (by omega)
  have l4 := sbytes_len20 v.st.1 v.st.2
  have hp := chkD_parts h5
  have l5 := Vm.enc_len10 (n := v.past.length) (by omega)
  have l6 := pbody_len v.past (srt_sizes hp.2)
  have l7 : v.past.length * 62 ≤ 24 * 62 := Nat.mul_le_mul_right _ hp.1
  have k1 : v.key.data.toList.length = v.key.size := rfl
  have k2 : v.val.data.toList.length = v.val.size := rfl
  refine ⟨_, _, _, _, _, ?_, ?_, ?_, ?_, ?_, ?_, rfl, rfl, rfl, rfl, rfl⟩
  · rw [wbV_ok h]
    simp [wb0, txt]
  · show (Array.size _) ≤ 100
    rw [List.size_toArray, List.length_append]; omega
  · show (Array.size _) ≤ 100
    rw [List.size_toArray]; omega
  · show (Array.size _) ≤ 100
    rw [List.size_toArray, List.length_append]; omega
  · show (Array.size _) ≤ 100
    rw [List.size_toArray]; omega
  · show (Array.size _) ≤ 10000
    rw [List.size_toArray]
    unfold pbV
    rw [if_pos h5, List.length_append]
    omega
theorem add5 (T1 G T2 U P : ByteArray) : T1 ++ G ++ T2 ++ U ++ P = ⟨(T1.data.toList ++ G.data.toList ++ T2.data.toList ++ U.data.toList ++ P.data.toList).toArray⟩ := by
  apply ByteArray.ext
  simp

end Go.Proofs.Ytllagelopdedfaa
