/- Texts of this proof, one behind the other: Build, PastBytes, RefTexts, PastRefBytes, WireBytesB, WireBytes. -/
import Derived.Test.YtkaehjehpclgcaaGW16
import Derived.Lib.Builder
import Derived.Lib.Hide
import Derived.Deep.RegionHeld3
/- What strings.Builder's copyCheck and WriteString do with a builder of the call's own. -/
namespace Go.Proofs.Ytkaehjehpclgcaa
open Go.RowKit
set_option linter.unusedVariables false
set_option linter.unusedSimpArgs false

theorem info_bld : (Try.prog.info? 100).map (·.size) = some 2 := by kernel_rfl
theorem lies_bld : liesAt Try.prog Try.prog.depth 100 (2 / Try.prog.cellsOf 100) 0 100 1 = true := by kernel_rfl
theorem info_byte : (Try.prog.info? 5).map (fun i => (i.zero, i.size, i.bytes)) = some (some (.int .u8 0), 1, 1) := by kernel_rfl
abbrev IsB (B b : Nat) (bs : List Value) (w : World) : Prop := Lib.IsBuilder 100 5 B b bs w

/-- Blocks but the builder's and its buffer's are as they were. -/
def KpB (b : Nat) (w w' : World) : Prop := ∀ j, j < w.heap.size → j ≠ b → (∀ v, w.cell? ⟨b, 1, none⟩ = some v → v.ownBlock ≠ some j) → w'.heap[j]? = w.heap[j]?
theorem isB_own {B b : Nat} {bs : List Value} {w : World} (h : IsB B b bs w) {v : Value} (hv : w.cell? ⟨b, 1, none⟩ = some v) {j : Nat} (hj : w.heap.size ≤ j) : v.ownBlock ≠ some j := by
  have key : ∀ p, Lib.BuilderAt 100 5 B b p bs w → v.ownBlock ≠ some j := by
    rintro p ⟨_, u, hb, ho, _⟩
    rw [Lib.cell_of_heap hb] at hv
    have e : u = v := by simpa using hv
    subst e
    intro e
    have := (ho.lt j e).2
    omega
  rcases h with h | h
  · exact key _ h
  · exact key _ h
theorem isB_lt {B b : Nat} {bs : List Value} {w : World} (h : IsB B b bs w) : b < w.heap.size := by
  rcases h with h | h
  · exact h.lt
  · exact h.lt

set_option maxHeartbeats 1000000 in
set_option maxRecDepth 100000 in
theorem copyCheck_used (b : Nat) (w : World) (h0 : w.cell? ⟨b, 0, none⟩ = some (.pointer (some ⟨b, 0, none⟩))) :
    Calls Try.prog 88 #[.pointer (some ⟨b, 0, none⟩)] w fun e w' => e = .returned (.tuple #[]) ∧ w' = w := by
  obtain ⟨j, hj, _⟩ := Option.map_eq_some_iff.1 info_bld
  go_enter Try.func88, Try.ntmps88
  go_wp2
  rw [Lib.run_neq_ptr_same w _ Try.underlying98 hj]
  go_wp2
  go_end0
  exact ⟨rfl, rfl⟩

set_option maxHeartbeats 1000000 in
set_option maxRecDepth 100000 in
theorem copyCheck_fresh (b : Nat) (w : World) (h0 : w.cell? ⟨b, 0, none⟩ = some (.pointer none)) (hsh : w.shape? b = some (100, 2)) (hfz : w.frozen? ⟨b, 0, none⟩ = false) :
    Calls Try.prog 88 #[.pointer (some ⟨b, 0, none⟩)] w fun e w' => e = .returned (.tuple #[]) ∧ w' = w.setCell ⟨b, 0, none⟩ (.pointer (some ⟨b, 0, none⟩)) := by
  obtain ⟨j, hj, hjs⟩ := Option.map_eq_some_iff.1 info_bld
  go_enter Try.func88, Try.ntmps88
  go_wp2
  rw [Lib.run_to_unsafe w ⟨b, 0, none⟩ Try.underlying98 Try.underlying154 hj (by rw [hjs]; decide) hsh (Nat.zero_lt_succ 1)]
  simp only [Result.andThen]
  rw [Oper.upon_value]
  go_wp2
  rw [run_callFunc_extern Try.func99 (by kernel_rfl) (by kernel_rfl) (by kernel_rfl) (e := Extern.AbiNoEscape.same) (by kernel_rfl)]
  rw [Lib.run_noEscape]
  simp only [Result.andThen]
  rw [Oper.upon_value]
  go_wp2
  rw [Lib.run_from_unsafe w ⟨b, 0, none⟩ Try.underlying154 Try.underlying98 hj hsh lies_bld]
  simp only [Result.andThen]
  rw [Oper.upon_value]
  go_wp2
  go_end0
  exact ⟨rfl, rfl⟩

theorem copyCheck_any (B b : Nat) (bs : List Value) (w : World) (h : IsB B b bs w) :
    Calls Try.prog 88 #[.pointer (some ⟨b, 0, none⟩)] w fun e w' => e = .returned (.tuple #[]) ∧ (Lib.BuilderAt 100 5 B b (.pointer (some ⟨b, 0, none⟩)) bs w' ∧ Below B w w' ∧ w'.heap.size = w.heap.size ∧ w'.cell? ⟨b, 1, none⟩ = w.cell? ⟨b, 1, none⟩ ∧ ∀ j, j ≠ b → w'.heap[j]? = w.heap[j]?) := by
  rcases h with h | h
  · refine (copyCheck_fresh b w h.cell0 h.shape h.frozen0).mono ?_
    rintro e w' ⟨rfl, rfl⟩
    exact ⟨rfl, h.used _, (Below.refl B w).setCell (p := ⟨b, 0, none⟩) h.1 _, by simp [World.setCell], World.cell?_setCell_other _ _ _ _ (by simp), fun j hj => Below.heap_setCell _ _ _ _ hj⟩
  · refine (copyCheck_used b w h.cell0).mono ?_
    rintro e w' ⟨rfl, rfl⟩
    exact ⟨rfl, h, Below.refl B _, rfl, rfl, fun _ _ => rfl⟩

set_option maxHeartbeats 1000000 in
set_option maxRecDepth 100000 in
/-- WriteString: the text's bytes behind those that are there. -/
theorem writeStr_any (B b : Nat) (bs : List Value) (s : ByteArray) (w : World) (h : IsB B b bs w) (hlen : bs.length + s.size ≤ 140737488355328) (hBw : B ≤ w.heap.size) :
    Calls Try.prog 58 #[.pointer (some ⟨b, 0, none⟩), .string s] w fun e w' => e = .returned (.tuple #[.int .i64 s.size, .nilIface]) ∧ (IsB B b (bs ++ Lib.strCells s) w' ∧ Below B w w' ∧ KpB b w w') := by
  obtain ⟨i0, hi, hz0, hz1, hz2⟩ := info_parts info_byte
  go_enter Try.func58, Try.ntmps58
  go_wp2_with fail
  refine (copyCheck_any B b bs _ h).mono ?_
  rintro e w1 ⟨rfl, h1, hb1, hsz1, hcl1, hkp1⟩
  have HK1 := Lib.hid hkp1
  have HC1 := Lib.hid hcl1
  clear hkp1 hcl1
  obtain ⟨hB, v, hbk, hown, hne⟩ := h1
  have c0 : w1.cell? ⟨b, 0, none⟩ = some (.pointer (some ⟨b, 0, none⟩)) := by rw [Lib.cell_of_heap hbk]; rfl
  have c1 : w1.cell? ⟨b, 1, none⟩ = some v := by rw [Lib.cell_of_heap hbk]; rfl
  go_wp2_with (at_builtin; refine Lib.wpList_append_own_string _ rfl _ _ 33 9 rfl B 5 i0 Try.underlying33 Try.underlying9 hi hz0 hz1 hz2 _ _ _ rfl hown s rfl ?c3 ?c4 ?c5 ?_)
  case c3 => unfold maxLen; omega
  case c4 => omega
  case c5 => have := hb1.size; omega
  intro v' w2 hown' hgrow _
  have hlt : b < w1.heap.size := by
    rcases Nat.lt_or_ge b w1.heap.size with h' | h'
    · exact h'
    · simp [Array.getElem?_eq_none h'] at hbk
  have hb2 : w2.heap[b]? = some (.cells #[.pointer (some ⟨b, 0, none⟩), v] 100 (0, 0)) := by
    rw [hgrow.block b hlt (fun e => hne e.symm)]
    exact hbk
  have d0 : w2.cell? ⟨b, 0, none⟩ = some (.pointer (some ⟨b, 0, none⟩)) := by rw [Lib.cell_of_heap hb2]; rfl
  have d1 : w2.cell? ⟨b, 1, none⟩ = some v := by rw [Lib.cell_of_heap hb2]; rfl
  have f1 : w2.frozen? ⟨b, 1, none⟩ = false := Lib.frozen_of_heap hb2 1
  obtain ⟨ao, n', cap, rfl⟩ : ∃ ao n' cap, v' = .slice ao n' cap := by
    rcases hown'.2 with ⟨hv, _⟩ | ⟨g, cap, cur, hv, _⟩
    · exact ⟨_, _, _, hv⟩
    · exact ⟨_, _, _, hv⟩
  go_wp2
  go_ret2
  refine ⟨rfl, ?_, ?_, ?_⟩
  · exact .inr (Lib.BuilderAt.put (T := 100) (e := 5) hB hb2 (bs' := bs ++ Lib.strCells s) (by simpa [Lib.strCells_length] using hown') (by decide))
  · exact (hb1.grown hgrow (by have := hb1.size; omega) (fun k hk => (hown.lt k hk).1)).setCell (p := ⟨b, 1, none⟩) hB _
  · intro j hj hjb hjo
    rw [Below.heap_setCell _ _ _ _ hjb, hgrow.block j (by omega) (fun e => hjo v (by rw [← HC1.out]; exact c1) e.symm)]
    exact HK1.out j hjb
end Go.Proofs.Ytkaehjehpclgcaa
/- What past.Bytes answers. -/
namespace Go.Proofs.Ytkaehjehpclgcaa
open Go.RowKit
set_option linter.unusedVariables false
set_option linter.unusedSimpArgs false

theorem own1_below {w w' : World} {base n : Nat} {e : TypeId} {v : Value} {xs : List Value} (h : w.ownsRow base e 1 v n xs) (hb : Below w.heap.size w w') : w'.ownsRow base e 1 v n xs := by
  refine ⟨h.1, ?_⟩
  rcases h.2 with h0 | ⟨g, cap, cur, rfl, hbg, hg, r⟩
  · exact .inl h0
  · exact .inr ⟨g, cap, cur, rfl, hbg, (hb.5 g (Array.getElem?_eq_some_iff.1 hg).1).trans hg, r⟩
theorem bldAt_below {T e : TypeId} {B b : Nat} {p : Value} {bs : List Value} {w w' : World} (h : Lib.BuilderAt T e B b p bs w) (hb : Below w.heap.size w w') : Lib.BuilderAt T e B b p bs w' := by
  obtain ⟨h1, v, h2, h3, h4⟩ := h
  exact ⟨h1, v, (hb.5 b (Array.getElem?_eq_some_iff.1 h2).1).trans h2, own1_below h3 hb, h4⟩
theorem isB_below {B b : Nat} {bs : List Value} {w w' : World} (h : IsB B b bs w) (hb : Below w.heap.size w w') : IsB B b bs w' := by
  rcases h with h | h
  · exact .inl (bldAt_below h hb)
  · exact .inr (bldAt_below h hb)
/-- A builder that was just laid. -/
theorem isB_new (w : World) {B : Nat} (h : B ≤ w.heap.size) : IsB B w.heap.size [] (w.alloc (.cells #[.pointer none, .slice none 0 0] 100)) :=
  .inl ⟨h, .slice none 0 0, heap_alloc_new w _, ⟨rfl, .inl ⟨rfl, rfl⟩⟩, by simp [Value.ownBlock]⟩
theorem writeB_any (B b : Nat) (l m : List UInt8) (w : World) (h : IsB B b (Lib.byteCells l) w) (hlen : l.length + m.length ≤ 140737488355328) (hBw : B ≤ w.heap.size) :
    Calls Try.prog 58 #[.pointer (some ⟨b, 0, none⟩), .string ⟨m.toArray⟩] w fun e w' => ∃ u1 u2, e = .returned (.tuple #[u1, u2]) ∧ IsB B b (Lib.byteCells (l ++ m)) w' ∧ Below B w w' ∧ KpB b w w' := by
  refine (writeStr_any B b (Lib.byteCells l) ⟨m.toArray⟩ w h (by rw [Lib.byteCells_length]; exact hlen) hBw).mono fun e w' ⟨he, h1, h2, h3⟩ => ⟨_, _, he, ?_, h2, h3⟩
  rw [Lib.byteCells_append]
  exact h1

set_option maxRecDepth 100000 in
set_option maxHeartbeats 3200000 in
theorem pbytes_any (v : Value) (l : List De) (w : World) (hl : l.length ≤ 1000000) (hz : Szd l) (hr : DepAt w v l) :
    Calls Try.prog 37 #[v] w fun e w' => e = .returned (.string ⟨(pbV l).toArray⟩) ∧ Below w.heap.size w w' := by
  have hchk := pcheck_any v l w hl hz hr
  have HV := Lib.hid hr
  obtain ⟨a, cap, rfl, _, _, _, hrr⟩ := hr
  have HR := Lib.hid hrr
  clear hrr hz
  cases hc : chkD l with
  | false =>
    have hp : pbV l = [] := by simp [pbV, hc]
    rw [hp]
    rw [hc] at hchk
    clear hc hp
    go_enter Try.func37, Try.ntmps37
    go_wp2_with fail
    refine hchk.mono ?_
    rintro e w1 ⟨rfl, hb1⟩
    go_wp2
    go_ret
    exact ⟨rfl, hb1⟩
  | true =>
    have hp : pbV l = Vm.enc l.length ++ pbody l := by simp [pbV, hc]
    rw [hp]
    rw [hc] at hchk
    obtain ⟨h24, hsrt⟩ := chkD_parts hc
    have HS := Lib.hid (srt_sizes hsrt)
    clear hc hp hsrt
    have hel := Vm.enc_len10 (n := l.length) (by omega)
    have HEN := Lib.hid (enc_ne l.length)
    have hnum := fun W => number_any l.length W (by omega)
    generalize Vm.enc l.length = en at hel HEN hnum ⊢
    go_enter Try.func37, Try.ntmps37
    go_wp2_with fail
    refine hchk.mono ?_
    rintro e w1 ⟨rfl, hb1⟩
    have hs1 := hb1.size
    have hB1 := isB_new w1 (B := w.heap.size) hs1
    have hbel1 : Below w.heap.size w (w1.alloc (.cells #[.pointer none, .slice none 0 0] 100)) := balloc hb1 _
    have hcv : (IntKind.u64.wrap (l.length : Int)) = (l.length : Int) := IntWalk.u64_in _ (by omega)
    go_wp2_with fail
    refine (hnum _).mono ?_
    rintro e w2 ⟨rfl, hb2⟩
    have hB2 := isB_below hB1 hb2
    have hbel2 := bstep hbel1 hb2
    clear hB1 hbel1 hb1 hnum hchk
    go_wp2_with fail
    refine (writeB_any w.heap.size w1.heap.size [] en w2 hB2 (by simp; omega) hbel2.size).mono ?_
    rintro e w3 ⟨u1, u2, rfl, hB3, hb3, _⟩
    have hbel3 := hbel2.trans hb3
    rw [List.nil_append] at hB3
    have HB3 := Lib.hid hB3
    clear hB2 hbel2 hb2 hb3 hB3
    go_wp2
    go_loopw [16] (fun i wr => ∃ k : Nat, k ≤ l.length ∧ i = .int .i64 k ∧ IsB w.heap.size w1.heap.size (Lib.byteCells (en ++ pbody (l.take k))) wr ∧ Below w.heap.size w wr) (fun i _ => l.length - (intOf i).toNat)
    case atStart => exact ⟨0, by omega, rfl, by simpa [pbody] using HB3.out, hbel3⟩
    case round =>
      obtain ⟨k, hk, rfl, hB, hbel⟩ := hrel
      have hbs := hbel.size
      have HB := Lib.hid hB
      clear hB
      by_cases hlt : k < l.length
      · obtain ⟨b, off, rfl, hbl, c0, c1, c2⟩ := HR.out.below hbel k hlt
        have HT := Lib.hid (pbody_take l k hlt)
        have hsz := HS.out l[k] (List.getElem_mem hlt)
        have hpl := pbody_len (l.take k) (fun d hd => HS.out d (List.mem_of_mem_take hd))
        have htl : (l.take k).length ≤ 24 := by simp; omega
        have hdl := dbytes_len hsz
        generalize l[k] = d at c0 c1 c2 HT hsz hdl
        obtain ⟨x, y, z⟩ := d
        dsimp only at c0 c1 c2 hsz
        have HD : Hid (dbytes (x, y, z) = (Vm.enc x.size ++ x.data.toList) ++ sbytes y z) := Lib.hid rfl
        have htx := fun W => text_any x W (by omega)
        generalize dbytes (x, y, z) = db at HT HD hdl
        generalize (Vm.enc x.size ++ x.data.toList) = tx at HD htx
        have hby := fun W => bytes_any y z W
        generalize sbytes y z = sb at HD hby
        have hdl2 : tx.length + sb.length ≤ 62 := by rw [HD.out, List.length_append] at hdl; omega
        generalize pbody (l.take k) = pb at HB HT hpl
        have hb1 : Below wr.heap.size wr (wr.alloc (.cells #[.string x, .int .i64 y, .int .i64 z] 58)) := balloc (Below.refl _ _) _
        have HBa := Lib.hid (isB_below HB.out hb1)
        have hV := VarD.new wr x y z 58
        have hki : (k : Int) < (l.length : Int) := by omega
        clear hdl
        go_wp2_with fail
        refine (htx _).mono ?_
        rintro e w4 ⟨rfl, hb4⟩
        have hV4 := hV.keep hb4
        have hb04 := bstep hb1 hb4
        have hB4 := isB_below HBa.out hb4
        have hs4 := hb04.size
        clear hV hb1 hb4 HBa
        have hVlt := hV4.lt
        have hwlt := isB_lt HB.out
        have HOW : Hid (∀ v, w4.cell? ⟨w1.heap.size, 1, none⟩ = some v → v.ownBlock ≠ some wr.heap.size) := Lib.hid (fun v hv => isB_own HB.out (by rw [hb04.cell (p := ⟨w1.heap.size, 1, none⟩) hwlt] at hv; exact hv) (Nat.le_refl _))
        go_wp2_with fail
        refine (writeB_any w.heap.size w1.heap.size (en ++ pb) tx w4 hB4 (by simp; omega) (by omega)).mono ?_
        rintro e w5 ⟨u1', u2', rfl, hB5, hb5, hk5⟩
        obtain ⟨d0, d1, d2, _, _, _⟩ := hV4.block (hk5 wr.heap.size hVlt (by omega) HOW.out)
        have hbel5 := (bstep hbel hb04).trans hb5
        clear hV4 hk5 HOW hB4
        go_wp2_with fail
        refine (hby _).mono ?_
        rintro e w6 ⟨rfl, hb6⟩
        have hB6 := isB_below hB5 hb6
        have hbel6 := bstep hbel5 hb6
        clear hB5
        go_wp2_with fail
        refine (writeB_any w.heap.size w1.heap.size (en ++ pb ++ tx) sb w6 hB6 (by simp; omega) hbel6.size).mono ?_
        rintro e w7 ⟨u1'', u2'', rfl, hB7, hb7, _⟩
        have HB7 := Lib.hid hB7
        clear hB7
        go_wp2
        go_roundw
        case rel => exact ⟨k + 1, by omega, by go_num, by rw [HT.out, HD.out]; simpa [List.append_assoc] using HB7.out, hbel6.trans hb7⟩
        case measure => simp [intOf]; omega
      · obtain rfl : k = l.length := by omega
        rw [List.take_length] at HB
        generalize hpb : pbody l = pb at HB
        have HPB := Lib.hid hpb
        clear hpb
        have hne : en ++ pb ≠ [] := by simp [HEN.out]
        go_wp2_with fail
        refine (Try.Builder_String w.heap.size w1.heap.size (en ++ pb) wr HB.out hne).mono ?_
        rintro e w6 ⟨rfl, hb6⟩
        go_wp2
        go_ret
        exact ⟨by rw [HPB.out]; rfl, hbel.trans hb6⟩
end Go.Proofs.Ytkaehjehpclgcaa
/- What the document's own Text answers. -/
namespace Go.Proofs.Ytkaehjehpclgcaa
open Go.RowKit
set_option linter.unusedVariables false

set_option maxRecDepth 100000 in
theorem refText (s : ByteArray) (w : World) (hs : s.size ≤ 1099511627776) :
    Calls Try.prog 38 #[.string s] w fun e w' => e = .returned (.string ⟨(Vm.enc s.size ++ s.data.toList).toArray⟩) ∧ Below w.heap.size w w' := by
  have hq := Vm.enc_len10 (n := s.size) (by omega)
  go_enter Try.func38, Try.ntmps38
  go_wp2_with (go_at_call 39; refine (refNumber s.size _ (by omega)).mono ?_; rintro e w2 ⟨rfl, hbel⟩)
  go_ret
  exact ⟨ret_str (str_add _ _), hbel⟩

end Go.Proofs.Ytkaehjehpclgcaa
/- What the document's Bytes of a past answers. -/
namespace Go.Proofs.Ytkaehjehpclgcaa
open Go.RowKit
set_option linter.unusedVariables false
set_option linter.unusedSimpArgs false

theorem ba_size_list (S : ByteArray) : S.data.toList.length = S.size := rfl
theorem ba_app (S T : ByteArray) : (S ++ T).data.toList = S.data.toList ++ T.data.toList := by simp

set_option maxRecDepth 100000 in
set_option maxHeartbeats 3200000 in
theorem refPBytes_any (v : Value) (l : List De) (w : World) (hl : l.length ≤ 1000000) (hz : Szd l) (hr : DepAt w v l) :
    Calls Try.prog 41 #[v] w fun e w' => e = .returned (.string ⟨(pbV l).toArray⟩) ∧ Below w.heap.size w w' := by
  have hchk := refPCheck_any v l w hl hz hr
  have HV := Lib.hid hr
  obtain ⟨a, cap, rfl, _, _, _, hrr⟩ := hr
  have HR := Lib.hid hrr
  clear hrr hz
  cases hc : chkD l with
  | false =>
    have hp : pbV l = [] := by simp [pbV, hc]
    rw [hp]
    rw [hc] at hchk
    clear hc hp
    go_enter Try.func41, Try.ntmps41
    go_wp2_with fail
    refine hchk.mono ?_
    rintro e w1 ⟨rfl, hb1⟩
    go_wp2
    go_ret
    exact ⟨rfl, hb1⟩
  | true =>
    have hp : pbV l = Vm.enc l.length ++ pbody l := by simp [pbV, hc]
    rw [hp]
    rw [hc] at hchk
    obtain ⟨h24, hsrt⟩ := chkD_parts hc
    have HS := Lib.hid (srt_sizes hsrt)
    clear hc hp hsrt
    have hel := Vm.enc_len10 (n := l.length) (by omega)
    have hnum := fun W => refNumber l.length W (by omega)
    generalize Vm.enc l.length = en at hel hnum ⊢
    have hcv : (IntKind.u64.wrap (l.length : Int)) = (l.length : Int) := IntWalk.u64_in _ (by omega)
    obtain ⟨E0, hE0⟩ : ∃ E : ByteArray, E = ⟨en.toArray⟩ := ⟨_, rfl⟩
    rw [← hE0] at hnum
    have HE0 : Hid (E0.data.toList = en) := Lib.hid (by rw [hE0])
    clear hE0
    go_enter Try.func41, Try.ntmps41
    go_wp2_with fail
    refine hchk.mono ?_
    rintro e w1 ⟨rfl, hb1⟩
    clear hchk
    go_wp2_with fail
    refine (hnum _).mono ?_
    rintro e w2 ⟨rfl, hb2⟩
    have hbel2 := bstep hb1 hb2
    clear hb1 hb2 hnum
    go_wp2
    go_loopw [4, 5] (fun s i wr => ∃ (k : Nat) (S : ByteArray), k ≤ l.length ∧ i = .int .i64 k ∧ s = .string S ∧ S.data.toList = en ++ pbody (l.take k) ∧ Below w.heap.size w wr) (fun _ i _ => l.length - (intOf i).toNat)
    case atStart => exact ⟨0, E0, by omega, rfl, rfl, by rw [HE0.out]; simp [pbody], hbel2⟩
    case round =>
      obtain ⟨k, S, hk, rfl, rfl, hS, hbel⟩ := hrel
      have HSS := Lib.hid hS
      by_cases hlt : k < l.length
      · obtain ⟨b, off, rfl, hbl, c0, c1, c2⟩ := HR.out.below hbel k hlt
        have HT := Lib.hid (pbody_take l k hlt)
        have hsz := HS.out l[k] (List.getElem_mem hlt)
        have hpl := pbody_len (l.take k) (fun d hd => HS.out d (List.mem_of_mem_take hd))
        have htl : (l.take k).length ≤ 24 := by simp; omega
        have hdl := dbytes_len hsz
        have hSz : S.size ≤ 1600 := by rw [← ba_size_list, hS, List.length_append]; omega
        clear hS hpl htl
        generalize l[k] = d at c0 c1 c2 HT hsz hdl
        obtain ⟨x, y, z⟩ := d
        dsimp only at c0 c1 c2 hsz
        have HD : Hid (dbytes (x, y, z) = (Vm.enc x.size ++ x.data.toList) ++ sbytes y z) := Lib.hid rfl
        have htx := fun W => refText x W (by omega)
        have hby := fun W => refBytes_any y z W
        obtain ⟨T, hT⟩ : ∃ T : ByteArray, T = ⟨(Vm.enc x.size ++ x.data.toList).toArray⟩ := ⟨_, rfl⟩
        obtain ⟨U, hU⟩ : ∃ U : ByteArray, U = ⟨(sbytes y z).toArray⟩ := ⟨_, rfl⟩
        rw [← hT] at htx
        rw [← hU] at hby
        have hTU : T.size + U.size ≤ 62 := by
          rw [HD.out, List.length_append] at hdl
          rw [← ba_size_list, ← ba_size_list, hT, hU]
          exact hdl
        have HTU : Hid (dbytes (x, y, z) = T.data.toList ++ U.data.toList) := Lib.hid (by rw [HD.out, hT, hU])
        clear hT hU HD hdl
        have hki : (k : Int) < (l.length : Int) := by omega
        have hn1 : ¬ 9223372036854775807 < S.size + T.size := by omega
        have hn2 : ¬ 9223372036854775807 < S.size + T.size + U.size := by omega
        have g0 : wr.cell? ⟨b, off + k * 3, none⟩ = some (.string x) ∧ wr.cell? ⟨b, off + k * 3 + 1, none⟩ = some (.int .i64 y) ∧ wr.cell? ⟨b, off + k * 3 + 2, none⟩ = some (.int .i64 z) := ⟨c0, c1, c2⟩
        clear c0 c1 c2
        go_wp2_with fail
        go_region_held3 (fun w' => w'.cell? ⟨b, off + k * 3, none⟩ = some (.string x) ∧ w'.cell? ⟨b, off + k * 3 + 1, none⟩ = some (.int .i64 y) ∧ w'.cell? ⟨b, off + k * 3 + 2, none⟩ = some (.int .i64 z))
          (first | exact g0 | exact g1 | exact g2)
          (first
            | (go_at_call 38; ((with_reducible refine (htx _).mono ?_); rintro e wa ⟨rfl, ha⟩; have g1 := keepC3 ha g0))
            | (go_at_call 40; ((with_reducible refine (hby _).mono ?_); rintro e wb ⟨rfl, hb⟩; have g2 := keepC3 hb g1)))
        have hbF := bstep (bstep hbel.drew ha) hb
        clear g0 g1 g2 ha hb htx hby
        go_wp2
        go_roundw
        case rel => exact ⟨k + 1, _, by omega, by go_num, rfl, by rw [HT.out, HTU.out, ba_app, ba_app, HSS.out]; simp [List.append_assoc], hbF⟩
        case measure => simp [intOf]; omega
      · obtain rfl : k = l.length := by omega
        rw [List.take_length] at HSS
        clear hS
        go_wp2
        go_ret
        exact ⟨by rw [show S = ⟨(en ++ pbody l).toArray⟩ from ba_inj (by rw [HSS.out])]; rfl, hbel⟩
end Go.Proofs.Ytkaehjehpclgcaa
/- What wire.Bytes and the document's Bytes answer of a version. -/
namespace Go.Proofs.Ytkaehjehpclgcaa
open Go.RowKit
set_option linter.unusedVariables false
set_option linter.unusedSimpArgs false

theorem keepV5 {W w' : World} {b : Nat} {x0 x1 x3 x4 x5 : Value} (hb : Below W.heap.size W w') (h : W.cell? ⟨b, 0, none⟩ = some x0 ∧ W.cell? ⟨b, 1, none⟩ = some x1 ∧ W.cell? ⟨b, 3, none⟩ = some x3 ∧ W.cell? ⟨b, 4, none⟩ = some x4 ∧ W.cell? ⟨b, 5, none⟩ = some x5) :
    w'.cell? ⟨b, 0, none⟩ = some x0 ∧ w'.cell? ⟨b, 1, none⟩ = some x1 ∧ w'.cell? ⟨b, 3, none⟩ = some x3 ∧ w'.cell? ⟨b, 4, none⟩ = some x4 ∧ w'.cell? ⟨b, 5, none⟩ = some x5 :=
  ⟨kc hb h.1, kc hb h.2.1, kc hb h.2.2.1, kc hb h.2.2.2.1, kc hb h.2.2.2.2⟩
/-- One int in new memory. -/
theorem RowAt.oneI (W : World) (g : Int) : RowAt KI (W.alloc (.cells #[.int .i64 g] KI.T)) (.slice (some ⟨W.heap.size, 0, none⟩) 1 1) [g] := by
  refine ⟨_, 1, rfl, by simp, by unfold maxLen; omega, by simp, fun i hi => ⟨W.heap.size, 0, rfl, by simp, fun j u hu => ?_⟩⟩
  obtain rfl : i = 0 := by simpa using hi
  have hj : j < 1 := by have := (List.getElem?_eq_some_iff.1 hu).1; simpa [KI] using this
  obtain rfl : j = 0 := by omega
  simp [KI] at hu ⊢
  exact hu
theorem RowAt.i0 (W : World) : RowAt KI (W.alloc (.cells #[.int .i64 0] 3)) (.slice (some ⟨W.heap.size, 0, none⟩) 1 1) [((0 : Nat) : Int)] := RowAt.oneI W 0
theorem RowAt.i1 (W : World) : RowAt KI (W.alloc (.cells #[.int .i64 1] 3)) (.slice (some ⟨W.heap.size, 0, none⟩) 1 1) [((1 : Nat) : Int)] := RowAt.oneI W 1
theorem numbers_one (v : Value) (g : Nat) (w : World) (hg : g ≤ 1000000) (hr : RowAt KI w v [(g : Int)]) :
    Calls Try.prog 35 #[v] w fun e w' => e = .returned (.string ⟨(Vm.enc g).toArray⟩) ∧ Below w.heap.size w w' := by
  have h := numbers_any v [(g : Int)] w (by simp) (by intro x hx; simp at hx; omega) hr
  rw [show encO [(g : Int)] = Vm.enc g by simp [encO]] at h
  exact h
theorem enc_le10 {n : Nat} (h : n < 18446744073709551616) : (Vm.enc n).length ≤ 10 := Vm.enc_len10 h
/-- What a version's parts make, as texts. -/
structure BytesW (v : Wv) (T1 G T2 U P : ByteArray) : Prop where
  eq : wbV v = T1.data.toList ++ G.data.toList ++ T2.data.toList ++ U.data.toList ++ P.data.toList
  s1 : T1.size ≤ 100
  s2 : G.size ≤ 100
  s3 : T2.size ≤ 100
  s4 : U.size ≤ 100
  s5 : P.size ≤ 10000
  t1 : T1 = ⟨(Vm.enc v.key.size ++ v.key.data.toList).toArray⟩
  t2 : G = ⟨(Vm.enc (gN v.gone)).toArray⟩
  t3 : T2 = ⟨(Vm.enc v.val.size ++ v.val.data.toList).toArray⟩
  t4 : U = ⟨(sbytes v.st.1 v.st.2).toArray⟩
  t5 : P = ⟨(pbV v.past).toArray⟩
theorem bytesW {v : Wv} (h : okW v = true) : ∃ T1 G T2 U P, BytesW v T1 G T2 U P := by
  obtain ⟨h1, h2, h3, h4, h5, h6, h7⟩ := okW_parts h
  have l1 := Vm.enc_len10 (n := v.key.size) (by omega)
  have l2 := Vm.enc_len10 (n := v.val.size) (by omega)
  have hg : gN v.gone ≤ 1 := by cases v.gone <;> simp [gN]
  have l3 := Vm.enc_len10 (n := gN v.gone) (by omega)
  have l4 := sbytes_len20 v.st.1 v.st.2
  have hp := chkD_parts h5
  have l5 := Vm.enc_len10 (n := v.past.length) (by omega)
  have l6 := pbody_len v.past (srt_sizes hp.2)
  have l7 : v.past.length * 62 ≤ 24 * 62 := Nat.mul_le_mul_right _ hp.1
  have k1 : v.key.data.toList.length = v.key.size := rfl
  have k2 : v.val.data.toList.length = v.val.size := rfl
  refine ⟨_, _, _, _, _, ?_, ?_, ?_, ?_, ?_, ?_, rfl, rfl, rfl, rfl, rfl⟩
  · rw [wbV_ok h]
    simp [wb0, txt]
  · show (Array.size _) ≤ 100
    rw [List.size_toArray, List.length_append]; omega
  · show (Array.size _) ≤ 100
    rw [List.size_toArray]; omega
  · show (Array.size _) ≤ 100
    rw [List.size_toArray, List.length_append]; omega
  · show (Array.size _) ≤ 100
    rw [List.size_toArray]; omega
  · show (Array.size _) ≤ 10000
    rw [List.size_toArray]
    unfold pbV
    rw [if_pos h5, List.length_append]
    omega
theorem add5 (T1 G T2 U P : ByteArray) : T1 ++ G ++ T2 ++ U ++ P = ⟨(T1.data.toList ++ G.data.toList ++ T2.data.toList ++ U.data.toList ++ P.data.toList).toArray⟩ := by
  apply ByteArray.ext
  simp

end Go.Proofs.Ytkaehjehpclgcaa
/- What wire.Bytes answers of a version. -/
namespace Go.Proofs.Ytkaehjehpclgcaa
open Go.RowKit
set_option linter.unusedVariables false
set_option linter.unusedSimpArgs false

set_option maxRecDepth 100000 in
set_option maxHeartbeats 400000 in
theorem wbytes_any (v : Wv) (u : Value) (w : World) (hv : WvOk w v u) :
    Calls Try.prog 15 #[.agg (wvs v u)] w fun e w' => e = .returned (.string ⟨(wbV v).toArray⟩) ∧ Below w.heap.size w w' := by
  have hb0 : Below w.heap.size w (w.alloc (.cells (wvs v u) 26)) := balloc (Below.refl _ w) _
  have hV := VwP.new w v u 26
  have hO := hv.below hb0
  have hc := wcheck_any v u _ hO
  have HVV := Lib.hid hv
  obtain ⟨a, cp, hu, _⟩ := hv.at_
  subst hu
  have HPA := fun W (hW : Below w.heap.size w W) => (HVV.out.below hW).at_
  clear hO hv
  cases hk : okW v with
  | false =>
    rw [wbV_no hk]
    rw [hk] at hc
    clear hk
    obtain ⟨c0, c1, c2, c3, c4, c5, _⟩ := hV
    go_enter Try.func15, Try.ntmps15
    go_wp2_with fail
    refine hc.mono ?_
    rintro e w1 ⟨rfl, hb1⟩
    go_wp2
    go_ret
    exact ⟨rfl, bstep hb0 hb1⟩
  | true =>
    rw [hk] at hc
    obtain ⟨T1, G, T2, U, P, hBW⟩ := bytesW hk
    rw [hBW.eq]
    have hz := HVV.out
    have ht1 := fun W => text_any v.key W (by have := hz.key; omega)
    have ht3 := fun W => text_any v.val W (by have := hz.val; omega)
    have hst := fun W => bytes_any v.st.1 v.st.2 W
    have hpb := fun W (hW : Below w.heap.size w W) => pbytes_any _ v.past W hz.len hz.szd (HPA W hW)
    have hnm := fun W v0 hr => numbers_one v0 (gN v.gone) W (by cases v.gone <;> simp [gN]) hr
    rw [← hBW.t1] at ht1
    rw [← hBW.t2] at hnm
    rw [← hBW.t3] at ht3
    rw [← hBW.t4] at hst
    rw [← hBW.t5] at hpb
    have n1 : ¬ 9223372036854775807 < T1.size + G.size := by have := hBW.s1; have := hBW.s2; omega
    have n2 : ¬ 9223372036854775807 < T1.size + G.size + T2.size := by have := hBW.s1; have := hBW.s2; have := hBW.s3; omega
    have n3 : ¬ 9223372036854775807 < T1.size + G.size + T2.size + U.size := by have := hBW.s1; have := hBW.s2; have := hBW.s3; have := hBW.s4; omega
    have n4 : ¬ 9223372036854775807 < T1.size + G.size + T2.size + U.size + P.size := by have := hBW.s1; have := hBW.s2; have := hBW.s3; have := hBW.s4; have := hBW.s5; omega
    clear hBW hz HVV HPA hk
    obtain ⟨key, val, gone, ⟨n, t⟩, past⟩ := v
    dsimp only [wvs] at *
    go_enter Try.func15, Try.ntmps15
    go_wp2_with fail
    refine hc.mono ?_
    rintro e w1 ⟨rfl, hb1⟩
    obtain ⟨c0, c1, c2, c3, c4, c5, _⟩ := hV.keep hb1
    dsimp only at c0 c1 c2 c3 c4
    have b0 := bstep hb0 hb1
    clear hb0 hb1 hV hc
    have g0 : w1.cell? ⟨w.heap.size, 0, none⟩ = some (.string key) ∧ w1.cell? ⟨w.heap.size, 1, none⟩ = some (.string val) ∧ w1.cell? ⟨w.heap.size, 3, none⟩ = some (.int .i64 n) ∧ w1.cell? ⟨w.heap.size, 4, none⟩ = some (.int .i64 t) ∧ w1.cell? ⟨w.heap.size, 5, none⟩ = some (.slice a past.length cp) := ⟨c0, c1, c3, c4, c5⟩
    clear c0 c1 c3 c4 c5
    cases gone with
    | false =>
      simp only [gN, Bool.false_eq_true, if_false] at hnm
      have gA := fun o => keepV5 (balloc (Below.refl _ w1) o) g0
      have bA := fun o => balloc b0 o
      go_wp2_with fail
      go_region_held3 (fun w' => w'.cell? ⟨w.heap.size, 0, none⟩ = some (.string key) ∧ w'.cell? ⟨w.heap.size, 1, none⟩ = some (.string val) ∧ w'.cell? ⟨w.heap.size, 3, none⟩ = some (.int .i64 n) ∧ w'.cell? ⟨w.heap.size, 4, none⟩ = some (.int .i64 t) ∧ w'.cell? ⟨w.heap.size, 5, none⟩ = some (.slice a past.length cp))
        (first | exact g0 | exact gA _ | exact g1 | exact gB _ | exact g2 | exact g3 | exact g4 | exact g5)
        (first
          | (go_at_call_of 34 (key); ((with_reducible refine (ht1 _).mono ?_); rintro e wa ⟨rfl, ha⟩; have g1 := keepV5 ha (by first | exact g0 | exact gA _); have b1 := bstep (by first | exact b0.drew | exact (bA _).drew | exact bA _) ha; have gB := fun o => keepV5 (balloc (Below.refl _ wa) o) g1; have bB := fun o => balloc b1 o; try (with_reducible (have rr := (RowAt.drew (RowAt.i0 w1)).below ha))))
          | (go_at_call 35; ((first | (with_reducible refine (hnm _ _ rr).mono ?_) | (with_reducible refine (hnm _ _ (RowAt.i0 wa)).mono ?_)); rintro e wb ⟨rfl, hb⟩; have g2 := keepV5 hb (by first | exact g1 | exact gB _); have b2 := bstep (by first | exact b1 | exact bB _) hb))
          | (go_at_call_of 34 (val); ((refine (ht3 _).mono ?_); rintro e wc ⟨rfl, hc⟩; have g3 := keepV5 hc g2; have b3 := bstep b2 hc))
          | (go_at_call 36; ((refine (hst _).mono ?_); rintro e wd ⟨rfl, hd⟩; have g4 := keepV5 hd g3; have b4 := bstep b3 hd))
          | (go_at_call 37; ((refine (hpb _ b4).mono ?_); rintro e we ⟨rfl, he⟩; have g5 := keepV5 he g4; have b5 := bstep b4 he)))
      all_goals
        go_wp2
        go_ret
        exact ⟨ret_str (add5 _ _ _ _ _), b5⟩
    | true =>
      simp only [gN, if_true] at hnm
      have gA := fun o => keepV5 (balloc (Below.refl _ w1) o) g0
      have bA := fun o => balloc b0 o
      go_wp2_with fail
      go_region_held3 (fun w' => w'.cell? ⟨w.heap.size, 0, none⟩ = some (.string key) ∧ w'.cell? ⟨w.heap.size, 1, none⟩ = some (.string val) ∧ w'.cell? ⟨w.heap.size, 3, none⟩ = some (.int .i64 n) ∧ w'.cell? ⟨w.heap.size, 4, none⟩ = some (.int .i64 t) ∧ w'.cell? ⟨w.heap.size, 5, none⟩ = some (.slice a past.length cp))
        (first | exact g0 | exact gA _ | exact g1 | exact gB _ | exact g2 | exact g3 | exact g4 | exact g5)
        (first
          | (go_at_call_of 34 (key); ((with_reducible refine (ht1 _).mono ?_); rintro e wa ⟨rfl, ha⟩; have g1 := keepV5 ha (by first | exact g0 | exact gA _); have b1 := bstep (by first | exact b0.drew | exact (bA _).drew | exact bA _) ha; have gB := fun o => keepV5 (balloc (Below.refl _ wa) o) g1; have bB := fun o => balloc b1 o; try (with_reducible (have rr := (RowAt.drew (RowAt.i1 w1)).below ha))))
          | (go_at_call 35; ((first | (with_reducible refine (hnm _ _ rr).mono ?_) | (with_reducible refine (hnm _ _ (RowAt.i1 wa)).mono ?_)); rintro e wb ⟨rfl, hb⟩; have g2 := keepV5 hb (by first | exact g1 | exact gB _); have b2 := bstep (by first | exact b1 | exact bB _) hb))
          | (go_at_call_of 34 (val); ((refine (ht3 _).mono ?_); rintro e wc ⟨rfl, hc⟩; have g3 := keepV5 hc g2; have b3 := bstep b2 hc))
          | (go_at_call 36; ((refine (hst _).mono ?_); rintro e wd ⟨rfl, hd⟩; have g4 := keepV5 hd g3; have b4 := bstep b3 hd))
          | (go_at_call 37; ((refine (hpb _ b4).mono ?_); rintro e we ⟨rfl, he⟩; have g5 := keepV5 he g4; have b5 := bstep b4 he)))
      all_goals
        go_wp2
        go_ret
        exact ⟨ret_str (add5 _ _ _ _ _), b5⟩

end Go.Proofs.Ytkaehjehpclgcaa
