/- What past.Bytes answers. -/
import Derived.Test.YtplpeokmhomojaaPastBytesMath
import Derived.Test.YtplpeokmhomojaaBuild
import Derived.Test.YtplpeokmhomojaaVaryNumber
import Derived.Test.YtplpeokmhomojaaPastPush
namespace Go.Proofs.Ytplpeokmhomojaa
open Go.RowKit
set_option linter.unusedVariables false
set_option linter.unusedSimpArgs false

theorem own1_below {w w' : World} {base n : Nat} {e : TypeId} {v : Value} {xs : List Value} (h : w.ownsRow base e 1 v n xs) (hb : Below w.heap.size w w') : w'.ownsRow base e 1 v n xs := by
  refine ⟨h.1, ?_⟩
  rcases h.2 with h0 | ⟨g, cap, cur, rfl, hbg, hg, r⟩
  · exact .inl h0
  · exact .inr ⟨g, cap, cur, rfl, hbg, (hb.5 g (Array.getElem?_eq_some_iff.1 hg).1).trans hg, r⟩
theorem bldAt_below {T e : TypeId} {B b : Nat} {p : Value} {bs : List Value} {w w' : World} (h : Lib.BuilderAt T e B b p bs w) (hb : Below w.heap.size w w') : Lib.BuilderAt T e B b p bs w' := by
  obtain ⟨h1, v, h2, h3, h4⟩ := h
  exact ⟨h1, v, (hb.5 b (Array.getElem?_eq_some_iff.1 h2).1).trans h2, own1_below h3 hb, h4⟩
theorem isB_below {B b : Nat} {bs : List Value} {w w' : World} (h : IsB B b bs w) (hb : Below w.heap.size w w') : IsB B b bs w' := by
  rcases h with h | h
  · exact .inl (bldAt_below h hb)
  · exact .inr (bldAt_below h hb)
/-- A builder that was just laid. -/
theorem isB_new (w : World) {B : Nat} (h : B ≤ w.heap.size) : IsB B w.heap.size [] (w.alloc (.cells #[.pointer none, .slice none 0 0] 78)) :=
  .inl ⟨h, .slice none 0 0, heap_alloc_new w _, ⟨rfl, .inl ⟨rfl, rfl⟩⟩, by simp [Value.ownBlock]⟩
theorem writeB_any (B b : Nat) (l m : List UInt8) (w : World) (h : IsB B b (Lib.byteCells l) w) (hlen : l.length + m.length ≤ 140737488355328) (hBw : B ≤ w.heap.size) :
    Calls Try.prog 55 #[.pointer (some ⟨b, 0, none⟩), .string ⟨m.toArray⟩] w fun e w' => ∃ u1 u2, e = .returned (.tuple #[u1, u2]) ∧ IsB B b (Lib.byteCells (l ++ m)) w' ∧ Below B w w' ∧ KpB b w w' := by
  refine (writeStr_any B b (Lib.byteCells l) ⟨m.toArray⟩ w h (by rw [Lib.byteCells_length]; exact hlen) hBw).mono fun e w' ⟨he, h1, h2, h3⟩ => ⟨_, _, he, ?_, h2, h3⟩
  rw [Lib.byteCells_append]
  exact h1

set_option maxRecDepth 100000 in
set_option maxHeartbeats 3200000 in
theorem pbytes_any (v : Value) (l : List De) (w : World) (hl : l.length ≤ 1000000) (hz : Szd l) (hr : DepAt w v l) :
    Calls Try.prog 25 #[v] w fun e w' => e = .returned (.string ⟨(pbV l).toArray⟩) ∧ Below w.heap.size w w' := by
  have hchk := pcheck_any v l w hl hz hr
  have HV := Lib.hid hr
  obtain ⟨a, cap, rfl, _, _, _, hrr⟩ := hr
  have HR := Lib.hid hrr
  clear hrr hz
  cases hc : chkD l with
  | false =>
    have hp : pbV l = [] := by simp [pbV, hc]
    rw [hp]
    rw [hc] at hchk
    clear hc hp
    go_enter Try.func25, Try.ntmps25
    go_wp2_with fail
    refine hchk.mono ?_
    rintro e w1 ⟨rfl, hb1⟩
    go_wp2
    go_ret
    exact ⟨rfl, hb1⟩
  | true =>
    have hp : pbV l = Vm.enc l.length ++ pbody l := by simp [pbV, hc]
    rw [hp]
    rw [hc] at hchk
    obtain ⟨h24, hsrt⟩ := chkD_parts hc
    have HS := Lib.hid (srt_sizes hsrt)
    clear hc hp hsrt
    have hel := Vm.enc_len10 (n := l.length) (by omega)
    have HEN := Lib.hid (enc_ne l.length)
    have hnum := fun W => number_any l.length W (by omega)
    generalize Vm.enc l.length = en at hel HEN hnum ⊢
    go_enter Try.func25, Try.ntmps25
    go_wp2_with fail
    refine hchk.mono ?_
    rintro e w1 ⟨rfl, hb1⟩
    have hs1 := hb1.size
    have hB1 := isB_new w1 (B := w.heap.size) hs1
    have hbel1 : Below w.heap.size w (w1.alloc (.cells #[.pointer none, .slice none 0 0] 78)) := balloc hb1 _
    have hcv : (IntKind.u64.wrap (l.length : Int)) = (l.length : Int) := IntWalk.u64_in _ (by omega)
    go_wp2_with fail
    refine (hnum _).mono ?_
    rintro e w2 ⟨rfl, hb2⟩
    have hB2 := isB_below hB1 hb2
    have hbel2 := bstep hbel1 hb2
    clear hB1 hbel1 hb1 hnum hchk
    go_wp2_with fail
    refine (writeB_any w.heap.size w1.heap.size [] en w2 hB2 (by simp; omega) hbel2.size).mono ?_
    rintro e w3 ⟨u1, u2, rfl, hB3, hb3, _⟩
    have hbel3 := hbel2.trans hb3
    rw [List.nil_append] at hB3
    have HB3 := Lib.hid hB3
    clear hB2 hbel2 hb2 hb3 hB3
    go_wp2
    go_loopw [16] (fun i wr => ∃ k : Nat, k ≤ l.length ∧ i = .int .i64 k ∧ IsB w.heap.size w1.heap.size (Lib.byteCells (en ++ pbody (l.take k))) wr ∧ Below w.heap.size w wr) (fun i _ => l.length - (intOf i).toNat)
    case atStart => exact ⟨0, by omega, rfl, by simpa [pbody] using HB3.out, hbel3⟩
    case round =>
      obtain ⟨k, hk, rfl, hB, hbel⟩ := hrel
      have hbs := hbel.size
      have HB := Lib.hid hB
      clear hB
      by_cases hlt : k < l.length
      · obtain ⟨b, off, rfl, hbl, c0, c1, c2⟩ := HR.out.below hbel k hlt
        have HT := Lib.hid (pbody_take l k hlt)
        have hsz := HS.out l[k] (List.getElem_mem hlt)
        have hpl := pbody_len (l.take k) (fun d hd => HS.out d (List.mem_of_mem_take hd))
        have htl : (l.take k).length ≤ 24 := by simp; omega
        have hdl := dbytes_len hsz
        generalize l[k] = d at c0 c1 c2 HT hsz hdl
        obtain ⟨x, y, z⟩ := d
        dsimp only at c0 c1 c2 hsz
        have HD : Hid (dbytes (x, y, z) = (Vm.enc x.size ++ x.data.toList) ++ sbytes y z) := Lib.hid rfl
        have htx := fun W => text_any x W (by omega)
        generalize dbytes (x, y, z) = db at HT HD hdl
        generalize (Vm.enc x.size ++ x.data.toList) = tx at HD htx
        have hby := fun W => bytes_any y z W
        generalize sbytes y z = sb at HD hby
        have hdl2 : tx.length + sb.length ≤ 62 := by rw [HD.out, List.length_append] at hdl; omega
        generalize pbody (l.take k) = pb at HB HT hpl
        have hb1 : Below wr.heap.size wr (wr.alloc (.cells #[.string x, .int .i64 y, .int .i64 z] 26)) := balloc (Below.refl _ _) _
        have HBa := Lib.hid (isB_below HB.out hb1)
        have hV := VarD.new wr x y z 26
        have hki : (k : Int) < (l.length : Int) := by omega
        clear hdl
        go_wp2_with fail
        refine (htx _).mono ?_
        rintro e w4 ⟨rfl, hb4⟩
        have hV4 := hV.keep hb4
        have hb04 := bstep hb1 hb4
        have hB4 := isB_below HBa.out hb4
        have hs4 := hb04.size
        clear hV hb1 hb4 HBa
        have hVlt := hV4.lt
        have hwlt := isB_lt HB.out
        have HOW : Hid (∀ v, w4.cell? ⟨w1.heap.size, 1, none⟩ = some v → v.ownBlock ≠ some wr.heap.size) := Lib.hid (fun v hv => isB_own HB.out (by rw [hb04.cell (p := ⟨w1.heap.size, 1, none⟩) hwlt] at hv; exact hv) (Nat.le_refl _))
        go_wp2_with fail
        refine (writeB_any w.heap.size w1.heap.size (en ++ pb) tx w4 hB4 (by simp; omega) (by omega)).mono ?_
        rintro e w5 ⟨u1', u2', rfl, hB5, hb5, hk5⟩
        obtain ⟨d0, d1, d2, _, _, _⟩ := hV4.block (hk5 wr.heap.size hVlt (by omega) HOW.out)
        have hbel5 := (bstep hbel hb04).trans hb5
        clear hV4 hk5 HOW hB4
        go_wp2_with fail
        refine (hby _).mono ?_
        rintro e w6 ⟨rfl, hb6⟩
        have hB6 := isB_below hB5 hb6
        have hbel6 := bstep hbel5 hb6
        clear hB5
        go_wp2_with fail
        refine (writeB_any w.heap.size w1.heap.size (en ++ pb ++ tx) sb w6 hB6 (by simp; omega) hbel6.size).mono ?_
        rintro e w7 ⟨u1'', u2'', rfl, hB7, hb7, _⟩
        have HB7 := Lib.hid hB7
        clear hB7
        go_wp2
        go_roundw
        case rel => exact ⟨k + 1, by omega, by go_num, by rw [HT.out, HD.out]; simpa [List.append_assoc] using HB7.out, hbel6.trans hb7⟩
        case measure => simp [intOf]; omega
      · obtain rfl : k = l.length := by omega
        rw [List.take_length] at HB
        generalize hpb : pbody l = pb at HB
        have HPB := Lib.hid hpb
        clear hpb
        have hne : en ++ pb ≠ [] := by simp [HEN.out]
        go_wp2_with fail
        refine (Try.Builder_String w.heap.size w1.heap.size (en ++ pb) wr HB.out hne).mono ?_
        rintro e w6 ⟨rfl, hb6⟩
        go_wp2
        go_ret
        exact ⟨by rw [HPB.out]; rfl, hbel.trans hb6⟩
end Go.Proofs.Ytplpeokmhomojaa
