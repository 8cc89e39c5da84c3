/- Texts of this proof, one behind the other: PastBytes, PastRefBytes, VaryRead, VaryText, StampRead. -/
import Derived.Test.YtplpeokmhomojaaGPastReads11
import Derived.Deep.RegionHeld3
import Derived.Test.YtplpeokmhomojaaProg
import Derived.WalkKit
import Derived.WalkLawsBesides
import Derived.Lib.Hide
import Derived.Lib.Strings
import Derived.Laws.BitsAllLaws
/- What past.Bytes answers. -/
namespace Go.Proofs.Ytplpeokmhomojaa
open Go.RowKit
set_option linter.unusedVariables false
set_option linter.unusedSimpArgs false

theorem own1_below {w w' : World} {base n : Nat} {e : TypeId} {v : Value} {xs : List Value} (h : w.ownsRow base e 1 v n xs) (hb : Below w.heap.size w w') : w'.ownsRow base e 1 v n xs := by
  refine ⟨h.1, ?_⟩
  rcases h.2 with h0 | ⟨g, cap, cur, rfl, hbg, hg, r⟩
  · exact .inl h0
  · exact .inr ⟨g, cap, cur, rfl, hbg, (hb.5 g (Array.getElem?_eq_some_iff.1 hg).1).trans hg, r⟩
theorem bldAt_below {T e : TypeId} {B b : Nat} {p : Value} {bs : List Value} {w w' : World} (h : Lib.BuilderAt T e B b p bs w) (hb : Below w.heap.size w w') : Lib.BuilderAt T e B b p bs w' := by
  obtain ⟨h1, v, h2, h3, h4⟩ := h
  exact ⟨h1, v, (hb.5 b (Array.getElem?_eq_some_iff.1 h2).1).trans h2, own1_below h3 hb, h4⟩
theorem isB_below {B b : Nat} {bs : List Value} {w w' : World} (h : IsB B b bs w) (hb : Below w.heap.size w w') : IsB B b bs w' := by
  rcases h with h | h
  · exact .inl (bldAt_below h hb)
  · exact .inr (bldAt_below h hb)
/-- A builder that was just laid. -/
theorem isB_new (w : World) {B : Nat} (h : B ≤ w.heap.size) : IsB B w.heap.size [] (w.alloc (.cells #[.pointer none, .slice none 0 0] 78)) :=
  .inl ⟨h, .slice none 0 0, heap_alloc_new w _, ⟨rfl, .inl ⟨rfl, rfl⟩⟩, by simp [Value.ownBlock]⟩
theorem writeB_any (B b : Nat) (l m : List UInt8) (w : World) (h : IsB B b (Lib.byteCells l) w) (hlen : l.length + m.length ≤ 140737488355328) (hBw : B ≤ w.heap.size) :
    Calls Try.prog 55 #[.pointer (some ⟨b, 0, none⟩), .string ⟨m.toArray⟩] w fun e w' => ∃ u1 u2, e = .returned (.tuple #[u1, u2]) ∧ IsB B b (Lib.byteCells (l ++ m)) w' ∧ Below B w w' ∧ KpB b w w' := by
  refine (writeStr_any B b (Lib.byteCells l) ⟨m.toArray⟩ w h (by rw [Lib.byteCells_length]; exact hlen) hBw).mono fun e w' ⟨he, h1, h2, h3⟩ => ⟨_, _, he, ?_, h2, h3⟩
  rw [Lib.byteCells_append]
  exact h1

set_option maxRecDepth 100000 in
set_option maxHeartbeats 3200000 in
theorem pbytes_any (v : Value) (l : List De) (w : World) (hl : l.length ≤ 1000000) (hz : Szd l) (hr : DepAt w v l) :
    Calls Try.prog 25 #[v] w fun e w' => e = .returned (.string ⟨(pbV l).toArray⟩) ∧ Below w.heap.size w w' := by
  have hchk := pcheck_any v l w hl hz hr
  have HV := Lib.hid hr
  obtain ⟨a, cap, rfl, _, _, _, hrr⟩ := hr
  have HR := Lib.hid hrr
  clear hrr hz
  cases hc : chkD l with
  | false =>
    have hp : pbV l = [] := by simp [pbV, hc]
    rw [hp]
    rw [hc] at hchk
    clear hc hp
    go_enter Try.func25, Try.ntmps25
    go_wp2_with fail
    refine hchk.mono ?_
    rintro e w1 ⟨rfl, hb1⟩
    go_wp2
    go_ret
    exact ⟨rfl, hb1⟩
  | true =>
    have hp : pbV l = Vm.enc l.length ++ pbody l := by simp [pbV, hc]
    rw [hp]
    rw [hc] at hchk
    obtain ⟨h24, hsrt⟩ := chkD_parts hc
    have HS := Lib.hid (srt_sizes hsrt)
    clear hc hp hsrt
    have hel := Vm.enc_len10 (n := l.length) (by omega)
    have HEN := Lib.hid (enc_ne l.length)
    have hnum := fun W => number_any l.length W (by omega)
    generalize Vm.enc l.length = en at hel HEN hnum ⊢
    go_enter Try.func25, Try.ntmps25
    go_wp2_with fail
    refine hchk.mono ?_
    rintro e w1 ⟨rfl, hb1⟩
    have hs1 := hb1.size
    have hB1 := isB_new w1 (B := w.heap.size) hs1
    have hbel1 : Below w.heap.size w (w1.alloc (.cells #[.pointer none, .slice none 0 0] 78)) := balloc hb1 _
    have hcv : (IntKind.u64.wrap (l.length : Int)) = (l.length : Int) := IntWalk.u64_in _ (by omega)
    go_wp2_with fail
    refine (hnum _).mono ?_
    rintro e w2 ⟨rfl, hb2⟩
    have hB2 := isB_below hB1 hb2
    have hbel2 := bstep hbel1 hb2
    clear hB1 hbel1 hb1 hnum hchk
    go_wp2_with fail
    refine (writeB_any w.heap.size w1.heap.size [] en w2 hB2 (by simp; omega) hbel2.size).mono ?_
    rintro e w3 ⟨u1, u2, rfl, hB3, hb3, _⟩
    have hbel3 := hbel2.trans hb3
    rw [List.nil_append] at hB3
    have HB3 := Lib.hid hB3
    clear hB2 hbel2 hb2 hb3 hB3
    go_wp2
    go_loopw [16] (fun i wr => ∃ k : Nat, k ≤ l.length ∧ i = .int .i64 k ∧ IsB w.heap.size w1.heap.size (Lib.byteCells (en ++ pbody (l.take k))) wr ∧ Below w.heap.size w wr) (fun i _ => l.length - (intOf i).toNat)
    case atStart => exact ⟨0, by omega, rfl, by simpa [pbody] using HB3.out, hbel3⟩
    case round =>
      obtain ⟨k, hk, rfl, hB, hbel⟩ := hrel
      have hbs := hbel.size
      have HB := Lib.hid hB
      clear hB
      by_cases hlt : k < l.length
      · obtain ⟨b, off, rfl, hbl, c0, c1, c2⟩ := HR.out.below hbel k hlt
        have HT := Lib.hid (pbody_take l k hlt)
        have hsz := HS.out l[k] (List.getElem_mem hlt)
        have hpl := pbody_len (l.take k) (fun d hd => HS.out d (List.mem_of_mem_take hd))
        have htl : (l.take k).length ≤ 24 := by simp; omega
        have hdl := dbytes_len hsz
        generalize l[k] = d at c0 c1 c2 HT hsz hdl
        obtain ⟨x, y, z⟩ := d
        dsimp only at c0 c1 c2 hsz
        have HD : Hid (dbytes (x, y, z) = (Vm.enc x.size ++ x.data.toList) ++ sbytes y z) := Lib.hid rfl
        have htx := fun W => text_any x W (by omega)
        generalize dbytes (x, y, z) = db at HT HD hdl
        generalize (Vm.enc x.size ++ x.data.toList) = tx at HD htx
        have hby := fun W => bytes_any y z W
        generalize sbytes y z = sb at HD hby
        have hdl2 : tx.length + sb.length ≤ 62 := by rw [HD.out, List.length_append] at hdl; omega
        generalize pbody (l.take k) = pb at HB HT hpl
        have hb1 : Below wr.heap.size wr (wr.alloc (.cells #[.string x, .int .i64 y, .int .i64 z] 26)) := balloc (Below.refl _ _) _
        have HBa := Lib.hid (isB_below HB.out hb1)
        have hV := VarD.new wr x y z 26
        have hki : (k : Int) < (l.length : Int) := by omega
        clear hdl
        go_wp2_with fail
        refine (htx _).mono ?_
        rintro e w4 ⟨rfl, hb4⟩
        have hV4 := hV.keep hb4
        have hb04 := bstep hb1 hb4
        have hB4 := isB_below HBa.out hb4
        have hs4 := hb04.size
        clear hV hb1 hb4 HBa
        have hVlt := hV4.lt
        have hwlt := isB_lt HB.out
        have HOW : Hid (∀ v, w4.cell? ⟨w1.heap.size, 1, none⟩ = some v → v.ownBlock ≠ some wr.heap.size) := Lib.hid (fun v hv => isB_own HB.out (by rw [hb04.cell (p := ⟨w1.heap.size, 1, none⟩) hwlt] at hv; exact hv) (Nat.le_refl _))
        go_wp2_with fail
        refine (writeB_any w.heap.size w1.heap.size (en ++ pb) tx w4 hB4 (by simp; omega) (by omega)).mono ?_
        rintro e w5 ⟨u1', u2', rfl, hB5, hb5, hk5⟩
        obtain ⟨d0, d1, d2, _, _, _⟩ := hV4.block (hk5 wr.heap.size hVlt (by omega) HOW.out)
        have hbel5 := (bstep hbel hb04).trans hb5
        clear hV4 hk5 HOW hB4
        go_wp2_with fail
        refine (hby _).mono ?_
        rintro e w6 ⟨rfl, hb6⟩
        have hB6 := isB_below hB5 hb6
        have hbel6 := bstep hbel5 hb6
        clear hB5
        go_wp2_with fail
        refine (writeB_any w.heap.size w1.heap.size (en ++ pb ++ tx) sb w6 hB6 (by simp; omega) hbel6.size).mono ?_
        rintro e w7 ⟨u1'', u2'', rfl, hB7, hb7, _⟩
        have HB7 := Lib.hid hB7
        clear hB7
        go_wp2
        go_roundw
        case rel => exact ⟨k + 1, by omega, by go_num, by rw [HT.out, HD.out]; simpa [List.append_assoc] using HB7.out, hbel6.trans hb7⟩
        case measure => simp [intOf]; omega
      · obtain rfl : k = l.length := by omega
        rw [List.take_length] at HB
        generalize hpb : pbody l = pb at HB
        have HPB := Lib.hid hpb
        clear hpb
        have hne : en ++ pb ≠ [] := by simp [HEN.out]
        go_wp2_with fail
        refine (Try.Builder_String w.heap.size w1.heap.size (en ++ pb) wr HB.out hne).mono ?_
        rintro e w6 ⟨rfl, hb6⟩
        go_wp2
        go_ret
        exact ⟨by rw [HPB.out]; rfl, hbel.trans hb6⟩
end Go.Proofs.Ytplpeokmhomojaa
/- What the document's Bytes of a past answers. -/
namespace Go.Proofs.Ytplpeokmhomojaa
open Go.RowKit
set_option linter.unusedVariables false
set_option linter.unusedSimpArgs false

theorem ba_size_list (S : ByteArray) : S.data.toList.length = S.size := rfl
theorem ba_app (S T : ByteArray) : (S ++ T).data.toList = S.data.toList ++ T.data.toList := by simp

set_option maxRecDepth 100000 in
set_option maxHeartbeats 3200000 in
theorem refPBytes_any (v : Value) (l : List De) (w : World) (hl : l.length ≤ 1000000) (hz : Szd l) (hr : DepAt w v l) :
    Calls Try.prog 26 #[v] w fun e w' => e = .returned (.string ⟨(pbV l).toArray⟩) ∧ Below w.heap.size w w' := by
  have hchk := refPCheck_any v l w hl hz hr
  have HV := Lib.hid hr
  obtain ⟨a, cap, rfl, _, _, _, hrr⟩ := hr
  have HR := Lib.hid hrr
  clear hrr hz
  cases hc : chkD l with
  | false =>
    have hp : pbV l = [] := by simp [pbV, hc]
    rw [hp]
    rw [hc] at hchk
    clear hc hp
    go_enter Try.func26, Try.ntmps26
    go_wp2_with fail
    refine hchk.mono ?_
    rintro e w1 ⟨rfl, hb1⟩
    go_wp2
    go_ret
    exact ⟨rfl, hb1⟩
  | true =>
    have hp : pbV l = Vm.enc l.length ++ pbody l := by simp [pbV, hc]
    rw [hp]
    rw [hc] at hchk
    obtain ⟨h24, hsrt⟩ := chkD_parts hc
    have HS := Lib.hid (srt_sizes hsrt)
    clear hc hp hsrt
    have hel := Vm.enc_len10 (n := l.length) (by omega)
    have hnum := fun W => refNumber l.length W (by omega)
    generalize Vm.enc l.length = en at hel hnum ⊢
    have hcv : (IntKind.u64.wrap (l.length : Int)) = (l.length : Int) := IntWalk.u64_in _ (by omega)
    obtain ⟨E0, hE0⟩ : ∃ E : ByteArray, E = ⟨en.toArray⟩ := ⟨_, rfl⟩
    rw [← hE0] at hnum
    have HE0 : Hid (E0.data.toList = en) := Lib.hid (by rw [hE0])
    clear hE0
    go_enter Try.func26, Try.ntmps26
    go_wp2_with fail
    refine hchk.mono ?_
    rintro e w1 ⟨rfl, hb1⟩
    clear hchk
    go_wp2_with fail
    refine (hnum _).mono ?_
    rintro e w2 ⟨rfl, hb2⟩
    have hbel2 := bstep hb1 hb2
    clear hb1 hb2 hnum
    go_wp2
    go_loopw [4, 5] (fun s i wr => ∃ (k : Nat) (S : ByteArray), k ≤ l.length ∧ i = .int .i64 k ∧ s = .string S ∧ S.data.toList = en ++ pbody (l.take k) ∧ Below w.heap.size w wr) (fun _ i _ => l.length - (intOf i).toNat)
    case atStart => exact ⟨0, E0, by omega, rfl, rfl, by rw [HE0.out]; simp [pbody], hbel2⟩
    case round =>
      obtain ⟨k, S, hk, rfl, rfl, hS, hbel⟩ := hrel
      have HSS := Lib.hid hS
      by_cases hlt : k < l.length
      · obtain ⟨b, off, rfl, hbl, c0, c1, c2⟩ := HR.out.below hbel k hlt
        have HT := Lib.hid (pbody_take l k hlt)
        have hsz := HS.out l[k] (List.getElem_mem hlt)
        have hpl := pbody_len (l.take k) (fun d hd => HS.out d (List.mem_of_mem_take hd))
        have htl : (l.take k).length ≤ 24 := by simp; omega
        have hdl := dbytes_len hsz
        have hSz : S.size ≤ 1600 := by rw [← ba_size_list, hS, List.length_append]; omega
        clear hS hpl htl
        generalize l[k] = d at c0 c1 c2 HT hsz hdl
        obtain ⟨x, y, z⟩ := d
        dsimp only at c0 c1 c2 hsz
        have HD : Hid (dbytes (x, y, z) = (Vm.enc x.size ++ x.data.toList) ++ sbytes y z) := Lib.hid rfl
        have htx := fun W => refText x W (by omega)
        have hby := fun W => refBytes_any y z W
        obtain ⟨T, hT⟩ : ∃ T : ByteArray, T = ⟨(Vm.enc x.size ++ x.data.toList).toArray⟩ := ⟨_, rfl⟩
        obtain ⟨U, hU⟩ : ∃ U : ByteArray, U = ⟨(sbytes y z).toArray⟩ := ⟨_, rfl⟩
        rw [← hT] at htx
        rw [← hU] at hby
        have hTU : T.size + U.size ≤ 62 := by
          rw [HD.out, List.length_append] at hdl
          rw [← ba_size_list, ← ba_size_list, hT, hU]
          exact hdl
        have HTU : Hid (dbytes (x, y, z) = T.data.toList ++ U.data.toList) := Lib.hid (by rw [HD.out, hT, hU])
        clear hT hU HD hdl
        have hki : (k : Int) < (l.length : Int) := by omega
        have hn1 : ¬ 9223372036854775807 < S.size + T.size := by omega
        have hn2 : ¬ 9223372036854775807 < S.size + T.size + U.size := by omega
        have g0 : wr.cell? ⟨b, off + k * 3, none⟩ = some (.string x) ∧ wr.cell? ⟨b, off + k * 3 + 1, none⟩ = some (.int .i64 y) ∧ wr.cell? ⟨b, off + k * 3 + 2, none⟩ = some (.int .i64 z) := ⟨c0, c1, c2⟩
        clear c0 c1 c2
        go_wp2_with fail
        go_region_held3 (fun w' => w'.cell? ⟨b, off + k * 3, none⟩ = some (.string x) ∧ w'.cell? ⟨b, off + k * 3 + 1, none⟩ = some (.int .i64 y) ∧ w'.cell? ⟨b, off + k * 3 + 2, none⟩ = some (.int .i64 z))
          (first | exact g0 | exact g1 | exact g2)
          (first
            | (go_at_call 61; ((with_reducible refine (htx _).mono ?_); rintro e wa ⟨rfl, ha⟩; have g1 := keepC3 ha g0))
            | (go_at_call 62; ((with_reducible refine (hby _).mono ?_); rintro e wb ⟨rfl, hb⟩; have g2 := keepC3 hb g1)))
        have hbF := bstep (bstep hbel.drew ha) hb
        clear g0 g1 g2 ha hb htx hby
        go_wp2
        go_roundw
        case rel => exact ⟨k + 1, _, by omega, by go_num, rfl, by rw [HT.out, HTU.out, ba_app, ba_app, HSS.out]; simp [List.append_assoc], hbF⟩
        case measure => simp [intOf]; omega
      · obtain rfl : k = l.length := by omega
        rw [List.take_length] at HSS
        clear hS
        go_wp2
        go_ret
        exact ⟨by rw [show S = ⟨(en ++ pbody l).toArray⟩ from ba_inj (by rw [HSS.out])]; rfl, hbel⟩
end Go.Proofs.Ytplpeokmhomojaa
/- What vary.Read answers. -/
namespace Go.Proofs.Ytplpeokmhomojaa
open Go.RowKit

/-- The answer of vary.Read. -/
def rd (l : List UInt8) (at_ : Int) : Option (Nat × Nat) :=
  if at_ < 0 ∨ (l.length : Int) < at_ then none else (Vm.dec 0 (l.drop at_.toNat)).map fun x => (x.1, at_.toNat + x.2)
def rdV : Option (Nat × Nat) → Value
  | none => .tuple #[.int .u64 0, .int .i64 0, .bool false]
  | some (n, e) => .tuple #[.int .u64 (n : Int), .int .i64 (e : Int), .bool true]

theorem or_shift (k acc x : Nat) (c : Int) (hc : c = x) (hacc : acc < 2 ^ (7 * k)) (hx : x * 2 ^ (7 * k) < 18446744073709551616) (hk : 2 ^ (7 * k) ≤ 18446744073709551616) :
    bits .or .u64 (acc : Int) (IntKind.u64.wrap (c * 2 ^ (7 * k))) = ((acc + x * 2 ^ (7 * k) : Nat) : Int) := by
  subst hc
  have e : ((x : Int) * 2 ^ (7 * k)) = ((x * 2 ^ (7 * k) : Nat) : Int) := by simp
  rw [e, IntKind.wrap_u64, Int.emod_eq_of_lt (by omega) (by omega), u64_or_nat _ _ (by omega) hx]
  congr 1
  rw [Nat.mul_comm, Nat.or_comm, ← Nat.two_pow_add_eq_or_of_lt hacc, Nat.add_comm]

theorem pow7 {k : Nat} (h : k ≤ 9) : 2 ^ (7 * k) ≤ 9223372036854775808 := by
  have : (2 : Nat) ^ (7 * k) ≤ 2 ^ 63 := Nat.pow_le_pow_right (by omega) (by omega)
  simpa using this
theorem pow7' {k : Nat} (h : k ≤ 8) : 2 ^ (7 * k) ≤ 72057594037927936 := by
  have : (2 : Nat) ^ (7 * k) ≤ 2 ^ 56 := Nat.pow_le_pow_right (by omega) (by omega)
  simpa using this

theorem drop_at (t : ByteArray) (k : Nat) (h : k < t.size) : t.data.toList.drop k = t[k] :: t.data.toList.drop (k + 1) := by
  rw [List.drop_eq_getElem_cons (by simpa using h)]
  rfl

theorem or_shift9 (acc x : Nat) (hacc : acc < 2 ^ (7 * 9)) (hx : (x : Int) ≤ 1) : bits .or .u64 (acc : Int) ((x : Int) * 9223372036854775808) = ((acc + x * 2 ^ (7 * 9) : Nat) : Int) := by
  have hx' : x ≤ 1 := by omega
  have h := or_shift 9 acc x x rfl hacc (by simp; omega) (by simp)
  rw [IntKind.wrap_u64, Int.emod_eq_of_lt (by omega) (by simp; omega)] at h
  simpa using h
theorem or_zero (acc p : Nat) (h : acc < 18446744073709551616) : bits .or .u64 (acc : Int) 0 = ((acc + 0 * p : Nat) : Int) := by
  have := u64_or_nat acc 0 h (by omega)
  simpa using this
theorem ret_rd {x y : Int} {n e : Nat} (hx : x = (n : Int)) (hy : y = (e : Int)) : Ending.returned (.tuple #[.int .u64 x, .int .i64 y, .bool true]) = .returned (rdV (some (n, e))) := by
  subst hx hy; rfl

section
variable {D : Option (Nat × Nat)} {k acc : Nat} {b : UInt8} {r : List UInt8}
theorem way_none9 (he : D = Vm.more k acc (Vm.dec k (b :: r))) (hk : k = 9) (hb : 1 < (b.toNat : Int)) : D = none := by
  rw [he, Vm.dec, if_pos (by omega)]; rfl
theorem way_none0 (he : D = Vm.more k acc (Vm.dec k (b :: r))) (hk : 0 < k) (hb : b.toNat = 0) : D = none := by
  rw [he, Vm.dec, if_neg (by omega), if_neg (by omega), if_pos (by omega)]; rfl
theorem way_ret (he : D = Vm.more k acc (Vm.dec k (b :: r))) (hb : (b.toNat : Int) < 128) (h9 : k = 9 → (b.toNat : Int) ≤ 1) (h0 : ¬ (b.toNat = 0 ∧ 0 < k)) : D = some (acc + b.toNat * 2 ^ (7 * k), k + 1) := by
  rw [he, Vm.dec, if_neg (by omega), if_neg (by omega), if_neg h0]; rfl
theorem way_more (he : D = Vm.more k acc (Vm.dec k (b :: r))) (hb : 128 ≤ (b.toNat : Int)) (h9 : ¬ k = 9) : D = Vm.more (k + 1) (acc + (b.toNat - 128) * 2 ^ (7 * k)) (Vm.dec (k + 1) r) := by
  rw [he, Vm.dec, if_neg (by omega), if_pos (by omega)]
  cases Vm.dec (k + 1) r with
  | none => rfl
  | some x =>
    simp only [Vm.more, Option.map_some, Option.some.injEq, Prod.mk.injEq]
    refine ⟨?_, by omega⟩
    rw [show 7 * (k + 1) = 7 * k + 7 from by omega, Nat.pow_add, Nat.add_mul, Nat.add_assoc]
    congr 2
    rw [Nat.mul_comm 128, Nat.mul_assoc, Nat.mul_comm 128]
end

set_option maxRecDepth 100000 in
theorem read_out (s : ByteArray) (at_ : Int) (w : World) (h : at_ < 0 ∨ (s.size : Int) < at_) :
    Calls Try.prog 63 #[.string s, .int .i64 at_] w fun e w' => e = .returned (rdV none) ∧ w = w' := by
  rcases h with h | h
  · go_enter Try.func63, Try.ntmps63
    go_wp2
    go_step3
    go_wp2
    rw [Exit.noGoto_ret]
    go_ret3
    exact ⟨rfl, rfl⟩
  · have h0 : ¬ at_ < 0 := by omega
    go_enter Try.func63, Try.ntmps63
    go_wp2
    go_step3
    go_wp2
    rw [Exit.noGoto_ret]
    go_ret3
    exact ⟨rfl, rfl⟩

set_option maxRecDepth 100000 in
set_option maxHeartbeats 2000000 in
theorem read_in (s : ByteArray) (a : Nat) (w : World) (hs : s.size ≤ 9223372036854775807) (h : a ≤ s.size) :
    Calls Try.prog 63 #[.string s, .int .i64 a] w fun e w' => e = .returned (rdV ((Vm.dec 0 (s.data.toList.drop a)).map fun x => (x.1, a + x.2))) ∧ w = w' := by
  have h0 : decide ((a : Int) < 0) = false := by simp
  have h1 : decide (s.size < a) = false := by simp; omega
  go_enter Try.func63, Try.ntmps63
  go_wp2
  go_step3
  go_wp2
  go_step3
  go_wp2
  all_goals
    generalize ht : s.extract a s.size = t
    have hts : t.size = s.size - a := by rw [← ht]; simp
    have htl : t.data.toList = s.data.toList.drop a := by rw [← ht, Lib.extract_data, List.take_of_length_le (by simp)]
    have Ht := Lib.hid htl
    have Hs := Lib.hid hts
    clear ht htl hts
    go_loop [4, 24] (fun n i => ∃ k acc : Nat, k ≤ 9 ∧ k ≤ t.size ∧ i = .int .i64 k ∧ n = .int .u64 acc ∧ acc < 2 ^ (7 * k) ∧ Vm.dec 0 (s.data.toList.drop a) = Vm.more k acc (Vm.dec k (t.data.toList.drop k))) (fun _ i => 10 - (intOf i).toNat)
    case atStart => exact ⟨0, 0, by omega, by omega, rfl, rfl, by simp, by rw [Ht.out]; simp [Vm.more]⟩
    case round =>
      obtain ⟨k, acc, hk, hkt, rfl, rfl, hacc, he⟩ := hrel
      have He := Lib.hid he
      have Hacc := Lib.hid hacc
      clear he hacc
      by_cases hlt : k < t.size
      · have hlt2 : k < s.size - a := by have := Hs.out; omega
        have He2 : Hid (Vm.dec 0 (s.data.toList.drop a) = Vm.more k acc (Vm.dec k (t[k] :: t.data.toList.drop (k + 1)))) := by rw [← drop_at t k hlt]; exact He.out
        clear He
        go_wp2
        · go_ret3
          rw [way_none9 He2.out (by omega) (by assumption)]
          exact ⟨rfl, rfl⟩
        · go_ret3
          rw [way_none0 He2.out (by omega) (by assumption)]
          exact ⟨rfl, rfl⟩
        · go_ret3
          rw [way_ret He2.out (by assumption) (fun _ => by assumption) (by omega)]
          have hacc := Hacc.out
          obtain rfl : k = 9 := by omega
          exact ⟨ret_rd (or_shift9 acc _ hacc (by assumption)) (by omega), rfl⟩
        · have hp := pow7' (k := k) (by omega)
          have hb : t[k].toNat < 256 := t[k].toNat_lt
          have h128 : 128 ≤ (t[k].toNat : Int) := by assumption
          go_round
          case rel =>
            refine ⟨k + 1, acc + (t[k].toNat - 128) * 2 ^ (7 * k), by omega, by omega, by go_num, ?_, ?_, way_more He2.out h128 (by omega)⟩
            · congr 1
              exact or_shift k acc _ _ (by omega) Hacc.out (by have := Nat.mul_le_mul_left (t[k].toNat - 128) hp; omega) (by omega)
            · have hq : (2 : Nat) ^ (7 * (k + 1)) = 2 ^ (7 * k) * 128 := by rw [show 7 * (k + 1) = 7 * k + 7 from by omega, Nat.pow_add]
              have h2 : (t[k].toNat - 128) * 2 ^ (7 * k) ≤ 127 * 2 ^ (7 * k) := Nat.mul_le_mul_right _ (by omega)
              have := Hacc.out
              rw [hq]
              omega
          case measure => simp [intOf]; omega
        · go_ret3
          rw [way_none0 He2.out (by omega) (by assumption)]
          exact ⟨rfl, rfl⟩
        · go_ret3
          have hp := pow7' (k := k) (by omega)
          have hb : (t[k].toNat : Int) < 128 := by assumption
          have hb0 : t[k].toNat = 0 := by assumption
          rw [way_ret He2.out hb (fun e => by omega) (by omega)]
          refine ⟨ret_rd ?_ (by omega), rfl⟩
          show _ = ((acc + t[k].toNat * 2 ^ (7 * k) : Nat) : Int)
          rw [hb0]
          exact or_zero acc _ (by have := Hacc.out; omega)
        · go_ret3
          have hp := pow7' (k := k) (by omega)
          have hb : (t[k].toNat : Int) < 128 := by assumption
          rw [way_ret He2.out hb (fun e => by omega) (by omega)]
          refine ⟨ret_rd ?_ (by omega), rfl⟩
          show _ = ((acc + t[k].toNat * 2 ^ (7 * k) : Nat) : Int)
          exact or_shift k acc _ _ rfl Hacc.out (by have := Nat.mul_le_mul_left t[k].toNat hp; omega) (by omega)
      · have hs2 := Hs.out
        have hlt2 : ¬ k < s.size - a := by omega
        have hnone : Vm.dec 0 (s.data.toList.drop a) = none := by
          rw [He.out, List.drop_eq_nil_of_le (by simpa using hlt)]
          simp [Vm.dec, Vm.more]
        have HN := Lib.hid hnone
        clear hnone hs2
        go_wp2
        all_goals
          go_ret3
          rw [HN.out]
          exact ⟨rfl, rfl⟩

theorem read_any (s : ByteArray) (at_ : Int) (w : World) (hs : s.size ≤ 9223372036854775807) :
    Calls Try.prog 63 #[.string s, .int .i64 at_] w fun e w' => e = .returned (rdV (rd s.data.toList at_)) ∧ w = w' := by
  by_cases h : at_ < 0 ∨ (s.size : Int) < at_
  · have e : rd s.data.toList at_ = none := by
      rw [rd, if_pos (by simpa using h)]
    rw [e]
    exact read_out s at_ w h
  · obtain ⟨a, rfl⟩ := Int.eq_ofNat_of_zero_le (show 0 ≤ at_ by omega)
    have e : rd s.data.toList (a : Int) = (Vm.dec 0 (s.data.toList.drop a)).map fun x => (x.1, a + x.2) := by
      rw [rd, if_neg (by simpa using h)]
      simp
    rw [e]
    exact read_in s a w hs (by omega)

end Go.Proofs.Ytplpeokmhomojaa
/- What vary.ReadText answers. -/
namespace Go.Proofs.Ytplpeokmhomojaa
open Go.RowKit

/-- The answer of vary.ReadText. -/
def rdt (l : List UInt8) (at_ most : Int) : Option (List UInt8 × Nat) :=
  match rd l at_ with
  | none => none
  | some (n, e) => if most < (n : Int) ∨ l.length < e + n then none else some ((l.drop e).take n, e + n)
def rdtV : Option (List UInt8 × Nat) → Value
  | none => .tuple #[.string ⟨#[]⟩, .int .i64 0, .bool false]
  | some (t, e) => .tuple #[.string ⟨t.toArray⟩, .int .i64 (e : Int), .bool true]

theorem ret_rdt {x : ByteArray} {y : Int} {t : List UInt8} {e : Nat} (hx : x.data.toList = t) (hy : y = (e : Int)) : Ending.returned (.tuple #[.string x, .int .i64 y, .bool true]) = .returned (rdtV (some (t, e))) := by
  subst hx hy; rfl

theorem rd_some {l : List UInt8} {at_ : Int} {n e : Nat} (h : rd l at_ = some (n, e)) : n < 18446744073709551616 ∧ e ≤ l.length ∧ 0 ≤ at_ ∧ at_ < e := by
  rw [rd] at h
  by_cases c : at_ < 0 ∨ (l.length : Int) < at_
  · rw [if_pos c] at h; cases h
  · rw [if_neg c] at h
    cases hd : Vm.dec 0 (l.drop at_.toNat) with
    | none => rw [hd] at h; cases h
    | some x =>
      obtain ⟨m, k⟩ := x
      rw [hd] at h
      simp at h
      obtain ⟨rfl, rfl⟩ := h
      obtain ⟨h1, h2, h3⟩ := Vm.dec0_inv _ _ _ hd
      have hp := Vm.enc_pos m
      have hk : k = (Vm.enc m).length := by rw [← h3]; simp; simp at h2; omega
      simp at h2
      exact ⟨h1, by omega, by omega, by omega⟩

set_option maxRecDepth 100000 in
theorem readText_any (s : ByteArray) (at_ most : Int) (w : World) (hs : s.size ≤ 9223372036854775807) (hm : -9223372036854775808 ≤ most ∧ most ≤ 9223372036854775807) :
    Calls Try.prog 84 #[.string s, .int .i64 at_, .int .i64 most] w fun e w' => e = .returned (rdtV (rdt s.data.toList at_ most)) ∧ w = w' := by
  cases hr : rd s.data.toList at_ with
  | none =>
    have hf : rdt s.data.toList at_ most = none := by rw [rdt, hr]
    have HF := Lib.hid hf
    have HR := Lib.hid hr
    clear hf hr
    go_enter Try.func84, Try.ntmps84
    go_wp2_with fail
    refine (read_any s at_ _ hs).mono ?_
    rintro e w' ⟨rfl, rfl⟩
    rw [HR.out]
    simp only [rdV]
    go_wp2
    go_ret3
    rw [HF.out]
    exact ⟨rfl, rfl⟩
  | some x =>
    obtain ⟨n, k⟩ := x
    obtain ⟨h1, h2, h3, h4⟩ := rd_some hr
    have h2 : k ≤ s.size := by simpa using h2
    have HR := Lib.hid hr
    by_cases c : most < (n : Int) ∨ s.size < k + n
    · have hf : rdt s.data.toList at_ most = none := by rw [rdt, hr]; simp only; rw [if_pos (by simpa using c)]
      have HF := Lib.hid hf
      clear hf hr
      by_cases c1 : most < 0
      · go_enter Try.func84, Try.ntmps84
        go_wp2_with fail
        refine (read_any s at_ _ hs).mono ?_
        rintro e w' ⟨rfl, rfl⟩
        rw [HR.out]
        simp only [rdV]
        go_wp2
        go_ret3
        rw [HF.out]
        exact ⟨rfl, rfl⟩
      · by_cases c2 : most < (n : Int)
        · go_enter Try.func84, Try.ntmps84
          go_wp2_with fail
          refine (read_any s at_ _ hs).mono ?_
          rintro e w' ⟨rfl, rfl⟩
          rw [HR.out]
          simp only [rdV]
          go_wp2
          go_ret3
          rw [HF.out]
          exact ⟨rfl, rfl⟩
        · have c3 : (s.size : Int) - k < n := by omega
          go_enter Try.func84, Try.ntmps84
          go_wp2_with fail
          refine (read_any s at_ _ hs).mono ?_
          rintro e w' ⟨rfl, rfl⟩
          rw [HR.out]
          simp only [rdV]
          go_wp2
          go_ret3
          rw [HF.out]
          exact ⟨rfl, rfl⟩
    · have hf : rdt s.data.toList at_ most = some ((s.data.toList.drop k).take n, k + n) := by rw [rdt, hr]; simp only; rw [if_neg (by simpa using c)]
      have HF := Lib.hid hf
      clear hf hr
      have c0 : 0 ≤ most := by omega
      have c1 : (n : Int) ≤ most := by omega
      have c2 : k + n ≤ s.size := by omega
      clear c
      go_enter Try.func84, Try.ntmps84
      go_wp2_with fail
      refine (read_any s at_ _ hs).mono ?_
      rintro e w' ⟨rfl, rfl⟩
      rw [HR.out]
      simp only [rdV]
      have hsl := run_slice_string (P := Try.prog) (w := w) 9 s .i64 .i64 k (k + n) Try.underlying9 (by omega) (by omega) (by omega)
      rw [show ((k : Int) + n).toNat = k + n from by omega, Int.toNat_natCast] at hsl
      go_wp2
      go_ret3
      rw [HF.out]
      refine ⟨ret_rdt ?_ (by omega), rfl⟩
      rw [Lib.extract_data]
      simp

/-! What was written is read, wherever it stands. -/
theorem rd_back (a b : List UInt8) (n : Nat) (hn : n < 18446744073709551616) : rd (a ++ Vm.enc n ++ b) (a.length : Int) = some (n, a.length + (Vm.enc n).length) := by
  rw [rd, if_neg (by simp; omega), Int.toNat_natCast, List.append_assoc, List.drop_left, Vm.dec0_enc n b hn]
  rfl
theorem rdt_back (a b t : List UInt8) (most : Int) (ht : t.length < 18446744073709551616) (hm : (t.length : Int) ≤ most) :
    rdt (a ++ (Vm.enc t.length ++ t) ++ b) (a.length : Int) most = some (t, a.length + (Vm.enc t.length).length + t.length) := by
  have e : a ++ (Vm.enc t.length ++ t) ++ b = a ++ Vm.enc t.length ++ (t ++ b) := by simp
  rw [rdt, e, rd_back a (t ++ b) t.length ht]
  simp only
  rw [if_neg (by simp; omega)]
  congr 2
  have e2 : a.length + (Vm.enc t.length).length = (a ++ Vm.enc t.length).length := by simp
  rw [e2, List.drop_left, List.take_left]
theorem rdt_less (a b t : List UInt8) (most : Int) (ht : t.length < 18446744073709551616) (hm : most < (t.length : Int)) :
    rdt (a ++ (Vm.enc t.length ++ t) ++ b) (a.length : Int) most = none := by
  have e : a ++ (Vm.enc t.length ++ t) ++ b = a ++ Vm.enc t.length ++ (t ++ b) := by simp
  rw [rdt, e, rd_back a (t ++ b) t.length ht]
  simp only
  rw [if_pos (Or.inl hm)]

end Go.Proofs.Ytplpeokmhomojaa
/- What stamp.Read answers. -/
namespace Go.Proofs.Ytplpeokmhomojaa
open Go.RowKit
set_option linter.unusedVariables false

/-- The answer of stamp.Read, as a value. -/
def srV : Option ((Int × Int) × Nat) → Value
  | none => .tuple #[.agg #[.int .i64 0, .int .i64 0], .int .i64 0, .bool false]
  | some (p, e) => .tuple #[.agg #[.int .i64 p.1, .int .i64 p.2], .int .i64 (e : Int), .bool true]

theorem rd_bounds {l : List UInt8} {a : Int} {n e : Nat} (h : rd l a = some (n, e)) : n < 18446744073709551616 ∧ e ≤ l.length ∧ 0 ≤ a ∧ a < e := by
  unfold rd at h
  split at h
  · cases h
  · rename_i hc
    cases hd : Vm.dec 0 (l.drop a.toNat) with
    | none => rw [hd] at h; cases h
    | some x =>
      obtain ⟨y, k⟩ := x
      rw [hd] at h
      simp at h
      obtain ⟨rfl, rfl⟩ := h
      obtain ⟨h1, h2, h3⟩ := Vm.dec0_inv _ _ _ hd
      have h4 := Vm.enc_pos y
      rw [← h3] at h4
      simp at h2 h4
      exact ⟨h1, by omega, by omega, by omega⟩

theorem ok_wrap (n k : Nat) (hn : n < 18446744073709551616) (hk : k < 18446744073709551616) : Sm.ok (wrap64 n) (wrap64 k) = Sm.ok n k := by
  unfold wrap64
  exact decide_eq_decide.2 (by omega)

set_option maxRecDepth 100000 in
set_option maxHeartbeats 1000000 in
theorem sread_any (s : ByteArray) (at_ : Int) (w : World) (hs : s.size ≤ 9223372036854775807) :
    Calls Try.prog 85 #[.string s, .int .i64 at_] w fun e w' => e = .returned (srV (Sm.rdS (rd s.data.toList) at_)) ∧ Below w.heap.size w w' := by
  cases h : rd s.data.toList at_ with
  | none =>
    have he : Sm.rdS (rd s.data.toList) at_ = none := by simp [Sm.rdS, h]
    rw [he]
    have H := Lib.hid h
    clear h he
    go_enter Try.func85, Try.ntmps85
    go_wp2_with fail
    refine (read_any s at_ _ hs).mono ?_
    rintro e w1 ⟨rfl, rfl⟩
    rw [H.out, rdV]
    go_wp2
    refine bodyPost_ret (v := srV none) (by simp [results, Try.results85, go_sem, srV]) rfl ⟨rfl, balloc (Below.refl _ w) _⟩
  | some x =>
    obtain ⟨n, m⟩ := x
    obtain ⟨hn, hm, _, _⟩ := rd_bounds h
    have hm' : m ≤ s.size := by simpa using hm
    have H := Lib.hid h
    cases h2 : rd s.data.toList (m : Int) with
    | none =>
      have he : Sm.rdS (rd s.data.toList) at_ = none := by simp [Sm.rdS, h, h2]
      rw [he]
      have H2 := Lib.hid h2
      clear h h2 he hm
      go_enter Try.func85, Try.ntmps85
      go_wp2_with fail
      refine (read_any s at_ _ hs).mono ?_
      rintro e w1 ⟨rfl, rfl⟩
      rw [H.out, rdV]
      go_wp2_with fail
      refine (read_any s m _ hs).mono ?_
      rintro e w1 ⟨rfl, rfl⟩
      rw [H2.out, rdV]
      clear hn
      go_wp2
      refine bodyPost_ret (v := srV none) (by simp [results, Try.results85, go_sem, srV]) rfl ⟨rfl, balloc (Below.refl _ w) _⟩
    | some y =>
      obtain ⟨k, e⟩ := y
      obtain ⟨hk, hq, _, _⟩ := rd_bounds h2
      have hq' : e ≤ s.size := by simpa using hq
      have he : Sm.rdS (rd s.data.toList) at_ = if Sm.ok n k = true then some (((n : Int), (k : Int)), e) else none := by simp [Sm.rdS, h, h2]
      have H2 := Lib.hid h2
      have HN := Lib.hid hn
      have HK := Lib.hid hk
      clear h h2 hm hq hn hk
      cases ho : Sm.ok n k with
      | false =>
        rw [ho, if_neg (by simp)] at he
        rw [he]
        have HO := Lib.hid ho
        clear he ho
        go_enter Try.func85, Try.ntmps85
        go_wp2_with fail
        refine (read_any s at_ _ hs).mono ?_
        rintro e w1 ⟨rfl, rfl⟩
        rw [H.out, rdV]
        go_wp2_with fail
        refine (read_any s m _ hs).mono ?_
        rintro e w1 ⟨rfl, rfl⟩
        rw [H2.out, rdV]
        go_wp2_with fail
        refine (scheck_any (wrap64 n) (wrap64 k) _).mono ?_
        rintro e2 w2 ⟨rfl, hb⟩
        rw [ok_wrap n k HN.out HK.out, HO.out]
        have c0 : w2.cell? ⟨w.heap.size, 0, none⟩ = some (.int .i64 (wrap64 n)) := kc hb (by simp)
        have c1 : w2.cell? ⟨w.heap.size, 1, none⟩ = some (.int .i64 (wrap64 k)) := kc hb (by simp)
        have f0 : w2.frozen? ⟨w.heap.size, 0, none⟩ = false := (hb.frozen (p := ⟨w.heap.size, 0, none⟩) (by simp)).trans (by simp)
        have f1 : w2.frozen? ⟨w.heap.size, 1, none⟩ = false := (hb.frozen (p := ⟨w.heap.size, 1, none⟩) (by simp)).trans (by simp)
        have hb2 := bstep (balloc (Below.refl _ w) _) hb
        have HV := Lib.hid (Var2.mk (p := (wrap64 n, wrap64 k)) c0 c1 f0 f1)
        clear hb
        go_wp2
        have hv := HV.out.put 0 0
        have r0 := hv.c0
        have r1 := hv.c1
        simp only at r0 r1
        refine bodyPost_ret (v := srV none) (by simp [results, Try.results85, go_sem, srV, r0, r1]) rfl ⟨rfl, below_put hb2 (Nat.le_refl _) _ _⟩
      | true =>
        rw [ho, if_pos rfl] at he
        rw [he]
        have e1 : wrap64 (n : Int) = n := by
          have := ho
          simp only [Sm.ok, decide_eq_true_eq] at this
          unfold wrap64; omega
        have e2 : wrap64 (k : Int) = k := by
          have := ho
          simp only [Sm.ok, decide_eq_true_eq] at this
          unfold wrap64; omega
        have E1 := Lib.hid e1
        have E2 := Lib.hid e2
        have HO := Lib.hid ho
        clear he ho e1 e2
        go_enter Try.func85, Try.ntmps85
        go_wp2_with fail
        refine (read_any s at_ _ hs).mono ?_
        rintro e w1 ⟨rfl, rfl⟩
        rw [H.out, rdV]
        go_wp2_with fail
        refine (read_any s m _ hs).mono ?_
        rintro e w1 ⟨rfl, rfl⟩
        rw [H2.out, rdV]
        go_wp2_with fail
        refine (scheck_any (wrap64 n) (wrap64 k) _).mono ?_
        rintro e2 w2 ⟨rfl, hb⟩
        rw [ok_wrap n k HN.out HK.out, HO.out]
        have c0 : w2.cell? ⟨w.heap.size, 0, none⟩ = some (.int .i64 (wrap64 n)) := kc hb (by simp)
        have c1 : w2.cell? ⟨w.heap.size, 1, none⟩ = some (.int .i64 (wrap64 k)) := kc hb (by simp)
        have f0 : w2.frozen? ⟨w.heap.size, 0, none⟩ = false := (hb.frozen (p := ⟨w.heap.size, 0, none⟩) (by simp)).trans (by simp)
        have f1 : w2.frozen? ⟨w.heap.size, 1, none⟩ = false := (hb.frozen (p := ⟨w.heap.size, 1, none⟩) (by simp)).trans (by simp)
        have hb2 := bstep (balloc (Below.refl _ w) _) hb
        have HV := Lib.hid (Var2.mk (p := (wrap64 n, wrap64 k)) c0 c1 f0 f1)
        clear hb
        rw [E1.out] at c0 HV
        rw [E2.out] at c1 HV
        go_wp2
        have hv := HV.out.put n k
        have r0 := hv.c0
        have r1 := hv.c1
        simp only at r0 r1
        refine bodyPost_ret (v := srV (some ((n, k), e))) (by simp [results, Try.results85, go_sem, srV, r0, r1]) rfl ⟨rfl, below_put hb2 (Nat.le_refl _) _ _⟩
end Go.Proofs.Ytplpeokmhomojaa
