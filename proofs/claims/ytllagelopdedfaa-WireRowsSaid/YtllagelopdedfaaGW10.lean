/- Texts of this proof, one behind the other: WireNext, WireParts, KeysRng, KeysGood, KeysRef3, KeysFidx. -/
import Derived.Test.YtllagelopdedfaaGW9
import Derived.Deep.RegionHeld3
import Derived.Deep.DeepCutAuto
import Derived.BigQuiet
/- The reader's next part, of each kind. -/
namespace Go.Proofs.Ytllagelopdedfaa
open Go.RowKit
set_option linter.unusedVariables false
set_option linter.unusedSimpArgs false

theorem rdV_form (r : Option (Nat × Nat)) : ∃ (x m : Nat), rdV r = .tuple #[.int .u64 (x : Int), .int .i64 (m : Int), .bool r.isSome] ∧ ∀ y k, r = some (y, k) → x = y ∧ m = k := by
  cases r with
  | none => exact ⟨0, 0, rfl, fun y k h => by cases h⟩
  | some z => obtain ⟨y, k⟩ := z; exact ⟨y, k, rfl, fun y' k' h => by cases h; exact ⟨rfl, rfl⟩⟩
theorem rdtV_form (r : Option (List UInt8 × Nat)) : ∃ (x : ByteArray) (m : Nat), rdtV r = .tuple #[.string x, .int .i64 (m : Int), .bool r.isSome] ∧ ∀ y k, r = some (y, k) → x = ⟨y.toArray⟩ ∧ m = k := by
  cases r with
  | none => exact ⟨⟨#[]⟩, 0, rfl, fun y k h => by cases h⟩
  | some z => obtain ⟨y, k⟩ := z; exact ⟨⟨y.toArray⟩, k, rfl, fun y' k' h => by cases h; exact ⟨rfl, rfl⟩⟩
theorem srV_form (r : Option ((Int × Int) × Nat)) : ∃ (x y : Int) (m : Nat), srV r = .tuple #[.agg #[.int .i64 x, .int .i64 y], .int .i64 (m : Int), .bool r.isSome] ∧ ∀ z k, r = some (z, k) → (x, y) = z ∧ m = k := by
  cases r with
  | none => exact ⟨0, 0, 0, rfl, fun y k h => by cases h⟩
  | some z => obtain ⟨⟨x, y⟩, k⟩ := z; exact ⟨x, y, k, rfl, fun y' k' h => by cases h; exact ⟨rfl, rfl⟩⟩
theorem prV_form (r : Option (List De × Nat)) : ∃ (m : Nat), prE r = m ∧ ∀ z k, r = some (z, k) → m = k := ⟨_, rfl, fun z k h => by rw [h]; rfl⟩

set_option maxRecDepth 100000 in
theorem textC_any (s : ByteArray) (a : Int) (w : World) (hs : s.size ≤ 9223372036854775807) :
    Calls Try.prog 93 #[.string s, .int .i64 a] w fun e w' => e = .returned (rdtV (rdt s.data.toList a (s.size : Int))) ∧ w = w' := by
  have hc := fun W => readText_any s a (s.size : Int) W hs (by omega)
  obtain ⟨x, m, hv, _⟩ := rdtV_form (rdt s.data.toList a (s.size : Int))
  rw [hv] at hc ⊢
  go_enter Try.func93, Try.ntmps93
  go_wp2_with fail
  refine (hc _).mono ?_
  rintro e w' ⟨rfl, rfl⟩
  go_wp2
  go_ret3
  exact ⟨rfl, rfl⟩

set_option maxRecDepth 100000 in
set_option maxHeartbeats 800000 in
theorem nextU_any (R : Nat) (s : ByteArray) (a : Int) (w : World) (hs : s.size ≤ 9223372036854775807) (h : RdP w R s a) :
    Calls Try.prog 90 #[.pointer (some ⟨R, 0, none⟩), .func (.func 91) #[] #[]] w fun e w' => ∃ (x : Nat) (m : Nat), e = .returned (.tuple #[.int .u64 (x : Int), .bool (rd s.data.toList a).isSome]) ∧ RdP w' R s m ∧ (∀ z k, (rd s.data.toList a) = some (z, k) → x = z ∧ m = k) ∧ Mv (· = R) w w' := by
  have g0 := h.two
  have f0 := h.f1
  have HR := Lib.hid h
  have hc := fun W => read_any s a W hs
  clear h
  obtain ⟨x, m, hv, hx⟩ := rdV_form (rd s.data.toList a)
  rw [hv] at hc
  generalize (rd s.data.toList a) = r at hc hx ⊢
  have HX := Lib.hid hx
  clear hx hv
  go_enter Try.func90, Try.ntmps90
  go_wp2_with fail
  go_region_held3 (fun w' => w'.cell? ⟨R, 0, none⟩ = some (.string s) ∧ w'.cell? ⟨R, 1, none⟩ = some (.int .i64 a)) (first | exact g0 | exact g1)
    (first | (go_at_call 91; ((refine (hc _).mono ?_); rintro e wa ⟨rfl, rfl⟩; have g1 := g0; have f2 := f0)))
  have hb := (Below.refl w.heap.size w).drew
  have HB := Lib.hid hb
  clear hb
  go_wp2
  go_ret2
  exact ⟨x, m, rfl, (HR.out.keep HB.out).put m, HX.out, Mv.set (P := (· = R)) (b := R) (Mv.of_below HB.out) rfl _⟩

set_option maxRecDepth 100000 in
set_option maxHeartbeats 800000 in
theorem nextT_any (R : Nat) (s : ByteArray) (a : Int) (w : World) (hs : s.size ≤ 9223372036854775807) (h : RdP w R s a) :
    Calls Try.prog 92 #[.pointer (some ⟨R, 0, none⟩), .func (.func 93) #[] #[]] w fun e w' => ∃ (x : ByteArray) (m : Nat), e = .returned (.tuple #[.string x, .bool (rdt s.data.toList a (s.size : Int)).isSome]) ∧ RdP w' R s m ∧ (∀ z k, (rdt s.data.toList a (s.size : Int)) = some (z, k) → x = ⟨z.toArray⟩ ∧ m = k) ∧ Mv (· = R) w w' := by
  have g0 := h.two
  have f0 := h.f1
  have HR := Lib.hid h
  have hc := fun W => textC_any s a W hs
  clear h
  obtain ⟨x, m, hv, hx⟩ := rdtV_form (rdt s.data.toList a (s.size : Int))
  rw [hv] at hc
  generalize (rdt s.data.toList a (s.size : Int)) = r at hc hx ⊢
  have HX := Lib.hid hx
  clear hx hv
  go_enter Try.func92, Try.ntmps92
  go_wp2_with fail
  go_region_held3 (fun w' => w'.cell? ⟨R, 0, none⟩ = some (.string s) ∧ w'.cell? ⟨R, 1, none⟩ = some (.int .i64 a)) (first | exact g0 | exact g1)
    (first | (go_at_call 93; ((refine (hc _).mono ?_); rintro e wa ⟨rfl, rfl⟩; have g1 := g0; have f2 := f0)))
  have hb := (Below.refl w.heap.size w).drew
  have HB := Lib.hid hb
  clear hb
  go_wp2
  go_ret2
  exact ⟨x, m, rfl, (HR.out.keep HB.out).put m, HX.out, Mv.set (P := (· = R)) (b := R) (Mv.of_below HB.out) rfl _⟩

theorem wold_cells {W w1 : World} (hb : Below W.heap.size W w1) (b o : Nat) (h : b < W.heap.size) : w1.cell? ⟨b, o, none⟩ = W.cell? ⟨b, o, none⟩ := hb.cell (p := ⟨b, o, none⟩) h
theorem wold_marks {W w1 : World} (hb : Below W.heap.size W w1) (b o : Nat) (h : b < W.heap.size) : w1.frozen? ⟨b, o, none⟩ = W.frozen? ⟨b, o, none⟩ := hb.frozen (p := ⟨b, o, none⟩) h
theorem keepRS {W : World} {R B : Nat} {s : ByteArray} {a : Int} {x y : Value} (h : W.cell? ⟨R, 0, none⟩ = some (.string s) ∧ W.cell? ⟨R, 1, none⟩ = some (.int .i64 a)) (hne : R ≠ B) :
    ((W.setCell ⟨B, 0, none⟩ x).setCell ⟨B, 1, none⟩ y).cell? ⟨R, 0, none⟩ = some (.string s) ∧ ((W.setCell ⟨B, 0, none⟩ x).setCell ⟨B, 1, none⟩ y).cell? ⟨R, 1, none⟩ = some (.int .i64 a) := by
  have hb : ((W.setCell ⟨B, 0, none⟩ x).setCell ⟨B, 1, none⟩ y).heap[R]? = W.heap[R]? := by rw [Below.heap_setCell _ _ _ _ hne, Below.heap_setCell _ _ _ _ hne]
  refine ⟨?_, ?_⟩
  · rw [World.cell?_of_block hb]; exact h.1
  · rw [World.cell?_of_block hb]; exact h.2
theorem Var2.block {w w' : World} {b : Nat} {p : Int × Int} (h : Var2 w b p) (hb : w'.heap[b]? = w.heap[b]?) : Var2 w' b p :=
  ⟨by rw [World.cell?_of_block hb]; exact h.c0, by rw [World.cell?_of_block hb]; exact h.c1, by rw [World.frozen?_of_block hb]; exact h.f0, by rw [World.frozen?_of_block hb]; exact h.f1⟩
/-- A new stamp in memory, and what stands beside it. -/
def StNew (w0 : World) (m : Nat) (ok : Bool) (x y : Int) (s6 s7 s8 : Value) (wx : World) : Prop :=
  ∃ B, s6 = .pointer (some ⟨B, 0, none⟩) ∧ s7 = .int .i64 (m : Int) ∧ s8 = .bool ok ∧ wx.cell? ⟨B, 0, none⟩ = some (.int .i64 x) ∧ wx.cell? ⟨B, 1, none⟩ = some (.int .i64 y) ∧ w0.heap.size ≤ B ∧ Below w0.heap.size w0 wx
theorem stNew_new {w0 w1 : World} {m : Nat} {ok : Bool} {x y : Int} {T : TypeId} (hb : Below w0.heap.size w0 w1) : StNew w0 m ok x y (.pointer (some ⟨w1.heap.size, 0, none⟩)) (.int .i64 (m : Int)) (.bool ok) (w1.alloc (.cells #[.int .i64 x, .int .i64 y] T)) :=
  ⟨w1.heap.size, rfl, rfl, rfl, by simp, by simp, hb.size, balloc hb _⟩
theorem stNew_set {w0 w1 : World} {B m : Nat} {ok : Bool} {x y : Int} {x0 x1 : Value} (hle : w0.heap.size ≤ B) (c0 : w1.cell? ⟨B, 0, none⟩ = some x0) (c1 : w1.cell? ⟨B, 1, none⟩ = some x1) (hb : Below w0.heap.size w0 w1) :
    StNew w0 m ok x y (.pointer (some ⟨B, 0, none⟩)) (.int .i64 (m : Int)) (.bool ok) ((w1.setCell ⟨B, 0, none⟩ (.int .i64 x)).setCell ⟨B, 1, none⟩ (.int .i64 y)) :=
  ⟨B, rfl, rfl, rfl, cell_put (by decide) (World.cell?_setCell_same _ _ _ c0), World.cell?_setCell_same _ _ _ (cell_put (by decide) c1), hle, (hb.setCell hle _).setCell hle _⟩

set_option maxRecDepth 100000 in
set_option maxHeartbeats 800000 in
theorem nextS_any (R : Nat) (s : ByteArray) (a : Int) (w : World) (hs : s.size ≤ 9223372036854775807) (h : RdP w R s a) :
    Calls Try.prog 100 #[.pointer (some ⟨R, 0, none⟩), .func (.func 101) #[] #[]] w fun e w' => ∃ (x y : Int) (m : Nat), e = .returned (.tuple #[.agg #[.int .i64 x, .int .i64 y], .bool (Sm.rdS (rd s.data.toList) a).isSome]) ∧ RdP w' R s m ∧ (∀ z k, Sm.rdS (rd s.data.toList) a = some (z, k) → (x, y) = z ∧ m = k) ∧ Mv (· = R) w w' := by
  have hc := fun W => sread_any s a W hs
  have hRw := h.lt
  have HW := Lib.hid h
  obtain ⟨x, y, m, hv, hx⟩ := srV_form (Sm.rdS (rd s.data.toList) a)
  rw [hv] at hc
  generalize Sm.rdS (rd s.data.toList) a = r at hc hx ⊢
  have HX := Lib.hid hx
  clear hx hv
  have hb0 : Below w.heap.size w (w.alloc (.cells #[.int .i64 0, .int .i64 0] 67)) := balloc (Below.refl _ w) _
  have h0 := h.keep hb0
  have hD0 := Var2.mk (w := w.alloc (.cells #[.int .i64 0, .int .i64 0] 67)) (b := w.heap.size) (p := (0, 0)) (by simp) (by simp) (by simp) (by simp)
  have hz : w.heap.size < (w.alloc (.cells #[.int .i64 0, .int .i64 0] 67)).heap.size := by simp
  go_enter Try.func100, Try.ntmps100
  go_wp2_with fail
  generalize w.alloc (.cells #[.int .i64 0, .int .i64 0] 67) = w0 at *
  have g0 := h0.two
  have gA := fun o => keepR (balloc (Below.refl _ w0) o) g0
  have HD0 := Lib.hid hD0
  have HB0 := Lib.hid hb0
  have H0 := Lib.hid h0
  have HZ := Lib.hid hz
  have HRW := Lib.hid hRw
  have hneW : R ≠ w0.heap.size := by omega
  clear h h0 hD0 hb0 hz hRw
  go_upto_region 1 with fail
  go_cut [6, 7, 8] (fun s6 s7 s8 wx => StNew w0 m r.isSome x y s6 s7 s8 wx)
  case first =>
    go_region_held3 (fun w' => w'.cell? ⟨R, 0, none⟩ = some (.string s) ∧ w'.cell? ⟨R, 1, none⟩ = some (.int .i64 a)) (first | exact g0 | exact gA _ | exact g1 | exact gB _ | exact keepRS g1 hneW)
      (first | (go_at_call 101; ((refine (hc _).mono ?_); rintro e wa ⟨rfl, ha⟩; have g1 := keepR ha (by first | exact g0 | exact gA _); have gB := fun o => keepR (balloc (Below.refl _ wa) o) g1; have n4 := ha.size; (try simp only [World.size_alloc, World.size_drew, Nat.add_one_le_iff] at n4); have hc5 := wold_cells ha; have hf5 := wold_marks ha; (try simp only [World.size_alloc, World.size_drew] at hc5 hf5))))
    · go_wp2_with fail
      go_meet
      exact stNew_new (bstep ((Below.refl _ w0).drew) ha)
    · go_wp2_with fail
      go_meet
      exact stNew_set (x0 := .int .i64 0) (x1 := .int .i64 0) (Nat.le_refl _) (by rw [hc5 _ _ (by omega)]; simp) (by rw [hc5 _ _ (by omega)]; simp) (bstep ((balloc (Below.refl _ w0) _).drew) ha)
  case rest =>
    obtain ⟨B, rfl, rfl, rfl, d0, d1, hB, hbc⟩ := hcut
    have hRR := H0.out.keep hbc
    have hDc := Var2.keep hbc HD0.out
    obtain ⟨p0, p1, q0, q1⟩ := id hDc
    have fR := hRR.f1
    have k1 := hRR.c1
    have HRR := Lib.hid hRR
    have HDc := Lib.hid hDc
    have hne1 : R ≠ w.heap.size := by have := HRW.out; omega
    have hne2 : B ≠ R := by have := HRW.out; have := HZ.out; omega
    have hbw := bstep HB0.out hbc
    have HBW := Lib.hid hbw
    clear hRR hDc hbc hbw g0 gA
    go_wp2
    have hv := Var2.put (HDc.out.block (w' := wc.setCell ⟨R, 1, none⟩ (.int .i64 (m : Int))) (Below.heap_setCell _ _ _ _ (Ne.symm hne1))) x y
    have r0 := hv.c0
    have r1 := hv.c1
    simp only at r0 r1
    refine bodyPost_ret (v := .tuple #[.agg #[.int .i64 x, .int .i64 y], .bool r.isSome]) (by simp [results, Try.results100, go_sem, r0, r1]) rfl ⟨x, y, rfl, m, ((HRR.out.put m).other (Ne.symm hne1) _).other (Ne.symm hne1) _, (fun a b k h => by have := HX.out _ k h; simpa using this), ?_⟩
    have hmv := Mv.set (P := (· = R)) (b := R) (o := 1) (Mv.of_below HBW.out) rfl (.int .i64 (m : Int))
    exact ⟨hmv.os, hmv.tape, hmv.output, by simpa using hmv.size, fun k hk hp => by rw [Below.heap_setCell _ _ _ _ (by show k ≠ w.heap.size; omega), Below.heap_setCell _ _ _ _ (by show k ≠ w.heap.size; omega)]; exact hmv.block k hk hp⟩

set_option maxRecDepth 100000 in
set_option maxHeartbeats 800000 in
theorem nextD_any (R : Nat) (s : ByteArray) (a : Int) (w : World) (hs : s.size ≤ 9223372036854775807) (h : RdP w R s a) :
    Calls Try.prog 102 #[.pointer (some ⟨R, 0, none⟩), .func (.func 103) #[] #[]] w fun e w' => ∃ (u : Value) (m : Nat), e = .returned (.tuple #[u, .bool (prD s.data.toList a).isSome]) ∧ RdP w' R s m ∧ OwnD w' w.heap.size u (prL (prD s.data.toList a)) ∧ (∀ z k, prD s.data.toList a = some (z, k) → m = k) ∧ Mv (· = R) w w' := by
  have g0 := h.two
  have f0 := h.f1
  have HR := Lib.hid h
  have hc := fun W => pread_new s a W hs
  clear h
  obtain ⟨m, hv, hx⟩ := prV_form (prD s.data.toList a)
  rw [hv] at hc
  generalize prD s.data.toList a = r at hc hx ⊢
  have HX := Lib.hid hx
  clear hx hv
  go_enter Try.func102, Try.ntmps102
  go_wp2_with fail
  go_region_held3 (fun w' => w'.cell? ⟨R, 0, none⟩ = some (.string s) ∧ w'.cell? ⟨R, 1, none⟩ = some (.int .i64 a)) (first | exact g0 | exact g1)
    (first | (go_at_call 103; ((refine (hc _).mono ?_); rintro e wa ⟨u, rfl, ho, ha⟩; have g1 := keepR ha g0; have f2 := (ha.frozen (p := ⟨R, 1, none⟩) (lt_of_cellN g0.1)).trans f0)))
  have hlt : R < w.heap.size := lt_of_cellN g0.1
  have hne : u.ownBlock ≠ some R := fun e => by have h1 : w.heap.size ≤ R := (ho.lt R e).1; omega
  have HO : Hid (OwnD (wa.setCell ⟨R, 1, none⟩ (.int .i64 (m : Int))) w.heap.size u (prL r)) := Lib.hid (ownsRow_setCell_other ho hne _)
  have hb := bstep ((Below.refl w.heap.size w).drew) ha
  have HB := Lib.hid hb
  clear hb ho
  go_wp2
  go_ret2
  exact ⟨u, m, rfl, (HR.out.keep HB.out).put m, HO.out, HX.out, Mv.set (P := (· = R)) (b := R) (Mv.of_below HB.out) rfl _⟩
end Go.Proofs.Ytllagelopdedfaa
/- The reader's parts: numbers, signs, texts, stamps, pasts. -/
namespace Go.Proofs.Ytllagelopdedfaa
open Go.RowKit
set_option linter.unusedVariables false
set_option linter.unusedSimpArgs false

/-- A number of at most 63. -/
def rdI (s : List UInt8) (a : Int) : Option (Int × Nat) :=
  match rd s a with
  | none => none
  | some (n, e) => if n ≤ 63 then some ((n : Int), e) else none
def rdF (s : List UInt8) (a : Int) : Option (Bool × Nat) :=
  match rdI s a with
  | none => none
  | some (n, e) => if n ≤ 1 then some (decide (n = 1), e) else none
def rdPa (s : List UInt8) (a : Int) : Option (Int × Nat) :=
  match rdI s a with
  | none => none
  | some (n, e) => some (n - 1, e)
theorem ret2b {v v' : Value} {b c : Bool} (hv : v = v') (h : b = c) : Ending.returned (.tuple #[v, .bool b]) = .returned (.tuple #[v', .bool c]) := by subst hv h; rfl
theorem rdI_some {s : List UInt8} {a : Int} {n : Int} {e : Nat} (h : rdI s a = some (n, e)) : ∃ k : Nat, n = k ∧ k ≤ 63 ∧ rd s a = some (k, e) := by
  unfold rdI at h
  cases hr : rd s a with
  | none => rw [hr] at h; cases h
  | some x =>
    obtain ⟨k, e'⟩ := x
    rw [hr] at h
    simp only at h
    by_cases c : k ≤ 63
    · rw [if_pos c] at h
      cases h
      exact ⟨k, rfl, c, rfl⟩
    · rw [if_neg c] at h; cases h

set_option maxRecDepth 100000 in
set_option maxHeartbeats 800000 in
theorem number_part (R : Nat) (s : ByteArray) (a : Int) (w : World) (hs : s.size ≤ 9223372036854775807) (h : RdP w R s a) :
    Calls Try.prog 58 #[.pointer (some ⟨R, 0, none⟩)] w fun e w' => ∃ (x : Int) (m : Nat), e = .returned (.tuple #[.int .i64 x, .bool (rdI s.data.toList a).isSome]) ∧ RdP w' R s m ∧ (∀ z k, rdI s.data.toList a = some (z, k) → x = z ∧ m = k) ∧ Mv (· = R) w w' := by
  have hc := nextU_any R s a w hs h
  clear h
  cases hr : rd s.data.toList a with
  | none =>
    have hi : rdI s.data.toList a = none := by simp [rdI, hr]
    rw [hi]
    rw [hr] at hc
    clear hr hi
    go_enter Try.func58, Try.ntmps58
    go_wp2_with fail
    refine hc.mono ?_
    rintro e w1 ⟨x, m, rfl, hR, hx, hmv⟩
    go_wp2
    go_ret2
    exact ⟨_, m, rfl, hR, fun z k h => (by cases h), hmv⟩
  | some y =>
    obtain ⟨n, k⟩ := y
    rw [hr] at hc
    by_cases h63 : n ≤ 63
    · have hi : rdI s.data.toList a = some ((n : Int), k) := by simp [rdI, hr, h63]
      rw [hi]
      have hw : wrap64 (n : Int) = n := by unfold wrap64; omega
      have hd : decide ((n : Int) ≤ 63) = true := by simp; omega
      have hdi : (n : Int) ≤ 63 := by omega
      clear hr hi
      go_enter Try.func58, Try.ntmps58
      go_wp2_with fail
      refine hc.mono ?_
      rintro e w1 ⟨x, m, rfl, hR, hx, hmv⟩
      obtain ⟨rfl, rfl⟩ := hx n k rfl
      clear hx
      go_wp2
      go_ret2
      exact ⟨_, m, rfl, hR, fun z k h => (by cases h; first | exact ⟨rfl, rfl⟩ | exact ⟨hw, rfl⟩), hmv⟩
    · have hi : rdI s.data.toList a = none := by simp [rdI, hr, h63]
      rw [hi]
      have hdi : ¬ (n : Int) ≤ 63 := by omega
      clear hr hi h63
      go_enter Try.func58, Try.ntmps58
      go_wp2_with fail
      refine hc.mono ?_
      rintro e w1 ⟨x, m, rfl, hR, hx, hmv⟩
      obtain ⟨rfl, rfl⟩ := hx n k rfl
      clear hx
      go_wp2
      go_ret2
      exact ⟨_, m, ret2b rfl (decide_eq_false (by omega)), hR, fun z k h => (by cases h), hmv⟩

set_option maxRecDepth 100000 in
set_option maxHeartbeats 800000 in
theorem flag_part (R : Nat) (s : ByteArray) (a : Int) (w : World) (hs : s.size ≤ 9223372036854775807) (h : RdP w R s a) :
    Calls Try.prog 76 #[.pointer (some ⟨R, 0, none⟩)] w fun e w' => ∃ (x : Bool) (m : Nat), e = .returned (.tuple #[.bool x, .bool (rdF s.data.toList a).isSome]) ∧ RdP w' R s m ∧ (∀ z k, rdF s.data.toList a = some (z, k) → x = z ∧ m = k) ∧ Mv (· = R) w w' := by
  have hc := number_part R s a w hs h
  clear h
  cases hr : rdI s.data.toList a with
  | none =>
    have hi : rdF s.data.toList a = none := by simp [rdF, hr]
    rw [hi]
    rw [hr] at hc
    clear hr hi
    go_enter Try.func76, Try.ntmps76
    go_wp2_with fail
    refine hc.mono ?_
    rintro e w1 ⟨x, m, rfl, hR, hx, hmv⟩
    clear hx
    go_wp2
    go_ret2
    exact ⟨_, m, rfl, hR, fun z k h => (by cases h), hmv⟩
  | some y =>
    obtain ⟨n, k⟩ := y
    rw [hr] at hc
    by_cases h63 : n ≤ 1
    · have hi : rdF s.data.toList a = some (decide (n = 1), k) := by simp [rdF, hr, h63]
      rw [hi]
      clear hr hi
      go_enter Try.func76, Try.ntmps76
      go_wp2_with fail
      refine hc.mono ?_
      rintro e w1 ⟨x, m, rfl, hR, hx, hmv⟩
      obtain ⟨rfl, rfl⟩ := hx n k rfl
      clear hx
      go_wp2
      all_goals
        go_ret2
        exact ⟨_, m, rfl, hR, fun z k h => (by cases h; first | exact ⟨rfl, rfl⟩ | exact ⟨by simp_all, rfl⟩), hmv⟩
    · have hi : rdF s.data.toList a = none := by simp [rdF, hr, h63]
      rw [hi]
      clear hr hi
      go_enter Try.func76, Try.ntmps76
      go_wp2_with fail
      refine hc.mono ?_
      rintro e w1 ⟨x, m, rfl, hR, hx, hmv⟩
      obtain ⟨rfl, rfl⟩ := hx n k rfl
      clear hx
      go_wp2
      all_goals
        go_ret2
        exact ⟨_, m, ret2b rfl (decide_eq_false (by omega)), hR, fun z k h => (by cases h), hmv⟩

set_option maxRecDepth 100000 in
set_option maxHeartbeats 800000 in
theorem parent_part (R : Nat) (s : ByteArray) (a : Int) (w : World) (hs : s.size ≤ 9223372036854775807) (h : RdP w R s a) :
    Calls Try.prog 62 #[.pointer (some ⟨R, 0, none⟩)] w fun e w' => ∃ (x : Int) (m : Nat), e = .returned (.tuple #[.int .i64 x, .bool (rdPa s.data.toList a).isSome]) ∧ RdP w' R s m ∧ (∀ z k, rdPa s.data.toList a = some (z, k) → x = z ∧ m = k) ∧ Mv (· = R) w w' := by
  have hc := number_part R s a w hs h
  clear h
  cases hr : rdI s.data.toList a with
  | none =>
    have hi : rdPa s.data.toList a = none := by simp [rdPa, hr]
    rw [hi]
    rw [hr] at hc
    clear hr hi
    go_enter Try.func62, Try.ntmps62
    go_wp2_with fail
    refine hc.mono ?_
    rintro e w1 ⟨x, m, rfl, hR, hx, hmv⟩
    clear hx
    go_wp2
    go_ret2
    exact ⟨_, m, rfl, hR, fun z k h => (by cases h), hmv⟩
  | some y =>
    obtain ⟨n, k⟩ := y
    have hi : rdPa s.data.toList a = some (n - 1, k) := by simp [rdPa, hr]
    obtain ⟨q, rfl, hq, _⟩ := rdI_some hr
    have hw : wrap64 ((q : Int) - 1) = (q : Int) - 1 := by unfold wrap64; omega
    rw [hi]
    rw [hr] at hc
    clear hr hi
    go_enter Try.func62, Try.ntmps62
    go_wp2_with fail
    refine hc.mono ?_
    rintro e w1 ⟨x, m, rfl, hR, hx, hmv⟩
    obtain ⟨rfl, rfl⟩ := hx q k rfl
    clear hx
    go_wp2
    go_ret2
    exact ⟨_, m, rfl, hR, fun z k h => (by cases h; first | exact ⟨rfl, rfl⟩ | exact ⟨hw, rfl⟩), hmv⟩

set_option maxRecDepth 100000 in
set_option maxHeartbeats 800000 in
theorem text_part (R : Nat) (s : ByteArray) (a : Int) (w : World) (hs : s.size ≤ 9223372036854775807) (h : RdP w R s a) :
    Calls Try.prog 60 #[.pointer (some ⟨R, 0, none⟩)] w fun e w' => ∃ (x : ByteArray) (m : Nat), e = .returned (.tuple #[.string x, .bool (rdt s.data.toList a (s.size : Int)).isSome]) ∧ RdP w' R s m ∧ (∀ z k, rdt s.data.toList a (s.size : Int) = some (z, k) → x = ⟨z.toArray⟩ ∧ m = k) ∧ Mv (· = R) w w' := by
  have hc := nextT_any R s a w hs h
  clear h
  go_enter Try.func60, Try.ntmps60
  go_wp2_with fail
  refine hc.mono ?_
  rintro e w1 ⟨x, m, rfl, hR, hx, hmv⟩
  have HX := Lib.hid hx
  clear hx hc
  go_wp2
  go_ret2
  exact ⟨x, m, rfl, hR, HX.out, hmv⟩

set_option maxRecDepth 100000 in
set_option maxHeartbeats 800000 in
theorem past_part (R : Nat) (s : ByteArray) (a : Int) (w : World) (hs : s.size ≤ 9223372036854775807) (h : RdP w R s a) :
    Calls Try.prog 80 #[.pointer (some ⟨R, 0, none⟩)] w fun e w' => ∃ (u : Value) (m : Nat), e = .returned (.tuple #[u, .bool (prD s.data.toList a).isSome]) ∧ RdP w' R s m ∧ OwnD w' w.heap.size u (prL (prD s.data.toList a)) ∧ (∀ z k, prD s.data.toList a = some (z, k) → m = k) ∧ Mv (· = R) w w' := by
  have hc := nextD_any R s a w hs h
  clear h
  go_enter Try.func80, Try.ntmps80
  go_wp2_with fail
  refine hc.mono ?_
  rintro e w1 ⟨u, m, rfl, hR, ho, hx, hmv⟩
  have HX := Lib.hid hx
  have HO := Lib.hid ho
  clear hx hc ho
  go_wp2
  go_ret2
  exact ⟨u, m, rfl, hR, HO.out, HX.out, hmv⟩

set_option maxRecDepth 100000 in
set_option maxHeartbeats 800000 in
theorem stamp_part (R : Nat) (s : ByteArray) (a : Int) (w : World) (hs : s.size ≤ 9223372036854775807) (h : RdP w R s a) :
    Calls Try.prog 78 #[.pointer (some ⟨R, 0, none⟩)] w fun e w' => ∃ (x y : Int) (m : Nat), e = .returned (.tuple #[.agg #[.int .i64 x, .int .i64 y], .bool (Sm.rdS (rd s.data.toList) a).isSome]) ∧ RdP w' R s m ∧ (∀ z k, Sm.rdS (rd s.data.toList) a = some (z, k) → (x, y) = z ∧ m = k) ∧ Mv (· = R) w w' := by
  have hb0 : Below w.heap.size w (w.alloc (.cells #[.int .i64 0, .int .i64 0] 67)) := balloc (Below.refl _ w) _
  have h0 := h.keep hb0
  have hRw := h.lt
  have hD0 := Var2.mk (w := w.alloc (.cells #[.int .i64 0, .int .i64 0] 67)) (b := w.heap.size) (p := (0, 0)) (by simp) (by simp) (by simp) (by simp)
  have hc := fun W (hW : RdP W R s a) => nextS_any R s a W hs hW
  go_enter Try.func78, Try.ntmps78
  go_wp2_with fail
  generalize w.alloc (.cells #[.int .i64 0, .int .i64 0] 67) = w0 at *
  refine (hc _ h0).mono ?_
  rintro e w1 ⟨x, y, m, rfl, hR, hx, hmv⟩
  have HX := Lib.hid hx
  have hD1 := hD0.block (hmv.block w.heap.size (lt_of_cellN hD0.c0) (by omega))
  obtain ⟨p0, p1, q0, q1⟩ := id hD1
  have HD1 := Lib.hid hD1
  have HMV : Hid (Mv (· = R) w w1) := Lib.hid ((Mv.of_below hb0).trans hmv)
  have hne : R ≠ w.heap.size := by omega
  have HR := Lib.hid hR
  clear hx hc hR hmv hD1 hD0 h0 hb0 h
  go_wp2
  have hv := HD1.out.put x y
  have r0 := hv.c0
  have r1 := hv.c1
  simp only at r0 r1
  refine bodyPost_ret (v := .tuple #[.agg #[.int .i64 x, .int .i64 y], .bool (Sm.rdS (rd s.data.toList) a).isSome]) (by simp [results, Try.results78, go_sem, r0, r1]) rfl ⟨x, y, m, rfl, (HR.out.other (Ne.symm hne) _).other (Ne.symm hne) _, HX.out, ?_⟩
  have hmv := HMV.out
  exact ⟨hmv.os, hmv.tape, hmv.output, by simpa using hmv.size, fun k hk hp => by rw [Below.heap_setCell _ _ _ _ (by show k ≠ w.heap.size; omega), Below.heap_setCell _ _ _ _ (by show k ≠ w.heap.size; omega)]; exact hmv.block k hk hp⟩

set_option maxRecDepth 100000 in
set_option maxHeartbeats 800000 in
theorem done_any (R : Nat) (s : ByteArray) (a : Int) (w : World) (h : RdP w R s a) :
    Calls Try.prog 64 #[.pointer (some ⟨R, 0, none⟩)] w fun e w' => e = .returned (.bool (decide (a = (s.size : Int)))) ∧ Below w.heap.size w w' := by
  have c0 := h.c0
  have c1 := h.c1
  clear h
  go_enter Try.func64, Try.ntmps64
  go_wp2
  go_quiet (fail)
  go_wp2
  all_goals
    go_ret
    exact ⟨ret_bool (by first | rfl | simp), below_drewN (Below.refl _ _) _⟩
end Go.Proofs.Ytllagelopdedfaa
/- Rows of ranges in memory. -/
namespace Go.Proofs.Ytllagelopdedfaa
open Go.RowKit
set_option linter.unusedVariables false

theorem RngIn.below {w w' : World} {a : Option Addr} {rs : List (ByteArray × ByteArray)} (h : RngIn w a rs) (hb : Below w.heap.size w w') : RngIn w' a rs := by
  intro i hi
  obtain ⟨b, off, rfl, hlt, h0, h1⟩ := h i hi
  exact ⟨b, off, rfl, by have := hb.size; omega, kcell hb hlt h0, kcell hb hlt h1⟩

/-- The texts of ranges. -/
def tls (rs : List (ByteArray × ByteArray)) : List (List UInt8 × List UInt8) := rs.map fun r => (r.1.data.toList, r.2.data.toList)
theorem tls_len (rs : List (ByteArray × ByteArray)) : (tls rs).length = rs.length := by simp [tls]
theorem tls_get (rs : List (ByteArray × ByteArray)) (i : Nat) (h : i < rs.length) : (tls rs)[i]'(by rw [tls_len]; exact h) = (rs[i].1.data.toList, rs[i].2.data.toList) := by simp [tls]
theorem tls_take (rs : List (ByteArray × ByteArray)) (k : Nat) : (tls rs).take k = tls (rs.take k) := by simp [tls, List.map_take]

end Go.Proofs.Ytllagelopdedfaa
/- What keys.Good and keys.Meet answer. -/
namespace Go.Proofs.Ytllagelopdedfaa
open Go.RowKit
set_option linter.unusedVariables false

set_option maxRecDepth 100000 in
set_option maxHeartbeats 400000 in
theorem bound_any (s : ByteArray) (w : World) (hs : s.size ≤ 9223372036854775807) :
    Calls Try.prog 97 #[.string s] w fun e w' => e = .returned (.bool (Km.bound s.data.toList)) ∧ Below w.heap.size w w' := by
  by_cases h : s.data.toList = []
  · have h1 : s.toList = [] := by rw [Lib.toList_data]; exact h
    go_enter Try.func97, Try.ntmps97
    go_wp2
    go_ret
    exact ⟨ret_bool (by simp [Km.bound, h]), Below.refl _ _⟩
  · have h1 : ¬ s.toList = [] := by rw [Lib.toList_data]; exact h
    have h2 : s.toList.isEmpty = false := by simpa using h1
    clear h
    go_enter Try.func97, Try.ntmps97
    go_wp2_with fail
    refine (check_any s _ hs).mono ?_
    rintro e w1 ⟨rfl, hb⟩
    generalize hc : Km.chk s.data.toList = c
    have HC := Lib.hid hc
    clear hc
    go_wp2
    go_ret
    rw [Lib.toList_data] at h2
    exact ⟨ret_bool (by rw [Km.bound, HC.out, h2]; simp), hb⟩

set_option maxRecDepth 100000 in
set_option maxHeartbeats 1000000 in
theorem good_any (f t : ByteArray) (w : World) (hf : f.size ≤ 9223372036854775807) (ht : t.size ≤ 9223372036854775807) :
    Calls Try.prog 68 #[.agg #[.string f, .string t]] w fun e w' => e = .returned (.bool (Km.good f.data.toList t.data.toList)) ∧ Below w.heap.size w w' := by
  go_enter Try.func68, Try.ntmps68
  go_wp2_with fail
  refine (bound_any f _ hf).mono ?_
  rintro e w1 ⟨rfl, hb⟩
  obtain ⟨c0, c1, z1, hb1⟩ := box2 hb
  clear hb
  cases hbf : Km.bound f.data.toList with
  | false =>
    have H1 := Lib.hid hbf
    clear hbf
    go_wp2
    go_ret
    exact ⟨ret_bool (by simp [Km.good, H1.out]), hb1⟩
  | true =>
    have H1 := Lib.hid hbf
    clear hbf
    go_wp2_with fail
    refine (bound_any t _ ht).mono ?_
    rintro e w2 ⟨rfl, hb⟩
    have d0 := kcell hb z1 c0
    have d1 := kcell hb z1 c1
    have hb2 := bstep hb1 hb
    clear c0 c1 hb hb1 z1
    cases hbt : Km.bound t.data.toList with
    | false =>
      have H2 := Lib.hid hbt
      clear hbt
      go_wp2
      go_ret
      exact ⟨ret_bool (by simp [Km.good, H1.out, H2.out]), hb2⟩
    | true =>
      have H2 := Lib.hid hbt
      clear hbt
      go_wp2
      all_goals
        go_ret
        refine ⟨ret_bool ?_, hb2⟩
        rw [Km.good, H1.out, H2.out, ← Km.bl_gtr f.data.toList, ← Lib.toList_data, ← Lib.toList_data]
        simp_all

end Go.Proofs.Ytllagelopdedfaa
/- The document's Good and Meet. -/
namespace Go.Proofs.Ytllagelopdedfaa
open Go.RowKit
set_option linter.unusedVariables false

set_option maxRecDepth 100000 in
set_option maxHeartbeats 800000 in
theorem refGood_any (f t : ByteArray) (w : World) (hf : f.size ≤ 9223372036854775807) (ht : t.size ≤ 9223372036854775807) :
    Calls Try.prog 70 #[.agg #[.string f, .string t]] w fun e w' => e = .returned (.bool (Km.good f.data.toList t.data.toList)) ∧ Below w.heap.size w w' := by
  go_enter Try.func70, Try.ntmps70
  go_wp2_with fail
  refine (refCheck_any f _ hf).mono ?_
  rintro e w1 ⟨rfl, rfl⟩
  generalize hx : Km.chk f.data.toList = x
  have HX := Lib.hid hx
  clear hx
  go_wp2_with fail
  refine (refCheck_any t _ ht).mono ?_
  rintro e w1 ⟨rfl, rfl⟩
  generalize hy : Km.chk t.data.toList = y
  have HY := Lib.hid hy
  clear hy
  cases x <;> cases y
  all_goals
    go_wp2
    all_goals
      go_ret
      refine ⟨ret_bool ?_, (Below.refl _ _).alloc (Nat.le_refl _) _⟩
      unfold Km.good Km.bound
      rw [HX.out, HY.out, ← Lib.toList_data, ← Lib.toList_data]
      simp_all

end Go.Proofs.Ytllagelopdedfaa
/- The place of the first range that has a key. -/
namespace Go.Proofs.Ytllagelopdedfaa
open Go.RowKit
set_option linter.unusedVariables false

namespace Km
def fidx (rs : List (List UInt8 × List UInt8)) (key : List UInt8) : Int := match rs.findIdx? (fun r => has r.1 r.2 key) with | none => -1 | some i => i
theorem fidx_hit {rs : List (List UInt8 × List UInt8)} {key : List UInt8} {k : Nat} (hk : k < rs.length) (h : ∀ j (hj : j < rs.length), j < k → has rs[j].1 rs[j].2 key = false) (hh : has rs[k].1 rs[k].2 key = true) : fidx rs key = k := by
  unfold fidx
  have : rs.findIdx? (fun r => has r.1 r.2 key) = some k := by
    rw [List.findIdx?_eq_some_iff_getElem]
    refine ⟨hk, by simpa using hh, fun j hj => ?_⟩
    rw [h j (by omega) hj]
    simp
  rw [this]
theorem fidx_none {rs : List (List UInt8 × List UInt8)} {key : List UInt8} (h : ∀ j (hj : j < rs.length), has rs[j].1 rs[j].2 key = false) : fidx rs key = -1 := by
  unfold fidx
  have : rs.findIdx? (fun r => has r.1 r.2 key) = none := by
    rw [List.findIdx?_eq_none_iff]
    intro x hx
    obtain ⟨j, hj, rfl⟩ := List.getElem_of_mem hx
    exact h j hj
  rw [this]
end Km
end Go.Proofs.Ytllagelopdedfaa
