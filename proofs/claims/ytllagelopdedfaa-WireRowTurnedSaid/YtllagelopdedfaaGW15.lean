/- Texts of this proof, one behind the other: WireSev, ContI, RowAt, WireEnc, RefNumber. -/
import Derived.Test.YtllagelopdedfaaGW14
import Derived.Shelf.GgClosure.Gives
import Derived.Deep.DeepCutAuto
import Derived.Test.YtllagelopdedfaaProg
import Derived.WalkKit
import Derived.WalkLawsBesides
import Derived.Lib.Hide
import Derived.Deep.RegionWith
import Derived.Deep.RegionHeld3
/- So many parts of a kind, to the list at their place. -/
namespace Go.Proofs.Ytllagelopdedfaa
open Go.RowKit
set_option linter.unusedVariables false
set_option linter.unusedSimpArgs false

/-- What the place of a list holds, and what else is as it was. -/
structure Sev {α : Type} (K : RK α) (w W : World) (R B o : Nat) (s : ByteArray) (u : Value) (l : List α) (m : Int) : Prop where
  rd : RdP W R s m
  c : W.cell? ⟨B, o, none⟩ = some u
  f : W.frozen? ⟨B, o, none⟩ = false
  own : OwnR K W w.heap.size u l
  mv : Mv (fun k => k = R ∨ k = B) w W
  oth : ∀ j, j ≠ o → W.cell? ⟨B, j, none⟩ = w.cell? ⟨B, j, none⟩
  frz : ∀ j, W.frozen? ⟨B, j, none⟩ = w.frozen? ⟨B, j, none⟩
theorem Sev.start {α : Type} (K : RK α) {w : World} {R B o : Nat} {s : ByteArray} {m : Int} (h : RdP w R s m) (c : w.cell? ⟨B, o, none⟩ = some (.slice none 0 0)) (f : w.frozen? ⟨B, o, none⟩ = false) : Sev K w w R B o s (.slice none 0 0) [] m :=
  ⟨h, c, f, OwnR.nil _ _ _, Mv.refl _ _, fun _ _ => rfl, fun _ => rfl⟩
/-- A part was read. -/
theorem Sev.part {α : Type} {K : RK α} {w W w1 : World} {R B o : Nat} {s : ByteArray} {u : Value} {l : List α} {m m' : Int} (h : Sev K w W R B o s u l m) (hne : B ≠ R) (hR : R < w.heap.size) (hr : RdP w1 R s m') (hm : Mv (· = R) W w1) : Sev K w w1 R B o s u l m' := by
  have hB : w1.heap[B]? = W.heap[B]? := hm.block B (lt_of_cellN h.c) (fun e => hne e)
  refine ⟨hr, by rw [World.cell?_of_block hB]; exact h.c, by rw [World.frozen?_of_block hB]; exact h.f, h.own.block (fun g e => hm.block g (h.own.lt g e).2 (fun e2 => by have := (h.own.lt g e).1; omega)), h.mv.trans (hm.mono (fun k e => .inl e)), fun j hj => ?_, fun j => ?_⟩
  · rw [World.cell?_of_block hB]; exact h.oth j hj
  · rw [World.frozen?_of_block hB]; exact h.frz j
/-- It was put to the list. -/
theorem Sev.push {α : Type} {K : RK α} {w w1 w2 : World} {R B o : Nat} {s : ByteArray} {u u' : Value} {l l' : List α} {m : Int} (h : Sev K w w1 R B o s u l m) (hne : B ≠ R) (hR : R < w.heap.size) (hB : B < w.heap.size) (ho : OwnR K w2 w.heap.size u' l') (hb : Below w.heap.size w1 w2) : Sev K w (w2.setCell ⟨B, o, none⟩ u') R B o s u' l' m := by
  have hBB := hb.block B hB
  have c2 : w2.cell? ⟨B, o, none⟩ = some u := by rw [World.cell?_of_block hBB]; exact h.c
  refine ⟨(h.rd.block (hb.block R hR)).other hne _, World.cell?_setCell_same _ _ _ c2, ?_, ho.block (fun g e => Below.heap_setCell _ _ _ _ (by have := (ho.lt g e).1; show g ≠ B; omega)), (h.mv.low hb).set (.inr rfl) _, fun j hj => ?_, fun j => ?_⟩
  · rw [World.frozen?_setCell, World.frozen?_of_block hBB]; exact h.f
  · rw [World.cell?_setCell_other _ _ _ _ (by simp [hj]), World.cell?_of_block hBB]; exact h.oth j hj
  · rw [World.frozen?_setCell, World.frozen?_of_block hBB]; exact h.frz j
/-- What is asked of the reading of a part. -/
def PartOk {α : Type} (G R : Nat) (s : ByteArray) (enc : α → Value) (same : α → α → Prop) (f : Int → Option (α × Nat)) : Prop :=
  ∀ (W : World) (m : Nat), RdP W R s (m : Int) → Calls Try.prog G #[.pointer (some ⟨R, 0, none⟩)] W fun e w' => ∃ (x : α) (m' : Nat), e = .returned (.tuple #[enc x, .bool (f (m : Int)).isSome]) ∧ RdP w' R s (m' : Int) ∧ (∀ z k, f (m : Int) = some (z, k) → same x z ∧ m' = k) ∧ Mv (· = R) W w'

set_option maxRecDepth 100000 in
set_option maxHeartbeats 1600000 in
theorem several_ints (G : Nat) (eg : ∀ args w, (callFunc G args).run Try.prog w = .ok (.enter G args) w) (f : Int → Option (Int × Nat)) (R B o a : Nat) (s : ByteArray) (cnt : Int) (w : World) (hcnt : cnt ≤ 1000) (hp : PartOk G R s (fun x : Int => .int .i64 x) (fun x z => x = z) f) (h : RdP w R s a) (hne : B ≠ R) (hB : B < w.heap.size) (c0 : w.cell? ⟨B, o, none⟩ = some (.slice none 0 0)) (f0 : w.frozen? ⟨B, o, none⟩ = false) :
    Calls Try.prog 61 #[.pointer (some ⟨B, o, none⟩), .int .i64 cnt, .func (.func G) #[.pointer (some ⟨R, 0, none⟩)] #[]] w fun e w' => ∃ (u : Value) (l : List Int) (m : Nat), e = .returned (.bool (goN f cnt.toNat [] a).isSome) ∧ Sev KI w w' R B o s u l m ∧ l.length ≤ 1000 ∧ (∀ z k, goN f cnt.toNat [] a = some (z, k) → l = z ∧ m = k) := by
  have hRw := h.lt
  have hst := Sev.start KI h c0 f0
  obtain ⟨n, hn⟩ : ∃ n : Nat, cnt.toNat = n := ⟨_, rfl⟩
  rw [hn]
  generalize hr : goN f n [] a = r
  have HR := Lib.hid hr
  have HP := Lib.hid hp
  have HST := Lib.hid hst
  have HB := Lib.hid hB
  have HRW := Lib.hid hRw
  clear hr hp hst h c0 f0 hB hRw
  go_enter Try.func61, Try.ntmps61
  go_wp2
  go_loopw [10] (fun i wr => ∃ (k : Nat) (u : Value) (l : List Int) (m : Nat), k ≤ n ∧ i = .int .i64 k ∧ l.length = k ∧ goN f (n - k) l m = r ∧ Sev KI w wr R B o s u l m) (fun i _ => n - (intOf i).toNat)
  case atStart => exact ⟨0, _, [], a, by omega, rfl, rfl, HR.out, HST.out⟩
  case round =>
    obtain ⟨k, u, l, m, hk, rfl, rfl, hgo, hsv⟩ := hrel
    have HG := Lib.hid hgo
    have HS := Lib.hid hsv
    clear hgo hsv
    by_cases hlt : l.length < n
    · have hlti : (l.length : Int) < cnt := by omega
      obtain ⟨j, hj⟩ : ∃ j, n - l.length = j + 1 := ⟨n - l.length - 1, by omega⟩
      rw [hj] at HG
      have HJ := Lib.hid hj
      have hcall := HP.out wr m HS.out.rd
      have hlen : l.length ≤ 1000 := by omega
      have HN := Lib.hid hn
      clear hj hlt hn
      cases hf : f (m : Int) with
      | none =>
        rw [hf] at hcall
        dsimp only [Option.isSome] at hcall
        have HNO : Hid (r = none) := Lib.hid (by rw [← HG.out, goN_no hf])
        clear hf
        go_wp2_with (go_at_fn G; refine hcall.mono ?_; rintro e w1 ⟨x, m', rfl, hr1, _, hm1⟩)
        go_ret
        rw [HNO.out]
        exact ⟨_, _, m', rfl, HS.out.part hne HRW.out hr1 hm1, hlen, fun z k h => by cases h⟩
      | some y =>
        obtain ⟨z, e1⟩ := y
        rw [hf] at hcall
        dsimp only [Option.isSome] at hcall
        have HG2 : Hid (goN f j (l ++ [z]) e1 = r) := Lib.hid (by rw [← HG.out, goN_step hf])
        clear hf
        go_wp2_with (first
          | (go_at_fn G; refine hcall.mono ?_; rintro e w1 ⟨x, m', rfl, hr1, hx1, hm1⟩; obtain ⟨rfl, rfl⟩ := hx1 z e1 rfl; have hs1 := HS.out.part hne HRW.out hr1 hm1; have HS1 := Lib.hid hs1; have k0 := hs1.c; have q0 := hs1.f; have HO1 := Lib.hid hs1.own; have hbs := hs1.mv.size; obtain ⟨sa, sc, rfl⟩ := hs1.own.shape; clear hs1 hr1 hx1 hm1 hcall)
          | (at_builtin; refine wp_pushR ki_ok (wr := w1) rfl _ _ rfl w.heap.size (.slice sa l.length sc) l x #[.int .i64 x] rfl rfl HO1.out rfl (by omega) hbs ?_; intro g2 cap2 w2 ho2 hb2 hk2 hat2 hlt2; have hsp := HS1.out.push hne HRW.out HB.out ho2 hb2; have HSP := Lib.hid hsp; have k2 : w2.cell? ⟨B, o, none⟩ = some (.slice sa l.length sc) := (by rw [World.cell?_of_block (hb2.block B HB.out)]; exact k0); have q2 : w2.frozen? ⟨B, o, none⟩ = false := (by rw [World.frozen?_of_block (hb2.block B HB.out)]; exact q0); clear hsp ho2 hb2 hk2 k0 q0))
        go_roundw
        case rel => exact ⟨l.length + 1, _, l ++ [x], m', by have := HJ.out; omega, by go_num, by simp, by rw [show n - (l.length + 1) = j by have := HJ.out; omega]; exact HG2.out, HSP.out⟩
        case measure => simp [intOf]; have := HJ.out; omega
    · obtain rfl : l.length = n := by omega
      have hge : ¬ (l.length : Int) < cnt := by omega
      have HD : Hid (r = some (l, m)) := Lib.hid (by rw [← HG.out, Nat.sub_self]; rfl)
      clear hlt hk
      have HN := Lib.hid hn
      clear hn
      go_wp2
      go_ret
      rw [HD.out]
      exact ⟨rfl, u, l, m, HS.out, by have := HN.out; omega, fun z k h => by cases h; exact ⟨rfl, rfl⟩⟩

set_option maxRecDepth 100000 in
set_option maxHeartbeats 1600000 in
theorem several_strs (G : Nat) (eg : ∀ args w, (callFunc G args).run Try.prog w = .ok (.enter G args) w) (f : Int → Option (ByteArray × Nat)) (R B o a : Nat) (s : ByteArray) (cnt : Int) (w : World) (hcnt : cnt ≤ 1000) (hp : PartOk G R s (fun x : ByteArray => .string x) (fun x z => x = z) f) (h : RdP w R s a) (hne : B ≠ R) (hB : B < w.heap.size) (c0 : w.cell? ⟨B, o, none⟩ = some (.slice none 0 0)) (f0 : w.frozen? ⟨B, o, none⟩ = false) :
    Calls Try.prog 59 #[.pointer (some ⟨B, o, none⟩), .int .i64 cnt, .func (.func G) #[.pointer (some ⟨R, 0, none⟩)] #[]] w fun e w' => ∃ (u : Value) (l : List ByteArray) (m : Nat), e = .returned (.bool (goN f cnt.toNat [] a).isSome) ∧ Sev KS w w' R B o s u l m ∧ l.length ≤ 1000 ∧ (∀ z k, goN f cnt.toNat [] a = some (z, k) → l = z ∧ m = k) := by
  have hRw := h.lt
  have hst := Sev.start KS h c0 f0
  obtain ⟨n, hn⟩ : ∃ n : Nat, cnt.toNat = n := ⟨_, rfl⟩
  rw [hn]
  generalize hr : goN f n [] a = r
  have HR := Lib.hid hr
  have HP := Lib.hid hp
  have HST := Lib.hid hst
  have HB := Lib.hid hB
  have HRW := Lib.hid hRw
  clear hr hp hst h c0 f0 hB hRw
  go_enter Try.func59, Try.ntmps59
  go_wp2
  go_loopw [10] (fun i wr => ∃ (k : Nat) (u : Value) (l : List ByteArray) (m : Nat), k ≤ n ∧ i = .int .i64 k ∧ l.length = k ∧ goN f (n - k) l m = r ∧ Sev KS w wr R B o s u l m) (fun i _ => n - (intOf i).toNat)
  case atStart => exact ⟨0, _, [], a, by omega, rfl, rfl, HR.out, HST.out⟩
  case round =>
    obtain ⟨k, u, l, m, hk, rfl, rfl, hgo, hsv⟩ := hrel
    have HG := Lib.hid hgo
    have HS := Lib.hid hsv
    clear hgo hsv
    by_cases hlt : l.length < n
    · have hlti : (l.length : Int) < cnt := by omega
      obtain ⟨j, hj⟩ : ∃ j, n - l.length = j + 1 := ⟨n - l.length - 1, by omega⟩
      rw [hj] at HG
      have HJ := Lib.hid hj
      have hcall := HP.out wr m HS.out.rd
      have hlen : l.length ≤ 1000 := by omega
      have HN := Lib.hid hn
      clear hj hlt hn
      cases hf : f (m : Int) with
      | none =>
        rw [hf] at hcall
        dsimp only [Option.isSome] at hcall
        have HNO : Hid (r = none) := Lib.hid (by rw [← HG.out, goN_no hf])
        clear hf
        go_wp2_with (go_at_fn G; refine hcall.mono ?_; rintro e w1 ⟨x, m', rfl, hr1, _, hm1⟩)
        go_ret
        rw [HNO.out]
        exact ⟨_, _, m', rfl, HS.out.part hne HRW.out hr1 hm1, hlen, fun z k h => by cases h⟩
      | some y =>
        obtain ⟨z, e1⟩ := y
        rw [hf] at hcall
        dsimp only [Option.isSome] at hcall
        have HG2 : Hid (goN f j (l ++ [z]) e1 = r) := Lib.hid (by rw [← HG.out, goN_step hf])
        clear hf
        go_wp2_with (first
          | (go_at_fn G; refine hcall.mono ?_; rintro e w1 ⟨x, m', rfl, hr1, hx1, hm1⟩; obtain ⟨rfl, rfl⟩ := hx1 z e1 rfl; have hs1 := HS.out.part hne HRW.out hr1 hm1; have HS1 := Lib.hid hs1; have k0 := hs1.c; have q0 := hs1.f; have HO1 := Lib.hid hs1.own; have hbs := hs1.mv.size; obtain ⟨sa, sc, rfl⟩ := hs1.own.shape; clear hs1 hr1 hx1 hm1 hcall)
          | (at_builtin; refine wp_pushR ks_ok (wr := w1) rfl _ _ rfl w.heap.size (.slice sa l.length sc) l x #[.string x] rfl rfl HO1.out rfl (by omega) hbs ?_; intro g2 cap2 w2 ho2 hb2 hk2 hat2 hlt2; have hsp := HS1.out.push hne HRW.out HB.out ho2 hb2; have HSP := Lib.hid hsp; have k2 : w2.cell? ⟨B, o, none⟩ = some (.slice sa l.length sc) := (by rw [World.cell?_of_block (hb2.block B HB.out)]; exact k0); have q2 : w2.frozen? ⟨B, o, none⟩ = false := (by rw [World.frozen?_of_block (hb2.block B HB.out)]; exact q0); clear hsp ho2 hb2 hk2 k0 q0))
        go_roundw
        case rel => exact ⟨l.length + 1, _, l ++ [x], m', by have := HJ.out; omega, by go_num, by simp, by rw [show n - (l.length + 1) = j by have := HJ.out; omega]; exact HG2.out, HSP.out⟩
        case measure => simp [intOf]; have := HJ.out; omega
    · obtain rfl : l.length = n := by omega
      have hge : ¬ (l.length : Int) < cnt := by omega
      have HD : Hid (r = some (l, m)) := Lib.hid (by rw [← HG.out, Nat.sub_self]; rfl)
      clear hlt hk
      have HN := Lib.hid hn
      clear hn
      go_wp2
      go_ret
      rw [HD.out]
      exact ⟨rfl, u, l, m, HS.out, by have := HN.out; omega, fun z k h => by cases h; exact ⟨rfl, rfl⟩⟩
end Go.Proofs.Ytllagelopdedfaa
/- What slices.ContainsFunc answers of ints. -/
namespace Go.Proofs.Ytllagelopdedfaa
open Go.RowKit
set_option linter.unusedVariables false
set_option linter.unusedSimpArgs false

def fidxI (p : Int → Bool) (l : List Int) : Int := match l.findIdx? p with | none => -1 | some i => i
theorem fidxI_hit {p : Int → Bool} {l : List Int} {k : Nat} (hk : k < l.length) (h : ∀ j (hj : j < l.length), j < k → p l[j] = false) (hh : p l[k] = true) : fidxI p l = k := by
  have e : l.findIdx? p = some k := by
    rw [List.findIdx?_eq_some_iff_getElem]
    exact ⟨hk, hh, fun j hj => by simpa using h j (by omega) hj⟩
  simp [fidxI, e]
theorem fidxI_none {p : Int → Bool} {l : List Int} (h : ∀ j (hj : j < l.length), p l[j] = false) : fidxI p l = -1 := by
  have e : l.findIdx? p = none := by
    rw [List.findIdx?_eq_none_iff]
    intro x hx
    obtain ⟨j, hj, rfl⟩ := List.getElem_of_mem hx
    simpa using h j hj
  simp [fidxI, e]
theorem fidxI_any (p : Int → Bool) (l : List Int) : decide (0 ≤ fidxI p l) = l.any p := by
  unfold fidxI
  cases h : l.findIdx? p with
  | none =>
    rw [List.findIdx?_eq_none_iff] at h
    have : l.any p = false := by rw [List.any_eq_false]; intro x hx; simp [h x hx]
    rw [this]
    rfl
  | some i =>
    rw [List.findIdx?_eq_some_iff_getElem] at h
    obtain ⟨hi, hh, _⟩ := h
    have : l.any p = true := List.any_eq_true.2 ⟨l[i], List.getElem_mem hi, hh⟩
    rw [this]
    simp
/-- What is asked of a predicate over ints. -/
def PredI (g : Nat) (lb : Array Value) (p : Int → Bool) (l : List Int) (base : Nat) (w : World) : Prop :=
  ∀ (W : World) (d : Int), d ∈ l → Below base w W → Calls Try.prog g (#[.int .i64 d] ++ lb) W fun e w' => e = .returned (.bool (p d)) ∧ Below W.heap.size W w'

set_option maxRecDepth 100000 in
set_option maxHeartbeats 800000 in
theorem idxFuncI_any (g : Nat) (lb : Array Value) (eg : ∀ args w, (callFunc g args).run Try.prog w = .ok (.enter g args) w) (p : Int → Bool) (a : Option Addr) (cap base : Nat) (l : List Int) (w : World) (hl : l.length ≤ 1000000) (hr : RowIn KI w a l) (hbs : base ≤ w.heap.size) (hp : PredI g lb p l base w) :
    Calls Try.prog 69 #[.slice a l.length cap, .func (.func g) #[] lb] w fun e w' => e = .returned (.int .i64 (fidxI p l)) ∧ Below w.heap.size w w' := by
  have HR := Lib.hid hr
  have HP := Lib.hid hp
  clear hr hp
  go_enter Try.func69, Try.ntmps69
  go_wp2
  go_loopw [8] (fun i wr => ∃ k : Nat, k ≤ l.length ∧ i = .int .i64 k ∧ (∀ j (hj : j < l.length), j < k → p l[j] = false) ∧ Below w.heap.size w wr) (fun i _ => l.length - (intOf i).toNat)
  case atStart => exact ⟨0, by omega, rfl, (fun j hj h => by omega), Below.refl _ _⟩
  case round =>
    obtain ⟨k, hk, rfl, hall, hbel⟩ := hrel
    have HA := Lib.hid hall
    clear hall
    by_cases hlt : k < l.length
    · obtain ⟨b, off, rfl, hbl, c0⟩ := (HR.out.below hbel).int k hlt
      have hcall := HP.out wr l[k] (List.getElem_mem hlt) (hbel.mono hbs)
      have HH := Lib.hid (@fidxI_hit p l k hlt HA.out)
      have HN : Hid (p l[k] = false → ∀ j (hj : j < l.length), j < k + 1 → p l[j] = false) := Lib.hid (fun h j hj h2 => by
        by_cases e : j = k
        · subst e; exact h
        · exact HA.out j hj (by omega))
      generalize l[k] = d at c0 hcall HH HN
      cases hq : p d with
      | true =>
        rw [hq] at hcall
        have HQ := Lib.hid hq
        clear hq
        go_wp2_with (go_at_fn g; refine hcall.mono ?_; rintro e w' ⟨rfl, hb'⟩)
        go_ret
        exact ⟨ret_int (HH.out HQ.out).symm, bstep hbel hb'⟩
      | false =>
        rw [hq] at hcall
        have HQ := Lib.hid hq
        clear hq
        go_wp2_with (go_at_fn g; refine hcall.mono ?_; rintro e w' ⟨rfl, hb'⟩)
        go_roundw
        case rel => exact ⟨k + 1, by omega, by go_num, HN.out HQ.out, bstep hbel hb'⟩
        case measure => simp [intOf]; omega
    · obtain rfl : k = l.length := by omega
      go_wp2
      go_ret
      exact ⟨ret_int (fidxI_none (fun j hj => HA.out j hj hj)).symm, hbel⟩

set_option maxRecDepth 100000 in
set_option maxHeartbeats 800000 in
theorem contFuncI_any (g : Nat) (lb : Array Value) (eg : ∀ args w, (callFunc g args).run Try.prog w = .ok (.enter g args) w) (p : Int → Bool) (v : Value) (base : Nat) (l : List Int) (w : World) (hl : l.length ≤ 1000000) (hr : RowAt KI w v l) (hbs : base ≤ w.heap.size) (hp : PredI g lb p l base w) :
    Calls Try.prog 43 #[v, .func (.func g) #[] lb] w fun e w' => e = .returned (.bool (l.any p)) ∧ Below w.heap.size w w' := by
  obtain ⟨a, cap, rfl, _, _, _, hri⟩ := hr
  have hcon := idxFuncI_any g lb eg p a cap base l w hl hri hbs hp
  rw [← fidxI_any]
  generalize fidxI p l = r at hcon ⊢
  clear hri hp
  go_enter Try.func43, Try.ntmps43
  go_wp2_with fail
  refine hcon.mono ?_
  rintro e w1 ⟨rfl, hb⟩
  go_wp2
  all_goals
    go_ret
    exact ⟨ret_bool (by simp_all), hb⟩

end Go.Proofs.Ytllagelopdedfaa
/- A row of the partition table in memory. -/
namespace Go.Proofs.Ytllagelopdedfaa
open Go.RowKit
set_option linter.unusedVariables false
set_option linter.unusedSimpArgs false

/-- A row's three slices in memory. -/
structure RwAt (w : World) (u0 u1 u2 : Value) (c : Rw) : Prop where
  rs : RowAt KR w u0 c.rs
  ow : RowAt KI w u1 c.ow
  pa : RowAt KI w u2 c.pa
  sz : Szs c.rs
theorem RwAt.below {w w' : World} {u0 u1 u2 : Value} {c : Rw} (h : RwAt w u0 u1 u2 c) (hb : Below w.heap.size w w') : RwAt w' u0 u1 u2 c := ⟨h.rs.below hb, h.ow.below hb, h.pa.below hb, h.sz⟩
/-- A variable of a row's type. -/
structure VrP (w : World) (b : Nat) (u0 u1 u2 : Value) : Prop where
  c0 : w.cell? ⟨b, 0, none⟩ = some u0
  c1 : w.cell? ⟨b, 1, none⟩ = some u1
  c2 : w.cell? ⟨b, 2, none⟩ = some u2
  f : ∀ j, j < 3 → w.frozen? ⟨b, j, none⟩ = false
theorem VrP.lt {w : World} {b : Nat} {u0 u1 u2 : Value} (h : VrP w b u0 u1 u2) : b < w.heap.size := lt_of_cellN h.c0
theorem VrP.block {w w' : World} {b : Nat} {u0 u1 u2 : Value} (h : VrP w b u0 u1 u2) (hb : w'.heap[b]? = w.heap[b]?) : VrP w' b u0 u1 u2 := by
  refine ⟨?_, ?_, ?_, fun j hj => by rw [World.frozen?_of_block hb]; exact h.f j hj⟩ <;> rw [World.cell?_of_block hb]
  · exact h.c0
  · exact h.c1
  · exact h.c2
theorem VrP.keep {w w' : World} {b : Nat} {u0 u1 u2 : Value} (h : VrP w b u0 u1 u2) (hb : Below w.heap.size w w') : VrP w' b u0 u1 u2 := h.block (hb.block b h.lt)
theorem VrP.new (w : World) (u0 u1 u2 : Value) (T : TypeId) : VrP (w.alloc (.cells #[u0, u1, u2] T)) w.heap.size u0 u1 u2 := ⟨by simp, by simp, by simp, fun j hj => by simp⟩

end Go.Proofs.Ytllagelopdedfaa
/- What slices.ContainsFunc answers of ints; what wire.encodable answers of a row. -/
namespace Go.Proofs.Ytllagelopdedfaa
open Go.RowKit
set_option linter.unusedVariables false
set_option linter.unusedSimpArgs false

set_option maxRecDepth 100000 in
theorem noP_any (p : Int) (w : World) :
    Calls Try.prog 85 #[.int .i64 p] w fun e w' => e = .returned (.bool (noP p)) ∧ Below w.heap.size w w' := by
  unfold noP
  by_cases h1 : p < -1
  · go_enter Try.func85, Try.ntmps85
    go_wp2
    go_ret
    exact ⟨ret_bool (by simp [h1]), Below.refl _ _⟩
  · rw [decide_eq_false h1, Bool.false_or]
    go_enter Try.func85, Try.ntmps85
    go_wp2
    go_ret
    exact ⟨ret_bool rfl, Below.refl _ _⟩

set_option maxRecDepth 100000 in
theorem noO_any (o : Int) (n B : Nat) (w : World) (hn : 1 ≤ n ∧ n ≤ 6) (hc : w.cell? ⟨B, 0, none⟩ = some (.int .i64 (n : Int))) :
    Calls Try.prog 86 #[.int .i64 o, .pointer (some ⟨B, 0, none⟩)] w fun e w' => e = .returned (.bool (noO n o)) ∧ Below w.heap.size w w' := by
  unfold noO
  have hw : wrap64 ((2 : Int) ^ n) = ((2 ^ n : Nat) : Int) := by
    rcases (show n = 1 ∨ n = 2 ∨ n = 3 ∨ n = 4 ∨ n = 5 ∨ n = 6 by omega) with rfl | rfl | rfl | rfl | rfl | rfl <;> kernel_rfl
  by_cases h1 : o < 1
  · go_enter Try.func86, Try.ntmps86
    go_wp2
    go_ret
    exact ⟨ret_bool (by simp [h1]), Below.refl _ _⟩
  · rw [decide_eq_false h1, Bool.false_or]
    go_enter Try.func86, Try.ntmps86
    go_wp2
    go_ret
    exact ⟨ret_bool (by first | rw [hw] | rfl), Below.refl _ _⟩

set_option maxRecDepth 100000 in
set_option maxHeartbeats 1600000 in
theorem encodable_any (c : Rw) (u0 u1 u2 : Value) (w : World) (h : RwAt w u0 u1 u2 c) :
    Calls Try.prog 51 #[.agg #[u0, u1, u2]] w fun e w' => e = .returned (.bool (okRw c)) ∧ Below w.heap.size w w' := by
  have hmf : ∀ (fn : Fn) (first cap : Array Value) (w : World), (Instr.makeFunc fn first cap).run Try.prog w = .ok (.func fn first cap) w := fun _ _ _ _ => rfl
  have HW := Lib.hid h
  obtain ⟨a0, cp0, hu0, hq0, hm0, _, hri0⟩ := h.rs
  obtain ⟨a1, cp1, hu1, hq1, hm1, _⟩ := h.ow
  obtain ⟨a2, cp2, hu2, hq2, hm2, _⟩ := h.pa
  obtain ⟨rs, ow, pa⟩ := c
  dsimp only at hu0 hu1 hu2 hq0 hq1 hq2 hri0
  unfold maxLen at hm0 hm1 hm2
  subst hu0 hu1 hu2
  have hV := VrP.new w (.slice a0 rs.length cp0) (.slice a1 ow.length cp1) (.slice a2 pa.length cp2) 25
  have hb0 : Below w.heap.size w (w.alloc (.cells #[.slice a0 rs.length cp0, .slice a1 ow.length cp1, .slice a2 pa.length cp2] 25)) := balloc (Below.refl _ w) _
  have hbn := balloc (Below.refl _ (w.alloc (.cells #[.slice a0 rs.length cp0, .slice a1 ow.length cp1, .slice a2 pa.length cp2] 25))) (.cells #[.int .i64 (pa.length : Int)] 3)
  have hN : ((w.alloc (.cells #[.slice a0 rs.length cp0, .slice a1 ow.length cp1, .slice a2 pa.length cp2] 25)).alloc (.cells #[.int .i64 (pa.length : Int)] 3)).cell? ⟨w.heap.size + 1, 0, none⟩ = some (.int .i64 (pa.length : Int)) := by simp
  have hV2 := hV.keep hbn
  have hbw := bstep hb0 hbn
  clear h hV hb0 hbn
  generalize hOK : okRw ⟨rs, ow, pa⟩ = OK
  have HOK := Lib.hid hOK
  clear hOK
  go_enter Try.func51, Try.ntmps51
  go_upto_region 2 with fail
  generalize (w.alloc (.cells #[.slice a0 rs.length cp0, .slice a1 ow.length cp1, .slice a2 pa.length cp2] 25)).alloc (.cells #[.int .i64 (pa.length : Int)] 3) = w2 at *
  have HV2 := Lib.hid hV2
  have HBW := Lib.hid hbw
  obtain ⟨c0, c1, c2, _⟩ := hV2
  clear hbw
  by_cases hok : 1 ≤ pa.length ∧ pa.length ≤ 6 ∧ rs.length ≤ 8 ∧ ow.length = rs.length
  · obtain ⟨k1, k2, k3, k4⟩ := hok
    have t1 : ¬ (pa.length : Int) < 1 := by omega
    have t2 : ¬ (6 : Int) < (pa.length : Int) := by omega
    have t3 : ¬ (8 : Int) < (rs.length : Int) := by omega
    have t4 : ((ow.length : Int) != (rs.length : Int)) = false := by rw [k4, bne_self_eq_false]
    have hwh := fun W (hb : Below w.heap.size w W) => whole_any a0 cp0 rs W (by omega) HW.out.sz (RowIn.rng (hri0.below hb))
    have hcp := fun W (hb : Below w.heap.size w W) => contFuncI_any 85 #[] (enters_of Try.func85 (by kernel_rfl) rfl) noP (.slice a2 pa.length cp2) W.heap.size pa W (by omega) (HW.out.pa.below hb) (Nat.le_refl _) (fun W' d _ _ => noP_any d W')
    have hco := fun W (hb : Below w.heap.size w W) (hn : W.cell? ⟨w.heap.size + 1, 0, none⟩ = some (.int .i64 (pa.length : Int))) => contFuncI_any 86 #[.pointer (some ⟨w.heap.size + 1, 0, none⟩)] (enters_of Try.func86 (by kernel_rfl) rfl) (noO pa.length) (.slice a1 ow.length cp1) W.heap.size ow W (by omega) (HW.out.ow.below hb) (Nat.le_refl _) (fun W' d _ hb' => noO_any d pa.length _ W' ⟨k1, k2⟩ (kc hb' hn))
    have e0 : okRw ⟨rs, ow, pa⟩ = (Km.whole (tls rs) && !(pa.any noP) && !(ow.any (noO pa.length))) := by
      unfold okRw
      rw [decide_eq_true (show 1 ≤ pa.length ∧ pa.length ≤ 6 ∧ rs.length ≤ 8 ∧ ow.length = rs.length from ⟨k1, k2, k3, k4⟩), Bool.true_and]
    rw [e0] at HOK
    generalize Km.whole (tls rs) = wb at hwh HOK
    generalize pa.any noP = pb at hcp HOK
    generalize ow.any (noO pa.length) = ob at hco HOK
    clear e0 k1 k2 k3 k4
    have hbw := HBW.out
    go_wp2_with fail
    refine (hwh _ hbw).mono ?_
    rintro e w3 ⟨rfl, hb3⟩
    have HB3 := Lib.hid (bstep hbw hb3)
    have hV3 := HV2.out.keep hb3
    have hN3 := kc hb3 hN
    clear c0 c1 c2 hb3 hbw hwh
    obtain ⟨c0, c1, c2, _⟩ := id hV3
    have HV3 := Lib.hid hV3
    clear hV3
    cases wb with
    | false =>
      go_wp2
      go_ret
      exact ⟨ret_bool (by rw [← HOK.out]; rfl), HB3.out⟩
    | true =>
      go_wp2_with fail
      refine (hcp _ HB3.out).mono ?_
      rintro e w4 ⟨rfl, hb4⟩
      have HB4 := Lib.hid (bstep HB3.out hb4)
      have hV4 := HV3.out.keep hb4
      have hN4 := kc hb4 hN3
      clear c0 c1 c2 hb4
      obtain ⟨c0, c1, c2, _⟩ := hV4
      cases pb with
      | true =>
        go_wp2
        go_ret
        exact ⟨ret_bool (by rw [← HOK.out]; rfl), HB4.out⟩
      | false =>
        go_wp2_with fail
        refine (hco _ HB4.out hN4).mono ?_
        rintro e w5 ⟨rfl, hb5⟩
        go_wp2
        go_ret
        exact ⟨ret_bool (by rw [← HOK.out]; simp), bstep HB4.out hb5⟩
  · have e0 : OK = false := by
      rw [← HOK.out]
      unfold okRw
      rw [decide_eq_false (show ¬ (1 ≤ pa.length ∧ pa.length ≤ 6 ∧ rs.length ≤ 8 ∧ ow.length = rs.length) from hok)]
      rfl
    subst e0
    clear HOK
    by_cases t1 : (pa.length : Int) < 1
    · clear hok
      go_wp2
      go_ret
      exact ⟨ret_bool (by simp_all), HBW.out⟩
    · by_cases t2 : (6 : Int) < (pa.length : Int)
      · clear hok
        go_wp2
        go_ret
        exact ⟨ret_bool (by simp_all), HBW.out⟩
      · by_cases t3 : (8 : Int) < (rs.length : Int)
        · clear hok
          go_wp2
          go_ret
          exact ⟨ret_bool (by simp_all), HBW.out⟩
        · have t4 : ((ow.length : Int) != (rs.length : Int)) = true := by rw [bne_iff_ne]; omega
          clear hok
          go_wp2
          go_ret
          exact ⟨ret_bool (by simp_all), HBW.out⟩
end Go.Proofs.Ytllagelopdedfaa
/- What the document's own Number answers. -/
namespace Go.Proofs.Ytllagelopdedfaa
open Go.RowKit
set_option linter.unusedVariables false

/-- A slice of one byte, as a string. -/
theorem conv_one (w : World) (b off : Nat) (c : UInt8) (x : Int) (hx : x = (c.toNat : Int)) (h : w.cell? ⟨b, off, none⟩ = some (.int .u8 x)) :
    (convert 56 9 (.slice (some ⟨b, off, none⟩) 1 1)).run Try.prog w = .ok (.string ⟨#[c]⟩) w := by
  subst hx
  exact run_convert_bytes_back (P := Try.prog) w 56 9 5 ⟨b, off, none⟩ 1 [c] Try.underlying56 Try.underlying5 Try.underlying9 (by
    intro j hj
    obtain rfl : j = 0 := by simpa using hj
    rw [Addr.add_lit]
    simp [h])

set_option maxRecDepth 100000 in
set_option maxHeartbeats 400000 in
theorem refNumber_any (f : Nat) : ∀ (n : Nat) (w : World), n < 128 ^ f → n < 18446744073709551616 →
    Calls Try.prog 65 #[.int .u64 n] w fun e w' => e = .returned (.string ⟨(Vm.enc n).toArray⟩) ∧ Below w.heap.size w w' := by
  have small : ∀ (n : Nat) (w : World), n < 128 → Calls Try.prog 65 #[.int .u64 n] w fun e w' => e = .returned (.string ⟨(Vm.enc n).toArray⟩) ∧ Below w.heap.size w w' := by
    intro n w hc
    obtain ⟨c, hcn⟩ : ∃ c : UInt8, c = UInt8.ofNat n := ⟨_, rfl⟩
    have hcn2 : (n : Int) = (c.toNat : Int) := by rw [hcn]; simp; omega
    have hcv : ∀ (w' : World) (b off : Nat), w'.cell? ⟨b, off, none⟩ = some (.int .u8 (n : Int)) → _ := fun w' b off h => conv_one w' b off c n hcn2 h
    have HC := Lib.hid hcn
    clear hcn hcn2
    go_enter Try.func65, Try.ntmps65
    go_wp2
    go_ret
    refine ⟨ret_str ?_, (Below.refl _ w).alloc (Nat.le_refl _) _⟩
    rw [Vm.enc_lt hc, HC.out]
  induction f with
  | zero =>
    intro n w h _
    exact small n w (by simp at h; omega)
  | succ f ih =>
    intro n w h hn
    have IH := Lib.hid ih
    have Hn := Lib.hid hn
    have Hf := Lib.hid h
    have HS := Lib.hid small
    clear ih hn h small
    by_cases hc : n < 128
    · exact HS.out n w hc
    · have hx : ∀ w', Calls Try.prog 65 #[.int .u64 (IntKind.u64.wrap ((n : Int) / 128))] w' fun e w'' => e = .returned (.string ⟨(Vm.enc (n / 128)).toArray⟩) ∧ Below w'.heap.size w' w'' := by
        intro w'
        have h := IH.out (n / 128) w' (by have := Hf.out; rw [Nat.pow_succ] at this; exact Nat.div_lt_of_lt_mul (by rw [Nat.mul_comm]; exact this)) (by have := Hn.out; omega)
        rw [show ((n / 128 : Nat) : Int) = IntKind.u64.wrap ((n : Int) / 128) from by rw [IntWalk.u64_in _ (by have := Hn.out; omega)]; omega] at h
        exact h
      have HX := Lib.hid hx
      clear hx
      obtain ⟨c, hcn⟩ : ∃ c : UInt8, c = UInt8.ofNat (n % 128 + 128) := ⟨_, rfl⟩
      have hcn2 : c.toNat = n % 128 + 128 := by rw [hcn, UInt8.toNat_ofNat']; omega
      have hcv : ∀ (w' : World) (b off : Nat), w'.cell? ⟨b, off, none⟩ = some (.int .u8 (IntKind.u8.wrap (IntKind.u64.wrap (128 + (n : Int).tmod 128)))) → _ := fun w' b off h => conv_one w' b off c _ (by rw [Int.tmod_eq_emod_of_nonneg (by omega), IntWalk.u64_in _ (by omega), IntWalk.u8_in _ (by omega)]; omega) h
      have HC := Lib.hid hcn
      clear hcn hcn2
      go_enter Try.func65, Try.ntmps65
      go_wp2
      have hl10 := Vm.enc_len10 (n := n / 128) (by have := Hn.out; omega)
      go_region_with (go_at_call 65; ((with_reducible refine (HX.out _).mono ?_); rintro e w2 ⟨rfl, hb2⟩; try (have hc2 : w2.cell? ⟨w.heap.size, 0, none⟩ = some (.int .u8 (IntKind.u8.wrap (IntKind.u64.wrap (128 + (n : Int).tmod 128)))) := by (rw [hb2.cell (p := ⟨w.heap.size, 0, none⟩) (by simp)]; simp))))
      all_goals
        go_wp2
        go_ret
        refine ⟨ret_str ?_, ?_⟩
        · rw [Vm.enc_ge (n := n) (by omega), ← HC.out]
          exact str_add [c] ⟨(Vm.enc (n / 128)).toArray⟩
        · first
            | exact bstep ((Below.refl _ w).alloc (Nat.le_refl _) _).drew hb2
            | exact (bstep (Below.refl _ w).drew hb2).alloc (bstep (Below.refl _ w).drew hb2).size _

theorem refNumber (n : Nat) (w : World) (hn : n < 18446744073709551616) :
    Calls Try.prog 65 #[.int .u64 n] w fun e w' => e = .returned (.string ⟨(Vm.enc n).toArray⟩) ∧ Below w.heap.size w w' :=
  refNumber_any 10 n w (by have : (18446744073709551616 : Nat) ≤ 128 ^ 10 := by decide
                           omega) hn

end Go.Proofs.Ytllagelopdedfaa
