/- A net of two sites of which one session is used. -/
import Derived.Test.YtgaghlofcokijaaNetAwake
namespace Go.Proofs.Ytgaghlofcokijaa
open Go.RowKit
set_option linter.unusedVariables false
set_option linter.unusedSimpArgs false

def zst : Nat → Nat → Ses := fun _ _ => Ses.zero
/-- Since w0 a net of two sites was made, behind the pointer to block n; the session from a to b stands so; the other was not used. -/
def Tw (w0 : World) (n a b : Nat) (s : Ses) (w : World) : Prop := NetAt w (fun k => k < w0.heap.size) n 2 (upd zst a b s) ∧ Below w0.heap.size w0 w
theorem upd_upd {α : Type} (f : Nat → Nat → α) (a b : Nat) (x y : α) : upd (upd f a b x) a b y = upd f a b y := by
  funext i j
  unfold upd
  split <;> rfl
theorem upd_zero (a b : Nat) : upd zst a b Ses.zero = zst := by
  funext i j
  unfold upd zst
  split <;> rfl
theorem Tw.below {w0 w w' : World} {n a b : Nat} {s : Ses} (h : Tw w0 n a b s w) (hb : Below w.heap.size w w') : Tw w0 n a b s w' := ⟨h.1.below hb, h.2.trans (hb.mono h.2.size)⟩
theorem Tw.ok {w0 w : World} {n a b : Nat} {s : Ses} (h : Tw w0 n a b s w) (ha : a < 2) (hb : b < 2) (hab : a ≠ b) : s.Ok := by
  obtain ⟨⟨_, _, _, _, _, _, h⟩, _⟩ := h
  have := h.ok a b ha hb hab
  rw [upd_same] at this
  exact this
theorem Tw.next {w0 w w' : World} {n a b : Nat} {s s' : Ses} (h : Tw w0 n a b s w) (h1 : NetAt w' (fun k => k < w0.heap.size) n 2 (upd (upd zst a b s) a b s')) (h2 : Mv (fun k => ¬ k < w0.heap.size) w w') : Tw w0 n a b s' w' := by
  rw [upd_upd] at h1
  exact ⟨h1, h.2.trans (h2.base h.2.size)⟩
section
variable {w0 w : World} {n a b : Nat} {s : Ses}
theorem tw_new (w : World) (a b : Nat) : Calls Try.prog 10 #[.int .i64 2] w fun e w' => ∃ n, e = .returned (.pointer (some ⟨n, 0, none⟩)) ∧ Tw w n a b Ses.zero w' := by
  refine (nnew_any 2 w (by omega) (by omega)).mono ?_
  rintro e w' ⟨n, rfl, h1, h2, h3⟩
  refine ⟨n, rfl, ?_, h3⟩
  rw [upd_zero]
  exact h2
theorem tw_send (h : Tw w0 n a b s w) (ha : a < 2) (hb : b < 2) (hab : a ≠ b) (d : ByteArray) (hn : s.all.length ≤ 900000) : Calls Try.prog 11 #[.pointer (some ⟨n, 0, none⟩), .int .i64 (a : Int), .int .i64 (b : Int), .string d] w fun e w' => e = .returned (.int .i64 s.sentE) ∧ Tw w0 n a b (s.sent d) w' := by
  have := nsend_net h.1 a b ha hb hab d (by rw [upd_same]; exact hn)
  rw [upd_same] at this
  refine this.mono ?_
  rintro e w' ⟨rfl, h1, h2⟩
  exact ⟨rfl, h.next h1 h2⟩
theorem tw_pick (h : Tw w0 n a b s w) (ha : a < 2) (hb : b < 2) (hab : a ≠ b) (at' how : Int) (hn : s.all.length ≤ 900000) : Calls Try.prog 13 #[.pointer (some ⟨n, 0, none⟩), .int .i64 (a : Int), .int .i64 (b : Int), .int .i64 at', .int .i64 how] w fun e w' => e = .returned (.tuple #[.string (s.pickT at' how).1, .bool (s.pickT at' how).2]) ∧ Tw w0 n a b (s.pick at' how) w' := by
  have := npick_net h.1 a b ha hb hab at' how (by rw [upd_same]; exact hn)
  rw [upd_same] at this
  refine this.mono ?_
  rintro e w' ⟨rfl, h1, h2⟩
  exact ⟨rfl, h.next h1 h2⟩
theorem tw_takes (h : Tw w0 n a b s w) (ha : a < 2) (hb : b < 2) (hab : a ≠ b) (at' : Int) (hn : s.all.length ≤ 900000) : Calls Try.prog 17 #[.pointer (some ⟨n, 0, none⟩), .int .i64 (a : Int), .int .i64 (b : Int), .int .i64 at'] w fun e w' => e = .returned (.tuple #[.string (s.takes at').1, .bool (s.takes at').2]) ∧ Below w.heap.size w w' := by
  have := ntakes_net h.1 a b ha hb hab at' (by rw [upd_same]; exact hn)
  rw [upd_same] at this
  exact this
theorem tw_again (h : Tw w0 n a b s w) (ha : a < 2) (hb : b < 2) (hab : a ≠ b) : Calls Try.prog 12 #[.pointer (some ⟨n, 0, none⟩), .int .i64 (a : Int), .int .i64 (b : Int)] w fun e w' => e = .returned (.int .i64 (s.againN : Int)) ∧ Tw w0 n a b s.again w' := by
  have := nagain_net h.1 a b ha hb hab
  rw [upd_same] at this
  refine this.mono ?_
  rintro e w' ⟨rfl, h1, h2⟩
  exact ⟨rfl, h.next h1 h2⟩
theorem tw_open (h : Tw w0 n a b s w) (ha : a < 2) (hb : b < 2) (hab : a ≠ b) : Calls Try.prog 14 #[.pointer (some ⟨n, 0, none⟩), .int .i64 (a : Int), .int .i64 (b : Int)] w fun e w' => e = .returned (.int .i64 (s.opn : Int)) ∧ Below w.heap.size w w' := by
  have := nopen_net h.1 a b ha hb hab
  rw [upd_same] at this
  exact this
theorem tw_openZ (h : Tw w0 n a b s w) (ha : a < 2) (hb : b < 2) (hab : a ≠ b) : Calls Try.prog 14 #[.pointer (some ⟨n, 0, none⟩), .int .i64 (b : Int), .int .i64 (a : Int)] w fun e w' => e = .returned (.int .i64 0) ∧ Below w.heap.size w w' := by
  have := nopen_net h.1 b a hb ha (Ne.symm hab)
  rw [upd_other _ _ (by omega)] at this
  exact this
theorem tw_flying (h : Tw w0 n a b s w) (ha : a < 2) (hb : b < 2) (hab : a ≠ b) : Calls Try.prog 15 #[.pointer (some ⟨n, 0, none⟩), .int .i64 (a : Int), .int .i64 (b : Int)] w (ClonedAt w s.way) := by
  have := nflying_net h.1 a b ha hb hab
  rw [upd_same] at this
  exact this
theorem idle_two (a b : Nat) (s : Ses) (ha : a < 2) (hb : b < 2) (hab : a ≠ b) : idle 2 (upd zst a b s) = (s.opn == 0) := by
  cases h : s.opn == 0 with
  | true =>
    rw [idle_iff]
    intro i j hi hj hij
    by_cases e : i = a ∧ j = b
    · obtain ⟨rfl, rfl⟩ := e
      rw [upd_same]
      simpa using h
    · rw [upd_other _ _ e]; rfl
  | false =>
    cases h2 : idle 2 (upd zst a b s) with
    | false => rfl
    | true =>
      rw [idle_iff] at h2
      have := h2 a b ha hb hab
      rw [upd_same] at this
      rw [this] at h
      cases h
theorem tw_idle (h : Tw w0 n a b s w) (ha : a < 2) (hb : b < 2) (hab : a ≠ b) : Calls Try.prog 16 #[.pointer (some ⟨n, 0, none⟩)] w fun e w' => e = .returned (.bool (s.opn == 0)) ∧ Below w.heap.size w w' := by
  have := nidle_net h.1
  rw [idle_two a b s ha hb hab] at this
  exact this
end
/-- The session from 0 to 1, its numbers spelled out. -/
abbrev T01 (w0 : World) (n : Nat) (s : Ses) (w : World) : Prop := Tw w0 n 0 1 s w
section
variable {w0 w : World} {n : Nat} {s : Ses}
theorem t01_send (h : T01 w0 n s w) (d : ByteArray) (hn : s.all.length ≤ 900000) : Calls Try.prog 11 #[.pointer (some ⟨n, 0, none⟩), .int .i64 0, .int .i64 1, .string d] w fun e w' => e = .returned (.int .i64 s.sentE) ∧ T01 w0 n (s.sent d) w' := tw_send (a := 0) (b := 1) h (by decide) (by decide) (by decide) d hn
theorem t01_pick (h : T01 w0 n s w) (at' how : Int) (hn : s.all.length ≤ 900000) : Calls Try.prog 13 #[.pointer (some ⟨n, 0, none⟩), .int .i64 0, .int .i64 1, .int .i64 at', .int .i64 how] w fun e w' => e = .returned (.tuple #[.string (s.pickT at' how).1, .bool (s.pickT at' how).2]) ∧ T01 w0 n (s.pick at' how) w' := tw_pick (a := 0) (b := 1) h (by decide) (by decide) (by decide) at' how hn
theorem t01_takes (h : T01 w0 n s w) (at' : Int) (hn : s.all.length ≤ 900000) : Calls Try.prog 17 #[.pointer (some ⟨n, 0, none⟩), .int .i64 0, .int .i64 1, .int .i64 at'] w fun e w' => e = .returned (.tuple #[.string (s.takes at').1, .bool (s.takes at').2]) ∧ Below w.heap.size w w' := tw_takes (a := 0) (b := 1) h (by decide) (by decide) (by decide) at' hn
theorem t01_again (h : T01 w0 n s w) : Calls Try.prog 12 #[.pointer (some ⟨n, 0, none⟩), .int .i64 0, .int .i64 1] w fun e w' => e = .returned (.int .i64 (s.againN : Int)) ∧ T01 w0 n s.again w' := tw_again (a := 0) (b := 1) h (by decide) (by decide) (by decide)
theorem t01_open (h : T01 w0 n s w) : Calls Try.prog 14 #[.pointer (some ⟨n, 0, none⟩), .int .i64 0, .int .i64 1] w fun e w' => e = .returned (.int .i64 (s.opn : Int)) ∧ Below w.heap.size w w' := tw_open (a := 0) (b := 1) h (by decide) (by decide) (by decide)
theorem t01_openZ (h : T01 w0 n s w) : Calls Try.prog 14 #[.pointer (some ⟨n, 0, none⟩), .int .i64 1, .int .i64 0] w fun e w' => e = .returned (.int .i64 0) ∧ Below w.heap.size w w' := tw_openZ (a := 0) (b := 1) h (by decide) (by decide) (by decide)
theorem t01_flying (h : T01 w0 n s w) : Calls Try.prog 15 #[.pointer (some ⟨n, 0, none⟩), .int .i64 0, .int .i64 1] w (ClonedAt w s.way) := tw_flying (a := 0) (b := 1) h (by decide) (by decide) (by decide)
theorem t01_idle (h : T01 w0 n s w) : Calls Try.prog 16 #[.pointer (some ⟨n, 0, none⟩)] w fun e w' => e = .returned (.bool (s.opn == 0)) ∧ Below w.heap.size w w' := tw_idle (a := 0) (b := 1) h (by decide) (by decide) (by decide)
end

/-- The session from 1 to 0. -/
abbrev T10 (w0 : World) (n : Nat) (s : Ses) (w : World) : Prop := Tw w0 n 1 0 s w
section
variable {w0 w : World} {n : Nat} {s : Ses}
theorem t10_send (h : T10 w0 n s w) (d : ByteArray) (hn : s.all.length ≤ 900000) : Calls Try.prog 11 #[.pointer (some ⟨n, 0, none⟩), .int .i64 1, .int .i64 0, .string d] w fun e w' => e = .returned (.int .i64 s.sentE) ∧ T10 w0 n (s.sent d) w' := tw_send (a := 1) (b := 0) h (by decide) (by decide) (by decide) d hn
theorem t10_pick (h : T10 w0 n s w) (at' how : Int) (hn : s.all.length ≤ 900000) : Calls Try.prog 13 #[.pointer (some ⟨n, 0, none⟩), .int .i64 1, .int .i64 0, .int .i64 at', .int .i64 how] w fun e w' => e = .returned (.tuple #[.string (s.pickT at' how).1, .bool (s.pickT at' how).2]) ∧ T10 w0 n (s.pick at' how) w' := tw_pick (a := 1) (b := 0) h (by decide) (by decide) (by decide) at' how hn
theorem t10_takes (h : T10 w0 n s w) (at' : Int) (hn : s.all.length ≤ 900000) : Calls Try.prog 17 #[.pointer (some ⟨n, 0, none⟩), .int .i64 1, .int .i64 0, .int .i64 at'] w fun e w' => e = .returned (.tuple #[.string (s.takes at').1, .bool (s.takes at').2]) ∧ Below w.heap.size w w' := tw_takes (a := 1) (b := 0) h (by decide) (by decide) (by decide) at' hn
theorem t10_again (h : T10 w0 n s w) : Calls Try.prog 12 #[.pointer (some ⟨n, 0, none⟩), .int .i64 1, .int .i64 0] w fun e w' => e = .returned (.int .i64 (s.againN : Int)) ∧ T10 w0 n s.again w' := tw_again (a := 1) (b := 0) h (by decide) (by decide) (by decide)
theorem t10_open (h : T10 w0 n s w) : Calls Try.prog 14 #[.pointer (some ⟨n, 0, none⟩), .int .i64 1, .int .i64 0] w fun e w' => e = .returned (.int .i64 (s.opn : Int)) ∧ Below w.heap.size w w' := tw_open (a := 1) (b := 0) h (by decide) (by decide) (by decide)
theorem t10_openZ (h : T10 w0 n s w) : Calls Try.prog 14 #[.pointer (some ⟨n, 0, none⟩), .int .i64 0, .int .i64 1] w fun e w' => e = .returned (.int .i64 0) ∧ Below w.heap.size w w' := tw_openZ (a := 1) (b := 0) h (by decide) (by decide) (by decide)
theorem t10_flying (h : T10 w0 n s w) : Calls Try.prog 15 #[.pointer (some ⟨n, 0, none⟩), .int .i64 1, .int .i64 0] w (ClonedAt w s.way) := tw_flying (a := 1) (b := 0) h (by decide) (by decide) (by decide)
theorem t10_idle (h : T10 w0 n s w) : Calls Try.prog 16 #[.pointer (some ⟨n, 0, none⟩)] w fun e w' => e = .returned (.bool (s.opn == 0)) ∧ Below w.heap.size w w' := tw_idle (a := 1) (b := 0) h (by decide) (by decide) (by decide)
end

def sX : ByteArray := ⟨#[120]⟩
set_option maxRecDepth 100000 in
set_option maxHeartbeats 1600000 in
theorem awake11_any (w : World) :
    Calls Try.prog 9 #[] w fun e w' => e = .returned (.bool true) ∧ Below w.heap.size w w' := by
  have e1 : Ses.zero.sentE = 0 := rfl
  have e2 : Ses.zero.sent ⟨#[120]⟩ = ⟨[⟨#[120]⟩], 0, [(0, ⟨#[120]⟩)]⟩ := rfl
  have e3 : (⟨[⟨#[120]⟩], 0, [(0, ⟨#[120]⟩)]⟩ : Ses).pickT 0 1 = (⟨#[]⟩, false) := rfl
  have e4 : (⟨[⟨#[120]⟩], 0, [(0, ⟨#[120]⟩)]⟩ : Ses).pick 0 1 = ⟨[⟨#[120]⟩], 0, []⟩ := rfl
  have e5 : (⟨[⟨#[120]⟩], 0, []⟩ : Ses).againN = 1 := rfl
  have e6 : (⟨[⟨#[120]⟩], 0, []⟩ : Ses).again = ⟨[⟨#[120]⟩], 0, [(0, ⟨#[120]⟩)]⟩ := rfl
  have e7 : (⟨[⟨#[120]⟩], 0, [(0, ⟨#[120]⟩)]⟩ : Ses).pickT 0 0 = (⟨#[120]⟩, true) := rfl
  have e8 : (⟨[⟨#[120]⟩], 0, [(0, ⟨#[120]⟩)]⟩ : Ses).pick 0 0 = ⟨[⟨#[120]⟩], 1, []⟩ := rfl
  have c1 : ∀ {n w'}, T01 w n Ses.zero w' → _ := fun {n w'} h => t01_send h ⟨#[120]⟩ (by decide)
  rw [e1, e2] at c1
  have c2 : ∀ {n w'}, T01 w n ⟨[⟨#[120]⟩], 0, [(0, ⟨#[120]⟩)]⟩ w' → _ := fun {n w'} h => t01_pick h 0 1 (by decide)
  rw [e3, e4] at c2
  have c3 : ∀ {n w'}, T01 w n ⟨[⟨#[120]⟩], 0, []⟩ w' → _ := fun {n w'} h => t01_again h
  rw [e5, e6] at c3
  have c4 : ∀ {n w'}, T01 w n ⟨[⟨#[120]⟩], 0, [(0, ⟨#[120]⟩)]⟩ w' → _ := fun {n w'} h => t01_pick h 0 0 (by decide)
  rw [e7, e8] at c4
  have c5 : ∀ {n w'}, T01 w n ⟨[⟨#[120]⟩], 1, []⟩ w' → _ := fun {n w'} h => t01_idle h
  clear e1 e2 e3 e4 e5 e6 e7 e8
  go_enter Try.func9, Try.ntmps9
  go_wp2_with fail
  refine (tw_new w 0 1).mono ?_
  rintro e w1 ⟨n, rfl, h1⟩
  have hcall := c1 h1
  clear h1
  go_wp2_with fail
  refine hcall.mono ?_
  rintro e w2 ⟨rfl, h2⟩
  have hcall := c2 h2
  clear h2
  go_wp2_with fail
  refine hcall.mono ?_
  rintro e w3 ⟨rfl, h3⟩
  have hcall := c3 h3
  clear h3
  go_wp2_with fail
  refine hcall.mono ?_
  rintro e w4 ⟨rfl, h4⟩
  have hcall := c4 h4
  clear h4
  go_wp2_with fail
  refine hcall.mono ?_
  rintro e w5 ⟨rfl, h5⟩
  have hcall := c5 h5
  go_wp2_with fail
  refine hcall.mono ?_
  rintro e w6 ⟨rfl, h6⟩
  have HB := Lib.hid (h5.2.trans (h6.mono h5.2.size))
  clear h5 h6
  go_wp2
  go_ret
  exact ⟨rfl, HB.out⟩
end Go.Proofs.Ytgaghlofcokijaa
