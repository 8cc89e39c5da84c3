/- Texts of this proof, one behind the other: PastSrt, VaryAdd, VaryJoin, StampBytes, PastCheck, PastBytesMath, VaryRead, VaryText, StampRead. -/
import Derived.Test.YtfmedinhlmiaeaaGQ6
import Derived.Test.YtfmedinhlmiaeaaProg
import Derived.WalkKit
import Derived.WalkLawsBesides
import Derived.Lib.Hide
import Derived.Laws.BitsAllLaws
import Derived.Lib.Strings
/- Pasts that may be: rows that rise. Plain mathematics. -/
namespace Go.Proofs.Ytfmedinhlmiaeaa
open Go.RowKit
set_option linter.unusedVariables false

theorem ba_inj {a b : ByteArray} (h : a.data.toList = b.data.toList) : a = b := ByteArray.ext (Array.toList_inj.1 h)
theorem klt_irrefl (a : ByteArray) : klt a a = false := Km.bl_irrefl _
theorem klt_trans {a b c : ByteArray} (h : klt a b = true) (k : klt b c = true) : klt a c = true := Km.bl_trans h k
theorem klt_asymm {a b : ByteArray} (h : klt a b = true) : klt b a = false := Km.bl_asymm h
theorem klt_tri {a b : ByteArray} (h : klt a b = false) (k : klt b a = false) : a = b := ba_inj (Km.bl_tri h k)
theorem klt_ne {a b : ByteArray} (h : klt a b = true) : a ≠ b := by
  rintro rfl
  rw [klt_irrefl] at h
  cases h

/-- All may be, and the keys rise. -/
def Srt (l : List De) : Prop := (∀ d ∈ l, okD d = true) ∧ l.Pairwise (fun x y => klt x.1 y.1 = true)
instance (l : List De) : Decidable (Srt l) := inferInstanceAs (Decidable (_ ∧ _))
theorem Srt.nil : Srt [] := ⟨by simp, List.Pairwise.nil⟩
theorem Srt.take {l : List De} (h : Srt l) (k : Nat) : Srt (l.take k) := ⟨fun d hd => h.1 d (List.mem_of_mem_take hd), h.2.sublist (List.take_sublist k l)⟩
theorem Srt.tail {d : De} {l : List De} (h : Srt (d :: l)) : Srt l := ⟨fun e he => h.1 e (List.mem_cons_of_mem _ he), (List.pairwise_cons.1 h.2).2⟩
theorem Srt.sub {l m : List De} (h : Srt l) (s : m.Sublist l) : Srt m := ⟨fun d hd => h.1 d (s.subset hd), h.2.sublist s⟩

theorem srt_snoc (p : List De) (d : De) : Srt (p ++ [d]) ↔ Srt p ∧ folD p d = true := by
  unfold Srt folD
  rw [List.pairwise_append]
  constructor
  · rintro ⟨h1, h2, h3, h4⟩
    refine ⟨⟨fun e he => h1 e (by simp [he]), h2⟩, ?_⟩
    rw [h1 d (by simp), Bool.true_and]
    cases hg : p.getLast? with
    | none => rfl
    | some x =>
      have hx : x ∈ p := List.mem_of_getLast? hg
      exact h4 x hx d (by simp)
  · rintro ⟨⟨h1, h2⟩, h3⟩
    simp only [Bool.and_eq_true] at h3
    obtain ⟨h3, h4⟩ := h3
    refine ⟨fun e he => ?_, h2, List.pairwise_singleton _ _, ?_⟩
    · simp at he
      rcases he with he | rfl
      · exact h1 e he
      · exact h3
    · intro x hx y hy
      simp at hy
      subst hy
      cases hg : p.getLast? with
      | none =>
        rw [List.getLast?_eq_none_iff] at hg
        subst hg
        simp at hx
      | some z =>
        rw [hg] at h4
        simp only at h4
        obtain ⟨q, rfl⟩ := List.getLast?_eq_some_iff.1 hg
        simp at hx
        rcases hx with hx | rfl
        · exact klt_trans ((List.pairwise_append.1 h2).2.2 x hx z (by simp)) h4
        · exact h4
/-- May this past be? -/
def chkD (l : List De) : Bool := decide (l.length ≤ 24) && decide (Srt l)
theorem srt_step {l : List De} {k : Nat} (h : k < l.length) : Srt (l.take (k + 1)) ↔ Srt (l.take k) ∧ folD (l.take k) l[k] = true := by
  rw [List.take_succ_eq_append_getElem h, srt_snoc]
theorem srt_stop {l : List De} {k : Nat} (h : k < l.length) (hf : folD (l.take k) l[k] = false) : ¬ Srt l := by
  intro hs
  have := ((srt_step h).1 (hs.take (k + 1))).2
  rw [hf] at this
  cases this
theorem wid4 (l : List UInt8) : Km.wid l ≤ 4 := by
  unfold Km.wid
  split
  · omega
  · rename_i h
    exact (Km.widN_le (List.length_pos_iff.2 h)).2
theorem cnt_ge (low : Nat) (l : List UInt8) (n : Nat) (h : Km.cnt low l = some n) : l.length ≤ 4 * n := by
  induction hk : l.length using Nat.strongRecOn generalizing l n with
  | ind k ih =>
    by_cases h0 : l = []
    · subst h0
      simp at hk
      omega
    · by_cases hb : Km.wid l = 0 ∨ Km.nth l 0 < low
      · rw [Km.cnt_bad h0 hb] at h
        cases h
      · rw [Km.cnt_go h0 (by omega) (by omega)] at h
        have hp := List.length_pos_iff.2 h0
        cases hc : Km.cnt low (l.drop (Km.wid l)) with
        | none => rw [hc] at h; cases h
        | some m =>
          rw [hc] at h
          simp only [Option.map_some, Option.some.injEq] at h
          have := ih (l.drop (Km.wid l)).length (by simp; omega) (l.drop (Km.wid l)) m hc rfl
          have h4 := wid4 l
          simp at this
          omega
theorem chk_size {l : List UInt8} (h : Km.chk l = true) : l.length ≤ 32 ∧ 1 ≤ l.length := by
  unfold Km.chk Km.capV at h
  cases hc : Km.cnt 33 l with
  | none => rw [hc] at h; simp at h
  | some n =>
    rw [hc] at h
    have h1 := cnt_ge 33 l n hc
    have h2 := Km.cnt_le 33 l n hc
    simp at h
    split at h <;> simp at h
    omega
theorem okD_chk {d : De} (h : okD d = true) : Km.chk d.1.data.toList = true := by
  unfold okD at h
  simp at h
  exact h.1
theorem okD_size {d : De} (h : okD d = true) : d.1.size ≤ 32 := (chk_size (okD_chk h)).1
end Go.Proofs.Ytfmedinhlmiaeaa
/- What the closure of vary.Join does: it appends the bytes of one number to the captured row. -/
namespace Go.Proofs.Ytfmedinhlmiaeaa
open Go.RowKit

theorem info_u8 : (Try.prog.info? 5).map (fun i => (i.zero, i.size, i.bytes)) = some (some (.int .u8 0), 1, 1) := by kernel_rfl

def bytesV (l : List UInt8) : List Value := l.map fun c => .int .u8 (c.toNat : Int)

/-- The captured row of bytes: Bv is the variable's block, base: from where on the call's own blocks lie. -/
structure Buf (base Bv : Nat) (l : List UInt8) (w : World) : Prop where
  le : base ≤ Bv
  var : ∃ v, w.heap[Bv]? = some (.cells #[v] 82 (0, 0)) ∧ w.ownsRow base 5 1 v l.length (bytesV l)

theorem own_shape {w1 : World} {base e n : Nat} {v' : Value} {xs : List Value} (h : w1.ownsRow base e 1 v' n xs) : ∃ a k c, v' = .slice a k c := by
  rcases h.2 with ⟨rfl, _⟩ | ⟨g, cap, cur, rfl, _⟩
  · exact ⟨_, _, _, rfl⟩
  · exact ⟨_, _, _, rfl⟩

theorem buf_push {base Bv : Nat} {l : List UInt8} {c : UInt8} {wr w1 : World} {v v' : Value} {X : Obj} (hle : base ≤ Bv) (hbs : base ≤ wr.heap.size)
    (hv : wr.heap[Bv]? = some (.cells #[v] 82 (0, 0))) (ho : wr.ownsRow base 5 1 v l.length (bytesV l))
    (ho' : w1.ownsRow base 5 1 v' (l.length + 1) (bytesV l ++ [.int .u8 (c.toNat : Int)])) (hg : (wr.alloc X).grownBy w1 v.ownBlock) :
    w1.cell? ⟨Bv, 0, none⟩ = some v ∧ w1.frozen? ⟨Bv, 0, none⟩ = false ∧ Buf base Bv (l ++ [c]) (w1.setCell ⟨Bv, 0, none⟩ v') ∧ Below base wr (w1.setCell ⟨Bv, 0, none⟩ v') := by
  have hlt := lt_of_block hv
  have hne : some Bv ≠ v.ownBlock := by
    intro e
    rcases ho.2 with ⟨rfl, _⟩ | ⟨g, cap, cur, rfl, _, hh, _⟩
    · simp [Value.ownBlock] at e
    · simp [Value.ownBlock] at e
      subst e
      rw [hh] at hv
      simp at hv
  have hv1 : w1.heap[Bv]? = some (.cells #[v] 82 (0, 0)) := by
    rw [hg.block Bv (by simp; omega) hne, Below.heap_alloc _ _ _ hlt]
    exact hv
  have hne' : v'.ownBlock ≠ some Bv := by
    intro e
    rcases ho'.2 with ⟨rfl, _⟩ | ⟨g, cap, cur, rfl, _, hh, _⟩
    · simp [Value.ownBlock] at e
    · simp [Value.ownBlock] at e
      subst e
      rw [hh] at hv1
      simp at hv1
  refine ⟨cell_of_one hv1, free_of_one hv1, ⟨hle, _, one_setCell hv1, ?_⟩, ?_⟩
  · have := ownsRow_setCell_other ho' (a := ⟨Bv, 0, none⟩) hne' v'
    simpa [bytesV] using this
  · refine Below.setCell ?_ hle _
    refine ((Below.refl base wr).alloc hbs X).grown hg (by simp; omega) ?_
    intro k hk
    exact (ho.lt k hk).1

end Go.Proofs.Ytfmedinhlmiaeaa
/- What vary.Join answers. -/
namespace Go.Proofs.Ytfmedinhlmiaeaa
open Go.RowKit

theorem lt_of_cell? {w : World} {a : Addr} {v : Value} (h : w.cell? a = some v) : a.block < w.heap.size := by
  unfold World.cell? at h
  split at h
  · rename_i hb
    exact lt_of_block hb
  · cases h

/-- A row of numbers of 64 bits that is read: nil, or cells. -/
def U64s (w : World) (a : Option Addr) (zs : List Nat) : Prop :=
  (∀ z ∈ zs, z < 18446744073709551616) ∧ ∀ i (h : i < zs.length), ∃ b off, a = some ⟨b, off, none⟩ ∧ w.cell? ⟨b, off + i, none⟩ = some (.int .u64 (zs[i] : Int))

theorem buf_string {base Bv : Nat} {l : List UInt8} {w : World} (h : Buf base Bv l w) : ∃ v, w.cell? ⟨Bv, 0, none⟩ = some v ∧ (convert 82 9 v).run Try.prog w = .ok (.string ⟨l.toArray⟩) w := by
  obtain ⟨_, v, hv, ho⟩ := h
  refine ⟨v, cell_of_one hv, ?_⟩
  rcases ho.2 with ⟨rfl, h0⟩ | ⟨g, cap, cur, rfl, r⟩
  · obtain rfl : l = [] := List.length_eq_zero_iff.1 h0
    rw [run_convert_bytes_string w 82 9 5 none 0 0 Try.underlying82 Try.underlying5 Try.underlying9]
    rfl
  · have hcells : ∀ j (hj : j < l.length), w.cell? ((⟨g, 0, none⟩ : Addr).add j) = some (.int .u8 (l[j].toNat : Int)) := fun j hj => by
      rw [Addr.add_lit, Nat.zero_add, ho.cellAt j (by omega)]
      simp [bytesV, hj]
    exact run_convert_bytes_back (P := Try.prog) w 82 9 5 ⟨g, 0, none⟩ cap l Try.underlying82 Try.underlying5 Try.underlying9 hcells

/-- The bytes of all numbers, one behind the other. -/
def encs (zs : List Nat) : List UInt8 := zs.flatMap Vm.enc
theorem encs_len {zs : List Nat} (h : ∀ z ∈ zs, z < 18446744073709551616) : (encs zs).length ≤ 10 * zs.length := by
  induction zs with
  | nil => simp [encs]
  | cons z r ih =>
    have h1 := Vm.enc_len10 (h z (by simp))
    have h2 := ih (fun x hx => h x (by simp [hx]))
    simp [encs] at h2 ⊢
    omega
theorem encs_snoc (zs : List Nat) (k : Nat) (hk : k < zs.length) : encs (zs.take (k + 1)) = encs (zs.take k) ++ Vm.enc zs[k] := by
  unfold encs
  rw [List.take_succ_eq_append_getElem hk, List.flatMap_append, List.flatMap_singleton]

end Go.Proofs.Ytfmedinhlmiaeaa
/- What stamp.Bytes answers. -/
namespace Go.Proofs.Ytfmedinhlmiaeaa
open Go.RowKit
set_option linter.unusedVariables false

/-- The bytes of a stamp. -/
def sbytes (n s : Int) : List UInt8 := if Sm.ok n s = true then Vm.enc n.toNat ++ Vm.enc s.toNat else []

theorem Sm.ok_nat {n s : Int} (h : Sm.ok n s = true) : ∃ a b : Nat, n = a ∧ s = b ∧ 1 ≤ a ∧ a ≤ 1099511627776 ∧ b < 6 := by
  simp only [Sm.ok, decide_eq_true_eq] at h
  exact ⟨n.toNat, s.toNat, by omega, by omega, by omega, by omega, by omega⟩

end Go.Proofs.Ytfmedinhlmiaeaa
/- What past.Check and the document's Check answer. -/
namespace Go.Proofs.Ytfmedinhlmiaeaa
open Go.RowKit
set_option linter.unusedVariables false
set_option linter.unusedSimpArgs false

/-- No key is longer than a string can be. -/
def Szd (l : List De) : Prop := ∀ d ∈ l, d.1.size ≤ 9223372036854775807
theorem Srt.szd {l : List De} (h : Srt l) : Szd l := fun d hd => by have := okD_size (h.1 d hd); omega

theorem boxed3 {wr w1 : World} {x y z : Value} {T : TypeId} (hb : Below (wr.alloc (.cells #[x, y, z] T)).heap.size (wr.alloc (.cells #[x, y, z] T)) w1) : Below wr.heap.size wr w1 := (box3 hb).2.2.2.2

set_option maxRecDepth 100000 in
set_option maxHeartbeats 1600000 in
theorem pcheck_any (v : Value) (l : List De) (w : World) (hl : l.length ≤ 1000000) (hz : Szd l) (hr : DepAt w v l) :
    Calls Try.prog 56 #[v] w fun e w' => e = .returned (.bool (chkD l)) ∧ Below w.heap.size w w' := by
  obtain ⟨a, cap, rfl, hcap, hmx, _, hr⟩ := hr
  unfold maxLen at hmx
  have HR := Lib.hid hr
  have HZ := Lib.hid hz
  clear hr hz
  by_cases h24 : l.length ≤ 24
  · have hlt24 : ¬ (24 : Int) < (l.length : Int) := by omega
    have hc24 : chkD l = decide (Srt l) := by simp [chkD, h24]
    rw [hc24]
    clear hc24
    go_enter Try.func56, Try.ntmps56
    go_wp2
    go_loopw [10] (fun i wr => ∃ k : Nat, k ≤ l.length ∧ i = .int .i64 k ∧ Srt (l.take k) ∧ Below w.heap.size w wr) (fun i _ => l.length - (intOf i).toNat)
    case atStart => exact ⟨0, by omega, rfl, by simpa using Srt.nil, Below.refl _ _⟩
    case round =>
      obtain ⟨k, hk, rfl, hst, hbel⟩ := hrel
      have HS := Lib.hid hst
      clear hst
      by_cases hlt : k < l.length
      · obtain ⟨b, off, rfl, hbl, c0, c1, c2⟩ := HR.out.below hbel k hlt
        have HD := Lib.hid (HR.out.below hbel)
        have HP := Lib.hid (@srt_step l k hlt)
        have HQ := Lib.hid (@srt_stop l k hlt)
        have hs := HZ.out l[k] (List.getElem_mem hlt)
        generalize l[k] = d at c0 c1 c2 HP HQ hs
        obtain ⟨x, y, z⟩ := d
        dsimp only at c0 c1 c2 hs
        have hki : (k : Int) ≤ (cap : Int) := by omega
        have g0 : (wr.alloc (.cells #[.string x, .int .i64 y, .int .i64 z] 34)).cell? ⟨wr.heap.size, 0, none⟩ = some (.string x) ∧ (wr.alloc (.cells #[.string x, .int .i64 y, .int .i64 z] 34)).cell? ⟨wr.heap.size, 1, none⟩ = some (.int .i64 y) ∧ (wr.alloc (.cells #[.string x, .int .i64 y, .int .i64 z] 34)).cell? ⟨wr.heap.size, 2, none⟩ = some (.int .i64 z) := by
          refine ⟨?_, ?_, ?_⟩ <;> simp
        have HG := Lib.hid (HD.out.below (balloc (Below.refl _ wr) (.cells #[.string x, .int .i64 y, .int .i64 z] 34)))
        have hkl : Hid ((l.take k).length = k) := Lib.hid (by simp; omega)
        generalize hf : folD (l.take k) (x, y, z) = c at HP HQ
        have HF := Lib.hid hf
        clear hf
        go_wp2_with fail
        go_region_held3 (fun w' => w'.cell? ⟨wr.heap.size, 0, none⟩ = some (.string x) ∧ w'.cell? ⟨wr.heap.size, 1, none⟩ = some (.int .i64 y) ∧ w'.cell? ⟨wr.heap.size, 2, none⟩ = some (.int .i64 z))
          (first | exact g0 | exact g1)
          (first
            | (go_at_call 68; ((refine (follows_at _ k cap (l.take k) x y z c _ hkl.out (by have := hkl.out; omega) (HG.out.take k).drew hs HF.out).mono ?_); rintro e wa ⟨rfl, ha⟩; have g1 := keepC3 ha g0)))
        have hb2 := bstep hbel (boxed3 (bstep (Below.refl _ _).drew ha))
        cases c with
        | true =>
          go_wp2
          go_roundw
          case rel => exact ⟨k + 1, by omega, by go_num, HP.out.2 ⟨HS.out, rfl⟩, hb2⟩
          case measure => simp [intOf]; omega
        | false =>
          go_wp2
          go_ret
          exact ⟨ret_bool (decide_eq_false (HQ.out (by first | rfl | trivial))).symm, hb2⟩
      · obtain rfl : k = l.length := by omega
        have HE : Hid (Srt l) := Lib.hid (by have h := HS.out; rw [List.take_of_length_le (Nat.le_refl _)] at h; exact h)
        go_wp2
        go_ret
        exact ⟨ret_bool (decide_eq_true HE.out).symm, hbel⟩
  · have hlt24 : (24 : Int) < (l.length : Int) := by omega
    rw [show chkD l = false by simp [chkD, h24]]
    go_enter Try.func56, Try.ntmps56
    go_wp2
    go_ret
    exact ⟨rfl, Below.refl _ _⟩
end Go.Proofs.Ytfmedinhlmiaeaa
/- The bytes of a past: plain mathematics. -/
namespace Go.Proofs.Ytfmedinhlmiaeaa
open Go.RowKit
set_option linter.unusedVariables false

theorem enc_ne (n : Nat) : Vm.enc n ≠ [] := by
  rw [Vm.enc]
  split <;> simp
def dbytes (d : De) : List UInt8 := (Vm.enc d.1.size ++ d.1.data.toList) ++ sbytes d.2.1 d.2.2
def pbody (l : List De) : List UInt8 := l.flatMap dbytes
/-- The bytes of a past; none: it may not be. -/
def pbV (l : List De) : List UInt8 := if chkD l = true then Vm.enc l.length ++ pbody l else []
theorem pbody_take (l : List De) (k : Nat) (h : k < l.length) : pbody (l.take (k + 1)) = pbody (l.take k) ++ dbytes l[k] := by
  unfold pbody
  rw [List.take_succ_eq_append_getElem h, List.flatMap_append]
  simp
theorem pbody_cons (d : De) (l : List De) : pbody (d :: l) = dbytes d ++ pbody l := by simp [pbody]
theorem sbytes_len20 (n s : Int) : (sbytes n s).length ≤ 20 := by
  unfold sbytes
  split
  · rename_i h
    obtain ⟨a, b, rfl, rfl, h1, h2, h3⟩ := Sm.ok_nat h
    have e1 := Vm.enc_len10 (n := a) (by omega)
    have e2 := Vm.enc_len10 (n := b) (by omega)
    simp only [Int.toNat_natCast, List.length_append]
    omega
  · simp
theorem dbytes_len {d : De} (h : d.1.size ≤ 32) : (dbytes d).length ≤ 62 := by
  have e1 := Vm.enc_len10 (n := d.1.size) (by omega)
  have e2 := sbytes_len20 d.2.1 d.2.2
  have e3 : d.1.data.toList.length = d.1.size := rfl
  unfold dbytes
  simp only [List.length_append]
  omega
theorem pbody_len : ∀ (l : List De), (∀ d ∈ l, d.1.size ≤ 32) → (pbody l).length ≤ l.length * 62
  | [], _ => by simp [pbody]
  | d :: l, h => by
    have h1 := dbytes_len (h d (by simp))
    have h2 := pbody_len l (fun e he => h e (List.mem_cons_of_mem _ he))
    rw [pbody_cons, List.length_append, List.length_cons]
    omega
theorem srt_sizes {l : List De} (h : Srt l) : ∀ d ∈ l, d.1.size ≤ 32 := fun d hd => okD_size (h.1 d hd)
theorem chkD_parts {l : List De} (h : chkD l = true) : l.length ≤ 24 ∧ Srt l := by
  simp [chkD] at h
  exact h
end Go.Proofs.Ytfmedinhlmiaeaa
/- What vary.Read answers. -/
namespace Go.Proofs.Ytfmedinhlmiaeaa
open Go.RowKit

/-- The answer of vary.Read. -/
def rd (l : List UInt8) (at_ : Int) : Option (Nat × Nat) :=
  if at_ < 0 ∨ (l.length : Int) < at_ then none else (Vm.dec 0 (l.drop at_.toNat)).map fun x => (x.1, at_.toNat + x.2)
def rdV : Option (Nat × Nat) → Value
  | none => .tuple #[.int .u64 0, .int .i64 0, .bool false]
  | some (n, e) => .tuple #[.int .u64 (n : Int), .int .i64 (e : Int), .bool true]

theorem or_shift (k acc x : Nat) (c : Int) (hc : c = x) (hacc : acc < 2 ^ (7 * k)) (hx : x * 2 ^ (7 * k) < 18446744073709551616) (hk : 2 ^ (7 * k) ≤ 18446744073709551616) :
    bits .or .u64 (acc : Int) (IntKind.u64.wrap (c * 2 ^ (7 * k))) = ((acc + x * 2 ^ (7 * k) : Nat) : Int) := by
  subst hc
  have e : ((x : Int) * 2 ^ (7 * k)) = ((x * 2 ^ (7 * k) : Nat) : Int) := by simp
  rw [e, IntKind.wrap_u64, Int.emod_eq_of_lt (by omega) (by omega), u64_or_nat _ _ (by omega) hx]
  congr 1
  rw [Nat.mul_comm, Nat.or_comm, ← Nat.two_pow_add_eq_or_of_lt hacc, Nat.add_comm]

theorem pow7 {k : Nat} (h : k ≤ 9) : 2 ^ (7 * k) ≤ 9223372036854775808 := by
  have : (2 : Nat) ^ (7 * k) ≤ 2 ^ 63 := Nat.pow_le_pow_right (by omega) (by omega)
  simpa using this
theorem pow7' {k : Nat} (h : k ≤ 8) : 2 ^ (7 * k) ≤ 72057594037927936 := by
  have : (2 : Nat) ^ (7 * k) ≤ 2 ^ 56 := Nat.pow_le_pow_right (by omega) (by omega)
  simpa using this

theorem drop_at (t : ByteArray) (k : Nat) (h : k < t.size) : t.data.toList.drop k = t[k] :: t.data.toList.drop (k + 1) := by
  rw [List.drop_eq_getElem_cons (by simpa using h)]
  rfl

theorem or_shift9 (acc x : Nat) (hacc : acc < 2 ^ (7 * 9)) (hx : (x : Int) ≤ 1) : bits .or .u64 (acc : Int) ((x : Int) * 9223372036854775808) = ((acc + x * 2 ^ (7 * 9) : Nat) : Int) := by
  have hx' : x ≤ 1 := by omega
  have h := or_shift 9 acc x x rfl hacc (by simp; omega) (by simp)
  rw [IntKind.wrap_u64, Int.emod_eq_of_lt (by omega) (by simp; omega)] at h
  simpa using h
theorem or_zero (acc p : Nat) (h : acc < 18446744073709551616) : bits .or .u64 (acc : Int) 0 = ((acc + 0 * p : Nat) : Int) := by
  have := u64_or_nat acc 0 h (by omega)
  simpa using this
theorem ret_rd {x y : Int} {n e : Nat} (hx : x = (n : Int)) (hy : y = (e : Int)) : Ending.returned (.tuple #[.int .u64 x, .int .i64 y, .bool true]) = .returned (rdV (some (n, e))) := by
  subst hx hy; rfl

section
variable {D : Option (Nat × Nat)} {k acc : Nat} {b : UInt8} {r : List UInt8}
theorem way_none9 (he : D = Vm.more k acc (Vm.dec k (b :: r))) (hk : k = 9) (hb : 1 < (b.toNat : Int)) : D = none := by
  rw [he, Vm.dec, if_pos (by omega)]; rfl
theorem way_none0 (he : D = Vm.more k acc (Vm.dec k (b :: r))) (hk : 0 < k) (hb : b.toNat = 0) : D = none := by
  rw [he, Vm.dec, if_neg (by omega), if_neg (by omega), if_pos (by omega)]; rfl
theorem way_ret (he : D = Vm.more k acc (Vm.dec k (b :: r))) (hb : (b.toNat : Int) < 128) (h9 : k = 9 → (b.toNat : Int) ≤ 1) (h0 : ¬ (b.toNat = 0 ∧ 0 < k)) : D = some (acc + b.toNat * 2 ^ (7 * k), k + 1) := by
  rw [he, Vm.dec, if_neg (by omega), if_neg (by omega), if_neg h0]; rfl
theorem way_more (he : D = Vm.more k acc (Vm.dec k (b :: r))) (hb : 128 ≤ (b.toNat : Int)) (h9 : ¬ k = 9) : D = Vm.more (k + 1) (acc + (b.toNat - 128) * 2 ^ (7 * k)) (Vm.dec (k + 1) r) := by
  rw [he, Vm.dec, if_neg (by omega), if_pos (by omega)]
  cases Vm.dec (k + 1) r with
  | none => rfl
  | some x =>
    simp only [Vm.more, Option.map_some, Option.some.injEq, Prod.mk.injEq]
    refine ⟨?_, by omega⟩
    rw [show 7 * (k + 1) = 7 * k + 7 from by omega, Nat.pow_add, Nat.add_mul, Nat.add_assoc]
    congr 2
    rw [Nat.mul_comm 128, Nat.mul_assoc, Nat.mul_comm 128]
end

end Go.Proofs.Ytfmedinhlmiaeaa
/- What vary.ReadText answers. -/
namespace Go.Proofs.Ytfmedinhlmiaeaa
open Go.RowKit

/-- The answer of vary.ReadText. -/
def rdt (l : List UInt8) (at_ most : Int) : Option (List UInt8 × Nat) :=
  match rd l at_ with
  | none => none
  | some (n, e) => if most < (n : Int) ∨ l.length < e + n then none else some ((l.drop e).take n, e + n)
def rdtV : Option (List UInt8 × Nat) → Value
  | none => .tuple #[.string ⟨#[]⟩, .int .i64 0, .bool false]
  | some (t, e) => .tuple #[.string ⟨t.toArray⟩, .int .i64 (e : Int), .bool true]

theorem ret_rdt {x : ByteArray} {y : Int} {t : List UInt8} {e : Nat} (hx : x.data.toList = t) (hy : y = (e : Int)) : Ending.returned (.tuple #[.string x, .int .i64 y, .bool true]) = .returned (rdtV (some (t, e))) := by
  subst hx hy; rfl

theorem rd_some {l : List UInt8} {at_ : Int} {n e : Nat} (h : rd l at_ = some (n, e)) : n < 18446744073709551616 ∧ e ≤ l.length ∧ 0 ≤ at_ ∧ at_ < e := by
  rw [rd] at h
  by_cases c : at_ < 0 ∨ (l.length : Int) < at_
  · rw [if_pos c] at h; cases h
  · rw [if_neg c] at h
    cases hd : Vm.dec 0 (l.drop at_.toNat) with
    | none => rw [hd] at h; cases h
    | some x =>
      obtain ⟨m, k⟩ := x
      rw [hd] at h
      simp at h
      obtain ⟨rfl, rfl⟩ := h
      obtain ⟨h1, h2, h3⟩ := Vm.dec0_inv _ _ _ hd
      have hp := Vm.enc_pos m
      have hk : k = (Vm.enc m).length := by rw [← h3]; simp; simp at h2; omega
      simp at h2
      exact ⟨h1, by omega, by omega, by omega⟩

/-! What was written is read, wherever it stands. -/
theorem rd_back (a b : List UInt8) (n : Nat) (hn : n < 18446744073709551616) : rd (a ++ Vm.enc n ++ b) (a.length : Int) = some (n, a.length + (Vm.enc n).length) := by
  rw [rd, if_neg (by simp; omega), Int.toNat_natCast, List.append_assoc, List.drop_left, Vm.dec0_enc n b hn]
  rfl
theorem rdt_back (a b t : List UInt8) (most : Int) (ht : t.length < 18446744073709551616) (hm : (t.length : Int) ≤ most) :
    rdt (a ++ (Vm.enc t.length ++ t) ++ b) (a.length : Int) most = some (t, a.length + (Vm.enc t.length).length + t.length) := by
  have e : a ++ (Vm.enc t.length ++ t) ++ b = a ++ Vm.enc t.length ++ (t ++ b) := by simp
  rw [rdt, e, rd_back a (t ++ b) t.length ht]
  simp only
  rw [if_neg (by simp; omega)]
  congr 2
  have e2 : a.length + (Vm.enc t.length).length = (a ++ Vm.enc t.length).length := by simp
  rw [e2, List.drop_left, List.take_left]
theorem rdt_less (a b t : List UInt8) (most : Int) (ht : t.length < 18446744073709551616) (hm : most < (t.length : Int)) :
    rdt (a ++ (Vm.enc t.length ++ t) ++ b) (a.length : Int) most = none := by
  have e : a ++ (Vm.enc t.length ++ t) ++ b = a ++ Vm.enc t.length ++ (t ++ b) := by simp
  rw [rdt, e, rd_back a (t ++ b) t.length ht]
  simp only
  rw [if_pos (Or.inl hm)]

end Go.Proofs.Ytfmedinhlmiaeaa
/- What stamp.Read answers. -/
namespace Go.Proofs.Ytfmedinhlmiaeaa
open Go.RowKit
set_option linter.unusedVariables false

/-- The answer of stamp.Read, as a value. -/
def srV : Option ((Int × Int) × Nat) → Value
  | none => .tuple #[.agg #[.int .i64 0, .int .i64 0], .int .i64 0, .bool false]
  | some (p, e) => .tuple #[.agg #[.int .i64 p.1, .int .i64 p.2], .int .i64 (e : Int), .bool true]

theorem rd_bounds {l : List UInt8} {a : Int} {n e : Nat} (h : rd l a = some (n, e)) : n < 18446744073709551616 ∧ e ≤ l.length ∧ 0 ≤ a ∧ a < e := by
  unfold rd at h
  split at h
  · cases h
  · rename_i hc
    cases hd : Vm.dec 0 (l.drop a.toNat) with
    | none => rw [hd] at h; cases h
    | some x =>
      obtain ⟨y, k⟩ := x
      rw [hd] at h
      simp at h
      obtain ⟨rfl, rfl⟩ := h
      obtain ⟨h1, h2, h3⟩ := Vm.dec0_inv _ _ _ hd
      have h4 := Vm.enc_pos y
      rw [← h3] at h4
      simp at h2 h4
      exact ⟨h1, by omega, by omega, by omega⟩

theorem ok_wrap (n k : Nat) (hn : n < 18446744073709551616) (hk : k < 18446744073709551616) : Sm.ok (wrap64 n) (wrap64 k) = Sm.ok n k := by
  unfold wrap64
  exact decide_eq_decide.2 (by omega)

end Go.Proofs.Ytfmedinhlmiaeaa
