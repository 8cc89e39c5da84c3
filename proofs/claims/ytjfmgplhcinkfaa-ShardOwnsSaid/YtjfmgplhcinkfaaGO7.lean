/- Texts of this proof, one behind the other: PastCheck, PastBytesMath, VaryRead, VaryText, StampRead, StampBackMath, PastReadMath. -/
import Derived.Test.YtjfmgplhcinkfaaGO6
import Derived.Test.YtjfmgplhcinkfaaProg
import Derived.WalkKit
import Derived.WalkLawsBesides
import Derived.Lib.Hide
import Derived.Lib.Strings
import Derived.Laws.BitsAllLaws
/- What past.Check and the document's Check answer. -/
namespace Go.Proofs.Ytjfmgplhcinkfaa
open Go.RowKit
set_option linter.unusedVariables false
set_option linter.unusedSimpArgs false

/-- No key is longer than a string can be. -/
def Szd (l : List De) : Prop := ∀ d ∈ l, d.1.size ≤ 9223372036854775807
theorem Srt.szd {l : List De} (h : Srt l) : Szd l := fun d hd => by have := okD_size (h.1 d hd); omega

theorem boxed3 {wr w1 : World} {x y z : Value} {T : TypeId} (hb : Below (wr.alloc (.cells #[x, y, z] T)).heap.size (wr.alloc (.cells #[x, y, z] T)) w1) : Below wr.heap.size wr w1 := (box3 hb).2.2.2.2

set_option maxRecDepth 100000 in
set_option maxHeartbeats 1600000 in
theorem pcheck_any (v : Value) (l : List De) (w : World) (hl : l.length ≤ 1000000) (hz : Szd l) (hr : DepAt w v l) :
    Calls Try.prog 63 #[v] w fun e w' => e = .returned (.bool (chkD l)) ∧ Below w.heap.size w w' := by
  obtain ⟨a, cap, rfl, hcap, hmx, _, hr⟩ := hr
  unfold maxLen at hmx
  have HR := Lib.hid hr
  have HZ := Lib.hid hz
  clear hr hz
  by_cases h24 : l.length ≤ 24
  · have hlt24 : ¬ (24 : Int) < (l.length : Int) := by omega
    have hc24 : chkD l = decide (Srt l) := by simp [chkD, h24]
    rw [hc24]
    clear hc24
    go_enter Try.func63, Try.ntmps63
    go_wp2
    go_loopw [10] (fun i wr => ∃ k : Nat, k ≤ l.length ∧ i = .int .i64 k ∧ Srt (l.take k) ∧ Below w.heap.size w wr) (fun i _ => l.length - (intOf i).toNat)
    case atStart => exact ⟨0, by omega, rfl, by simpa using Srt.nil, Below.refl _ _⟩
    case round =>
      obtain ⟨k, hk, rfl, hst, hbel⟩ := hrel
      have HS := Lib.hid hst
      clear hst
      by_cases hlt : k < l.length
      · obtain ⟨b, off, rfl, hbl, c0, c1, c2⟩ := HR.out.below hbel k hlt
        have HD := Lib.hid (HR.out.below hbel)
        have HP := Lib.hid (@srt_step l k hlt)
        have HQ := Lib.hid (@srt_stop l k hlt)
        have hs := HZ.out l[k] (List.getElem_mem hlt)
        generalize l[k] = d at c0 c1 c2 HP HQ hs
        obtain ⟨x, y, z⟩ := d
        dsimp only at c0 c1 c2 hs
        have hki : (k : Int) ≤ (cap : Int) := by omega
        have g0 : (wr.alloc (.cells #[.string x, .int .i64 y, .int .i64 z] 34)).cell? ⟨wr.heap.size, 0, none⟩ = some (.string x) ∧ (wr.alloc (.cells #[.string x, .int .i64 y, .int .i64 z] 34)).cell? ⟨wr.heap.size, 1, none⟩ = some (.int .i64 y) ∧ (wr.alloc (.cells #[.string x, .int .i64 y, .int .i64 z] 34)).cell? ⟨wr.heap.size, 2, none⟩ = some (.int .i64 z) := by
          refine ⟨?_, ?_, ?_⟩ <;> simp
        have HG := Lib.hid (HD.out.below (balloc (Below.refl _ wr) (.cells #[.string x, .int .i64 y, .int .i64 z] 34)))
        have hkl : Hid ((l.take k).length = k) := Lib.hid (by simp; omega)
        generalize hf : folD (l.take k) (x, y, z) = c at HP HQ
        have HF := Lib.hid hf
        clear hf
        go_wp2_with fail
        go_region_held3 (fun w' => w'.cell? ⟨wr.heap.size, 0, none⟩ = some (.string x) ∧ w'.cell? ⟨wr.heap.size, 1, none⟩ = some (.int .i64 y) ∧ w'.cell? ⟨wr.heap.size, 2, none⟩ = some (.int .i64 z))
          (first | exact g0 | exact g1)
          (first
            | (go_at_call 74; ((refine (follows_at _ k cap (l.take k) x y z c _ hkl.out (by have := hkl.out; omega) (HG.out.take k).drew hs HF.out).mono ?_); rintro e wa ⟨rfl, ha⟩; have g1 := keepC3 ha g0)))
        have hb2 := bstep hbel (boxed3 (bstep (Below.refl _ _).drew ha))
        cases c with
        | true =>
          go_wp2
          go_roundw
          case rel => exact ⟨k + 1, by omega, by go_num, HP.out.2 ⟨HS.out, rfl⟩, hb2⟩
          case measure => simp [intOf]; omega
        | false =>
          go_wp2
          go_ret
          exact ⟨ret_bool (decide_eq_false (HQ.out (by first | rfl | trivial))).symm, hb2⟩
      · obtain rfl : k = l.length := by omega
        have HE : Hid (Srt l) := Lib.hid (by have h := HS.out; rw [List.take_of_length_le (Nat.le_refl _)] at h; exact h)
        go_wp2
        go_ret
        exact ⟨ret_bool (decide_eq_true HE.out).symm, hbel⟩
  · have hlt24 : (24 : Int) < (l.length : Int) := by omega
    rw [show chkD l = false by simp [chkD, h24]]
    go_enter Try.func63, Try.ntmps63
    go_wp2
    go_ret
    exact ⟨rfl, Below.refl _ _⟩
end Go.Proofs.Ytjfmgplhcinkfaa
/- The bytes of a past: plain mathematics. -/
namespace Go.Proofs.Ytjfmgplhcinkfaa
open Go.RowKit
set_option linter.unusedVariables false

theorem enc_ne (n : Nat) : Vm.enc n ≠ [] := by
  rw [Vm.enc]
  split <;> simp
def dbytes (d : De) : List UInt8 := (Vm.enc d.1.size ++ d.1.data.toList) ++ sbytes d.2.1 d.2.2
def pbody (l : List De) : List UInt8 := l.flatMap dbytes
/-- The bytes of a past; none: it may not be. -/
def pbV (l : List De) : List UInt8 := if chkD l = true then Vm.enc l.length ++ pbody l else []
theorem pbody_take (l : List De) (k : Nat) (h : k < l.length) : pbody (l.take (k + 1)) = pbody (l.take k) ++ dbytes l[k] := by
  unfold pbody
  rw [List.take_succ_eq_append_getElem h, List.flatMap_append]
  simp
theorem pbody_cons (d : De) (l : List De) : pbody (d :: l) = dbytes d ++ pbody l := by simp [pbody]
theorem sbytes_len20 (n s : Int) : (sbytes n s).length ≤ 20 := by
  unfold sbytes
  split
  · rename_i h
    obtain ⟨a, b, rfl, rfl, h1, h2, h3⟩ := Sm.ok_nat h
    have e1 := Vm.enc_len10 (n := a) (by omega)
    have e2 := Vm.enc_len10 (n := b) (by omega)
    simp only [Int.toNat_natCast, List.length_append]
    omega
  · simp
theorem dbytes_len {d : De} (h : d.1.size ≤ 32) : (dbytes d).length ≤ 62 := by
  have e1 := Vm.enc_len10 (n := d.1.size) (by omega)
  have e2 := sbytes_len20 d.2.1 d.2.2
  have e3 : d.1.data.toList.length = d.1.size := rfl
  unfold dbytes
  simp only [List.length_append]
  omega
theorem pbody_len : ∀ (l : List De), (∀ d ∈ l, d.1.size ≤ 32) → (pbody l).length ≤ l.length * 62
  | [], _ => by simp [pbody]
  | d :: l, h => by
    have h1 := dbytes_len (h d (by simp))
    have h2 := pbody_len l (fun e he => h e (List.mem_cons_of_mem _ he))
    rw [pbody_cons, List.length_append, List.length_cons]
    omega
theorem srt_sizes {l : List De} (h : Srt l) : ∀ d ∈ l, d.1.size ≤ 32 := fun d hd => okD_size (h.1 d hd)
theorem chkD_parts {l : List De} (h : chkD l = true) : l.length ≤ 24 ∧ Srt l := by
  simp [chkD] at h
  exact h
end Go.Proofs.Ytjfmgplhcinkfaa
/- What vary.Read answers. -/
namespace Go.Proofs.Ytjfmgplhcinkfaa
open Go.RowKit

/-- The answer of vary.Read. -/
def rd (l : List UInt8) (at_ : Int) : Option (Nat × Nat) :=
  if at_ < 0 ∨ (l.length : Int) < at_ then none else (Vm.dec 0 (l.drop at_.toNat)).map fun x => (x.1, at_.toNat + x.2)
def rdV : Option (Nat × Nat) → Value
  | none => .tuple #[.int .u64 0, .int .i64 0, .bool false]
  | some (n, e) => .tuple #[.int .u64 (n : Int), .int .i64 (e : Int), .bool true]

theorem or_shift (k acc x : Nat) (c : Int) (hc : c = x) (hacc : acc < 2 ^ (7 * k)) (hx : x * 2 ^ (7 * k) < 18446744073709551616) (hk : 2 ^ (7 * k) ≤ 18446744073709551616) :
    bits .or .u64 (acc : Int) (IntKind.u64.wrap (c * 2 ^ (7 * k))) = ((acc + x * 2 ^ (7 * k) : Nat) : Int) := by
  subst hc
  have e : ((x : Int) * 2 ^ (7 * k)) = ((x * 2 ^ (7 * k) : Nat) : Int) := by simp
  rw [e, IntKind.wrap_u64, Int.emod_eq_of_lt (by omega) (by omega), u64_or_nat _ _ (by omega) hx]
  congr 1
  rw [Nat.mul_comm, Nat.or_comm, ← Nat.two_pow_add_eq_or_of_lt hacc, Nat.add_comm]

theorem pow7 {k : Nat} (h : k ≤ 9) : 2 ^ (7 * k) ≤ 9223372036854775808 := by
  have : (2 : Nat) ^ (7 * k) ≤ 2 ^ 63 := Nat.pow_le_pow_right (by omega) (by omega)
  simpa using this
theorem pow7' {k : Nat} (h : k ≤ 8) : 2 ^ (7 * k) ≤ 72057594037927936 := by
  have : (2 : Nat) ^ (7 * k) ≤ 2 ^ 56 := Nat.pow_le_pow_right (by omega) (by omega)
  simpa using this

theorem drop_at (t : ByteArray) (k : Nat) (h : k < t.size) : t.data.toList.drop k = t[k] :: t.data.toList.drop (k + 1) := by
  rw [List.drop_eq_getElem_cons (by simpa using h)]
  rfl

theorem or_shift9 (acc x : Nat) (hacc : acc < 2 ^ (7 * 9)) (hx : (x : Int) ≤ 1) : bits .or .u64 (acc : Int) ((x : Int) * 9223372036854775808) = ((acc + x * 2 ^ (7 * 9) : Nat) : Int) := by
  have hx' : x ≤ 1 := by omega
  have h := or_shift 9 acc x x rfl hacc (by simp; omega) (by simp)
  rw [IntKind.wrap_u64, Int.emod_eq_of_lt (by omega) (by simp; omega)] at h
  simpa using h
theorem or_zero (acc p : Nat) (h : acc < 18446744073709551616) : bits .or .u64 (acc : Int) 0 = ((acc + 0 * p : Nat) : Int) := by
  have := u64_or_nat acc 0 h (by omega)
  simpa using this
theorem ret_rd {x y : Int} {n e : Nat} (hx : x = (n : Int)) (hy : y = (e : Int)) : Ending.returned (.tuple #[.int .u64 x, .int .i64 y, .bool true]) = .returned (rdV (some (n, e))) := by
  subst hx hy; rfl

section
variable {D : Option (Nat × Nat)} {k acc : Nat} {b : UInt8} {r : List UInt8}
theorem way_none9 (he : D = Vm.more k acc (Vm.dec k (b :: r))) (hk : k = 9) (hb : 1 < (b.toNat : Int)) : D = none := by
  rw [he, Vm.dec, if_pos (by omega)]; rfl
theorem way_none0 (he : D = Vm.more k acc (Vm.dec k (b :: r))) (hk : 0 < k) (hb : b.toNat = 0) : D = none := by
  rw [he, Vm.dec, if_neg (by omega), if_neg (by omega), if_pos (by omega)]; rfl
theorem way_ret (he : D = Vm.more k acc (Vm.dec k (b :: r))) (hb : (b.toNat : Int) < 128) (h9 : k = 9 → (b.toNat : Int) ≤ 1) (h0 : ¬ (b.toNat = 0 ∧ 0 < k)) : D = some (acc + b.toNat * 2 ^ (7 * k), k + 1) := by
  rw [he, Vm.dec, if_neg (by omega), if_neg (by omega), if_neg h0]; rfl
theorem way_more (he : D = Vm.more k acc (Vm.dec k (b :: r))) (hb : 128 ≤ (b.toNat : Int)) (h9 : ¬ k = 9) : D = Vm.more (k + 1) (acc + (b.toNat - 128) * 2 ^ (7 * k)) (Vm.dec (k + 1) r) := by
  rw [he, Vm.dec, if_neg (by omega), if_pos (by omega)]
  cases Vm.dec (k + 1) r with
  | none => rfl
  | some x =>
    simp only [Vm.more, Option.map_some, Option.some.injEq, Prod.mk.injEq]
    refine ⟨?_, by omega⟩
    rw [show 7 * (k + 1) = 7 * k + 7 from by omega, Nat.pow_add, Nat.add_mul, Nat.add_assoc]
    congr 2
    rw [Nat.mul_comm 128, Nat.mul_assoc, Nat.mul_comm 128]
end

end Go.Proofs.Ytjfmgplhcinkfaa
/- What vary.ReadText answers. -/
namespace Go.Proofs.Ytjfmgplhcinkfaa
open Go.RowKit

/-- The answer of vary.ReadText. -/
def rdt (l : List UInt8) (at_ most : Int) : Option (List UInt8 × Nat) :=
  match rd l at_ with
  | none => none
  | some (n, e) => if most < (n : Int) ∨ l.length < e + n then none else some ((l.drop e).take n, e + n)
def rdtV : Option (List UInt8 × Nat) → Value
  | none => .tuple #[.string ⟨#[]⟩, .int .i64 0, .bool false]
  | some (t, e) => .tuple #[.string ⟨t.toArray⟩, .int .i64 (e : Int), .bool true]

theorem ret_rdt {x : ByteArray} {y : Int} {t : List UInt8} {e : Nat} (hx : x.data.toList = t) (hy : y = (e : Int)) : Ending.returned (.tuple #[.string x, .int .i64 y, .bool true]) = .returned (rdtV (some (t, e))) := by
  subst hx hy; rfl

theorem rd_some {l : List UInt8} {at_ : Int} {n e : Nat} (h : rd l at_ = some (n, e)) : n < 18446744073709551616 ∧ e ≤ l.length ∧ 0 ≤ at_ ∧ at_ < e := by
  rw [rd] at h
  by_cases c : at_ < 0 ∨ (l.length : Int) < at_
  · rw [if_pos c] at h; cases h
  · rw [if_neg c] at h
    cases hd : Vm.dec 0 (l.drop at_.toNat) with
    | none => rw [hd] at h; cases h
    | some x =>
      obtain ⟨m, k⟩ := x
      rw [hd] at h
      simp at h
      obtain ⟨rfl, rfl⟩ := h
      obtain ⟨h1, h2, h3⟩ := Vm.dec0_inv _ _ _ hd
      have hp := Vm.enc_pos m
      have hk : k = (Vm.enc m).length := by rw [← h3]; simp; simp at h2; omega
      simp at h2
      exact ⟨h1, by omega, by omega, by omega⟩

/-! What was written is read, wherever it stands. -/
theorem rd_back (a b : List UInt8) (n : Nat) (hn : n < 18446744073709551616) : rd (a ++ Vm.enc n ++ b) (a.length : Int) = some (n, a.length + (Vm.enc n).length) := by
  rw [rd, if_neg (by simp; omega), Int.toNat_natCast, List.append_assoc, List.drop_left, Vm.dec0_enc n b hn]
  rfl
theorem rdt_back (a b t : List UInt8) (most : Int) (ht : t.length < 18446744073709551616) (hm : (t.length : Int) ≤ most) :
    rdt (a ++ (Vm.enc t.length ++ t) ++ b) (a.length : Int) most = some (t, a.length + (Vm.enc t.length).length + t.length) := by
  have e : a ++ (Vm.enc t.length ++ t) ++ b = a ++ Vm.enc t.length ++ (t ++ b) := by simp
  rw [rdt, e, rd_back a (t ++ b) t.length ht]
  simp only
  rw [if_neg (by simp; omega)]
  congr 2
  have e2 : a.length + (Vm.enc t.length).length = (a ++ Vm.enc t.length).length := by simp
  rw [e2, List.drop_left, List.take_left]
theorem rdt_less (a b t : List UInt8) (most : Int) (ht : t.length < 18446744073709551616) (hm : most < (t.length : Int)) :
    rdt (a ++ (Vm.enc t.length ++ t) ++ b) (a.length : Int) most = none := by
  have e : a ++ (Vm.enc t.length ++ t) ++ b = a ++ Vm.enc t.length ++ (t ++ b) := by simp
  rw [rdt, e, rd_back a (t ++ b) t.length ht]
  simp only
  rw [if_pos (Or.inl hm)]

end Go.Proofs.Ytjfmgplhcinkfaa
/- What stamp.Read answers. -/
namespace Go.Proofs.Ytjfmgplhcinkfaa
open Go.RowKit
set_option linter.unusedVariables false

/-- The answer of stamp.Read, as a value. -/
def srV : Option ((Int × Int) × Nat) → Value
  | none => .tuple #[.agg #[.int .i64 0, .int .i64 0], .int .i64 0, .bool false]
  | some (p, e) => .tuple #[.agg #[.int .i64 p.1, .int .i64 p.2], .int .i64 (e : Int), .bool true]

theorem rd_bounds {l : List UInt8} {a : Int} {n e : Nat} (h : rd l a = some (n, e)) : n < 18446744073709551616 ∧ e ≤ l.length ∧ 0 ≤ a ∧ a < e := by
  unfold rd at h
  split at h
  · cases h
  · rename_i hc
    cases hd : Vm.dec 0 (l.drop a.toNat) with
    | none => rw [hd] at h; cases h
    | some x =>
      obtain ⟨y, k⟩ := x
      rw [hd] at h
      simp at h
      obtain ⟨rfl, rfl⟩ := h
      obtain ⟨h1, h2, h3⟩ := Vm.dec0_inv _ _ _ hd
      have h4 := Vm.enc_pos y
      rw [← h3] at h4
      simp at h2 h4
      exact ⟨h1, by omega, by omega, by omega⟩

theorem ok_wrap (n k : Nat) (hn : n < 18446744073709551616) (hk : k < 18446744073709551616) : Sm.ok (wrap64 n) (wrap64 k) = Sm.ok n k := by
  unfold wrap64
  exact decide_eq_decide.2 (by omega)

end Go.Proofs.Ytjfmgplhcinkfaa
/- What was written as a stamp's bytes is read, wherever it stands. -/
namespace Go.Proofs.Ytjfmgplhcinkfaa
open Go.RowKit
set_option linter.unusedVariables false

theorem rd_at (p r : List UInt8) (n : Nat) (hn : n < 18446744073709551616) : rd (p ++ (Vm.enc n ++ r)) (p.length : Int) = some (n, p.length + (Vm.enc n).length) := by
  unfold rd
  rw [if_neg (by simp; omega), Int.toNat_natCast, List.drop_left' rfl, Vm.dec0_enc n r hn]
  rfl
theorem sbytes_ok {n s : Int} (h : Sm.ok n s = true) : sbytes n s = Vm.enc n.toNat ++ Vm.enc s.toNat := by simp [sbytes, h]
theorem sbytes_len (n s : Int) : (sbytes n s).length ≤ 20 := by
  unfold sbytes
  split
  · rename_i h
    simp only [Sm.ok, decide_eq_true_eq] at h
    have h1 := Vm.enc_len10 (n := n.toNat) (by omega)
    have h2 := Vm.enc_len10 (n := s.toNat) (by omega)
    simp; omega
  · simp
theorem sbytes_pos {n s : Int} (h : Sm.ok n s = true) : 2 ≤ (sbytes n s).length := by
  rw [sbytes_ok h]
  have h1 := Vm.enc_pos n.toNat
  have h2 := Vm.enc_pos s.toNat
  simp; omega
theorem srd_at (p r : List UInt8) {n s : Int} (h : Sm.ok n s = true) : Sm.rdS (rd (p ++ (sbytes n s ++ r))) (p.length : Int) = some ((n, s), p.length + (sbytes n s).length) := by
  have hk := h
  simp only [Sm.ok, decide_eq_true_eq] at hk
  rw [sbytes_ok h]
  have e1 := rd_at p (Vm.enc s.toNat ++ r) n.toNat (by omega)
  have e2 := rd_at (p ++ Vm.enc n.toNat) r s.toNat (by omega)
  rw [List.length_append, List.append_assoc] at e2
  unfold Sm.rdS
  rw [List.append_assoc, e1]
  simp only
  rw [e2]
  simp only
  rw [Int.toNat_of_nonneg (by omega), Int.toNat_of_nonneg (by omega), if_pos h]
  simp
  omega

theorem bytes_data (x y z : ByteArray) : (x ++ y ++ z).data.toList = x.data.toList ++ (y.data.toList ++ z.data.toList) := by simp
theorem srd_bytes (x z : ByteArray) (l : List UInt8) {n s : Int} (h : Sm.ok n s = true) (hl : sbytes n s = l) : Sm.rdS (rd (x ++ ⟨l.toArray⟩ ++ z).data.toList) (x.size : Int) = some ((n, s), x.size + l.length) := by
  subst hl
  rw [bytes_data]
  have := srd_at x.data.toList z.data.toList h
  simpa using this
end Go.Proofs.Ytjfmgplhcinkfaa
/- Reading a past: plain mathematics. -/
namespace Go.Proofs.Ytjfmgplhcinkfaa
open Go.RowKit
set_option linter.unusedVariables false

/-- One dependency, read at a place; a key of at most so many bytes. -/
def rdD (most : Int) (s : List UInt8) (a : Int) : Option (De × Nat) :=
  match rdt s a most with
  | none => none
  | some (k, m) =>
    match Sm.rdS (rd s) (m : Int) with
    | none => none
    | some (x, e) => some ((⟨k.toArray⟩, x.1, x.2), e)
/-- So many dependencies, one behind the other, behind those that were read. -/
def goL (s : List UInt8) : Nat → List De → Nat → Option (List De × Nat)
  | 0, acc, a => some (acc, a)
  | n + 1, acc, a =>
    match rdD 32 s a with
    | none => none
    | some (d, e) => goL s n (acc ++ [d]) e
/-- What was read, if it may be. -/
def finL : Option (List De × Nat) → Option (List De × Nat)
  | none => none
  | some (l, e) => if Srt l then some (l, e) else none
/-- The past that is read at a place. -/
def prD (s : List UInt8) (a : Int) : Option (List De × Nat) :=
  match rd s a with
  | none => none
  | some (n, e) => if 24 < n then none else finL (goL s n [] e)
def prL (r : Option (List De × Nat)) : List De := match r with | none => [] | some (l, _) => l
def prE (r : Option (List De × Nat)) : Nat := match r with | none => 0 | some (_, e) => e

theorem goL_pre (s : List UInt8) : ∀ (n : Nat) (acc : List De) (a : Nat) (l : List De) (e : Nat), goL s n acc a = some (l, e) → ∃ m, l = acc ++ m ∧ m.length = n ∧ a ≤ e
  | 0, acc, a, l, e, h => by
    simp [goL] at h
    exact ⟨[], by simp [h.1], rfl, by omega⟩
  | n + 1, acc, a, l, e, h => by
    rw [goL] at h
    cases hd : rdD 32 s a with
    | none => rw [hd] at h; cases h
    | some x =>
      obtain ⟨d, e1⟩ := x
      rw [hd] at h
      obtain ⟨m, h1, h2, h3⟩ := goL_pre s n _ _ _ _ h
      have hlt : (a : Int) < e1 := by
        unfold rdD at hd
        cases ht : rdt s a 32 with
        | none => rw [ht] at hd; cases hd
        | some y =>
          obtain ⟨k, m1⟩ := y
          rw [ht] at hd
          simp only at hd
          have q1 : (a : Int) < m1 := by
            unfold rdt at ht
            cases hr : rd s a with
            | none => rw [hr] at ht; cases ht
            | some z =>
              obtain ⟨nn, ee⟩ := z
              obtain ⟨_, _, _, h4⟩ := rd_some hr
              rw [hr] at ht
              simp only at ht
              split at ht
              · cases ht
              · simp at ht; omega
          cases hs : Sm.rdS (rd s) (m1 : Int) with
          | none => rw [hs] at hd; cases hd
          | some z =>
            obtain ⟨x, ee⟩ := z
            rw [hs] at hd
            simp at hd
            obtain ⟨_, rfl⟩ := hd
            unfold Sm.rdS at hs
            cases hr : rd s (m1 : Int) with
            | none => rw [hr] at hs; cases hs
            | some y1 =>
              obtain ⟨n1, m2⟩ := y1
              obtain ⟨_, _, _, h4⟩ := rd_some hr
              rw [hr] at hs
              simp only at hs
              cases hr2 : rd s (m2 : Int) with
              | none => rw [hr2] at hs; cases hs
              | some y2 =>
                obtain ⟨n2, m3⟩ := y2
                obtain ⟨_, _, _, h5⟩ := rd_some hr2
                rw [hr2] at hs
                simp only at hs
                split at hs
                · simp at hs; omega
                · cases hs
      exact ⟨d :: m, by rw [h1]; simp, by simp [h2], by omega⟩
theorem finL_stop {s : List UInt8} {n : Nat} {acc : List De} {a : Nat} (h : ¬ Srt acc) : finL (goL s n acc a) = none := by
  cases hg : goL s n acc a with
  | none => rfl
  | some x =>
    obtain ⟨l, e⟩ := x
    obtain ⟨m, rfl, _, _⟩ := goL_pre s n acc a l e hg
    rw [finL, if_neg (fun hs => h (by have := hs.take acc.length; rwa [List.take_left] at this))]
/-- Read with any bound: what is longer than 32 bytes may not be. -/
theorem rdD_any (s : List UInt8) (a : Int) :
    (rdD (s.length : Int) s a = none ∧ rdD 32 s a = none) ∨ (∃ d e, rdD (s.length : Int) s a = some (d, e) ∧ d.1.size ≤ s.length ∧ (rdD 32 s a = some (d, e) ∨ (rdD 32 s a = none ∧ okD d = false))) := by
  unfold rdD rdt
  cases hr : rd s a with
  | none => exact .inl ⟨rfl, rfl⟩
  | some z =>
    obtain ⟨n, e⟩ := z
    simp only
    by_cases c : s.length < e + n
    · rw [if_pos (.inr c), if_pos (.inr c)]
      exact .inl ⟨rfl, rfl⟩
    · rw [if_neg (by omega)]
      simp only
      cases hs : Sm.rdS (rd s) ((e + n : Nat) : Int) with
      | none =>
        left
        refine ⟨rfl, ?_⟩
        by_cases c2 : (32 : Int) < n
        · rw [if_pos (.inl c2)]
        · rw [if_neg (by omega)]
          simp only [hs]
      | some y =>
        obtain ⟨x, e2⟩ := y
        right
        have hkl : ((s.drop e).take n).length = n := by simp; omega
        refine ⟨_, _, rfl, by show ((s.drop e).take n).toArray.size ≤ _; simp; omega, ?_⟩
        by_cases c2 : (32 : Int) < n
        · right
          rw [if_pos (.inl c2)]
          refine ⟨rfl, ?_⟩
          cases ho : okD ((⟨((s.drop e).take n).toArray⟩ : ByteArray), x.1, x.2) with
          | false => rfl
          | true =>
            exfalso
            have := okD_size ho
            have h2 : ((s.drop e).take n).toArray.size ≤ 32 := this
            rw [List.size_toArray, hkl] at h2
            omega
        · left
          rw [if_neg (by omega)]
          simp only [hs]
/-- A step of the loop. -/
theorem goL_step {s : List UInt8} {n : Nat} {acc : List De} {a : Nat} {d : De} {e : Nat} (h : rdD 32 s a = some (d, e)) : goL s (n + 1) acc a = goL s n (acc ++ [d]) e := by
  rw [goL, h]
theorem goL_none {s : List UInt8} {n : Nat} {acc : List De} {a : Nat} (h : rdD 32 s a = none) : goL s (n + 1) acc a = none := by
  rw [goL, h]
/-- Not found, or not fit to follow: there is no past. -/
theorem fin_no {s : List UInt8} {n : Nat} {acc : List De} {a : Nat} {d : De} {e : Nat} (h : rdD 32 s a = some (d, e) ∨ (rdD 32 s a = none ∧ okD d = false)) (hs : Srt acc) (hf : folD acc d = false) : finL (goL s (n + 1) acc a) = none := by
  rcases h with h | ⟨h, _⟩
  · rw [goL_step h]
    exact finL_stop (fun hq => by have := ((srt_snoc acc d).1 hq).2; rw [hf] at this; cases this)
  · rw [goL_none h]; rfl
theorem fin_yes {s : List UInt8} {n : Nat} {acc : List De} {a : Nat} {d : De} {e : Nat} (h : rdD 32 s a = some (d, e) ∨ (rdD 32 s a = none ∧ okD d = false)) (hf : folD acc d = true) : goL s (n + 1) acc a = goL s n (acc ++ [d]) e := by
  rcases h with h | ⟨h, h2⟩
  · exact goL_step h
  · exfalso
    unfold folD at hf
    rw [h2] at hf
    cases hf
theorem prD_pos {s : List UInt8} {a : Int} {l : List De} {e : Nat} (h : prD s a = some (l, e)) : 0 < e := by
  unfold prD at h
  cases hr : rd s a with
  | none => rw [hr] at h; cases h
  | some z =>
    obtain ⟨n, e0⟩ := z
    obtain ⟨_, _, h3, h4⟩ := rd_some hr
    rw [hr] at h
    simp only at h
    split at h
    · cases h
    · cases hg : goL s n [] e0 with
      | none => rw [hg] at h; cases h
      | some y =>
        obtain ⟨l', e'⟩ := y
        obtain ⟨_, _, _, h5⟩ := goL_pre s n [] e0 l' e' hg
        rw [hg, finL] at h
        split at h
        · simp at h; omega
        · cases h
theorem pr_ok (s : List UInt8) (a : Int) : (prD s a).isSome = decide (0 < prE (prD s a)) := by
  cases h : prD s a with
  | none => rfl
  | some x =>
    obtain ⟨l, e⟩ := x
    have := prD_pos h
    simp [prE, this]
/-- What was written is read. -/
theorem rdD_back (p r : List UInt8) {d : De} (h : okD d = true) : rdD 32 (p ++ (dbytes d ++ r)) (p.length : Int) = some (d, p.length + (dbytes d).length) := by
  obtain ⟨k, n, t⟩ := d
  have hsz := okD_size h
  have hok : Sm.ok n t = true := by
    unfold okD at h
    rw [Bool.and_eq_true] at h
    exact h.2
  dsimp only at hsz
  have hkl : k.data.toList.length = k.size := rfl
  have e1 := rdt_back p (sbytes n t ++ r) k.data.toList 32 (by omega) (by omega)
  have e2 := srd_at (p ++ (Vm.enc k.size ++ k.data.toList)) r hok
  rw [hkl] at e1
  have eq1 : p ++ (Vm.enc k.size ++ k.data.toList) ++ (sbytes n t ++ r) = p ++ (dbytes (k, n, t) ++ r) := by simp [dbytes]
  rw [eq1] at e1 e2
  unfold rdD
  rw [e1]
  simp only
  rw [show ((p.length + (Vm.enc k.size).length + k.size : Nat) : Int) = ((p ++ (Vm.enc k.size ++ k.data.toList)).length : Int) by simp; omega, e2]
  simp [dbytes]
  omega
theorem goL_back : ∀ (l acc : List De) (p r : List UInt8), (∀ d ∈ l, okD d = true) → goL (p ++ (pbody l ++ r)) l.length acc p.length = some (acc ++ l, p.length + (pbody l).length)
  | [], acc, p, r, _ => by simp [goL, pbody]
  | d :: l, acc, p, r, h => by
    have e1 := rdD_back p (pbody l ++ r) (h d (by simp))
    have e2 := goL_back l (acc ++ [d]) (p ++ dbytes d) r (fun x hx => h x (List.mem_cons_of_mem _ hx))
    have eq1 : p ++ (pbody (d :: l) ++ r) = p ++ (dbytes d ++ (pbody l ++ r)) := by rw [pbody_cons]; simp
    have eq2 : p ++ dbytes d ++ (pbody l ++ r) = p ++ (dbytes d ++ (pbody l ++ r)) := by simp
    rw [eq2] at e2
    rw [eq1, List.length_cons, goL_step e1, show p.length + (dbytes d).length = (p ++ dbytes d).length by simp, e2, pbody_cons]
    simp
    omega
theorem prD_back (l : List De) (p r : List UInt8) (h : chkD l = true) : prD (p ++ pbV l ++ r) (p.length : Int) = some (l, p.length + (pbV l).length) := by
  obtain ⟨h24, hs⟩ := chkD_parts h
  have hp : pbV l = Vm.enc l.length ++ pbody l := by simp [pbV, h]
  rw [hp]
  have e1 := rd_back p (pbody l ++ r) l.length (by omega)
  have e2 := goL_back l [] (p ++ Vm.enc l.length) r hs.1
  have eq1 : p ++ Vm.enc l.length ++ (pbody l ++ r) = p ++ (Vm.enc l.length ++ pbody l) ++ r := by simp
  rw [eq1] at e1 e2
  unfold prD
  rw [e1]
  simp only
  rw [if_neg (by omega), show p.length + (Vm.enc l.length).length = (p ++ Vm.enc l.length).length by simp, e2, finL, List.nil_append, if_pos hs]
  simp
  omega
end Go.Proofs.Ytjfmgplhcinkfaa
