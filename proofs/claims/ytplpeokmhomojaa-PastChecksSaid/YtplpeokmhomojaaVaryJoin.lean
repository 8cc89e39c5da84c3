/- What vary.Join answers. -/
import Derived.Test.YtplpeokmhomojaaVaryAdd
namespace Go.Proofs.Ytplpeokmhomojaa
open Go.RowKit

theorem lt_of_cell? {w : World} {a : Addr} {v : Value} (h : w.cell? a = some v) : a.block < w.heap.size := by
  unfold World.cell? at h
  split at h
  · rename_i hb
    exact lt_of_block hb
  · cases h

/-- A row of numbers of 64 bits that is read: nil, or cells. -/
def U64s (w : World) (a : Option Addr) (zs : List Nat) : Prop :=
  (∀ z ∈ zs, z < 18446744073709551616) ∧ ∀ i (h : i < zs.length), ∃ b off, a = some ⟨b, off, none⟩ ∧ w.cell? ⟨b, off + i, none⟩ = some (.int .u64 (zs[i] : Int))

theorem buf_string {base Bv : Nat} {l : List UInt8} {w : World} (h : Buf base Bv l w) : ∃ v, w.cell? ⟨Bv, 0, none⟩ = some v ∧ (convert 43 9 v).run Try.prog w = .ok (.string ⟨l.toArray⟩) w := by
  obtain ⟨_, v, hv, ho⟩ := h
  refine ⟨v, cell_of_one hv, ?_⟩
  rcases ho.2 with ⟨rfl, h0⟩ | ⟨g, cap, cur, rfl, r⟩
  · obtain rfl : l = [] := List.length_eq_zero_iff.1 h0
    rw [run_convert_bytes_string w 43 9 5 none 0 0 Try.underlying43 Try.underlying5 Try.underlying9]
    rfl
  · have hcells : ∀ j (hj : j < l.length), w.cell? ((⟨g, 0, none⟩ : Addr).add j) = some (.int .u8 (l[j].toNat : Int)) := fun j hj => by
      rw [Addr.add_lit, Nat.zero_add, ho.cellAt j (by omega)]
      simp [bytesV, hj]
    exact run_convert_bytes_back (P := Try.prog) w 43 9 5 ⟨g, 0, none⟩ cap l Try.underlying43 Try.underlying5 Try.underlying9 hcells

/-- The bytes of all numbers, one behind the other. -/
def encs (zs : List Nat) : List UInt8 := zs.flatMap Vm.enc
theorem encs_len {zs : List Nat} (h : ∀ z ∈ zs, z < 18446744073709551616) : (encs zs).length ≤ 10 * zs.length := by
  induction zs with
  | nil => simp [encs]
  | cons z r ih =>
    have h1 := Vm.enc_len10 (h z (by simp))
    have h2 := ih (fun x hx => h x (by simp [hx]))
    simp [encs] at h2 ⊢
    omega
theorem encs_snoc (zs : List Nat) (k : Nat) (hk : k < zs.length) : encs (zs.take (k + 1)) = encs (zs.take k) ++ Vm.enc zs[k] := by
  unfold encs
  rw [List.take_succ_eq_append_getElem hk, List.flatMap_append, List.flatMap_singleton]

set_option maxRecDepth 100000 in
set_option maxHeartbeats 400000 in
theorem join_any (a : Option Addr) (cap : Nat) (zs : List Nat) (w : World) (hz : U64s w a zs) (hl : zs.length ≤ 1000000) :
    Calls Try.prog 83 #[.slice a zs.length cap] w fun e w' => e = .returned (.string ⟨(encs zs).toArray⟩) ∧ Below w.heap.size w w' := by
  obtain ⟨i0, hi, hz0, hz1, hz2⟩ := info_parts info_u8
  have hmf : ∀ (fn : Fn) (first cap : Array Value) (w : World), (Instr.makeFunc fn first cap).run Try.prog w = .ok (.func fn first cap) w := fun _ _ _ _ => rfl
  have HZ := Lib.hid hz
  clear hz
  go_enter Try.func83, Try.ntmps83
  go_wp2_with (at_make; refine wpList_make_own _ rfl _ _ 43 rfl w.heap.size 5 i0 (.int .u8 0) 1 Try.underlying43 hi hz0 hz1 _ _ _ zs.length rfl rfl (by omega) ?b2 ?b3 (Nat.le_refl _) ?_)
  case b2 => rw [hz2]; omega
  case b3 => unfold maxLen; omega
  intro w0 hown0 hgrow0
  have hsz0 : w.heap.size ≤ w0.heap.size := hgrow0.size
  have hbuf0 : Buf w.heap.size w0.heap.size (encs (zs.take 0)) (w0.alloc (.cells #[.slice (some ⟨w.heap.size, 0, none⟩) 0 zs.length] 43)) :=
    ⟨hsz0, _, heap_alloc_new _ _, by simpa [encs, bytesV] using hown0.alloc _⟩
  have hbel0 : Below w.heap.size w (w0.alloc (.cells #[.slice (some ⟨w.heap.size, 0, none⟩) 0 zs.length] 43)) :=
    ((Below.refl _ w).grown hgrow0 (Nat.le_refl _) (by simp)).alloc hsz0 _
  clear hown0 hgrow0
  go_wp2
  go_loopw [13] (fun i wr => ∃ k : Nat, k ≤ zs.length ∧ i = .int .i64 k ∧ Buf w.heap.size w0.heap.size (encs (zs.take k)) wr ∧ Below w.heap.size w wr) (fun i _ => zs.length - (intOf i).toNat)
  case atStart => exact ⟨0, Nat.zero_le _, rfl, hbuf0, hbel0⟩
  case round =>
    obtain ⟨k, hk, rfl, hb, hbel⟩ := hrel
    clear hbuf0 hbel0
    by_cases hlt : k < zs.length
    · obtain ⟨bb, off, rfl, hcw⟩ := HZ.out.2 k hlt
      have hcr : wr.cell? ⟨bb, off + k, none⟩ = some (.int .u64 (zs[k] : Int)) := (hbel.cell (p := ⟨bb, off + k, none⟩) (lt_of_cell? hcw)).trans hcw
      clear hcw
      have hle : (encs (zs.take k)).length ≤ 1099511627776 := by
        have := encs_len (zs := zs.take k) (fun z hz => HZ.out.1 z (List.mem_of_mem_take hz))
        simp at this
        omega
      go_wp2_with (go_at_call 101; refine (add_any w.heap.size w0.heap.size zs[k] (encs (zs.take k)) _ (HZ.out.1 _ (by simp)) hle hb).mono ?_; rintro e w2 ⟨rfl, hb', hbel'⟩)
      go_roundw
      case rel => exact ⟨k + 1, by omega, by go_num, by rw [encs_snoc zs k hlt]; exact hb', hbel.trans hbel'⟩
      case measure => simp [intOf]; omega
    · obtain rfl : k = zs.length := by omega
      rw [List.take_length] at hb
      obtain ⟨v, hcv, hconv⟩ := buf_string hb
      go_wp2
      go_ret
      exact ⟨rfl, hbel⟩

theorem join_at (a : Option Addr) (len cap : Nat) (zs : List Nat) (w : World) (hlen : zs.length = len) (hz : U64s w a zs) (hl : zs.length ≤ 1000000) :
    Calls Try.prog 83 #[.slice a len cap] w fun e w' => e = .returned (.string ⟨(encs zs).toArray⟩) ∧ Below w.heap.size w w' := by
  subst hlen
  exact join_any a cap zs w hz hl

end Go.Proofs.Ytplpeokmhomojaa
