/- What past.Get and the document's Get answer. -/
import Derived.Test.YtplpeokmhomojaaPastFind
import Derived.Test.YtplpeokmhomojaaStampMax
namespace Go.Proofs.Ytplpeokmhomojaa
open Go.RowKit
set_option linter.unusedVariables false
set_option linter.unusedSimpArgs false

/-- The stamp of a key; the zero one: there is none. -/
def gtD (l : List De) (key : ByteArray) : Int × Int := match l.find? (fun d => decide (d.1 = key)) with | none => (0, 0) | some d => d.2
theorem kidx_cases (l : List De) (key : ByteArray) : (kidx l key = -1 ∧ gtD l key = (0, 0)) ∨ ∃ (k : Nat) (h : k < l.length), kidx l key = k ∧ l[k].1 = key ∧ gtD l key = l[k].2 := by
  unfold kidx fidxD gtD
  cases h : l.findIdx? (fun d => decide (d.1 = key)) with
  | none =>
    left
    refine ⟨rfl, ?_⟩
    rw [List.findIdx?_eq_none_iff] at h
    have : l.find? (fun d => decide (d.1 = key)) = none := by
      rw [List.find?_eq_none]
      intro x hx
      simpa using h x hx
    rw [this]
  | some i =>
    right
    rw [List.findIdx?_eq_some_iff_getElem] at h
    obtain ⟨hi, hh, hn⟩ := h
    have : l.find? (fun d => decide (d.1 = key)) = some l[i] := by
      rw [List.find?_eq_some_iff_getElem]
      exact ⟨hh, i, hi, rfl, fun j hj => by simpa using hn j hj⟩
    exact ⟨i, hi, rfl, by simpa using hh, by rw [this]⟩

set_option maxRecDepth 100000 in
set_option maxHeartbeats 800000 in
theorem pget_any (v : Value) (l : List De) (key : ByteArray) (w : World) (hl : l.length ≤ 1000000) (hr : DepAt w v l) :
    Calls Try.prog 18 #[v, .string key] w fun e w' => e = .returned (sv (gtD l key)) ∧ Below w.heap.size w w' := by
  have hcon := pfind_any v l key (w.alloc (.cells #[.int .i64 0, .int .i64 0] 24)) hl (hr.alloc _)
  have hkc := kidx_cases l key
  generalize kidx l key = r at hcon hkc
  obtain ⟨a, cap, rfl, _, _, _, hr⟩ := hr
  have HR := Lib.hid hr
  clear hr
  have hf0 : Var2 (w.alloc (.cells #[.int .i64 0, .int .i64 0] 24)) w.heap.size (0, 0) := ⟨by simp, by simp, by simp, by simp⟩
  rcases hkc with ⟨rfl, hg⟩ | ⟨k, hk, rfl, hk1, hg⟩
  · rw [hg]
    clear hg
    go_enter Try.func18, Try.ntmps18
    go_wp2_with fail
    refine hcon.mono ?_
    rintro e w1 ⟨rfl, hb⟩
    have hv := hf0.keep hb
    have hbel := bstep (balloc (Below.refl _ w) _) hb
    clear hb hcon hf0
    obtain ⟨a0, a1, a2, a3⟩ := hv
    go_wp2
    have hv := Var2.put (p := (0, 0)) ⟨a0, a1, a2, a3⟩ 0 0
    have r0 := hv.c0
    have r1 := hv.c1
    simp only at r0 r1
    refine bodyPost_ret (v := .agg #[.int .i64 0, .int .i64 0]) (by simp [results, Try.results18, go_sem, r0, r1]) rfl ⟨rfl, below_put hbel (Nat.le_refl _) _ _⟩
  · rw [hg]
    clear hg hk1
    obtain ⟨b, off, rfl, hbl, c0, c1, c2⟩ := HR.out k hk
    generalize l[k] = d at c0 c1 c2
    obtain ⟨x, y, z⟩ := d
    dsimp only at c0 c1 c2 ⊢
    go_enter Try.func18, Try.ntmps18
    go_wp2_with fail
    refine hcon.mono ?_
    rintro e w1 ⟨rfl, hb⟩
    have hv := hf0.keep hb
    have hbel := bstep (balloc (Below.refl _ w) _) hb
    have c1 := kcell hbel hbl c1
    have c2 := kcell hbel hbl c2
    have hkl : (k : Int) < (l.length : Int) := by omega
    have HKL := Lib.hid hk
    clear hb hcon hf0 hk
    obtain ⟨a0, a1, a2, a3⟩ := hv
    go_wp2
    have hv := Var2.put (p := (0, 0)) ⟨a0, a1, a2, a3⟩ y z
    have r0 := hv.c0
    have r1 := hv.c1
    simp only at r0 r1
    refine bodyPost_ret (v := .agg #[.int .i64 y, .int .i64 z]) (by simp [results, Try.results18, go_sem, r0, r1]) rfl ⟨rfl, below_put hbel (Nat.le_refl _) _ _⟩

theorem gtD_hit {l : List De} {key : ByteArray} {k : Nat} (hk : k < l.length) (h : ∀ j (hj : j < l.length), j < k → l[j].1 ≠ key) (hh : l[k].1 = key) : gtD l key = l[k].2 := by
  have : l.find? (fun d => decide (d.1 = key)) = some l[k] := by
    rw [List.find?_eq_some_iff_getElem]
    exact ⟨by simpa using hh, k, hk, rfl, fun j hj => by simpa using h j (by omega) hj⟩
  simp [gtD, this]
theorem gtD_none {l : List De} {key : ByteArray} (h : ∀ j (hj : j < l.length), l[j].1 ≠ key) : gtD l key = (0, 0) := by
  have : l.find? (fun d => decide (d.1 = key)) = none := by
    rw [List.find?_eq_none]
    intro x hx
    obtain ⟨j, hj, rfl⟩ := List.getElem_of_mem hx
    simpa using h j hj
  simp [gtD, this]

set_option maxRecDepth 100000 in
set_option maxHeartbeats 800000 in
theorem refPGet_any (v : Value) (l : List De) (key : ByteArray) (w : World) (hl : l.length ≤ 1000000) (hr : DepAt w v l) :
    Calls Try.prog 19 #[v, .string key] w fun e w' => e = .returned (sv (gtD l key)) ∧ Below w.heap.size w w' := by
  obtain ⟨a, cap, rfl, _, _, _, hr⟩ := hr
  have HR := Lib.hid hr
  clear hr
  go_enter Try.func19, Try.ntmps19
  go_wp2
  go_loopw [5] (fun i wr => ∃ k : Nat, k ≤ l.length ∧ i = .int .i64 k ∧ (∀ j (hj : j < l.length), j < k → l[j].1 ≠ key) ∧ Var2 wr w.heap.size (0, 0) ∧ Below w.heap.size w wr) (fun i _ => l.length - (intOf i).toNat)
  case atStart => exact ⟨0, by omega, rfl, (fun j hj h => by omega), ⟨by simp, by simp, by simp, by simp⟩, balloc (Below.refl _ w) _⟩
  case round =>
    obtain ⟨k, hk, rfl, hall, hf0, hbel⟩ := hrel
    have HA := Lib.hid hall
    clear hall
    obtain ⟨a0, a1, a2, a3⟩ := hf0
    simp only at a0 a1
    by_cases hlt : k < l.length
    · obtain ⟨b, off, rfl, hbl, c0, c1, c2⟩ := HR.out.below hbel k hlt
      have HH := Lib.hid (@gtD_hit l key k hlt HA.out)
      have HN : Hid (l[k].1 ≠ key → ∀ j (hj : j < l.length), j < k + 1 → l[j].1 ≠ key) := Lib.hid (fun h j hj h2 => by
        by_cases e : j = k
        · subst e; exact h
        · exact HA.out j hj (by omega))
      generalize l[k] = d at c0 c1 c2 HH HN
      obtain ⟨x, y, z⟩ := d
      dsimp only at c0 c1 c2 HH HN
      have hkey : Hid (x = key ↔ (x.toList == key.toList) = true) := Lib.hid (by
        rw [Lib.toList_data, Lib.toList_data, beq_iff_eq]
        exact ⟨fun h => by rw [h], ba_inj⟩)
      cases hq : (x.toList == key.toList) with
      | true =>
        have hq' : x.toList = key.toList := by simpa using hq
        go_wp2
        have hv := Var2.put (p := (0, 0)) ⟨a0, a1, a2, a3⟩ y z
        have r0 := hv.c0
        have r1 := hv.c1
        simp only at r0 r1
        refine bodyPost_ret (v := .agg #[.int .i64 y, .int .i64 z]) (by simp [results, Try.results19, go_sem, r0, r1]) rfl ⟨?_, below_put hbel (Nat.le_refl _) _ _⟩
        rw [HH.out (hkey.out.2 hq)]
      | false =>
        have hq' : ¬ x.toList = key.toList := by simpa using hq
        go_wp2
        go_roundw
        case rel => exact ⟨k + 1, by omega, by go_num, HN.out (fun h => by rw [hkey.out, hq] at h; cases h), ⟨a0, a1, a2, a3⟩, hbel⟩
        case measure => simp [intOf]; omega
    · obtain rfl : k = l.length := by omega
      go_wp2
      have hv := Var2.put (p := (0, 0)) ⟨a0, a1, a2, a3⟩ 0 0
      have r0 := hv.c0
      have r1 := hv.c1
      simp only at r0 r1
      refine bodyPost_ret (v := .agg #[.int .i64 0, .int .i64 0]) (by simp [results, Try.results19, go_sem, r0, r1]) rfl ⟨?_, below_put hbel (Nat.le_refl _) _ _⟩
      rw [gtD_none (fun j hj => HA.out j hj hj)]
end Go.Proofs.Ytplpeokmhomojaa
