/- What stamp.Read answers. -/
import Derived.Test.YtmfjoiajghmeoaaStampBytes
import Derived.Test.YtmfjoiajghmeoaaVaryRead
namespace Go.Proofs.Ytmfjoiajghmeoaa
open Go.RowKit
set_option linter.unusedVariables false

/-- The answer of stamp.Read, as a value. -/
def srV : Option ((Int × Int) × Nat) → Value
  | none => .tuple #[.agg #[.int .i64 0, .int .i64 0], .int .i64 0, .bool false]
  | some (p, e) => .tuple #[.agg #[.int .i64 p.1, .int .i64 p.2], .int .i64 (e : Int), .bool true]

theorem rd_bounds {l : List UInt8} {a : Int} {n e : Nat} (h : rd l a = some (n, e)) : n < 18446744073709551616 ∧ e ≤ l.length ∧ 0 ≤ a ∧ a < e := by
  unfold rd at h
  split at h
  · cases h
  · rename_i hc
    cases hd : Vm.dec 0 (l.drop a.toNat) with
    | none => rw [hd] at h; cases h
    | some x =>
      obtain ⟨y, k⟩ := x
      rw [hd] at h
      simp at h
      obtain ⟨rfl, rfl⟩ := h
      obtain ⟨h1, h2, h3⟩ := Vm.dec0_inv _ _ _ hd
      have h4 := Vm.enc_pos y
      rw [← h3] at h4
      simp at h2 h4
      exact ⟨h1, by omega, by omega, by omega⟩

theorem ok_wrap (n k : Nat) (hn : n < 18446744073709551616) (hk : k < 18446744073709551616) : Sm.ok (wrap64 n) (wrap64 k) = Sm.ok n k := by
  unfold wrap64
  exact decide_eq_decide.2 (by omega)

set_option maxRecDepth 100000 in
set_option maxHeartbeats 1000000 in
theorem sread_any (s : ByteArray) (at_ : Int) (w : World) (hs : s.size ≤ 9223372036854775807) :
    Calls Try.prog 19 #[.string s, .int .i64 at_] w fun e w' => e = .returned (srV (Sm.rdS (rd s.data.toList) at_)) ∧ Below w.heap.size w w' := by
  cases h : rd s.data.toList at_ with
  | none =>
    have he : Sm.rdS (rd s.data.toList) at_ = none := by simp [Sm.rdS, h]
    rw [he]
    have H := Lib.hid h
    clear h he
    go_enter Try.func19, Try.ntmps19
    go_wp2_with fail
    refine (read_any s at_ _ hs).mono ?_
    rintro e w1 ⟨rfl, rfl⟩
    rw [H.out, rdV]
    go_wp2
    refine bodyPost_ret (v := srV none) (by simp [results, Try.results19, go_sem, srV]) rfl ⟨rfl, balloc (Below.refl _ w) _⟩
  | some x =>
    obtain ⟨n, m⟩ := x
    obtain ⟨hn, hm, _, _⟩ := rd_bounds h
    have hm' : m ≤ s.size := by simpa using hm
    have H := Lib.hid h
    cases h2 : rd s.data.toList (m : Int) with
    | none =>
      have he : Sm.rdS (rd s.data.toList) at_ = none := by simp [Sm.rdS, h, h2]
      rw [he]
      have H2 := Lib.hid h2
      clear h h2 he hm
      go_enter Try.func19, Try.ntmps19
      go_wp2_with fail
      refine (read_any s at_ _ hs).mono ?_
      rintro e w1 ⟨rfl, rfl⟩
      rw [H.out, rdV]
      go_wp2_with fail
      refine (read_any s m _ hs).mono ?_
      rintro e w1 ⟨rfl, rfl⟩
      rw [H2.out, rdV]
      clear hn
      go_wp2
      refine bodyPost_ret (v := srV none) (by simp [results, Try.results19, go_sem, srV]) rfl ⟨rfl, balloc (Below.refl _ w) _⟩
    | some y =>
      obtain ⟨k, e⟩ := y
      obtain ⟨hk, hq, _, _⟩ := rd_bounds h2
      have hq' : e ≤ s.size := by simpa using hq
      have he : Sm.rdS (rd s.data.toList) at_ = if Sm.ok n k = true then some (((n : Int), (k : Int)), e) else none := by simp [Sm.rdS, h, h2]
      have H2 := Lib.hid h2
      have HN := Lib.hid hn
      have HK := Lib.hid hk
      clear h h2 hm hq hn hk
      cases ho : Sm.ok n k with
      | false =>
        rw [ho, if_neg (by simp)] at he
        rw [he]
        have HO := Lib.hid ho
        clear he ho
        go_enter Try.func19, Try.ntmps19
        go_wp2_with fail
        refine (read_any s at_ _ hs).mono ?_
        rintro e w1 ⟨rfl, rfl⟩
        rw [H.out, rdV]
        go_wp2_with fail
        refine (read_any s m _ hs).mono ?_
        rintro e w1 ⟨rfl, rfl⟩
        rw [H2.out, rdV]
        go_wp2_with fail
        refine (check_any (wrap64 n) (wrap64 k) _).mono ?_
        rintro e2 w2 ⟨rfl, hb⟩
        rw [ok_wrap n k HN.out HK.out, HO.out]
        have c0 : w2.cell? ⟨w.heap.size, 0, none⟩ = some (.int .i64 (wrap64 n)) := kc hb (by simp)
        have c1 : w2.cell? ⟨w.heap.size, 1, none⟩ = some (.int .i64 (wrap64 k)) := kc hb (by simp)
        have f0 : w2.frozen? ⟨w.heap.size, 0, none⟩ = false := (hb.frozen (p := ⟨w.heap.size, 0, none⟩) (by simp)).trans (by simp)
        have f1 : w2.frozen? ⟨w.heap.size, 1, none⟩ = false := (hb.frozen (p := ⟨w.heap.size, 1, none⟩) (by simp)).trans (by simp)
        have hb2 := bstep (balloc (Below.refl _ w) _) hb
        have HV := Lib.hid (Var2.mk (p := (wrap64 n, wrap64 k)) c0 c1 f0 f1)
        clear hb
        go_wp2
        have hv := HV.out.put 0 0
        have r0 := hv.c0
        have r1 := hv.c1
        simp only at r0 r1
        refine bodyPost_ret (v := srV none) (by simp [results, Try.results19, go_sem, srV, r0, r1]) rfl ⟨rfl, below_put hb2 (Nat.le_refl _) _ _⟩
      | true =>
        rw [ho, if_pos rfl] at he
        rw [he]
        have e1 : wrap64 (n : Int) = n := by
          have := ho
          simp only [Sm.ok, decide_eq_true_eq] at this
          unfold wrap64; omega
        have e2 : wrap64 (k : Int) = k := by
          have := ho
          simp only [Sm.ok, decide_eq_true_eq] at this
          unfold wrap64; omega
        have E1 := Lib.hid e1
        have E2 := Lib.hid e2
        have HO := Lib.hid ho
        clear he ho e1 e2
        go_enter Try.func19, Try.ntmps19
        go_wp2_with fail
        refine (read_any s at_ _ hs).mono ?_
        rintro e w1 ⟨rfl, rfl⟩
        rw [H.out, rdV]
        go_wp2_with fail
        refine (read_any s m _ hs).mono ?_
        rintro e w1 ⟨rfl, rfl⟩
        rw [H2.out, rdV]
        go_wp2_with fail
        refine (check_any (wrap64 n) (wrap64 k) _).mono ?_
        rintro e2 w2 ⟨rfl, hb⟩
        rw [ok_wrap n k HN.out HK.out, HO.out]
        have c0 : w2.cell? ⟨w.heap.size, 0, none⟩ = some (.int .i64 (wrap64 n)) := kc hb (by simp)
        have c1 : w2.cell? ⟨w.heap.size, 1, none⟩ = some (.int .i64 (wrap64 k)) := kc hb (by simp)
        have f0 : w2.frozen? ⟨w.heap.size, 0, none⟩ = false := (hb.frozen (p := ⟨w.heap.size, 0, none⟩) (by simp)).trans (by simp)
        have f1 : w2.frozen? ⟨w.heap.size, 1, none⟩ = false := (hb.frozen (p := ⟨w.heap.size, 1, none⟩) (by simp)).trans (by simp)
        have hb2 := bstep (balloc (Below.refl _ w) _) hb
        have HV := Lib.hid (Var2.mk (p := (wrap64 n, wrap64 k)) c0 c1 f0 f1)
        clear hb
        rw [E1.out] at c0 HV
        rw [E2.out] at c1 HV
        go_wp2
        have hv := HV.out.put n k
        have r0 := hv.c0
        have r1 := hv.c1
        simp only at r0 r1
        refine bodyPost_ret (v := srV (some ((n, k), e))) (by simp [results, Try.results19, go_sem, srV, r0, r1]) rfl ⟨rfl, below_put hb2 (Nat.le_refl _) _ _⟩
end Go.Proofs.Ytmfjoiajghmeoaa
