/- What the laws of the table ask: plain mathematics. -/
import Derived.Test.YtllagelopdedfaaTabRng
namespace Go.Proofs.Ytllagelopdedfaa
open Go.RowKit
set_option linter.unusedVariables false
set_option linter.unusedSimpArgs false

namespace Km
theorem whGo_ge (key : List UInt8) : ∀ (rs : List (List UInt8 × List UInt8)) (b : Bool) (e : List UInt8), whGo b e rs = true → ∀ r ∈ rs, has r.1 r.2 key = true → Op.bytesLess key e = false
  | [], _, _, _, r, hr, _ => by simp at hr
  | h :: t, b, e, hw, r, hr, hh => by
    rw [whGo] at hw
    simp only [Bool.and_eq_true] at hw
    obtain ⟨⟨⟨h1, h2⟩, h3⟩, h4⟩ := hw
    have e1 : h.1 = e := by simpa using h2
    rcases List.mem_cons.1 hr with rfl | hr
    · unfold has at hh
      simp only [Bool.and_eq_true] at hh
      rw [e1] at hh
      simpa using hh.1
    · have hge := whGo_ge key t false h.2 h4 r hr hh
      have hne : h.2 ≠ [] := by
        intro e2
        rw [e2] at h4
        cases t with
        | nil => simp at hr
        | cons x t =>
          rw [whGo] at h4
          simp at h4
      unfold good at h1
      simp only [Bool.and_eq_true] at h1
      have hlt : Op.bytesLess e h.2 = true := by
        have := h1.2
        rw [e1] at this
        have h5 : h.2.isEmpty = false := by simpa using hne
        rw [h5] at this
        simpa using this
      cases hq : Op.bytesLess key e
      · rfl
      · have := bl_trans hq hlt
        rw [hge] at this
        cases this
theorem whGo_one (key : List UInt8) : ∀ (rs : List (List UInt8 × List UInt8)) (b : Bool) (e : List UInt8), whGo b e rs = true → rs.Pairwise (fun r r' => ¬ (has r.1 r.2 key = true ∧ has r'.1 r'.2 key = true))
  | [], _, _, _ => List.Pairwise.nil
  | h :: t, b, e, hw => by
    rw [whGo] at hw
    simp only [Bool.and_eq_true] at hw
    obtain ⟨⟨⟨h1, h2⟩, h3⟩, h4⟩ := hw
    refine List.pairwise_cons.2 ⟨fun r hr ⟨a1, a2⟩ => ?_, whGo_one key t false h.2 h4⟩
    have hge := whGo_ge key t false h.2 h4 r hr a2
    have hne : h.2 ≠ [] := by
      intro e2
      rw [e2] at h4
      cases t with
      | nil => simp at hr
      | cons x t =>
        rw [whGo] at h4
        simp at h4
    unfold has at a1
    simp only [Bool.and_eq_true] at a1
    have h5 : h.2.isEmpty = false := by simpa using hne
    have := a1.2
    rw [h5, hge] at this
    simp at this
theorem whole_one {rs : List (List UInt8 × List UInt8)} (h : whole rs = true) (key : List UInt8) (i j : Nat) (hi : i < rs.length) (hj : j < rs.length) (h1 : has rs[i].1 rs[i].2 key = true) (h2 : has rs[j].1 rs[j].2 key = true) : i = j := by
  unfold whole at h
  simp only [Bool.and_eq_true] at h
  have hp := List.pairwise_iff_getElem.1 (whGo_one key rs true [] h.2)
  rcases Nat.lt_trichotomy i j with hlt | e | hlt
  · exact absurd ⟨h1, h2⟩ (hp i j hi hj hlt)
  · exact e
  · exact absurd ⟨h2, h1⟩ (hp j i hj hi hlt)
theorem fidx_has {rs : List (List UInt8 × List UInt8)} {key : List UInt8} {k : Nat} (h : fidx rs key = (k : Int)) : ∃ hk : k < rs.length, has rs[k].1 rs[k].2 key = true := by
  unfold fidx at h
  cases hq : rs.findIdx? (fun r => has r.1 r.2 key) with
  | none => rw [hq] at h; simp at h
  | some i =>
    rw [hq] at h
    obtain rfl : i = k := by have h2 : (i : Int) = (k : Int) := h
                             omega
    rw [List.findIdx?_eq_some_iff_getElem] at hq
    exact ⟨hq.1, hq.2.1⟩
theorem fidx_ge (rs : List (List UInt8 × List UInt8)) (key : List UInt8) : decide (0 ≤ fidx rs key) = rs.any (fun r => has r.1 r.2 key) := by
  unfold fidx
  cases h : rs.findIdx? (fun r => has r.1 r.2 key) with
  | none =>
    rw [List.findIdx?_eq_none_iff] at h
    have : rs.any (fun r => has r.1 r.2 key) = false := by rw [List.any_eq_false]; intro x hx; simp [h x hx]
    rw [this]
    rfl
  | some i =>
    rw [List.findIdx?_eq_some_iff_getElem] at h
    obtain ⟨hi, hh, _⟩ := h
    have : rs.any (fun r => has r.1 r.2 key) = true := List.any_eq_true.2 ⟨rs[i], List.getElem_mem hi, hh⟩
    rw [this]
    simp
end Km
theorem TOk.has_iff {c : Rw} (h : TOk c) {key : List UInt8} {k : Nat} (hf : Km.fidx (tls c.rs) key = (k : Int)) (i : Nat) (hi : i < c.rs.length) : Km.has c.rs[i].1.data.toList c.rs[i].2.data.toList key = decide (i = k) := by
  obtain ⟨hk, hh⟩ := Km.fidx_has hf
  have e : (tls c.rs)[i]'(by rw [tls_len]; exact hi) = (c.rs[i].1.data.toList, c.rs[i].2.data.toList) := tls_get c.rs i hi
  by_cases hik : i = k
  · subst hik
    rw [decide_eq_true rfl]
    rw [e] at hh
    exact hh
  · rw [decide_eq_false hik]
    cases hq : Km.has c.rs[i].1.data.toList c.rs[i].2.data.toList key with
    | false => rfl
    | true => exact absurd (Km.whole_one h.wh key i k (by rw [tls_len]; exact hi) hk (by rw [e]; exact hq) hh) hik
/-- A key lies in a site's ranges just if the site owns it. -/
theorem own_iff {c : Rw} (h : TOk c) (key : List UInt8) (s : Int) : decide (0 ≤ Km.fidx (tls (rngsN c s)) key) = bitN (ownN c key) s := by
  obtain ⟨k, hk, hf⟩ := h.find key
  obtain ⟨ho, _, _⟩ := ownN_at h hk hf
  have hk' : k < c.ow.length := by rw [h.ol]; exact hk
  rw [Km.fidx_ge]
  unfold rngsN
  rw [if_pos ((tOk_iff c).2 h), Bool.eq_iff_iff, List.any_eq_true]
  unfold tls
  constructor
  · rintro ⟨x, hx, hh⟩
    simp only [List.map_map, List.mem_map, List.mem_filter] at hx
    obtain ⟨⟨r, o⟩, ⟨hz, hb⟩, rfl⟩ := hx
    obtain ⟨i, hi, he⟩ := List.getElem_of_mem hz
    have hi1 : i < c.rs.length := by simp at hi; omega
    have hi2 : i < c.ow.length := by simp at hi; omega
    rw [List.getElem_zip] at he
    have e1 : c.rs[i] = r := congrArg Prod.fst he
    have e2 : c.ow[i] = o := congrArg Prod.snd he
    have h3 := h.has_iff hf i hi1
    simp only [Function.comp] at hh
    rw [e1] at h3
    rw [h3] at hh
    have hik : i = k := by simpa using hh
    subst hik
    dsimp only at hb
    rw [← e2, ← ho, Int.toNat_natCast] at hb
    exact hb
  · intro hb
    refine ⟨(c.rs[k].1.data.toList, c.rs[k].2.data.toList), ?_, by have := h.has_iff hf k hk; simpa using this⟩
    simp only [List.map_map, List.mem_map, List.mem_filter]
    refine ⟨(c.rs[k], c.ow[k]), ⟨?_, by dsimp only; rw [← ho, Int.toNat_natCast]; exact hb⟩, rfl⟩
    have hz : k < (c.rs.zip c.ow).length := by simp; omega
    have : (c.rs.zip c.ow)[k] = (c.rs[k], c.ow[k]) := List.getElem_zip
    rw [← this]
    exact List.getElem_mem hz
theorem first_law : ∀ n : Nat, n < 7 → ∀ m : Nat, m < 2 ^ n → 1 ≤ m → 0 ≤ firstN m ∧ firstN m < n ∧ bitN m (firstN m) = true ∧ 0 < cntB m 6 := by decide +kernel
theorem first_below : ∀ m : Nat, m < 64 → ∀ s : Nat, s < 6 → (s : Int) < firstN m → bitN m s = false := by decide +kernel
theorem cnt_six {m : Nat} (h : m < 64) : manyN m = cntB m 6 := cntB_stop (Nat.div_eq_of_lt h) 63 (by omega)
theorem cnt_bit (m k : Nat) : cntB m (k + 1) = cntB m k + if bitN m (k : Int) then 1 else 0 := by
  rw [cntB, bitN_nat]
  have := Nat.mod_lt (m / 2 ^ k) (show 0 < 2 by omega)
  by_cases h : m / 2 ^ k % 2 = 1
  · simp [h]
  · simp [h]; omega
theorem own_pow {c : Rw} (h : TOk c) (key : List UInt8) : ownN c key < 2 ^ c.pa.length ∧ 1 ≤ ownN c key := by
  obtain ⟨k, hk, hf⟩ := h.find key
  obtain ⟨ho, _, h1⟩ := ownN_at h hk hf
  have hk' : k < c.ow.length := by rw [h.ol]; exact hk
  have := (h.ob _ (List.getElem_mem hk')).2
  omega
end Go.Proofs.Ytllagelopdedfaa
