/- Texts of this proof, one behind the other: QuBase, QuDep. -/
import Derived.Test.YtfmedinhlmiaeaaGQ26
/- What the laws of layer 14 share: the versions that 'made' makes, as a row. -/
namespace Go.Proofs.Ytfmedinhlmiaeaa
open Go.RowKit
set_option linter.unusedVariables false
set_option linter.unusedSimpArgs false

theorem mk_plain_go : ∀ (l : List Wr) (out : List Wv), (∀ v ∈ out, v.val = ⟨#[]⟩ ∧ v.gone = false) → ∀ v ∈ l.foldl mkS out, v.val = ⟨#[]⟩ ∧ v.gone = false
  | [], out, h => h
  | w :: l, out, h => by
    refine mk_plain_go l (mkS out w) ?_
    unfold mkS
    split
    · exact h
    · intro v hv
      rw [List.mem_append, List.mem_singleton] at hv
      rcases hv with hv | rfl
      · exact h v hv
      · exact ⟨rfl, rfl⟩
theorem mk_plain (ws : List Wr) : ∀ v ∈ mkV ws, v.val = ⟨#[]⟩ ∧ v.gone = false := mk_plain_go _ _ (by simp)
/-- What 'made' made, with what is known of it. -/
structure MadeQ (w : World) (u : Value) (xs : List Vw) (ws : List Wr) : Prop where
  row : WRow w u xs
  map : xs.map Prod.fst = mkV ws
theorem MadeQ.below {w w' : World} {u : Value} {xs : List Vw} {ws : List Wr} (h : MadeQ w u xs ws) (hb : Below w.heap.size w w') : MadeQ w' u xs ws := ⟨h.row.below hb, h.map⟩
section
variable {xs : List Vw} {ws : List Wr} (h : xs.map Prod.fst = mkV ws)
include h
theorem mq_inv : Inv (xs.map Prod.fst) := by rw [h]; exact (mkV_inv ws).1
theorem mq_len : xs.length ≤ 14 := by
  have := (mkV_inv ws).2
  rw [← h, List.length_map] at this
  exact this
theorem mq_ok : ∀ x ∈ xs, VOkQ x.1 := fun x hx => inv_ok14 (mq_inv h) (by rw [List.length_map]; exact mq_len h) x.1 (List.mem_map.2 ⟨x, hx, rfl⟩)
theorem mq_plain : ∀ x ∈ xs, x.1.val = ⟨#[]⟩ ∧ x.1.gone = false := fun x hx => mk_plain ws x.1 (by rw [← h]; exact List.mem_map.2 ⟨x, hx, rfl⟩)
theorem mq_okW : ∀ x ∈ xs, okW x.1 = true := by
  intro x hx
  have hm : x.1 ∈ xs.map Prod.fst := List.mem_map.2 ⟨x, hx, rfl⟩
  have hi := mq_inv h
  obtain ⟨p1, p2⟩ := mq_plain h x hx
  obtain ⟨i, hi8, e⟩ := hi.keys _ hm
  have k1 := key_ok hi8
  rw [← e] at k1
  unfold okW
  rw [p1, p2, k1, hi.snd.ok _ hm, hi.snd.chk _ hm]
  rfl
theorem mq_past : ∀ x ∈ xs, x.1.past.length ≤ 50 := fun x hx => (mq_ok h x hx).len
theorem mq_row {w : World} {base : Nat} {u : Value} (hq : QMade w base u xs) : MadeQ w u xs ws :=
  ⟨WRow.of_own hq.own (fun x hx => by
    have ho := mq_ok h x hx
    have hp := mq_plain h x hx
    exact ⟨⟨ho.ks, by rw [hp.1]; exact Nat.zero_le _, by have := ho.len; omega, ho.srt.szd, hq.pst x hx⟩, ho.st⟩), h⟩
end
theorem wr_past {w : World} {u : Value} {xs : List Vw} {ws : List Wr} (h : MadeQ w u xs ws) : ∀ x ∈ xs, x.1.past.length ≤ 100000 := fun x hx => by have := mq_past h.map x hx; omega
end Go.Proofs.Ytfmedinhlmiaeaa
/- What the laws of layer 14 take of the document's pasts. -/
namespace Go.Proofs.Ytfmedinhlmiaeaa
open Go.RowKit
set_option linter.unusedVariables false
set_option linter.unusedSimpArgs false

theorem cv_ready {rs : List (ByteArray × ByteArray)} {hs : List De} {x : Vw} (h : readyB rs hs x = true) : cvD hs (onlyD rs x.1.past) = true := by
  unfold cvD
  rw [show ((onlyD rs x.1.past).any fun d => Sm.less (gtD hs d.1) d.2) = false from by
    rw [List.any_eq_false]
    intro d hd
    rw [ready_iff.1 h d hd]
    simp]
  rfl
theorem nx_some {rs : List (ByteArray × ByteArray)} {hs : List De} {l : List Vw} {k : Nat} (h : nxI rs hs l = some k) : ∃ hk : k < l.length, readyB rs hs l[k] = true := by
  unfold nxI at h
  rw [List.findIdx?_eq_some_iff_getElem] at h
  obtain ⟨hk, hh, _⟩ := h
  exact ⟨hk, hh⟩
end Go.Proofs.Ytfmedinhlmiaeaa
