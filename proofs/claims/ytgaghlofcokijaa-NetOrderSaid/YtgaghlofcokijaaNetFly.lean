/- What a net's Flying and Open answer. -/
import Derived.Test.YtgaghlofcokijaaNetNet
import Derived.Test.YtgaghlofcokijaaLinkOpen
import Derived.OwnWalk
import Derived.Shelf.SlGeneric
namespace Go.Proofs.Ytgaghlofcokijaa
open Go.RowKit
set_option linter.unusedVariables false
set_option linter.unusedSimpArgs false

theorem wpList_appendQ {ops : Array Oper} {rest : List Oper} {o : Oper} {a : Act} {Q : Exit → Act → World → Prop} {w : World} (hgd : o.guard = none) (s x : Operand)
    (ho : o.op = .call { callee := .builtin .append, args := #[s, x], argTypes := #[KPk.S, KPk.S] })
    (v : Value) (l : List (Int × ByteArray)) (hs : a.eval s = v) (hown : OwnQ w v l) (ad : Addr) (n c : Nat) (ns : List (Int × ByteArray)) (hn : ns.length = n) (hx : a.eval x = .slice (some ad) n c) (hr : ∀ j u, (rV KPk ns)[j]? = some u → w.cell? (ad.add j) = some u) (hl : l.length + ns.length ≤ 1000000)
    (h : ∀ b k w', OwnQ w' (.slice b (l ++ ns).length k) (l ++ ns) → w.grownBy w' v.ownBlock → ((Value.slice b (l ++ ns).length k).ownBlock = v.ownBlock ∨ (Value.slice b (l ++ ns).length k).ownBlock = some w.heap.size) → wpList Try.prog ops Q rest (a.put o.dst (.slice b (l ++ ns).length k)) w') :
    wpList Try.prog ops Q (o :: rest) a w := by
  refine wpList_plain hgd fun K' hK' => ?_
  subst hn
  obtain ⟨v', w', hrun, h2, h3, h4⟩ := run_appendQ (w := w) o.type v l hown ad c ns hr hl
  obtain ⟨b, k, rfl⟩ := h2.shape
  unfold Oper.wp execOp
  simp only [ho, resolve, invoke, builtin, Sem.run_bind, Sem.run_pure, Result.andThen_ok, List.map_toArray, List.map_cons, List.map_nil, hs, hx, hrun]
  exact hK' _ _ (h b k w' h2 h3 h4)

/-- What a copy of a row is. -/
def ClonedAt (w : World) (l : List (Int × ByteArray)) (e : Ending) (w' : World) : Prop := ∃ a c, e = .returned (.slice a l.length c) ∧ RowIn KPk w' a l ∧ l.length ≤ c ∧ c ≤ maxLen ∧ (a = none → c = 0) ∧ Below w.heap.size w w'

set_option maxRecDepth 100000 in
set_option maxHeartbeats 1600000 in
theorem clone_pk (v : Value) (l : List (Int × ByteArray)) (w : World) (h : OwnQ w v l) (hl : l.length ≤ 1000) :
    Calls Try.prog 26 #[v] w (ClonedAt w l) := by
  have hq : ∀ (w : World) (a : Option Addr) (n c n' c' : Nat), (binOp .eql 37 (.slice a n c) (.slice none n' c')).run Try.prog w = .ok (.bool a.isNone) w := fun w a n c n' c' => Lib.run_eql_slice_nil w _ _ a n c n' c' Try.underlying37
  have HV := Lib.hid h
  unfold ClonedAt
  rcases h with ⟨rfl, rfl⟩ | ⟨g, cap, cur, rfl, _⟩
  · clear HV
    go_enter Try.func26, Try.ntmps26
    go_wp2
    go_ret
    exact ⟨_, _, rfl, fun i hi => absurd hi (by simp), Nat.le_refl _, Nat.zero_le _, fun _ => rfl, Below.refl _ _⟩
  · have HO : Hid (OwnQ (w.alloc (.cells #[] 53)) (.slice (some ⟨w.heap.size, 0, none⟩) 0 0) []) := Lib.hid (.inr ⟨w.heap.size, 0, #[], rfl, heap_alloc_new w _, Nat.le_refl _, Nat.zero_le _, by simp, by simp [rV]⟩)
    have HB := Lib.hid (balloc (Below.refl _ w) (.cells #[] 53))
    have HT : Hid (∀ j u, (rV KPk l)[j]? = some u → (w.alloc (.cells #[] 53)).cell? ((⟨g, 0, none⟩ : Addr).add j) = some u) := Lib.hid (by
      have := (HV.out.below HB.out).tail 0
      simpa using this)
    have HL : Hid (([] : List (Int × ByteArray)).length + l.length ≤ 1000000) := Lib.hid (by simp; omega)
    clear hl
    go_enter Try.func26, Try.ntmps26
    go_wp2_with (at_builtin; refine wpList_appendQ rfl _ _ rfl (.slice (some ⟨w.heap.size, 0, none⟩) 0 0) [] rfl HO.out ⟨g, 0, none⟩ l.length cap l rfl rfl HT.out HL.out ?_; intro sa sc w1 ho1 hg1 hat1; rw [List.nil_append] at ho1)
    go_ret
    obtain ⟨_, c1, c2, c3⟩ := ho1.caps
    refine ⟨_, _, rfl, ho1.row, c1, c2, c3, HB.out.grown hg1 ?_ ?_⟩
    · simp
    · intro k e
      simp [Value.ownBlock] at e
      omega

set_option maxRecDepth 100000 in
theorem nflying_ses {w : World} (nv : Value) (a b : Int) (B : Nat) (s : Ses) (v : Value) (hs : Calls Try.prog 19 #[nv, .int .i64 a, .int .i64 b] w fun e w' => e = .returned (.pointer (some ⟨B, 0, none⟩)) ∧ w' = w)
    (h : SesAt w B s v) (hok : s.Ok) :
    Calls Try.prog 15 #[nv, .int .i64 a, .int .i64 b] w (ClonedAt w s.way) := by
  have hcl := clone_pk v s.way w h.row (by have := hok.ln40; omega)
  have hf := h.fl
  obtain ⟨p, c, hv⟩ := h.row.shape
  subst hv
  unfold ClonedAt at hcl ⊢
  clear h hok
  go_enter Try.func15, Try.ntmps15
  go_wp2_with fail
  refine hs.mono ?_
  rintro e w2 ⟨rfl, rfl⟩
  clear hs
  go_wp2_with fail
  refine hcl.mono ?_
  rintro e w3 ⟨sa, sc, rfl, hr⟩
  go_wp2
  go_ret
  exact ⟨sa, sc, rfl, hr⟩

set_option maxRecDepth 100000 in
theorem nopen_ses {w : World} (nv : Value) (a b : Int) (B : Nat) (s : Ses) (v : Value) (hs : Calls Try.prog 19 #[nv, .int .i64 a, .int .i64 b] w fun e w' => e = .returned (.pointer (some ⟨B, 0, none⟩)) ∧ w' = w)
    (h : SesAt w B s v) :
    Calls Try.prog 14 #[nv, .int .i64 a, .int .i64 b] w fun e w' => e = .returned (.int .i64 (s.opn : Int)) ∧ Below w.heap.size w w' := by
  have hop := open_at B s.m (s.all.drop s.m) w h.sn
  unfold OpenedAt at hop
  rw [List.length_drop] at hop
  change Calls _ _ _ _ (fun e w' => ∃ g, e = .returned (.slice (some ⟨g, 0, none⟩) s.opn s.opn) ∧ _) at hop
  generalize s.opn = k at *
  clear h
  go_enter Try.func14, Try.ntmps14
  go_wp2_with fail
  refine hs.mono ?_
  rintro e w2 ⟨rfl, rfl⟩
  clear hs
  go_wp2_with fail
  refine hop.mono ?_
  rintro e w3 ⟨g, rfl, _, _, hb⟩
  go_wp2
  go_ret
  exact ⟨rfl, hb⟩

theorem nflying_net {w : World} {far : Nat → Prop} {n N : Nat} {st : Nat → Nat → Ses} (h : NetAt w far n N st) (a b : Nat) (ha : a < N) (hb : b < N) (hab : a ≠ b) :
    Calls Try.prog 15 #[.pointer (some ⟨n, 0, none⟩), .int .i64 (a : Int), .int .i64 (b : Int)] w (ClonedAt w (st a b).way) := by
  obtain ⟨h6, mb, cnt, blk, vs, tg, h⟩ := h
  exact nflying_ses _ _ _ (blk a b) (st a b) (vs a b) (sess_ok h h6 ha hb hab) (h.se a b ha hb hab) (h.ok a b ha hb hab)
theorem nopen_net {w : World} {far : Nat → Prop} {n N : Nat} {st : Nat → Nat → Ses} (h : NetAt w far n N st) (a b : Nat) (ha : a < N) (hb : b < N) (hab : a ≠ b) :
    Calls Try.prog 14 #[.pointer (some ⟨n, 0, none⟩), .int .i64 (a : Int), .int .i64 (b : Int)] w fun e w' => e = .returned (.int .i64 ((st a b).opn : Int)) ∧ Below w.heap.size w w' := by
  obtain ⟨h6, mb, cnt, blk, vs, tg, h⟩ := h
  exact nopen_ses _ _ _ (blk a b) (st a b) (vs a b) (sess_ok h h6 ha hb hab) (h.se a b ha hb hab)
end Go.Proofs.Ytgaghlofcokijaa
