/- What the document's add, Bounds and Same answer. -/
import Derived.Test.YtmmgicdnbedmdaaKeysRows
import Derived.Deep.QuietTactic
import Derived.BigQuiet
namespace Go.Proofs.Ytmmgicdnbedmdaa
open Go.RowKit
set_option linter.unusedVariables false

theorem str_list (l : List UInt8) : (⟨l.toArray⟩ : ByteArray).toList = l := by rw [Lib.toList_data]

/-- One text appended to a row of the call's own. -/
theorem own_push {base : Nat} {l : List (List UInt8)} {c : List UInt8} {wr w1 : World} {v v' : Value} {T : TypeId} {X : Array Value} (hbs : base ≤ wr.heap.size)
    (ho : wr.ownsRow base 9 1 v l.length (l.map encStr)) (ho' : w1.ownsRow base 9 1 v' (l.length + 1) (l.map encStr ++ [.string ⟨c.toArray⟩])) (hg : (wr.alloc (.cells X T)).grownBy w1 v.ownBlock) :
    w1.ownsRow base 9 1 v' (l ++ [c]).length ((l ++ [c]).map encStr) ∧ Below base wr w1 := by
  refine ⟨by simpa using ho', ((Below.refl base wr).alloc hbs _).grown hg (by simp; omega) ?_⟩
  intro k hk
  exact (ho.lt k hk).1

/-- What add leaves. -/
def AddPost (w : World) (l : List (List UInt8)) (s : ByteArray) (e : Ending) (w' : World) : Prop :=
  ∃ v out, e = .returned v ∧ Km.isAdd l s.data.toList out ∧ out.length ≤ l.length + 1 ∧ StrAt w' v out ∧ Below w.heap.size w w'

/-- The row that is made, as far as it goes. -/
def outl (l : List (List UInt8)) (s : List UInt8) (p k : Nat) (put : Bool) : List (List UInt8) := l.take p ++ (if put then [s] else []) ++ (l.take k).drop p
theorem outl_len {l : List (List UInt8)} {s : List UInt8} {p k : Nat} {put : Bool} : (outl l s p k put).length ≤ l.length + k + 1 := by
  unfold outl
  cases put <;> simp <;> omega
theorem outl_next {l : List (List UInt8)} {s : List UInt8} {p k : Nat} {put : Bool} (hp : p ≤ k) (hk : k < l.length) : outl l s p (k + 1) put = outl l s p k put ++ [l[k]] := by
  unfold outl
  rw [List.take_succ_eq_append_getElem hk, List.drop_append_of_le_length (by simp; omega), List.append_assoc _ _ [l[k]]]
theorem outl_step {l : List (List UInt8)} {s : List UInt8} {k : Nat} (hk : k < l.length) : outl l s (k + 1) (k + 1) false = outl l s k k false ++ [l[k]] := by
  unfold outl
  rw [List.drop_eq_nil_of_le (by simp; omega), List.drop_eq_nil_of_le (by simp; omega), List.take_succ_eq_append_getElem hk]
  simp
theorem outl_put {l : List (List UInt8)} {s : List UInt8} {k : Nat} (hk : k < l.length) : outl l s k (k + 1) true = outl l s k k false ++ [s] ++ [l[k]] := by
  rw [outl_next (Nat.le_refl _) hk]
  unfold outl
  simp
theorem outl_end {l : List (List UInt8)} {s : List UInt8} {p : Nat} : outl l s p l.length true = l.take p ++ [s] ++ l.drop p := by
  unfold outl
  simp
theorem outl_end2 {l : List (List UInt8)} {s : List UInt8} : outl l s l.length l.length false ++ [s] = l.take l.length ++ [s] ++ l.drop l.length := by
  unfold outl
  simp

set_option maxRecDepth 100000 in
set_option maxHeartbeats 1600000 in
theorem refAdd_any (v : Value) (s : ByteArray) (l : List (List UInt8)) (w : World) (hl : l.length ≤ 1000) (hr : Km.rises l) (hv : StrAt w v l) :
    Calls Try.prog 38 #[v, .string s] w (AddPost w l s) := by
  by_cases hs : s.data.toList = []
  · have h1 : s.toList = [] := by rw [Lib.toList_data]; exact hs
    have h2 : s.toList.isEmpty = true := by rw [h1]; rfl
    have hA : Km.isAdd l s.data.toList l := by rw [hs]; exact Km.isAdd_nil hr
    have HA := Lib.hid hA
    have HV := Lib.hid hv
    obtain ⟨a, cap, rfl, _⟩ := hv
    clear hA hr hs
    go_enter Try.func38, Try.ntmps38
    go_wp2
    go_ret
    exact ⟨_, l, rfl, HA.out, by omega, HV.out, Below.refl _ _⟩
  · have h1 : ¬ s.toList = [] := by rw [Lib.toList_data]; exact hs
    have h2 : s.toList.isEmpty = false := by simpa using h1
    have HS := Lib.hid hs
    have HR := Lib.hid hr
    have HV := Lib.hid hv
    obtain ⟨a, cap, rfl, hcells⟩ := hv
    have HC := Lib.hid hcells
    clear hs hr hcells
    obtain ⟨i0, hi, hz0, hz1, hz2⟩ := info_parts info_str
    go_enter Try.func38, Try.ntmps38
    go_wp2
    go_loopw [5, 6, 7] (fun o b i wr => ∃ (k p : Nat) (put : Bool), k ≤ l.length ∧ i = .int .i64 k ∧ b = .bool put ∧ p ≤ k ∧ (put = false → p = k) ∧ (put = true → ∃ h : p < l.length, p < k ∧ Op.bytesLess s.data.toList l[p] = true) ∧ (∀ j (h : j < l.length), j < p → Op.bytesLess l[j] s.data.toList = true) ∧ wr.ownsRow w.heap.size 9 1 o (outl l s.data.toList p k put).length ((outl l s.data.toList p k put).map encStr) ∧ Below w.heap.size w wr) (fun _ _ i _ => l.length - (intOf i).toNat)
    case atStart => exact ⟨0, 0, false, by omega, rfl, rfl, by omega, fun _ => rfl, (fun h => by cases h), (fun j h h2 => by omega), ⟨by simp [outl], .inl ⟨rfl, by simp [outl]⟩⟩, Below.refl _ _⟩
    case round =>
      obtain ⟨k, p, put, hk, rfl, rfl, hpk, hpf, hpt, hlow, ho, hbel⟩ := hrel
      have hol : (outl l s.data.toList p k put).length ≤ 2001 := by have := outl_len (l := l) (s := s.data.toList) (p := p) (k := k) (put := put); omega
      have hbs : w.heap.size ≤ wr.heap.size := hbel.size
      by_cases hlt : k < l.length
      · obtain ⟨b, off, rfl, hbl, hc⟩ := HC.out k hlt
        have hcr : wr.cell? ⟨b, off + k, none⟩ = some (.string ⟨l[k].toArray⟩) := kcell hbel hbl hc
        clear hc
        cases put with
        | true =>
          obtain ⟨hp1, hp2, hgt⟩ := hpt rfl
          have hgk : Op.bytesLess s.data.toList l[k] = true := Km.bl_trans hgt (List.pairwise_iff_getElem.1 HR.out p k hp1 hlt hp2)
          have hne : l[k] ≠ s.data.toList := by
            intro e
            rw [e, Km.bl_irrefl] at hgk
            cases hgk
          have t1 : ((⟨l[k].toArray⟩ : ByteArray).toList == s.toList) = false := by rw [str_list, Lib.toList_data]; simpa using hne
          have t2 : (l[k] == s.toList) = false := by rw [Lib.toList_data]; simpa using hne
          have HT := Lib.hid (And.intro hp1 (And.intro hp2 hgt))
          have HLO := Lib.hid hlow
          have hpk' : p ≤ k := hpk
          clear hgk hne hpt hpf hlow hgt
          go_wp2_with (at_builtin; refine wpList_append_own _ rfl _ _ 34 rfl w.heap.size 9 i0 (.string ⟨#[]⟩) 1 16 Try.underlying34 hi hz0 hz1 hz2 rfl (by decide) _ _ _ rfl (ho.alloc _) ⟨wr.heap.size, 0, none⟩ 1 1 [.string ⟨l[k].toArray⟩] rfl rfl ?d1 ?d2 ?d3 ?d4 ?d5 ?_)
          case d1 =>
            intro j u hj
            match j, hj with
            | 0, hj => simp at hj; subst hj; simp [Addr.add]
          case d2 => intro u hu; simp at hu; subst hu; rfl
          case d3 => unfold maxLen; omega
          case d4 => omega
          case d5 => simp; omega
          intro v' w1 ho' hg _
          obtain ⟨k1, k2⟩ := own_push hbs ho ho' hg
          clear ho' hg ho
          go_wp2
          go_roundw
          case rel =>
            have H := HT.out
            exact ⟨k + 1, p, true, by omega, by go_num, rfl, by omega, (fun h => by cases h), (fun _ => ⟨H.1, by omega, H.2.2⟩), HLO.out, by rw [outl_next hpk' hlt]; exact k1, hbel.trans k2⟩
          case measure => simp [intOf]; omega
        | false =>
          obtain rfl : p = k := hpf rfl
          have HLO := Lib.hid hlow
          clear hpt hpf hpk
          by_cases heq : l[p] = s.data.toList
          · have t1 : ((⟨l[p].toArray⟩ : ByteArray).toList == s.toList) = true := by rw [str_list, Lib.toList_data]; simpa using heq
            have t2 : (l[p] == s.toList) = true := by rw [Lib.toList_data]; simpa using heq
            have HA := Lib.hid (Km.isAdd_in HR.out (heq ▸ List.getElem_mem hlt))
            clear heq hlow ho
            go_wp2
            go_ret
            exact ⟨_, l, rfl, HA.out, by omega, HV.out.below hbel, hbel⟩
          · have t1 : ((⟨l[p].toArray⟩ : ByteArray).toList == s.toList) = false := by rw [str_list, Lib.toList_data]; simpa using heq
            have t2 : (l[p] == s.toList) = false := by rw [Lib.toList_data]; simpa using heq
            cases hless : Op.bytesLess l[p] s.data.toList with
            | true =>
              have t3 : Op.bytesLess (⟨l[p].toArray⟩ : ByteArray).toList s.toList = true := by rw [str_list, Lib.toList_data]; exact hless
              have t4 : Op.bytesLess l[p] s.toList = true := by rw [Lib.toList_data]; exact hless
              have HL := Lib.hid hless
              clear heq hlow hless
              go_wp2_with (at_builtin; refine wpList_append_own _ rfl _ _ 34 rfl w.heap.size 9 i0 (.string ⟨#[]⟩) 1 16 Try.underlying34 hi hz0 hz1 hz2 rfl (by decide) _ _ _ rfl (ho.alloc _) ⟨wr.heap.size, 0, none⟩ 1 1 [.string ⟨l[p].toArray⟩] rfl rfl ?c1 ?c2 ?c3 ?c4 ?c5 ?_)
              case c1 =>
                intro j u hj
                match j, hj with
                | 0, hj => simp at hj; subst hj; simp [Addr.add]
              case c2 => intro u hu; simp at hu; subst hu; rfl
              case c3 => unfold maxLen; omega
              case c4 => omega
              case c5 => simp; omega
              intro v' w1 ho' hg _
              obtain ⟨k1, k2⟩ := own_push hbs ho ho' hg
              clear ho' hg ho
              go_wp2
              go_roundw
              case rel =>
                refine ⟨p + 1, p + 1, false, by omega, by go_num, rfl, by omega, (fun _ => rfl), (fun h => by cases h), (fun j h hj => ?_), by rw [outl_step hlt]; exact k1, hbel.trans k2⟩
                by_cases e : j = p
                · subst e; exact HL.out
                · exact HLO.out j h (by omega)
              case measure => simp [intOf]; omega
            | false =>
              have hgt : Op.bytesLess s.data.toList l[p] = true := by
                cases hg : Op.bytesLess s.data.toList l[p] with
                | true => rfl
                | false => exact absurd (Km.bl_tri hless hg) heq
              have t3 : Op.bytesLess (⟨l[p].toArray⟩ : ByteArray).toList s.toList = false := by rw [str_list, Lib.toList_data]; exact hless
              have t4 : Op.bytesLess l[p] s.toList = false := by rw [Lib.toList_data]; exact hless
              have HG := Lib.hid hgt
              clear heq hlow hless hgt
              go_wp2_with (at_builtin; refine wpList_append_own _ rfl _ _ 34 rfl w.heap.size 9 i0 (.string ⟨#[]⟩) 1 16 Try.underlying34 hi hz0 hz1 hz2 rfl (by decide) _ _ _ rfl (ho.alloc _) ⟨wr.heap.size, 0, none⟩ 1 1 [.string s] rfl rfl ?e1 ?e2 ?e3 ?e4 ?e5 ?_)
              case e1 =>
                intro j u hj
                match j, hj with
                | 0, hj => simp at hj; subst hj; simp [Addr.add]
              case e2 => intro u hu; simp at hu; subst hu; rfl
              case e3 => unfold maxLen; omega
              case e4 => omega
              case e5 => simp; omega
              intro v' w1 ho' hg _
              obtain ⟨k1, k2⟩ := own_push (c := s.data.toList) hbs ho (by simpa using ho') hg
              clear ho' hg ho
              have hcr1 : w1.cell? ⟨b, off + p, none⟩ = some (.string ⟨l[p].toArray⟩) := kcell (hbel.trans k2) hbl (by have := hcr; rw [hbel.cell (p := ⟨b, off + p, none⟩) hbl] at this; exact this)
              have hbs1 : w.heap.size ≤ w1.heap.size := (hbel.trans k2).size
              have hol1 : (outl l s.data.toList p p false ++ [s.data.toList]).length ≤ 2002 := by rw [List.length_append]; simp; omega
              obtain ⟨sa, sn, sc, rfl⟩ := ownS_shape k1
              go_wp2_with (at_builtin; refine wpList_append_own _ rfl _ _ 34 rfl w.heap.size 9 i0 (.string ⟨#[]⟩) 1 16 Try.underlying34 hi hz0 hz1 hz2 rfl (by decide) _ _ _ rfl (k1.alloc _) ⟨w1.heap.size, 0, none⟩ 1 1 [.string ⟨l[p].toArray⟩] rfl rfl ?f1 ?f2 ?f3 ?f4 ?f5 ?_)
              case f1 =>
                intro j u hj
                match j, hj with
                | 0, hj => simp at hj; subst hj; simp [Addr.add]
              case f2 => intro u hu; simp at hu; subst hu; rfl
              case f3 => unfold maxLen; omega
              case f4 => omega
              case f5 => simp; omega
              intro v2 w2 ho2 hg2 _
              obtain ⟨m1, m2⟩ := own_push (c := l[p]) hbs1 k1 (by simpa using ho2) hg2
              clear ho2 hg2
              go_wp2
              go_roundw
              case rel =>
                exact ⟨p + 1, p, true, by omega, by go_num, rfl, by omega, (fun h => by cases h), (fun _ => ⟨hlt, by omega, HG.out⟩), HLO.out, by rw [outl_put hlt]; exact m1, (hbel.trans k2).trans m2⟩
              case measure => simp [intOf]; omega
      · obtain rfl : k = l.length := by omega
        cases put with
        | true =>
          obtain ⟨hp1, hp2, hgt⟩ := hpt rfl
          have HA := Lib.hid (Km.isAdd_mid (p := p) HR.out HS.out (fun j hj hjp => hlow j hj hjp) (fun j hj hjp => by
            by_cases e : j = p
            · subst e; exact hgt
            · exact Km.bl_trans hgt (List.pairwise_iff_getElem.1 HR.out p j hp1 hj (by omega))))
          clear hpt hpf hlow hgt
          obtain ⟨sa, sn, sc, rfl⟩ := ownS_shape ho
          have HO := Lib.hid ho
          clear ho
          go_wp2
          go_ret
          refine ⟨_, outl l s.data.toList p l.length true, rfl, by rw [outl_end]; exact HA.out, ?_, StrAt.of_own HO.out, hbel⟩
          rw [outl_end]
          simp
          omega
        | false =>
          obtain rfl : p = l.length := hpf rfl
          have HA := Lib.hid (Km.isAdd_mid (p := l.length) HR.out HS.out (fun j hj hjp => hlow j hj hjp) (fun j hj hjp => by omega))
          clear hpt hpf hlow
          go_wp2_with (at_builtin; refine wpList_append_own _ rfl _ _ 34 rfl w.heap.size 9 i0 (.string ⟨#[]⟩) 1 16 Try.underlying34 hi hz0 hz1 hz2 rfl (by decide) _ _ _ rfl (ho.alloc _) ⟨wr.heap.size, 0, none⟩ 1 1 [.string s] rfl rfl ?g1 ?g2 ?g3 ?g4 ?g5 ?_)
          case g1 =>
            intro j u hj
            match j, hj with
            | 0, hj => simp at hj; subst hj; simp [Addr.add]
          case g2 => intro u hu; simp at hu; subst hu; rfl
          case g3 => unfold maxLen; omega
          case g4 => omega
          case g5 => simp; omega
          intro v' w1 ho' hg _
          obtain ⟨k1, k2⟩ := own_push (c := s.data.toList) hbs ho (by simpa using ho') hg
          clear ho' hg ho
          obtain ⟨sa, sn, sc, rfl⟩ := ownS_shape k1
          have K1 := Lib.hid k1
          clear k1
          go_wp2
          go_ret
          refine ⟨_, outl l s.data.toList l.length l.length false ++ [s.data.toList], rfl, by rw [outl_end2]; exact HA.out, ?_, StrAt.of_own K1.out, hbel.trans k2⟩
          rw [outl_end2]
          simp

/-- The document's Bounds. -/
theorem isB_step {rs : List (List UInt8 × List UInt8)} {k : Nat} {bs o1 o2 : List (List UInt8)} (hk : k < rs.length) (h : Km.isB (rs.take k) bs) (h1 : Km.isAdd bs rs[k].1 o1) (h2 : Km.isAdd o1 rs[k].2 o2) : Km.isB (rs.take (k + 1)) o2 := by
  refine ⟨h2.1, fun x => ?_⟩
  rw [h2.2, h1.2, h.2, Km.nes_snoc rs k hk, List.mem_append, List.mem_append]

set_option maxRecDepth 100000 in
set_option maxHeartbeats 1600000 in
theorem refBounds_any (a : Option Addr) (cap : Nat) (rs : List (ByteArray × ByteArray)) (w : World) (hl : rs.length ≤ 100) (hr : RngIn w a rs) :
    Calls Try.prog 26 #[.slice a rs.length cap] w (BoundsPost w rs) := by
  have HR := Lib.hid hr
  clear hr
  go_enter Try.func26, Try.ntmps26
  go_wp2
  go_loopw [3, 4] (fun o i wr => ∃ (k : Nat) (bs : List (List UInt8)), k ≤ rs.length ∧ i = .int .i64 k ∧ Km.isB ((tls rs).take k) bs ∧ bs.length ≤ 2 * k ∧ StrAt wr o bs ∧ Below w.heap.size w wr) (fun _ i _ => rs.length - (intOf i).toNat)
  case atStart => exact ⟨0, [], by omega, rfl, ⟨by simp [Km.rises], by simp [Km.nes]⟩, by simp, StrAt.nil _, Below.refl _ _⟩
  case round =>
    obtain ⟨k, bs, hk, rfl, hB, hbl, hst, hbel⟩ := hrel
    have HB := Lib.hid hB
    have HST := Lib.hid hst
    clear hB
    by_cases hlt : k < rs.length
    · obtain ⟨b, off, rfl, hbb, hc0, hc1⟩ := HR.out.below hbel k hlt
      have HK := Lib.hid (tls_get rs k hlt)
      generalize rs[k].1 = p at hc0 HK
      generalize rs[k].2 = q at hc1 HK
      obtain ⟨a1, cap1, rfl, _⟩ := hst
      go_wp2_with fail
      refine (refAdd_any _ p bs _ (by omega) HB.out.1 HST.out).mono ?_
      rintro e w2 ⟨v2, o1, rfl, hA1, hl1, hst1, hb2⟩
      have hd1 := kcell hb2 hbb hc1
      have HA1 := Lib.hid hA1
      have HST1 := Lib.hid hst1
      obtain ⟨a2, cap2, rfl, _⟩ := hst1
      clear hA1
      go_wp2_with fail
      refine (refAdd_any _ q o1 _ (by omega) HA1.out.1 HST1.out).mono ?_
      rintro e w3 ⟨v3, o2, rfl, hA2, hl2, hst2, hb3⟩
      have HA2 := Lib.hid hA2
      have HST2 := Lib.hid hst2
      obtain ⟨a3, cap3, rfl, _⟩ := hst2
      clear hA2
      go_wp2
      go_roundw
      case rel =>
        refine ⟨k + 1, o2, by omega, by go_num, ?_, by omega, HST2.out, bstep (bstep hbel hb2) hb3⟩
        have e := HK.out
        exact isB_step (by rw [tls_len]; exact hlt) HB.out (by rw [e]; exact HA1.out) (by rw [e]; exact HA2.out)
      case measure => simp [intOf]; omega
    · obtain rfl : k = rs.length := by omega
      obtain ⟨a1, cap1, rfl, _⟩ := hst
      go_wp2
      go_ret
      have hB := HB.out
      rw [List.take_of_length_le (by rw [tls_len]; omega)] at hB
      exact ⟨_, bs, rfl, hB, HST.out, by omega, hbel⟩

theorem bounds_at (a : Option Addr) (len cap : Nat) (rs : List (ByteArray × ByteArray)) (w : World) (hlen : rs.length = len) (hl : rs.length ≤ 100) (hr : RngIn w a rs) :
    Calls Try.prog 25 #[.slice a len cap] w (BoundsPost w rs) := by
  subst hlen
  exact bounds_any a cap rs w hl hr

/-- Only draws lie between. -/
def KDrew (w w' : World) : Prop := ∃ n, w' = w.drewN n
theorem KDrew.below {w w' : World} (h : KDrew w w') : Below w.heap.size w w' := by
  obtain ⟨n, rfl⟩ := h
  exact below_drewN (Below.refl _ _) n

set_option maxRecDepth 100000 in
set_option maxHeartbeats 800000 in
theorem kSame_any (v1 v2 : Value) (bs : List (List UInt8)) (w : World) (hl : bs.length ≤ 1000) (h1 : StrAt w v1 bs) (h2 : StrAt w v2 bs) :
    Calls Try.prog 24 #[v1, v2] w fun e w' => e = .returned (.bool true) ∧ Below w.heap.size w w' := by
  obtain ⟨a, ca, rfl, h1⟩ := h1
  obtain ⟨b, cb, rfl, h2⟩ := h2
  have HA := Lib.hid h1
  have HB := Lib.hid h2
  clear h1 h2
  have hnn : (bs.length != bs.length) = false := by simp
  have hni : ((bs.length : Int) != (bs.length : Int)) = false := by simp
  go_enter Try.func24, Try.ntmps24
  go_wp2
  go_loopw [5] (fun i wr => ∃ k n : Nat, k ≤ bs.length ∧ i = .int .i64 k ∧ wr = w.drewN n) (fun i _ => bs.length - (intOf i).toNat)
  case atStart => exact ⟨0, 0, by omega, rfl, rfl⟩
  case round =>
    obtain ⟨k, n, hk, rfl, rfl⟩ := hrel
    by_cases hlt : k < bs.length
    · obtain ⟨b1, o1, rfl, _, hc1⟩ := HA.out k hlt
      obtain ⟨b2, o2, rfl, _, hc2⟩ := HB.out k hlt
      go_wp2_with fail
      go_quiet (fail)
      go_wp2
      go_roundw
      case rel => exact ⟨k + 1, _, by omega, by go_num, rfl⟩
      case measure => simp [intOf]; omega
    · go_wp2
      go_ret
      exact ⟨rfl, KDrew.below ⟨n, rfl⟩⟩
end Go.Proofs.Ytmmgicdnbedmdaa
