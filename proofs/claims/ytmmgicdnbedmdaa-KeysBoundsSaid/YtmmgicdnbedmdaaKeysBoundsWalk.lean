/- The walk of the law KeysBounds. -/
import Derived.Test.YtmmgicdnbedmdaaKeysFew
import Derived.Test.YtmmgicdnbedmdaaKeysRefB
namespace Go.Proofs.Ytmmgicdnbedmdaa
open Go.RowKit
set_option linter.unusedVariables false

theorem isB_rev {rs : List (ByteArray × ByteArray)} {bs : List (List UInt8)} (h : Km.isB (tls rs.reverse) bs) : Km.isB (tls rs) bs := by
  refine ⟨h.1, fun x => ?_⟩
  rw [h.2, Km.mem_nes, Km.mem_nes]
  have e : ∀ r, r ∈ tls rs.reverse ↔ r ∈ tls rs := by intro r; simp [tls]
  simp only [e]
theorem drop_rev (ms : List (ByteArray × ByteArray)) (j : Nat) (h : j < ms.length) : (ms.drop j).reverse = (ms.drop (j + 1)).reverse ++ [(ms[j].1, ms[j].2)] := by
  rw [List.drop_eq_getElem_cons h, List.reverse_cons]

/-- Is x a bound of one of the first k ranges? -/
def fnd (ms : List (ByteArray × ByteArray)) (x : List UInt8) (k : Nat) : Bool := (ms.take k).any fun r => r.1.data.toList == x || r.2.data.toList == x
theorem fnd_succ (ms : List (ByteArray × ByteArray)) (x : List UInt8) (k : Nat) (h : k < ms.length) : fnd ms x (k + 1) = (fnd ms x k || ms[k].1.data.toList == x || ms[k].2.data.toList == x) := by
  unfold fnd
  rw [List.take_succ_eq_append_getElem h, List.any_append]
  simp [Bool.or_assoc]
theorem fnd_all {ms : List (ByteArray × ByteArray)} {bs : List (List UInt8)} (h : Km.isB (tls ms) bs) (x : List UInt8) (hx : x ∈ bs) : fnd ms x ms.length = true ∧ x ≠ [] := by
  obtain ⟨h1, r, hr, h2⟩ := (Km.mem_nes _ _).1 ((h.2 x).1 hx)
  refine ⟨?_, h1⟩
  unfold fnd
  rw [List.take_length, List.any_eq_true]
  unfold tls at hr
  obtain ⟨r', hr', rfl⟩ := List.mem_map.1 hr
  refine ⟨r', hr', ?_⟩
  rcases h2 with h2 | h2
  · have e : (r'.1.data.toList == x) = true := by rw [beq_iff_eq]; exact h2.symm
    rw [e, Bool.true_or]
  · have e : (r'.2.data.toList == x) = true := by rw [beq_iff_eq]; exact h2.symm
    rw [e, Bool.or_true]

set_option maxRecDepth 100000 in
set_option maxHeartbeats 4000000 in
theorem walkKeysBounds (w : World) (a : Option Addr) (rs : List (ByteArray × ByteArray)) (cap : Nat) (hl : rs.length ≤ 9223372036854775807) (hsz : ∀ r ∈ rs, r.1.size ≤ maxLen ∧ r.2.size ≤ maxLen) (hr : RngIn w a rs) :
    Calls Try.prog 9 #[.slice a rs.length cap] w fun e w' => e = .returned (.bool true) ∧ Below w.heap.size w w' := by
  have HR := Lib.hid hr
  have HZ := Lib.hid hsz
  clear hr hsz
  obtain ⟨i0, hi, hz0, hz1, hz2⟩ := info_parts info_rng
  go_enter Try.func9, Try.ntmps9
  go_wp2_with fail
  refine (kawake_any _).mono ?_
  rintro e w1 ⟨rfl, hb1⟩
  go_wp2_with fail
  refine (few_any a cap rs _ hl HZ.out (HR.out.below hb1)).mono ?_
  rintro e w2 ⟨v, rfl, hat, hb⟩
  have hb2 := bstep hb1 hb
  have hml := fewL_len rs
  have HMS := Lib.hid (fewL_size rs)
  generalize fewL rs = ms at *
  obtain ⟨ma, mc, rfl, hin⟩ := hat
  have HIN := Lib.hid hin
  clear hin hb hb1
  go_wp2_with fail
  go_loopw [5, 6] (fun o i wr => ∃ j : Nat, j ≤ ms.length ∧ i = .int .i64 ((j : Int) - 1) ∧ wr.ownsRow w2.heap.size 30 2 o (ms.drop j).reverse.length (rngV (ms.drop j).reverse) ∧ Below w2.heap.size w2 wr) (fun _ i _ => (intOf i + 1).toNat)
  case atStart => exact ⟨ms.length, by omega, rfl, ⟨by simp [rngV], .inl ⟨rfl, by simp⟩⟩, Below.refl _ _⟩
  case round =>
    obtain ⟨j, hj, rfl, ho, hbel⟩ := hrel
    have hol : (ms.drop j).reverse.length ≤ 8 := by simp; omega
    have hbs : w2.heap.size ≤ wr.heap.size := hbel.size
    cases j with
    | succ j =>
      have e : (((j + 1 : Nat) : Int) - 1) = (j : Int) := by omega
      rw [e]
      clear e
      obtain ⟨b, off, rfl, hbl, hc0, hc1⟩ := HIN.out.below hbel j (by omega)
      have HD := Lib.hid (drop_rev ms j (by omega))
      generalize ms[j].1 = p at hc0 HD
      generalize ms[j].2 = q at hc1 HD
      go_wp2_with (at_builtin; refine wpList_append_own _ rfl _ _ 26 rfl w2.heap.size 30 i0 _ 2 32 Try.underlying26 hi hz0 hz1 hz2 rfl (by decide) _ _ _ rfl (ho.alloc _) ⟨wr.heap.size, 0, none⟩ 1 1 [.string p, .string q] rfl rfl ?d1 ?d2 ?d3 ?d4 ?d5 ?_)
      case d1 => exact World.news_of_block (cs := #[.string p, .string q]) (t := 30) (fr := (0, 0)) (heap_alloc_new wr _)
      case d2 => simp [Value.oneCell']
      case d3 => unfold maxLen; omega
      case d4 => omega
      case d5 => simp; omega
      intro v' w3 ho' hg _
      obtain ⟨k1, k2⟩ := ownR_push (f := p) (t := q) hbs ho (by simpa using ho') hg
      clear ho' hg ho
      go_wp2
      go_roundw
      case rel => exact ⟨j, by omega, by go_num, by rw [HD.out]; exact k1, hbel.trans k2⟩
      case measure => simp [intOf] <;> omega
    | zero =>
      have hat := RngAt.of_own ho
      rw [List.drop_zero] at hat
      obtain ⟨ta, tc, rfl, htin⟩ := hat
      have HT := Lib.hid htin
      clear htin ho
      have HLR := Lib.hid (show ms.reverse.length = ms.length from List.length_reverse)
      go_wp2_with fail
      refine (bounds_any ma mc ms _ (by omega) (HIN.out.below hbel)).mono ?_
      rintro e w3 ⟨vb, bs, rfl, hB, hst, hbl, hb3⟩
      have HB := Lib.hid hB
      have HST := Lib.hid hst
      obtain ⟨ba, bc, rfl, _⟩ := hst
      clear hB
      go_wp2_with fail
      refine (bounds_at ta ms.length tc ms.reverse _ HLR.out (by rw [HLR.out]; omega) (HT.out.below hb3)).mono ?_
      rintro e w4 ⟨vc, cs, rfl, hC, hst2, hcl, hb4⟩
      obtain rfl : bs = cs := Km.isB_uniq HB.out (isB_rev hC)
      have HST2 := Lib.hid hst2
      obtain ⟨ca, cc, rfl, _⟩ := hst2
      clear hC
      go_wp2_with fail
      refine (kSame_any _ _ bs _ (by omega) (HST.out.below hb4) HST2.out).mono ?_
      rintro e w5 ⟨rfl, hb5⟩
      have hbE := bstep (bstep (bstep (bstep hb2 hbel) hb3) hb4) hb5
      have HI5 := Lib.hid ((HIN.out.below (bstep (bstep (bstep hbel hb3) hb4) hb5)))
      have HB5 := Lib.hid (HST.out.below (bstep hb4 hb5))
      clear HIN HST HST2 HT hb2 hbel hb3 hb4 hb5
      go_wp2_with fail
      go_loopw [10] (fun i wr => ∃ k n : Nat, k ≤ bs.length ∧ i = .int .i64 k ∧ wr = w5.drewN n) (fun i _ => bs.length - (intOf i).toNat)
      case atStart => exact ⟨0, 0, by omega, rfl, rfl⟩
      case round =>
        obtain ⟨k, n, hk, rfl, rfl⟩ := hrel
        by_cases hlt : k < bs.length
        · obtain ⟨ba', bc', eb, hcells⟩ := HB5.out
          cases eb
          obtain ⟨xb, xo, rfl, _, hcx⟩ := hcells k hlt
          obtain ⟨hfa, hne⟩ := fnd_all HB.out bs[k] (List.getElem_mem hlt)
          have HF := Lib.hid hfa
          clear hfa
          have hx1 : ¬ (⟨bs[k].toArray⟩ : ByteArray).toList = [] := by rw [str_list]; exact hne
          have hx2 : (⟨bs[k].toArray⟩ : ByteArray).toList.isEmpty = false := by rw [str_list]; simpa using hne
          have hx3 : bs[k].isEmpty = false := by simpa using hne
          have hx4 : ¬ bs[k] = [] := hne
          have HC := Lib.hid hcells
          clear hcells hne
          go_wp2_with fail
          go_loopw [11, 12] (fun f i wr => ∃ j m : Nat, j ≤ ms.length ∧ i = .int .i64 j ∧ f = .bool (fnd ms bs[k] j) ∧ wr = w5.drewN m) (fun _ i _ => ms.length - (intOf i).toNat)
          case atStart => exact ⟨0, n, by omega, rfl, by simp [fnd], rfl⟩
          case round =>
            obtain ⟨j, m, hj, rfl, rfl, rfl⟩ := hrel
            by_cases hjl : j < ms.length
            · obtain ⟨b, off, rfl, _, hc0, hc1⟩ := HI5.out j hjl
              have HS := Lib.hid (fnd_succ ms bs[k] j hjl)
              generalize ms[j].1 = p at hc0 HS
              generalize ms[j].2 = q at hc1 HS
              have e1 : (p.toList == (⟨bs[k].toArray⟩ : ByteArray).toList) = (p.data.toList == bs[k]) := by rw [str_list, Lib.toList_data]
              have e2 : (q.toList == (⟨bs[k].toArray⟩ : ByteArray).toList) = (q.data.toList == bs[k]) := by rw [str_list, Lib.toList_data]
              have e3 : (p.toList == bs[k]) = (p.data.toList == bs[k]) := by rw [Lib.toList_data]
              have e4 : (q.toList == bs[k]) = (q.data.toList == bs[k]) := by rw [Lib.toList_data]
              generalize hff : fnd ms bs[k] j = f at HS
              clear hff
              generalize (p.data.toList == bs[k]) = g at e1 e3 HS
              generalize (q.data.toList == bs[k]) = h at e2 e4 HS
              cases f with
              | true =>
                clear e1 e2 e3 e4
                go_wp2_with fail
                go_quiet (fail)
                go_wp2
                go_roundw
                case rel => exact ⟨j + 1, _, by omega, by go_num, by rw [HS.out]; rfl, rfl⟩
                case measure => simp [intOf]; omega
              | false =>
                cases g with
                | true =>
                  clear e2 e4
                  go_wp2_with fail
                  go_quiet (fail)
                  go_wp2
                  go_roundw
                  case rel => exact ⟨j + 1, _, by omega, by go_num, by rw [HS.out]; rfl, rfl⟩
                  case measure => simp [intOf]; omega
                | false =>
                  cases h with
                  | true =>
                    go_wp2_with fail
                    go_quiet (fail)
                    go_wp2
                    go_roundw
                    case rel => exact ⟨j + 1, _, by omega, by go_num, by rw [HS.out]; rfl, rfl⟩
                    case measure => simp [intOf]; omega
                  | false =>
                    go_wp2_with fail
                    go_quiet (fail)
                    go_wp2
                    go_roundw
                    case rel => exact ⟨j + 1, _, by omega, by go_num, by rw [HS.out]; rfl, rfl⟩
                    case measure => simp [intOf]; omega
            · obtain rfl : j = ms.length := by omega
              rw [HF.out]
              by_cases hk0 : 0 < k
              · obtain ⟨yb, yo, ey, _, hcy⟩ := HC.out (k - 1) (by omega)
                cases ey
                have hlt1 : Op.bytesLess bs[k - 1] bs[k] = true := List.pairwise_iff_getElem.1 HB.out.1 (k - 1) k (by omega) hlt (by omega)
                have q1 : Op.bytesLess (⟨bs[k - 1].toArray⟩ : ByteArray).toList (⟨bs[k].toArray⟩ : ByteArray).toList = true := by rw [str_list, str_list]; exact hlt1
                have q0 : decide ((0 : Int) < (k : Int)) = true := by simp; omega
                have q2 : Op.bytesLess bs[k - 1] bs[k] = true := hlt1
                have s0 : (k : Int) ≤ 100 := by omega
                have s5 : (k : Int) - 1 < (bs.length : Int) := by omega
                have s4 : (1 : Int) ≤ (k : Int) := by omega
                have s2 : (0 : Int) ≤ (k : Int) - 1 := by omega
                have s1 : IntKind.i64.wrap ((k : Int) - 1) = (k : Int) - 1 := IntWalk.i64_in _ (by omega)
                have s3 : ((k : Int) - 1).toNat = k - 1 := by omega
                clear hlt1
                go_wp2_with fail
                go_quiet (fail)
                clear s1 s3
                go_wp2
                go_roundw
                case rel => exact ⟨k + 1, _, by omega, by go_num, rfl⟩
                case measure => simp [intOf]; omega
              · have q0 : decide ((0 : Int) < (k : Int)) = false := by simp; omega
                go_wp2_with fail
                go_quiet (fail)
                go_wp2
                go_roundw
                case rel => exact ⟨k + 1, _, by omega, by go_num, rfl⟩
                case measure => simp [intOf]; omega
        · have hq : decide ((bs.length : Int) ≤ 2 * (ms.length : Int)) = true := by simp; omega
          have hq2 : (bs.length : Int) ≤ 2 * (ms.length : Int) := by omega
          obtain ⟨ba', bc', eb, hcells⟩ := HB5.out
          go_wp2
          go_ret
          exact ⟨ret_bool (by first | rfl | (simp; omega)), bstep hbE (KDrew.below ⟨n, rfl⟩)⟩
end Go.Proofs.Ytmmgicdnbedmdaa
