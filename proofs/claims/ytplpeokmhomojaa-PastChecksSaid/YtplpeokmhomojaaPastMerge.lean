/- What past.Merge and the document's Merge answer. -/
import Derived.Test.YtplpeokmhomojaaPastMath
import Derived.Test.YtplpeokmhomojaaPastConc
namespace Go.Proofs.Ytplpeokmhomojaa
open Go.RowKit
set_option linter.unusedVariables false
set_option linter.unusedSimpArgs false

set_option maxRecDepth 100000 in
theorem mergeC_any (x : ByteArray) (y z : Int) (w : World) (hs : x.size ≤ 9223372036854775807) :
    Calls Try.prog 41 #[.agg #[.string x, .int .i64 y, .int .i64 z]] w fun e w' => e = .returned (.bool (!okD (x, y, z))) ∧ Below w.heap.size w w' := by
  go_enter Try.func41, Try.ntmps41
  go_wp2_with fail
  refine (valid_any x y z _ hs).mono ?_
  rintro e w1 ⟨rfl, hb⟩
  generalize hc : okD (x, y, z) = c
  have HC := Lib.hid hc
  clear hc
  go_wp2
  go_ret
  exact ⟨ret_bool (by rw [HC.out]), bstep (balloc (Below.refl _ w) _) hb⟩

set_option maxRecDepth 100000 in
set_option maxHeartbeats 1600000 in
theorem merge_any (a : Option Addr) (cap : Nat) (ls : List (List De)) (w : World) (hn : ls.length ≤ 1000) (ht : tot ls ≤ 100000) (hz : ∀ l ∈ ls, Szd l) (hr : RowsAt w a ls) :
    Calls Try.prog 14 #[.slice a ls.length cap] w fun e w' => ∃ v', e = .returned v' ∧ ∃ r, IsMerge ls.flatten r ∧ OwnD w' w.heap.size v' r ∧ Below w.heap.size w w' := by
  have HF : Hid (ls.flatten.length ≤ 100000) := Lib.hid (by rw [tot_flat]; exact ht)
  have HZ : Hid (Szd ls.flatten) := Lib.hid (fun d hd => by
    rw [List.mem_flatten] at hd
    obtain ⟨l, h1, h2⟩ := hd
    exact hz l h1 d h2)
  have hcon := concat_any a cap ls w hn (by omega) hr
  clear hr hz
  generalize ls.flatten = f at hcon HF HZ ⊢
  go_enter Try.func14, Try.ntmps14
  go_wp2_with fail
  refine hcon.mono ?_
  rintro e w1 ⟨v1, rfl, ho1, hb1⟩
  have hs1 : w.heap.size ≤ w1.heap.size := hb1.size
  have hdel := delFunc_any 41 #[] (enters_of Try.func41 (by kernel_rfl) rfl) (fun d => !okD d) v1 w.heap.size f w1 (by have := HF.out; omega) ho1 hs1 (fun W d hd _ => mergeC_any d.1 d.2.1 d.2.2 W (HZ.out d hd))
  obtain ⟨sa, sc, rfl⟩ := ho1.shape
  clear ho1
  go_wp2_with fail
  refine hdel.mono ?_
  rintro e w2 ⟨v2, rfl, ho2, hb2⟩
  have HL2 : Hid ((kept (fun d => !okD d) f).length ≤ 100000) := Lib.hid (Nat.le_trans (List.length_filter_le _ _) HF.out)
  generalize hk : kept (fun d => !okD d) f = l2 at ho2 HL2
  have HK := Lib.hid hk
  clear hk
  have hsort := sort_any v2 w.heap.size l2 w2 (by have := HL2.out; omega) ho2
  obtain ⟨sa2, sc2, rfl⟩ := ho2.shape
  clear ho2
  go_wp2_with fail
  refine hsort.mono ?_
  rintro e w3 ⟨rfl, l3, hperm, hlen, hsd, ho3, hb3⟩
  have hs3 : w.heap.size ≤ w3.heap.size := by have := hb2.size; have := hb3.size; omega
  have hcmp := compact_any _ w.heap.size l3 w3 (by have := HL2.out; omega) ho3 hs3
  have HM := Lib.hid (merge_of_sort (f := f) (by rw [HK.out]; exact hperm) hsd)
  clear ho3 hperm hsd
  go_wp2_with fail
  refine hcmp.mono ?_
  rintro e w4 ⟨v4, rfl, ho4, hb4⟩
  obtain ⟨sa4, sc4, rfl⟩ := ho4.shape
  have HO4 := Lib.hid ho4
  clear ho4
  go_wp2
  go_ret
  exact ⟨_, rfl, _, HM.out, HO4.out, hb1.trans (hb2.trans (hb3.trans hb4))⟩
end Go.Proofs.Ytplpeokmhomojaa
