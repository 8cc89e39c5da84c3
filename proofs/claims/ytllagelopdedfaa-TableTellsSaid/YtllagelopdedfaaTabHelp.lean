/- What the laws' own helpers awake and row answer. -/
import Derived.Test.YtllagelopdedfaaTabMade
import Derived.Test.YtllagelopdedfaaTabOwn
import Derived.Test.YtllagelopdedfaaTabLaw
namespace Go.Proofs.Ytllagelopdedfaa
open Go.RowKit
set_option linter.unusedVariables false
set_option linter.unusedSimpArgs false

def ex7 : Rw := ⟨[(⟨#[]⟩, ⟨#[109]⟩), (⟨#[109]⟩, ⟨#[]⟩)], [3, 2], [-1, 0]⟩
theorem ex7_ends : Ends [[109]] := ⟨fun u hu => by
  obtain rfl : u = [109] := by simpa using hu
  exact ⟨letter_word 109 (by decide) (by decide), rfl⟩, by simp [Km.rises]⟩
theorem ex7_ok : tOk ex7 = true := made_ok ex7_ends (by simp) rfl (by simp [ex7]) rfl (by
  intro o ho
  simp [ex7] at ho
  rcases ho with rfl | rfl <;> simp [ex7])
theorem ex7_a : ownN ex7 [97] = 3 := by
  unfold ownN
  rw [if_pos ex7_ok]
  decide
theorem ex7_z : ownN ex7 [122] = 2 := by
  unfold ownN
  rw [if_pos ex7_ok]
  decide

/-- A block that a literal makes, read as a row. -/
theorem RowIn.of_block {α : Type} {K : RK α} (hK : K.Ok) {w : World} {b : Nat} {cs : Array Value} {T : TypeId} {fr : Nat × Nat} {l : List α} (h : w.heap[b]? = some (.cells cs T fr)) (hcs : cs.toList = rV K l) : RowIn K w (some ⟨b, 0, none⟩) l := by
  intro i hi
  refine ⟨b, 0, rfl, (Array.getElem?_eq_some_iff.1 h).1, fun j u hu => ?_⟩
  have hj : j < K.sz := by rw [← hK.len l[i]]; exact (List.getElem?_eq_some_iff.1 hu).1
  have hk := rV_get hK l i hi j hj
  rw [hu, ← hcs, Array.getElem?_toList] at hk
  rw [Nat.zero_add]
  simp [World.cell?, h, hk]
theorem RowAt.of_block {α : Type} {K : RK α} (hK : K.Ok) {w : World} {b n : Nat} {cs : Array Value} {T : TypeId} {fr : Nat × Nat} {l : List α} (h : w.heap[b]? = some (.cells cs T fr)) (hcs : cs.toList = rV K l) (hn : l.length = n) (hm : n ≤ 1000) : RowAt K w (.slice (some ⟨b, 0, none⟩) n n) l := by
  subst hn
  exact ⟨_, _, rfl, Nat.le_refl _, by unfold maxLen; omega, by simp, RowIn.of_block hK h hcs⟩

set_option maxRecDepth 100000 in
set_option maxHeartbeats 1600000 in
theorem awake7_any (w : World) :
    Calls Try.prog 12 #[] w fun e w' => e = .returned (.bool true) ∧ Below w.heap.size w w' := by
  have e0 := heap_alloc_new w (.cells #[.string ⟨#[]⟩, .string ⟨#[109]⟩, .string ⟨#[109]⟩, .string ⟨#[]⟩] 44)
  have hb0 := balloc (Below.refl _ w) (.cells #[.string ⟨#[]⟩, .string ⟨#[109]⟩, .string ⟨#[109]⟩, .string ⟨#[]⟩] 44)
  have e1 := heap_alloc_new (w.alloc (.cells #[.string ⟨#[]⟩, .string ⟨#[109]⟩, .string ⟨#[109]⟩, .string ⟨#[]⟩] 44)) (.cells #[.int .i64 3, .int .i64 2] 3)
  have hb1 := balloc (Below.refl _ (w.alloc (.cells #[.string ⟨#[]⟩, .string ⟨#[109]⟩, .string ⟨#[109]⟩, .string ⟨#[]⟩] 44))) (.cells #[.int .i64 3, .int .i64 2] 3)
  have e2 := heap_alloc_new ((w.alloc (.cells #[.string ⟨#[]⟩, .string ⟨#[109]⟩, .string ⟨#[109]⟩, .string ⟨#[]⟩] 44)).alloc (.cells #[.int .i64 3, .int .i64 2] 3)) (.cells #[.int .i64 (-1), .int .i64 0] 3)
  have hb2 := balloc (Below.refl _ ((w.alloc (.cells #[.string ⟨#[]⟩, .string ⟨#[109]⟩, .string ⟨#[109]⟩, .string ⟨#[]⟩] 44)).alloc (.cells #[.int .i64 3, .int .i64 2] 3))) (.cells #[.int .i64 (-1), .int .i64 0] 3)
  rw [World.size_alloc] at e1
  rw [World.size_alloc, World.size_alloc] at e2
  have h0 := RowAt.of_block (n := 2) kr_ok (l := ex7.rs) e0 rfl rfl (by omega)
  have h1 := RowAt.of_block (n := 2) ki_ok (l := ex7.ow) e1 rfl rfl (by omega)
  have h2 := RowAt.of_block (n := 2) ki_ok (l := ex7.pa) e2 rfl rfl (by omega)
  have hR : RwAt _ _ _ _ ex7 := ⟨(h0.below hb1).below hb2, h1.below hb2, h2, by
    intro r hr
    simp [ex7] at hr
    rcases hr with rfl | rfl <;> exact ⟨by decide, by decide⟩⟩
  have hbw := bstep (bstep hb0 hb1) hb2
  clear e0 e1 e2 hb0 hb1 hb2 h0 h1 h2
  have HSZ : Hid ((((w.alloc (.cells #[.string ⟨#[]⟩, .string ⟨#[109]⟩, .string ⟨#[109]⟩, .string ⟨#[]⟩] 44)).alloc (.cells #[.int .i64 3, .int .i64 2] 3)).alloc (.cells #[.int .i64 (-1), .int .i64 0] 3)).heap.size = w.heap.size + 1 + 1 + 1) := Lib.hid (by simp)
  have HR := Lib.hid hR
  have HBW := Lib.hid hbw
  clear hR hbw
  go_enter Try.func12, Try.ntmps12
  go_wp2_with fail
  generalize ((w.alloc (.cells #[.string ⟨#[]⟩, .string ⟨#[109]⟩, .string ⟨#[109]⟩, .string ⟨#[]⟩] 44)).alloc (.cells #[.int .i64 3, .int .i64 2] 3)).alloc (.cells #[.int .i64 (-1), .int .i64 0] 3) = wa at *
  generalize Value.slice (some ⟨w.heap.size, 0, none⟩) 2 2 = u0 at *
  generalize Value.slice (some ⟨w.heap.size + 1, 0, none⟩) 2 2 = u1 at *
  generalize Value.slice (some ⟨w.heap.size + 1 + 1, 0, none⟩) 2 2 = u2 at *
  have hV := VrP.new wa u0 u1 u2 25
  rw [HSZ.out] at hV
  have hbv := balloc (Below.refl _ wa) (.cells #[u0, u1, u2] 25)
  have HR2 := Lib.hid (HR.out.below hbv)
  have HB2 := Lib.hid (bstep HBW.out hbv)
  have HV := Lib.hid hV
  have hck := check7_any ex7 u0 u1 u2 _ HR2.out
  rw [ex7_ok] at hck
  have hoa : ∀ W, Below (wa.alloc (.cells #[u0, u1, u2] 25)).heap.size (wa.alloc (.cells #[u0, u1, u2] 25)) W → _ := fun W hb => owners7_any ex7 u0 u1 u2 ⟨#[97]⟩ W (HR2.out.below hb)
  have hoz : ∀ W, Below (wa.alloc (.cells #[u0, u1, u2] 25)).heap.size (wa.alloc (.cells #[u0, u1, u2] 25)) W → _ := fun W hb => owners7_any ex7 u0 u1 u2 ⟨#[122]⟩ W (HR2.out.below hb)
  have hfz : ∀ W, Below (wa.alloc (.cells #[u0, u1, u2] 25)).heap.size (wa.alloc (.cells #[u0, u1, u2] 25)) W → _ := fun W hb => first7_any ex7 u0 u1 u2 ⟨#[122]⟩ W (HR2.out.below hb)
  rw [show (⟨#[97]⟩ : ByteArray).data.toList = [97] from rfl, ex7_a] at hoa
  rw [show (⟨#[122]⟩ : ByteArray).data.toList = [122] from rfl, ex7_z] at hoz
  rw [show (⟨#[122]⟩ : ByteArray).data.toList = [122] from rfl, ex7_z, show firstN 2 = 1 from by decide +kernel] at hfz
  have hmn := fun W => many7_any 7 W (by omega)
  rw [show manyI 7 = 3 from by decide +kernel] at hmn
  have HB0 : Hid (Below (wa.alloc (.cells #[u0, u1, u2] 25)).heap.size (wa.alloc (.cells #[u0, u1, u2] 25)) (wa.alloc (.cells #[u0, u1, u2] 25))) := Lib.hid (Below.refl _ _)
  generalize wa.alloc (.cells #[u0, u1, u2] 25) = wv at *
  have hv := HV.out
  obtain ⟨x0, x1, x2, _⟩ := hv
  clear hV
  go_wp2_with fail
  refine hck.mono ?_
  rintro e w1 ⟨rfl, hb1⟩
  have hv1 := HV.out.keep hb1
  clear x0 x1 x2
  obtain ⟨x0, x1, x2, _⟩ := hv1
  have HB1 := Lib.hid hb1
  clear hb1 hck
  go_wp2_with fail
  refine (hoa _ HB1.out).mono ?_
  rintro e w2 ⟨rfl, hb2⟩
  have HB2' := Lib.hid (bstep HB1.out hb2)
  have hv1 := HV.out.keep HB2'.out
  clear x0 x1 x2 hb2
  obtain ⟨x0, x1, x2, _⟩ := hv1
  go_wp2_with fail
  refine (hoz _ HB2'.out).mono ?_
  rintro e w3 ⟨rfl, hb3⟩
  have HB3 := Lib.hid (bstep HB2'.out hb3)
  have hv1 := HV.out.keep HB3.out
  clear x0 x1 x2 hb3
  obtain ⟨x0, x1, x2, _⟩ := hv1
  go_wp2_with fail
  refine (hfz _ HB3.out).mono ?_
  rintro e w4 ⟨rfl, hb4⟩
  have HB4 := Lib.hid (bstep HB3.out hb4)
  clear x0 x1 x2 hb4
  go_wp2_with fail
  refine (hmn _).mono ?_
  rintro e w5 ⟨rfl, rfl⟩
  go_wp2
  go_ret
  exact ⟨rfl, bstep HB2.out HB4.out⟩

set_option maxRecDepth 100000 in
theorem row7_any (v0 v1 : Value) (l0 l1 : List Int) (n : Int) (w : World) (h0 : RowAt KI w v0 l0) (h1 : RowAt KI w v1 l1) (hb0 : ∀ z ∈ l0, -9223372036854775808 ≤ z ∧ z ≤ 9223372036854775807) (hb1 : ∀ z ∈ l1, -9223372036854775808 ≤ z ∧ z ≤ 9223372036854775807) (hn : -9223372036854775808 ≤ n ∧ n ≤ 9223372036854775807) :
    Calls Try.prog 29 #[.agg #[v0, v1, .int .i64 n]] w (MadePost w) := by
  have hb : Below w.heap.size w ((w.alloc (.cells #[v0, v1, .int .i64 n] 38)).alloc (.cells #[.slice none 0 0, .slice none 0 0, .slice none 0 0] 25)) := balloc (balloc (Below.refl _ _) _) _
  have hV := VrP.new (w.alloc (.cells #[v0, v1, .int .i64 n] 38)) (.slice none 0 0) (.slice none 0 0) (.slice none 0 0) 25
  rw [World.size_alloc] at hV
  have hmd := made7_any v0 v1 l0 l1 n _ (h0.below hb) (h1.below hb) hb0 hb1 hn
  obtain ⟨a0, p0, rfl, _⟩ := h0
  obtain ⟨a1, p1, rfl, _⟩ := h1
  have HV := Lib.hid hV
  clear hV
  go_enter Try.func29, Try.ntmps29
  go_wp2_with fail
  refine hmd.mono ?_
  rintro e w1 ⟨c, u0, u1, u2, rfl, hR, hok, hb1'⟩
  have hV1 := HV.out.keep hb1'
  have HBW := Lib.hid (bstep hb hb1')
  have HR := Lib.hid hR
  have HOK := Lib.hid hok
  obtain ⟨x0, y0, rfl⟩ := hR.r.shape
  obtain ⟨x1, y1, rfl⟩ := hR.o.shape
  obtain ⟨x2, y2, rfl⟩ := hR.p.shape
  have hv := ((hV1.put0 (.slice x0 c.rs.length y0)).put1 (.slice x1 c.ow.length y1)).put2 (.slice x2 c.pa.length y2)
  have hfr := hV1.f
  have hv0 := hV1.c0
  have hv1 := hV1.c1
  have hv2 := hV1.c2
  have q0 := hfr 0 (by decide)
  have q1 := hfr 1 (by decide)
  have q2 := hfr 2 (by decide)
  clear hfr hR hok hV1 hb hmd hb1'
  go_wp2
  have h3 : RwO w.heap.size (((w1.setCell ⟨w.heap.size + 1, 0, none⟩ (.slice x0 c.rs.length y0)).setCell ⟨w.heap.size + 1, 1, none⟩ (.slice x1 c.ow.length y1)).setCell ⟨w.heap.size + 1, 2, none⟩ (.slice x2 c.pa.length y2)) (.slice x0 c.rs.length y0) (.slice x1 c.ow.length y1) (.slice x2 c.pa.length y2) c := ((((HR.out.put (by simp) _).put (by simp) _).put (by simp) _).mono (by simp; omega))
  obtain ⟨r0, r1, r2, _⟩ := hv
  exact bodyPost_ret (v := .agg #[.slice x0 c.rs.length y0, .slice x1 c.ow.length y1, .slice x2 c.pa.length y2]) (by simp [results, Try.results29, go_sem, r0, r1, r2]) rfl ⟨_, _, _, _, rfl, h3, HOK.out, ((HBW.out.setCell (p := ⟨w.heap.size + 1, 0, none⟩) (by simp) _).setCell (p := ⟨w.heap.size + 1, 1, none⟩) (by simp) _).setCell (p := ⟨w.heap.size + 1, 2, none⟩) (by simp) _⟩
end Go.Proofs.Ytllagelopdedfaa
