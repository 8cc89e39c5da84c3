/- Texts of this proof, one behind the other: NearAwake, NearBase, Open4, Open5. -/
import Derived.Test.YtfnfpanmbmkhmaaGN515
import Derived.Deep.Strs
/- What the laws' own 'awake' of layer 5 answers. -/
namespace Go.Proofs.Ytfnfpanmbmkhmaa
open Go.RowKit Go.Maps
set_option linter.unusedVariables false
set_option linter.unusedSimpArgs false

theorem keepA3 {W w1 : World} {b o1 o2 o3 : Nat} {x1 x2 x3 : Value} (hb : Below W.heap.size W w1)
    (h : W.cell? ⟨b, o1, none⟩ = some x1 ∧ W.cell? ⟨b, o2, none⟩ = some x2 ∧ W.cell? ⟨b, o3, none⟩ = some x3) :
    w1.cell? ⟨b, o1, none⟩ = some x1 ∧ w1.cell? ⟨b, o2, none⟩ = some x2 ∧ w1.cell? ⟨b, o3, none⟩ = some x3 :=
  ⟨kc hb h.1, kc hb h.2.1, kc hb h.2.2⟩
def aw5A : Ve := ⟨⟨#[97]⟩, ⟨#[]⟩, false, (1, 0), []⟩
def aw5B : Ve := ⟨⟨#[98]⟩, ⟨#[]⟩, false, (2, 0), [(⟨#[97]⟩, 1, 0)]⟩
def aw5P : List De := [(⟨#[97]⟩, 1, 0), (⟨#[98]⟩, 2, 0)]
def awX (n : Nat) : List Vp := [(aw5A, none, 0), (aw5B, some ⟨n, 0, none⟩, 1)]
theorem awX_map (n : Nat) : (awX n).map Prod.fst = [aw5A, aw5B] := rfl
theorem aw5_red : redL aw5P [aw5A, aw5B] = [(⟨#[98]⟩, 2, 0)] := by decide +kernel
theorem aw5_exp : expL [(⟨#[98]⟩, 2, 0)] [aw5A, aw5B] = aw5P := by decide +kernel
theorem aw5_cl : clB aw5P [aw5A, aw5B] = true := by decide +kernel
theorem aw5_srtP : Srt aw5P := by decide +kernel
theorem aw5_srtB : Srt [(⟨#[98]⟩, 2, 0)] := by decide +kernel
theorem aw5_ok (n : Nat) : ∀ x ∈ awX n, VOk x.1 := by
  have hA : VOk aw5A := ⟨by decide, by decide, by decide +kernel, by decide⟩
  have hB : VOk aw5B := ⟨by decide, by decide, by decide +kernel, by decide⟩
  intro x hx
  simp [awX] at hx
  rcases hx with rfl | rfl
  · exact hA
  · exact hB
/-- Whether versions are sound does not hang on where their pasts lie. -/
def bare (xs : List Vp) : List Vp := xs.map fun x => (x.1, none, 0)
theorem bare_fst (xs : List Vp) : (bare xs).map Prod.fst = xs.map Prod.fst := by simp [bare]
theorem fndP_bare (xs : List Vp) (d : De) : (fndP (bare xs) d).isSome = (fndP xs d).isSome := by
  rw [fndP_isSome, fndP_isSome, bare_fst]
theorem cntP_bare : ∀ xs : List Vp, cntP (bare xs) = cntP xs
  | [] => rfl
  | x :: r => by
    have ih := cntP_bare r
    show cntP ((x.1, none, 0) :: bare r) = _
    rw [cntP, cntP, fndP_bare, ih]
theorem sndB_bare (xs : List Vp) : sndB (bare xs) = sndB xs := by
  unfold sndB
  rw [cntP_bare, bare_fst]
  unfold bare
  rw [List.any_map, List.any_map, List.length_map]
  rfl
theorem awX_snd (n : Nat) : sndB (awX n) = true := by
  rw [← sndB_bare]
  show sndB [(aw5A, none, 0), (aw5B, none, 0)] = true
  decide +kernel

set_option maxRecDepth 100000 in
set_option maxHeartbeats 12800000 in
theorem awake5_any (w : World) : Calls Try.prog 9 #[] w fun e w' => e = .returned (.bool true) ∧ Below w.heap.size w w' := by
  have z1 : (w.alloc (.cells #[.string ⟨#[97]⟩, .int .i64 1, .int .i64 0] 26)).heap.size = w.heap.size + 1 := by simp
  have z2 : ((w.alloc (.cells #[.string ⟨#[97]⟩, .int .i64 1, .int .i64 0] 26)).alloc (.cells #[.string ⟨#[98]⟩, .int .i64 2, .int .i64 0] 26)).heap.size = w.heap.size + 1 + 1 := by simp
  have z3 : (((w.alloc (.cells #[.string ⟨#[97]⟩, .int .i64 1, .int .i64 0] 26)).alloc (.cells #[.string ⟨#[98]⟩, .int .i64 2, .int .i64 0] 26)).alloc (.cells #[.string ⟨#[97]⟩, .int .i64 1, .int .i64 0] 26)).heap.size = w.heap.size + 1 + 1 + 1 := by simp
  have z4 : ((((w.alloc (.cells #[.string ⟨#[97]⟩, .int .i64 1, .int .i64 0] 26)).alloc (.cells #[.string ⟨#[98]⟩, .int .i64 2, .int .i64 0] 26)).alloc (.cells #[.string ⟨#[97]⟩, .int .i64 1, .int .i64 0] 26)).alloc (.cells #[.string ⟨#[97]⟩, .string ⟨#[]⟩, .bool false, .int .i64 1, .int .i64 0, .slice none 0 0, .string ⟨#[98]⟩, .string ⟨#[]⟩, .bool false, .int .i64 2, .int .i64 0, .slice (some ⟨w.heap.size + 1 + 1, 0, none⟩) 1 1] 34)).heap.size = w.heap.size + 1 + 1 + 1 + 1 := by simp
  have HB5 : Hid (Below w.heap.size w (((((w.alloc (.cells #[.string ⟨#[97]⟩, .int .i64 1, .int .i64 0] 26)).alloc (.cells #[.string ⟨#[98]⟩, .int .i64 2, .int .i64 0] 26)).alloc (.cells #[.string ⟨#[97]⟩, .int .i64 1, .int .i64 0] 26)).alloc (.cells #[.string ⟨#[97]⟩, .string ⟨#[]⟩, .bool false, .int .i64 1, .int .i64 0, .slice none 0 0, .string ⟨#[98]⟩, .string ⟨#[]⟩, .bool false, .int .i64 2, .int .i64 0, .slice (some ⟨w.heap.size + 1 + 1, 0, none⟩) 1 1] 34)).alloc (.cells #[.string ⟨#[97]⟩, .int .i64 1, .int .i64 0, .string ⟨#[98]⟩, .int .i64 2, .int .i64 0] 26))) := Lib.hid (balloc (balloc (balloc (balloc (balloc (Below.refl _ w) _) _) _) _) _)
  have hdA := DepAt.new ((w.alloc (.cells #[.string ⟨#[97]⟩, .int .i64 1, .int .i64 0] 26)).alloc (.cells #[.string ⟨#[98]⟩, .int .i64 2, .int .i64 0] 26)) [(⟨#[97]⟩, 1, 0)] 26 (by simp)
  rw [z2] at hdA
  have hbA : Below (((w.alloc (.cells #[.string ⟨#[97]⟩, .int .i64 1, .int .i64 0] 26)).alloc (.cells #[.string ⟨#[98]⟩, .int .i64 2, .int .i64 0] 26)).alloc (.cells #[.string ⟨#[97]⟩, .int .i64 1, .int .i64 0] 26)).heap.size (((w.alloc (.cells #[.string ⟨#[97]⟩, .int .i64 1, .int .i64 0] 26)).alloc (.cells #[.string ⟨#[98]⟩, .int .i64 2, .int .i64 0] 26)).alloc (.cells #[.string ⟨#[97]⟩, .int .i64 1, .int .i64 0] 26)) (((((w.alloc (.cells #[.string ⟨#[97]⟩, .int .i64 1, .int .i64 0] 26)).alloc (.cells #[.string ⟨#[98]⟩, .int .i64 2, .int .i64 0] 26)).alloc (.cells #[.string ⟨#[97]⟩, .int .i64 1, .int .i64 0] 26)).alloc (.cells #[.string ⟨#[97]⟩, .string ⟨#[]⟩, .bool false, .int .i64 1, .int .i64 0, .slice none 0 0, .string ⟨#[98]⟩, .string ⟨#[]⟩, .bool false, .int .i64 2, .int .i64 0, .slice (some ⟨w.heap.size + 1 + 1, 0, none⟩) 1 1] 34)).alloc (.cells #[.string ⟨#[97]⟩, .int .i64 1, .int .i64 0, .string ⟨#[98]⟩, .int .i64 2, .int .i64 0] 26)) := balloc (balloc (Below.refl _ _) _) _
  have hoL := OwnR.lit kv_ok (((w.alloc (.cells #[.string ⟨#[97]⟩, .int .i64 1, .int .i64 0] 26)).alloc (.cells #[.string ⟨#[98]⟩, .int .i64 2, .int .i64 0] 26)).alloc (.cells #[.string ⟨#[97]⟩, .int .i64 1, .int .i64 0] 26)) (awX (w.heap.size + 1 + 1)) #[.string ⟨#[97]⟩, .string ⟨#[]⟩, .bool false, .int .i64 1, .int .i64 0, .slice none 0 0, .string ⟨#[98]⟩, .string ⟨#[]⟩, .bool false, .int .i64 2, .int .i64 0, .slice (some ⟨w.heap.size + 1 + 1, 0, none⟩) 1 1] rfl (by simp [awX])
  rw [z3] at hoL
  have HL5 : Hid (VRow (((((w.alloc (.cells #[.string ⟨#[97]⟩, .int .i64 1, .int .i64 0] 26)).alloc (.cells #[.string ⟨#[98]⟩, .int .i64 2, .int .i64 0] 26)).alloc (.cells #[.string ⟨#[97]⟩, .int .i64 1, .int .i64 0] 26)).alloc (.cells #[.string ⟨#[97]⟩, .string ⟨#[]⟩, .bool false, .int .i64 1, .int .i64 0, .slice none 0 0, .string ⟨#[98]⟩, .string ⟨#[]⟩, .bool false, .int .i64 2, .int .i64 0, .slice (some ⟨w.heap.size + 1 + 1, 0, none⟩) 1 1] 34)).alloc (.cells #[.string ⟨#[97]⟩, .int .i64 1, .int .i64 0, .string ⟨#[98]⟩, .int .i64 2, .int .i64 0] 26)) (.slice (some ⟨w.heap.size + 1 + 1 + 1, 0, none⟩) 2 2) (awX (w.heap.size + 1 + 1))) := Lib.hid ⟨(RowAt.of_own kv_ok hoL).below (balloc (Below.refl _ _) _), fun x hx => by
    simp [awX] at hx
    rcases hx with rfl | rfl
    · exact DepAt.nil _
    · exact hdA.below hbA⟩
  have hP := DepAt.new ((((w.alloc (.cells #[.string ⟨#[97]⟩, .int .i64 1, .int .i64 0] 26)).alloc (.cells #[.string ⟨#[98]⟩, .int .i64 2, .int .i64 0] 26)).alloc (.cells #[.string ⟨#[97]⟩, .int .i64 1, .int .i64 0] 26)).alloc (.cells #[.string ⟨#[97]⟩, .string ⟨#[]⟩, .bool false, .int .i64 1, .int .i64 0, .slice none 0 0, .string ⟨#[98]⟩, .string ⟨#[]⟩, .bool false, .int .i64 2, .int .i64 0, .slice (some ⟨w.heap.size + 1 + 1, 0, none⟩) 1 1] 34)) aw5P 26 (by decide)
  rw [z4] at hP
  have HP5 : Hid (DepAt (((((w.alloc (.cells #[.string ⟨#[97]⟩, .int .i64 1, .int .i64 0] 26)).alloc (.cells #[.string ⟨#[98]⟩, .int .i64 2, .int .i64 0] 26)).alloc (.cells #[.string ⟨#[97]⟩, .int .i64 1, .int .i64 0] 26)).alloc (.cells #[.string ⟨#[97]⟩, .string ⟨#[]⟩, .bool false, .int .i64 1, .int .i64 0, .slice none 0 0, .string ⟨#[98]⟩, .string ⟨#[]⟩, .bool false, .int .i64 2, .int .i64 0, .slice (some ⟨w.heap.size + 1 + 1, 0, none⟩) 1 1] 34)).alloc (.cells #[.string ⟨#[97]⟩, .int .i64 1, .int .i64 0, .string ⟨#[98]⟩, .int .i64 2, .int .i64 0] 26)) (.slice (some ⟨w.heap.size + 1 + 1 + 1 + 1, 0, none⟩) 2 2) aw5P) := Lib.hid hP
  have hR := fun W hW hL => reduce_any (.slice (some ⟨w.heap.size + 1 + 1 + 1 + 1, 0, none⟩) 2 2) (.slice (some ⟨w.heap.size + 1 + 1 + 1, 0, none⟩) 2 2) aw5P (awX (w.heap.size + 1 + 1)) W (by decide) aw5_srtP (by simp [awX]) (aw5_ok _) hW hL
  rw [awX_map, aw5_red] at hR
  have hbB : Below ((w.alloc (.cells #[.string ⟨#[97]⟩, .int .i64 1, .int .i64 0] 26)).alloc (.cells #[.string ⟨#[98]⟩, .int .i64 2, .int .i64 0] 26)).heap.size ((w.alloc (.cells #[.string ⟨#[97]⟩, .int .i64 1, .int .i64 0] 26)).alloc (.cells #[.string ⟨#[98]⟩, .int .i64 2, .int .i64 0] 26)) (((((w.alloc (.cells #[.string ⟨#[97]⟩, .int .i64 1, .int .i64 0] 26)).alloc (.cells #[.string ⟨#[98]⟩, .int .i64 2, .int .i64 0] 26)).alloc (.cells #[.string ⟨#[97]⟩, .int .i64 1, .int .i64 0] 26)).alloc (.cells #[.string ⟨#[97]⟩, .string ⟨#[]⟩, .bool false, .int .i64 1, .int .i64 0, .slice none 0 0, .string ⟨#[98]⟩, .string ⟨#[]⟩, .bool false, .int .i64 2, .int .i64 0, .slice (some ⟨w.heap.size + 1 + 1, 0, none⟩) 1 1] 34)).alloc (.cells #[.string ⟨#[97]⟩, .int .i64 1, .int .i64 0, .string ⟨#[98]⟩, .int .i64 2, .int .i64 0] 26)) := balloc (balloc (balloc (Below.refl _ _) _) _) _
  have hVB := (VarD.new (w.alloc (.cells #[.string ⟨#[97]⟩, .int .i64 1, .int .i64 0] 26)) ⟨#[98]⟩ 2 0 26).keep hbB
  rw [z1] at hVB
  have g0 : (((((w.alloc (.cells #[.string ⟨#[97]⟩, .int .i64 1, .int .i64 0] 26)).alloc (.cells #[.string ⟨#[98]⟩, .int .i64 2, .int .i64 0] 26)).alloc (.cells #[.string ⟨#[97]⟩, .int .i64 1, .int .i64 0] 26)).alloc (.cells #[.string ⟨#[97]⟩, .string ⟨#[]⟩, .bool false, .int .i64 1, .int .i64 0, .slice none 0 0, .string ⟨#[98]⟩, .string ⟨#[]⟩, .bool false, .int .i64 2, .int .i64 0, .slice (some ⟨w.heap.size + 1 + 1, 0, none⟩) 1 1] 34)).alloc (.cells #[.string ⟨#[97]⟩, .int .i64 1, .int .i64 0, .string ⟨#[98]⟩, .int .i64 2, .int .i64 0] 26)).cell? ⟨w.heap.size + 1, 0, none⟩ = some (.string ⟨#[98]⟩) ∧ (((((w.alloc (.cells #[.string ⟨#[97]⟩, .int .i64 1, .int .i64 0] 26)).alloc (.cells #[.string ⟨#[98]⟩, .int .i64 2, .int .i64 0] 26)).alloc (.cells #[.string ⟨#[97]⟩, .int .i64 1, .int .i64 0] 26)).alloc (.cells #[.string ⟨#[97]⟩, .string ⟨#[]⟩, .bool false, .int .i64 1, .int .i64 0, .slice none 0 0, .string ⟨#[98]⟩, .string ⟨#[]⟩, .bool false, .int .i64 2, .int .i64 0, .slice (some ⟨w.heap.size + 1 + 1, 0, none⟩) 1 1] 34)).alloc (.cells #[.string ⟨#[97]⟩, .int .i64 1, .int .i64 0, .string ⟨#[98]⟩, .int .i64 2, .int .i64 0] 26)).cell? ⟨w.heap.size + 1, 1, none⟩ = some (.int .i64 2) ∧ (((((w.alloc (.cells #[.string ⟨#[97]⟩, .int .i64 1, .int .i64 0] 26)).alloc (.cells #[.string ⟨#[98]⟩, .int .i64 2, .int .i64 0] 26)).alloc (.cells #[.string ⟨#[97]⟩, .int .i64 1, .int .i64 0] 26)).alloc (.cells #[.string ⟨#[97]⟩, .string ⟨#[]⟩, .bool false, .int .i64 1, .int .i64 0, .slice none 0 0, .string ⟨#[98]⟩, .string ⟨#[]⟩, .bool false, .int .i64 2, .int .i64 0, .slice (some ⟨w.heap.size + 1 + 1, 0, none⟩) 1 1] 34)).alloc (.cells #[.string ⟨#[97]⟩, .int .i64 1, .int .i64 0, .string ⟨#[98]⟩, .int .i64 2, .int .i64 0] 26)).cell? ⟨w.heap.size + 1, 2, none⟩ = some (.int .i64 0) := ⟨hVB.c0, hVB.c1, hVB.c2⟩
  have hbA2 : Below (w.alloc (.cells #[.string ⟨#[97]⟩, .int .i64 1, .int .i64 0] 26)).heap.size (w.alloc (.cells #[.string ⟨#[97]⟩, .int .i64 1, .int .i64 0] 26)) ((((w.alloc (.cells #[.string ⟨#[97]⟩, .int .i64 1, .int .i64 0] 26)).alloc (.cells #[.string ⟨#[98]⟩, .int .i64 2, .int .i64 0] 26)).alloc (.cells #[.string ⟨#[97]⟩, .int .i64 1, .int .i64 0] 26)).alloc (.cells #[.string ⟨#[97]⟩, .string ⟨#[]⟩, .bool false, .int .i64 1, .int .i64 0, .slice none 0 0, .string ⟨#[98]⟩, .string ⟨#[]⟩, .bool false, .int .i64 2, .int .i64 0, .slice (some ⟨w.heap.size + 1 + 1, 0, none⟩) 1 1] 34)) := balloc (balloc (balloc (Below.refl _ _) _) _) _
  obtain ⟨a0, a1, a2, _, _, _⟩ := (VarD.new w ⟨#[97]⟩ 1 0 26).keep hbA2
  obtain ⟨b0, b1, b2, _, _, _⟩ := (VarD.new (w.alloc (.cells #[.string ⟨#[97]⟩, .int .i64 1, .int .i64 0] 26)) ⟨#[98]⟩ 2 0 26).keep (show Below ((w.alloc (.cells #[.string ⟨#[97]⟩, .int .i64 1, .int .i64 0] 26)).alloc (.cells #[.string ⟨#[98]⟩, .int .i64 2, .int .i64 0] 26)).heap.size ((w.alloc (.cells #[.string ⟨#[97]⟩, .int .i64 1, .int .i64 0] 26)).alloc (.cells #[.string ⟨#[98]⟩, .int .i64 2, .int .i64 0] 26)) ((((w.alloc (.cells #[.string ⟨#[97]⟩, .int .i64 1, .int .i64 0] 26)).alloc (.cells #[.string ⟨#[98]⟩, .int .i64 2, .int .i64 0] 26)).alloc (.cells #[.string ⟨#[97]⟩, .int .i64 1, .int .i64 0] 26)).alloc (.cells #[.string ⟨#[97]⟩, .string ⟨#[]⟩, .bool false, .int .i64 1, .int .i64 0, .slice none 0 0, .string ⟨#[98]⟩, .string ⟨#[]⟩, .bool false, .int .i64 2, .int .i64 0, .slice (some ⟨w.heap.size + 1 + 1, 0, none⟩) 1 1] 34)) from balloc (balloc (Below.refl _ _) _) _)
  rw [z1] at b0 b1 b2
  clear z1 z2 z3 z4 hdA hbA hoL hP hbB hVB hbA2
  go_enter Try.func9, Try.ntmps9
  go_wp2_with fail
  refine wp_region_held_drew (S := fun w' => w'.cell? ⟨w.heap.size + 1, 0, none⟩ = some (.string ⟨#[98]⟩) ∧ w'.cell? ⟨w.heap.size + 1, 1, none⟩ = some (.int .i64 2) ∧ w'.cell? ⟨w.heap.size + 1, 2, none⟩ = some (.int .i64 0)) (by kernel_rfl) (g0) (fun hHeld => ?_)
  refine wpAnyH_take (i := 0) (v := ?va1) rfl (by kernel_rfl) (by kernel_rfl) (by kernel_rfl) (fun _ _ _ h => h) (Or.inl ⟨by rfl, ?ya1⟩) (by assumption) ?ra1
  case ya1 => (intro w hSw; (try dsimp only at hSw); go_simp; try with_reducible rfl)
  try simp only [Act.put, List.setIfInBounds_toArray, List.set_cons_zero, List.set_cons_succ, List.getElem_toArray, List.getElem_cons_zero, List.getElem_cons_succ]
  refine wpAnyH_take (i := 1) (v := ?va2) rfl (by kernel_rfl) (by kernel_rfl) (by kernel_rfl) (fun _ _ _ h => h) (Or.inl ⟨by rfl, ?ya2⟩) (by assumption) ?ra2
  case ya2 => (intro w hSw; (try dsimp only at hSw); go_simp; try with_reducible rfl)
  try simp only [Act.put, List.setIfInBounds_toArray, List.set_cons_zero, List.set_cons_succ, List.getElem_toArray, List.getElem_cons_zero, List.getElem_cons_succ]
  refine wpAnyH_take (i := 3) (v := ?va3) rfl (by kernel_rfl) (by kernel_rfl) (by kernel_rfl) (fun _ _ _ h => h) (Or.inl ⟨by rfl, ?ya3⟩) (by assumption) ?ra3
  case ya3 => (intro w hSw; (try dsimp only at hSw); go_simp; try with_reducible rfl)
  try simp only [Act.put, List.setIfInBounds_toArray, List.set_cons_zero, List.set_cons_succ, List.getElem_toArray, List.getElem_cons_zero, List.getElem_cons_succ]
  refine wpAnyH_ready (rs := [2, 4]) (by kernel_rfl) (by simp) ?_
  refine AllReadyH.cons rfl (fun K hK => ?_) (AllReadyH.cons rfl (fun K hK => ?_) AllReadyH.nil)
  · go_simp
    go_at_call 14
    refine (hR _ HP5.out.drew HL5.out.drew).mono ?_
    rintro e wa ⟨ua, rfl, hoa, ha⟩
    have hba := bstep ((Below.refl _ _).drew) ha
    have g1 := keepA3 hba g0
    have HOA := Lib.hid hoa
    obtain ⟨xa, ya, rfl⟩ := hoa.shape
    go_wp2_with fail
    refine hK.out _ _ (g1) (fun hHeld => ?_)
    clear hK K
    try simp only [Act.put, List.setIfInBounds_toArray, List.set_cons_zero, List.set_cons_succ, List.getElem_toArray, List.getElem_cons_zero, List.getElem_cons_succ]
    have hbb : Below wa.heap.size wa (wa.alloc (.cells #[.string ⟨#[98]⟩, .int .i64 2, .int .i64 0] 26)) := balloc (Below.refl _ wa) _
    have g2 := keepA3 hbb g1
    refine wpAnyH_ready (rs := [4]) (by kernel_rfl) (by simp) ?_
    refine AllReadyH.cons rfl (fun K hK => ?_) AllReadyH.nil
    go_simp
    refine hK.out _ _ (g2) (fun hHeld => ?_)
    clear hK K
    try simp only [Act.put, List.setIfInBounds_toArray, List.set_cons_zero, List.set_cons_succ, List.getElem_toArray, List.getElem_cons_zero, List.getElem_cons_succ]
    have HDA := Lib.hid (DepAt.of_own (HOA.out.below hbb))
    have HDB := Lib.hid (DepAt.new wa [(⟨#[98]⟩, 2, 0)] 26 (by simp))
    have hbc := bstep hba hbb
    have hSm1 := refPSame_any _ _ [(⟨#[98]⟩, 2, 0)] [(⟨#[98]⟩, 2, 0)] _ (by decide) HDA.out HDB.out
    rw [show decide (([(⟨#[98]⟩, 2, 0)] : List De) = [(⟨#[98]⟩, 2, 0)]) = true from decide_eq_true rfl] at hSm1
    refine wpAnyH_ready (rs := [5]) (by kernel_rfl) (by simp) ?_
    refine AllReadyH.cons rfl (fun K hK => ?_) AllReadyH.nil
    go_simp
    go_at_call 13
    refine hSm1.mono ?_
    rintro e wz ⟨rfl, hz1⟩
    have gz := keepA3 hz1 g2
    have hbd := bstep hbc hz1
    have HPz := Lib.hid (HP5.out.below hbd)
    have HLz := Lib.hid (HL5.out.below hbd)
    have HBz := Lib.hid (bstep HB5.out hbd)
    go_wp2_with fail
    refine hK.out _ _ (gz) (fun hHeld => ?_)
    clear hK K
    try simp only [Act.put, List.setIfInBounds_toArray, List.set_cons_zero, List.set_cons_succ, List.getElem_toArray, List.getElem_cons_zero, List.getElem_cons_succ]
    refine wpAnyH_take (i := 6) (v := ?va4) rfl (by kernel_rfl) (by kernel_rfl) (by kernel_rfl) (fun _ _ _ h => h) (Or.inl ⟨by rfl, ?ya4⟩) (by assumption) ?ra4
    case ya4 => (intro w hSw; (try dsimp only at hSw); go_simp; try with_reducible rfl)
    try simp only [Act.put, List.setIfInBounds_toArray, List.set_cons_zero, List.set_cons_succ, List.getElem_toArray, List.getElem_cons_zero, List.getElem_cons_succ]
    refine wpAnyH_done (by kernel_rfl) ?_ _
    clear hSm1 hHeld hbd hbc hz1 g1 g2 g0 HDA HDB ha hbb hba hoa HOA
    obtain ⟨q0, q1, q2⟩ := gz
    have HNB := Lib.hid (DepAt.new wz [(⟨#[98]⟩, 2, 0)] 26 (by simp))
    have hb6 : Below wz.heap.size wz (wz.alloc (.cells #[.string ⟨#[98]⟩, .int .i64 2, .int .i64 0] 26)) := balloc (Below.refl _ wz) _
    have hE := expand_any (.slice (some ⟨wz.heap.size, 0, none⟩) 1 1) (.slice (some ⟨w.heap.size + 1 + 1 + 1, 0, none⟩) 2 2) [(⟨#[98]⟩, 2, 0)] (awX (w.heap.size + 1 + 1)) (wz.alloc (.cells #[.string ⟨#[98]⟩, .int .i64 2, .int .i64 0] 26)) (by simp) aw5_srtB (by simp [awX]) (aw5_ok _) HNB.out (HLz.out.below hb6)
    rw [awX_map, aw5_exp] at hE
    have HB6 := Lib.hid hb6
    clear hb6 HNB
    go_wp2_with fail
    refine hE.mono ?_
    rintro e w7 ⟨u7, rfl, ho7, hb7⟩
    have hb8 := bstep HB6.out hb7
    have HD7 := Lib.hid (DepAt.of_own ho7)
    obtain ⟨ua7, uc7, rfl⟩ := ho7.shape
    have HP7 := Lib.hid (HPz.out.below hb8)
    have HL7 := Lib.hid (HLz.out.below hb8)
    have HBw7 := Lib.hid (bstep HBz.out hb8)
    clear ho7 hE hb7 hb8 q0 q1 q2
    have hSm := refPSame_any _ _ aw5P aw5P _ (by decide) HD7.out HP7.out
    rw [show decide (aw5P = aw5P) = true from decide_eq_true rfl] at hSm
    go_wp2_with fail
    refine hSm.mono ?_
    rintro e w8 ⟨rfl, hb8⟩
    have HP8 := Lib.hid (HP7.out.below hb8)
    have HL8 := Lib.hid (HL7.out.below hb8)
    have HBw8 := Lib.hid (bstep HBw7.out hb8)
    clear hSm hb8 HP7 HL7 HD7
    have hCl := closed5_any (.slice (some ⟨w.heap.size + 1 + 1 + 1 + 1, 0, none⟩) 2 2) (.slice (some ⟨w.heap.size + 1 + 1 + 1, 0, none⟩) 2 2) aw5P (awX (w.heap.size + 1 + 1)) w8 (by decide) aw5_srtP (by simp [awX]) (aw5_ok _) HP8.out HL8.out
    rw [awX_map, aw5_cl] at hCl
    go_wp2_with fail
    refine hCl.mono ?_
    rintro e w9 ⟨rfl, hb9⟩
    have hSd := sound_any (.slice (some ⟨w.heap.size + 1 + 1 + 1, 0, none⟩) 2 2) (awX (w.heap.size + 1 + 1)) w9 (by simp [awX]) (aw5_ok _) (HL8.out.below hb9)
    rw [awX_snd] at hSd
    have HBw9 := Lib.hid (bstep HBw8.out hb9)
    clear hCl hb9 HP8 HL8
    go_wp2_with fail
    refine hSd.mono ?_
    rintro e w10 ⟨rfl, hb10⟩
    go_wp2
    go_ret
    exact ⟨rfl, bstep HBw9.out hb10⟩
  · go_simp
    have hbb : Below (((((w.alloc (.cells #[.string ⟨#[97]⟩, .int .i64 1, .int .i64 0] 26)).alloc (.cells #[.string ⟨#[98]⟩, .int .i64 2, .int .i64 0] 26)).alloc (.cells #[.string ⟨#[97]⟩, .int .i64 1, .int .i64 0] 26)).alloc (.cells #[.string ⟨#[97]⟩, .string ⟨#[]⟩, .bool false, .int .i64 1, .int .i64 0, .slice none 0 0, .string ⟨#[98]⟩, .string ⟨#[]⟩, .bool false, .int .i64 2, .int .i64 0, .slice (some ⟨w.heap.size + 1 + 1, 0, none⟩) 1 1] 34)).alloc (.cells #[.string ⟨#[97]⟩, .int .i64 1, .int .i64 0, .string ⟨#[98]⟩, .int .i64 2, .int .i64 0] 26)).heap.size (((((w.alloc (.cells #[.string ⟨#[97]⟩, .int .i64 1, .int .i64 0] 26)).alloc (.cells #[.string ⟨#[98]⟩, .int .i64 2, .int .i64 0] 26)).alloc (.cells #[.string ⟨#[97]⟩, .int .i64 1, .int .i64 0] 26)).alloc (.cells #[.string ⟨#[97]⟩, .string ⟨#[]⟩, .bool false, .int .i64 1, .int .i64 0, .slice none 0 0, .string ⟨#[98]⟩, .string ⟨#[]⟩, .bool false, .int .i64 2, .int .i64 0, .slice (some ⟨w.heap.size + 1 + 1, 0, none⟩) 1 1] 34)).alloc (.cells #[.string ⟨#[97]⟩, .int .i64 1, .int .i64 0, .string ⟨#[98]⟩, .int .i64 2, .int .i64 0] 26)) (((((((w.alloc (.cells #[.string ⟨#[97]⟩, .int .i64 1, .int .i64 0] 26)).alloc (.cells #[.string ⟨#[98]⟩, .int .i64 2, .int .i64 0] 26)).alloc (.cells #[.string ⟨#[97]⟩, .int .i64 1, .int .i64 0] 26)).alloc (.cells #[.string ⟨#[97]⟩, .string ⟨#[]⟩, .bool false, .int .i64 1, .int .i64 0, .slice none 0 0, .string ⟨#[98]⟩, .string ⟨#[]⟩, .bool false, .int .i64 2, .int .i64 0, .slice (some ⟨w.heap.size + 1 + 1, 0, none⟩) 1 1] 34)).alloc (.cells #[.string ⟨#[97]⟩, .int .i64 1, .int .i64 0, .string ⟨#[98]⟩, .int .i64 2, .int .i64 0] 26)).alloc (.cells #[.string ⟨#[98]⟩, .int .i64 2, .int .i64 0] 26)).drew) := (balloc (Below.refl _ _) _).drew
    have g1 := keepA3 hbb g0
    refine hK.out _ _ (g1) (fun hHeld => ?_)
    clear hK K
    try simp only [Act.put, List.setIfInBounds_toArray, List.set_cons_zero, List.set_cons_succ, List.getElem_toArray, List.getElem_cons_zero, List.getElem_cons_succ]
    refine wpAnyH_ready (rs := [2]) (by kernel_rfl) (by simp) ?_
    refine AllReadyH.cons rfl (fun K hK => ?_) AllReadyH.nil
    go_simp
    go_at_call 14
    refine (hR _ (HP5.out.below hbb) (HL5.out.below hbb)).mono ?_
    rintro e wa ⟨ua, rfl, hoa, ha⟩
    have g2 := keepA3 ha g1
    have hz : (((((w.alloc (.cells #[.string ⟨#[97]⟩, .int .i64 1, .int .i64 0] 26)).alloc (.cells #[.string ⟨#[98]⟩, .int .i64 2, .int .i64 0] 26)).alloc (.cells #[.string ⟨#[97]⟩, .int .i64 1, .int .i64 0] 26)).alloc (.cells #[.string ⟨#[97]⟩, .string ⟨#[]⟩, .bool false, .int .i64 1, .int .i64 0, .slice none 0 0, .string ⟨#[98]⟩, .string ⟨#[]⟩, .bool false, .int .i64 2, .int .i64 0, .slice (some ⟨w.heap.size + 1 + 1, 0, none⟩) 1 1] 34)).alloc (.cells #[.string ⟨#[97]⟩, .int .i64 1, .int .i64 0, .string ⟨#[98]⟩, .int .i64 2, .int .i64 0] 26)).heap.size = w.heap.size + 1 + 1 + 1 + 1 + 1 := by simp
    have hDB := DepAt.new (((((w.alloc (.cells #[.string ⟨#[97]⟩, .int .i64 1, .int .i64 0] 26)).alloc (.cells #[.string ⟨#[98]⟩, .int .i64 2, .int .i64 0] 26)).alloc (.cells #[.string ⟨#[97]⟩, .int .i64 1, .int .i64 0] 26)).alloc (.cells #[.string ⟨#[97]⟩, .string ⟨#[]⟩, .bool false, .int .i64 1, .int .i64 0, .slice none 0 0, .string ⟨#[98]⟩, .string ⟨#[]⟩, .bool false, .int .i64 2, .int .i64 0, .slice (some ⟨w.heap.size + 1 + 1, 0, none⟩) 1 1] 34)).alloc (.cells #[.string ⟨#[97]⟩, .int .i64 1, .int .i64 0, .string ⟨#[98]⟩, .int .i64 2, .int .i64 0] 26)) [(⟨#[98]⟩, 2, 0)] 26 (by simp)
    rw [hz] at hDB
    have HDB := Lib.hid (hDB.drew.below ha)
    have HDA := Lib.hid (DepAt.of_own hoa)
    obtain ⟨xa, ya, rfl⟩ := hoa.shape
    have hbc := bstep hbb ha
    go_wp2_with fail
    refine hK.out _ _ (g2) (fun hHeld => ?_)
    clear hK K hDB hz
    try simp only [Act.put, List.setIfInBounds_toArray, List.set_cons_zero, List.set_cons_succ, List.getElem_toArray, List.getElem_cons_zero, List.getElem_cons_succ]
    have hSm1 := refPSame_any _ _ [(⟨#[98]⟩, 2, 0)] [(⟨#[98]⟩, 2, 0)] _ (by decide) HDA.out HDB.out
    rw [show decide (([(⟨#[98]⟩, 2, 0)] : List De) = [(⟨#[98]⟩, 2, 0)]) = true from decide_eq_true rfl] at hSm1
    refine wpAnyH_ready (rs := [5]) (by kernel_rfl) (by simp) ?_
    refine AllReadyH.cons rfl (fun K hK => ?_) AllReadyH.nil
    go_simp
    go_at_call 13
    refine hSm1.mono ?_
    rintro e wz ⟨rfl, hz1⟩
    have gz := keepA3 hz1 g2
    have hbd := bstep hbc hz1
    have HPz := Lib.hid (HP5.out.below hbd)
    have HLz := Lib.hid (HL5.out.below hbd)
    have HBz := Lib.hid (bstep HB5.out hbd)
    go_wp2_with fail
    refine hK.out _ _ (gz) (fun hHeld => ?_)
    clear hK K
    try simp only [Act.put, List.setIfInBounds_toArray, List.set_cons_zero, List.set_cons_succ, List.getElem_toArray, List.getElem_cons_zero, List.getElem_cons_succ]
    refine wpAnyH_take (i := 6) (v := ?va5) rfl (by kernel_rfl) (by kernel_rfl) (by kernel_rfl) (fun _ _ _ h => h) (Or.inl ⟨by rfl, ?ya5⟩) (by assumption) ?ra5
    case ya5 => (intro w hSw; (try dsimp only at hSw); go_simp; try with_reducible rfl)
    try simp only [Act.put, List.setIfInBounds_toArray, List.set_cons_zero, List.set_cons_succ, List.getElem_toArray, List.getElem_cons_zero, List.getElem_cons_succ]
    refine wpAnyH_done (by kernel_rfl) ?_ _
    clear hSm1 hHeld hbd hbc hz1 g1 g2 g0 HDA HDB ha hbb hoa
    obtain ⟨q0, q1, q2⟩ := gz
    have HNB := Lib.hid (DepAt.new wz [(⟨#[98]⟩, 2, 0)] 26 (by simp))
    have hb6 : Below wz.heap.size wz (wz.alloc (.cells #[.string ⟨#[98]⟩, .int .i64 2, .int .i64 0] 26)) := balloc (Below.refl _ wz) _
    have hE := expand_any (.slice (some ⟨wz.heap.size, 0, none⟩) 1 1) (.slice (some ⟨w.heap.size + 1 + 1 + 1, 0, none⟩) 2 2) [(⟨#[98]⟩, 2, 0)] (awX (w.heap.size + 1 + 1)) (wz.alloc (.cells #[.string ⟨#[98]⟩, .int .i64 2, .int .i64 0] 26)) (by simp) aw5_srtB (by simp [awX]) (aw5_ok _) HNB.out (HLz.out.below hb6)
    rw [awX_map, aw5_exp] at hE
    have HB6 := Lib.hid hb6
    clear hb6 HNB
    go_wp2_with fail
    refine hE.mono ?_
    rintro e w7 ⟨u7, rfl, ho7, hb7⟩
    have hb8 := bstep HB6.out hb7
    have HD7 := Lib.hid (DepAt.of_own ho7)
    obtain ⟨ua7, uc7, rfl⟩ := ho7.shape
    have HP7 := Lib.hid (HPz.out.below hb8)
    have HL7 := Lib.hid (HLz.out.below hb8)
    have HBw7 := Lib.hid (bstep HBz.out hb8)
    clear ho7 hE hb7 hb8 q0 q1 q2
    have hSm := refPSame_any _ _ aw5P aw5P _ (by decide) HD7.out HP7.out
    rw [show decide (aw5P = aw5P) = true from decide_eq_true rfl] at hSm
    go_wp2_with fail
    refine hSm.mono ?_
    rintro e w8 ⟨rfl, hb8⟩
    have HP8 := Lib.hid (HP7.out.below hb8)
    have HL8 := Lib.hid (HL7.out.below hb8)
    have HBw8 := Lib.hid (bstep HBw7.out hb8)
    clear hSm hb8 HP7 HL7 HD7
    have hCl := closed5_any (.slice (some ⟨w.heap.size + 1 + 1 + 1 + 1, 0, none⟩) 2 2) (.slice (some ⟨w.heap.size + 1 + 1 + 1, 0, none⟩) 2 2) aw5P (awX (w.heap.size + 1 + 1)) w8 (by decide) aw5_srtP (by simp [awX]) (aw5_ok _) HP8.out HL8.out
    rw [awX_map, aw5_cl] at hCl
    go_wp2_with fail
    refine hCl.mono ?_
    rintro e w9 ⟨rfl, hb9⟩
    have hSd := sound_any (.slice (some ⟨w.heap.size + 1 + 1 + 1, 0, none⟩) 2 2) (awX (w.heap.size + 1 + 1)) w9 (by simp [awX]) (aw5_ok _) (HL8.out.below hb9)
    rw [awX_snd] at hSd
    have HBw9 := Lib.hid (bstep HBw8.out hb9)
    clear hCl hb9 HP8 HL8
    go_wp2_with fail
    refine hSd.mono ?_
    rintro e w10 ⟨rfl, hb10⟩
    go_wp2
    go_ret
    exact ⟨rfl, bstep HBw9.out hb10⟩
end Go.Proofs.Ytfnfpanmbmkhmaa
/- What the laws of layer 5 share. -/
namespace Go.Proofs.Ytfnfpanmbmkhmaa
open Go.RowKit Go.Maps
set_option linter.unusedVariables false
set_option linter.unusedSimpArgs false

theorem expL_len (ds : List De) (xs : List Vp) (hl : ds.length ≤ 50) (hok : ∀ x ∈ xs, VOk x.1) : (expL ds (xs.map Prod.fst)).length ≤ 2550 := by
  have e : expR ds (xs.map Prod.fst) = ds :: fpL ds xs := by unfold expR; rw [fpL_eq]
  unfold expL
  rw [e]
  have h1 := mergeR_len (ds :: fpL ds xs) (ds :: fpL ds xs).length (Nat.le_refl _)
  rw [List.take_length] at h1
  have h2 := tot_le (ls := ds :: fpL ds xs) (n := 50) (fun l h => by
    rcases List.mem_cons.1 h with rfl | h
    · exact hl
    · obtain ⟨x, hx, rfl⟩ := fpL_mem h
      exact (hok x hx).len)
  have h3 := fpL_len ds xs
  have h4 : (ds :: fpL ds xs).length * 50 ≤ 51 * 50 := Nat.mul_le_mul_right _ (by simp; omega)
  omega
theorem red_srt {p : List De} {l : List Ve} (hp : Srt p) : Srt (redL p l) := ⟨fun d hd => hp.1 d (red_sub hd), hp.2.sublist List.filter_sublist⟩
theorem refPSame_t5 (v1 v2 : Value) (l : List De) (w : World) (hl : l.length ≤ 1000000) (h1 : DepAt w v1 l) (h2 : DepAt w v2 l) :
    Calls Try.prog 13 #[v1, v2] w fun e w' => e = .returned (.bool true) ∧ Below w.heap.size w w' := by
  have h := refPSame_any v1 v2 l l w hl h1 h2
  rw [show decide (l = l) = true from decide_eq_true rfl] at h
  exact h
/-- What 'made' made, with what is known of it. -/
structure Made (w : World) (u : Value) (xs : List Vp) (ws : List Wr) : Prop where
  row : VRow w u xs
  map : xs.map Prod.fst = mkV ws
theorem Made.below {w w' : World} {u : Value} {xs : List Vp} {ws : List Wr} (h : Made w u xs ws) (hb : Below w.heap.size w w') : Made w' u xs ws := ⟨h.row.below hb, h.map⟩
theorem Made.inv {w : World} {u : Value} {xs : List Vp} {ws : List Wr} (h : Made w u xs ws) : Inv (xs.map Prod.fst) := by rw [h.map]; exact (mkV_inv ws).1
theorem Made.len {w : World} {u : Value} {xs : List Vp} {ws : List Wr} (h : Made w u xs ws) : xs.length ≤ 14 := by
  have := (mkV_inv ws).2
  rw [← h.map, List.length_map] at this
  exact this
theorem Made.ok {w : World} {u : Value} {xs : List Vp} {ws : List Wr} (h : Made w u xs ws) : ∀ x ∈ xs, VOk x.1 := fun x hx =>
  inv_ok h.inv (by rw [List.length_map]; exact h.len) x.1 (List.mem_map.2 ⟨x, hx, rfl⟩)
end Go.Proofs.Ytfnfpanmbmkhmaa
/- Dependencies, rows of them, a dependency with ranges, and three ints among the arguments, opened. -/
namespace Go.Proofs.Ytfnfpanmbmkhmaa
open Go.ChangeShapes Go.WideShapes Go.ChangeAt Go.RowKit Go.Joins Go.Deep
set_option linter.unusedVariables false

section
variable {H : Type} {enc : TypeId × Value → H} {P : Program} {w : World} {base : Nat} {spare : Nat → Bool} {held : Bool}

/-- Cells that read as a text and a struct of two ints. -/
theorem trod_dep {e : TypeId} {f0 f1 g0 g1 : Field} {fuel : Nat} {cs : List Value} {x : DataW H × List MemPlace} (he : P.underlying e = some (.struct #[f0, f1])) (hf : f0.offset = 0 ∧ f1.offset = 1 ∧ P.cellsOf f0.type = 1 ∧ P.cellsOf f1.type = 2)
    (hC : P.cellsOf e = 3) (h0 : P.underlying f0.type = some .string) (h1 : P.underlying f1.type = some (.struct #[g0, g1])) (hg : g0.offset = 0 ∧ g1.offset = 1 ∧ P.cellsOf g0.type = 1 ∧ P.cellsOf g1.type = 1)
    (h2 : P.underlying g0.type = some (.int .i64)) (h3 : P.underlying g1.type = some (.int .i64)) (h : DataW.trod enc P w base spare held fuel e cs = some x) :
    ∃ (k : ByteArray) (n s : Int), cs = [.string k, .int .i64 n, .int .i64 s] ∧ k.size ≤ maxLen ∧ In64 (n, s) := by
  obtain ⟨y0, y1, n', hx, hcl, k0, k1⟩ := trod_struct2 he h
  obtain ⟨a1, a2, a3, a4⟩ := hf
  obtain ⟨b1, b2, b3, b4⟩ := hg
  rw [hC] at hcl
  match cs, hcl with
  | [c0, c1, c2], _ =>
    rw [a1, a3] at k0
    rw [a2, a4] at k1
    obtain ⟨z0, z1, n2, hx2, hcl2, m0, m1⟩ := trod_struct2 h1 k1
    rw [b1, b3] at m0
    rw [b2, b4] at m1
    obtain ⟨k, e0, _, z0⟩ := DataW.trod_string h0 k0
    obtain ⟨n, e1, _, z1⟩ := DataW.trod_int h2 m0
    obtain ⟨s, e2, _, z2⟩ := DataW.trod_int h3 m1
    simp at e0 e1 e2
    subst e0 e1 e2
    exact ⟨k, n, s, rfl, z0, bounds_i64 z1, bounds_i64 z2⟩

/-- A dependency, by value. -/
theorem open_dep {r : Reach} {b0 : Nat} {e : TypeId} {f0 f1 g0 g1 : Field} {v : Value} {d : DataW H} {p : List MemPlace} (he : P.underlying e = some (.struct #[f0, f1])) (hf : f0.offset = 0 ∧ f1.offset = 1 ∧ P.cellsOf f0.type = 1 ∧ P.cellsOf f1.type = 2)
    (hC : P.cellsOf e = 3) (h0 : P.underlying f0.type = some .string) (h1 : P.underlying f1.type = some (.struct #[g0, g1])) (hg : g0.offset = 0 ∧ g1.offset = 1 ∧ P.cellsOf g0.type = 1 ∧ P.cellsOf g1.type = 1)
    (h2 : P.underlying g0.type = some (.int .i64)) (h3 : P.underlying g1.type = some (.int .i64)) (hv : Value.okWide P w r b0 e v) (h : DataW.Trod enc P w base spare held e v d p) :
    ∃ (k : ByteArray) (n s : Int), v = .agg #[.string k, .int .i64 n, .int .i64 s] ∧ k.size ≤ maxLen ∧ In64 (n, s) := by
  obtain ⟨cs, rfl, hsz⟩ := okWide_struct he hv
  obtain ⟨fuel, hf'⟩ := h
  obtain ⟨k, n, s, e1, hk, hb⟩ := trod_dep he hf hC h0 h1 hg h2 h3 hf'
  have e2 : cs = #[.string k, .int .i64 n, .int .i64 s] := by
    apply Array.ext'
    simpa [Value.cells] using e1
  subst e2
  exact ⟨k, n, s, rfl, hk, hb⟩

/-- A row of dependencies. -/
theorem open_deps {t e : TypeId} {f0 f1 g0 g1 : Field} {fuel : Nat} {v : Value} {x : DataW H × List MemPlace} (ht : P.underlying t = some (.slice e)) (he : P.underlying e = some (.struct #[f0, f1])) (hf : f0.offset = 0 ∧ f1.offset = 1 ∧ P.cellsOf f0.type = 1 ∧ P.cellsOf f1.type = 2)
    (hC : P.cellsOf e = 3) (h0 : P.underlying f0.type = some .string) (h1 : P.underlying f1.type = some (.struct #[g0, g1])) (hg : g0.offset = 0 ∧ g1.offset = 1 ∧ P.cellsOf g0.type = 1 ∧ P.cellsOf g1.type = 1)
    (h2 : P.underlying g0.type = some (.int .i64)) (h3 : P.underlying g1.type = some (.int .i64))
    (h : DataW.trod enc P w base spare held fuel t v.cells.toList = some x) (hv : ∃ a n c, v = .slice a n c) :
    ∃ l : List De, DepAt w v l ∧ Szd l ∧ ∀ d ∈ l, In64 d.2 := by
  obtain ⟨a, len, cap, rfl⟩ := hv
  rcases open_slice ht h with ⟨hcs, _⟩ | ⟨x, l, c, m, n, D, Pl, hcs, _, hl, hm, hmm, _, hi⟩
  · simp [Value.cells] at hcs
    obtain ⟨rfl, rfl, rfl⟩ := hcs
    exact ⟨[], DepAt.nil w, by simp [Szd], by simp⟩
  · simp [Value.cells] at hcs
    obtain ⟨rfl, rfl, rfl⟩ := hcs
    have hlm : len ≤ m := by rw [hmm]; split <;> omega
    have all : ∀ i, ∃ d : De, i < len → (d.1.size ≤ maxLen ∧ In64 d.2) ∧ w.cell? (x.add (i * 3)) = some (.string d.1) ∧ w.cell? (x.add (i * 3 + 1)) = some (.int .i64 d.2.1) ∧ w.cell? (x.add (i * 3 + 2)) = some (.int .i64 d.2.2) := by
      intro i
      by_cases hil : i < len
      · obtain ⟨cs', hc, ht'⟩ := hi i (by omega)
        rw [hC] at hc
        obtain ⟨k, n, s, rfl, hk, hb⟩ := trod_dep he hf hC h0 h1 hg h2 h3 ht'
        obtain ⟨_, hcl', hat⟩ := World.cells?_some hc
        refine ⟨(k, n, s), fun _ => ⟨⟨hk, hb⟩, ?_, ?_, ?_⟩⟩
        · have := hat 0 (by omega)
          simpa [Go.Deep.add_add] using this
        · have := hat 1 (by omega)
          simpa [Go.Deep.add_add] using this
        · have := hat 2 (by omega)
          simpa [Go.Deep.add_add] using this
      · exact ⟨(ByteArray.empty, 0, 0), fun hh => absurd hh hil⟩
    obtain ⟨F, hF⟩ : ∃ F : Nat → De, ∀ i, i < len → ((F i).1.size ≤ maxLen ∧ In64 (F i).2) ∧ w.cell? (x.add (i * 3)) = some (.string (F i).1) ∧ w.cell? (x.add (i * 3 + 1)) = some (.int .i64 (F i).2.1) ∧ w.cell? (x.add (i * 3 + 2)) = some (.int .i64 (F i).2.2) :=
      ⟨fun i => (all i).choose, fun i => (all i).choose_spec⟩
    obtain ⟨b, off, spot⟩ := x
    refine ⟨(List.range len).map F, ⟨some ⟨b, off, spot⟩, cap, by simp, by simpa using hl, hm, by simp, ?_⟩, ?_, ?_⟩
    · intro i hi
      have hi' : i < len := by simpa using hi
      have hspot : spot = none := by
        have := (hF 0 (by omega)).2.1
        simpa [Addr.add] using World.cell?_spot this
      subst hspot
      have q0 := (hF i hi').2.1
      have q1 := (hF i hi').2.2.1
      have q2 := (hF i hi').2.2.2
      rw [Addr.add_lit] at q0 q1 q2
      refine ⟨b, off, rfl, World.block_lt_of_cell? w _ q0, ?_, ?_, ?_⟩
      · simp only [List.getElem_map, List.getElem_range]
        exact q0
      · simp only [List.getElem_map, List.getElem_range]
        rw [Nat.add_assoc]
        exact q1
      · simp only [List.getElem_map, List.getElem_range]
        rw [Nat.add_assoc]
        exact q2
    · intro d hd
      simp at hd
      obtain ⟨i, hi, rfl⟩ := hd
      have := (hF i hi).1.1
      unfold maxLen at this
      exact this
    · intro d hd
      simp at hd
      obtain ⟨i, hi, rfl⟩ := hd
      exact (hF i hi).1.2

/-- A struct of a dependency and a row of ranges, by value. -/
theorem open_ask {r : Reach} {b0 : Nat} {t : TypeId} {f0 f1 g0 g1 : Field} {F G : Field} {R : TypeId} {r0 r1 : Field} {v : Value} {d : DataW H} {p : List MemPlace} (ht : P.underlying t = some (.struct #[F, G])) (hF : F.offset = 0 ∧ G.offset = 3 ∧ P.cellsOf G.type = 1) (hT : P.cellsOf t = 4)
    (he : P.underlying F.type = some (.struct #[f0, f1])) (hf : f0.offset = 0 ∧ f1.offset = 1 ∧ P.cellsOf f0.type = 1 ∧ P.cellsOf f1.type = 2)
    (hC : P.cellsOf F.type = 3) (h0 : P.underlying f0.type = some .string) (h1 : P.underlying f1.type = some (.struct #[g0, g1])) (hg : g0.offset = 0 ∧ g1.offset = 1 ∧ P.cellsOf g0.type = 1 ∧ P.cellsOf g1.type = 1)
    (h2 : P.underlying g0.type = some (.int .i64)) (h3 : P.underlying g1.type = some (.int .i64))
    (hG : P.underlying G.type = some (.slice R)) (hR : P.underlying R = some (.struct #[r0, r1])) (hone : oneCellFields P #[r0, r1] = true) (hRC : P.cellsOf R = 2) (hr0 : P.underlying r0.type = some .string) (hr1 : P.underlying r1.type = some .string)
    (hv : Value.okWide P w r b0 t v) (h : DataW.Trod enc P w base spare held t v d p) :
    ∃ (k : ByteArray) (n s : Int) (a : Option Addr) (rs : List (ByteArray × ByteArray)) (cap : Nat), v = .agg #[.string k, .int .i64 n, .int .i64 s, .slice a rs.length cap] ∧ k.size ≤ maxLen ∧ In64 (n, s) ∧
      rs.length ≤ 9223372036854775807 ∧ (∀ r ∈ rs, r.1.size ≤ maxLen ∧ r.2.size ≤ maxLen) ∧ RngIn w a rs ∧ rs.length ≤ cap := by
  obtain ⟨cs, rfl, hsz⟩ := okWide_struct ht hv
  obtain ⟨fuel, hf'⟩ := h
  obtain ⟨y0, y1, n', hx, hcl, k0, k1⟩ := trod_struct2 ht hf'
  rw [hF.1, hC] at k0
  rw [hF.2.1, hF.2.2] at k1
  have e0 : (Value.agg cs).cells.toList = cs.toList := rfl
  rw [e0] at k0 k1
  obtain ⟨k, n, s, e1, hk, hb⟩ := trod_dep he hf hC h0 h1 hg h2 h3 k0
  rw [hT] at hsz
  obtain ⟨l⟩ := cs
  match l, hsz with
  | [c0, c1, c2, c3], _ =>
    simp at e1
    obtain ⟨rfl, rfl, rfl⟩ := e1
    have k2 : DataW.trod enc P w base spare held n' G.type [c3] = some y1 := by simpa using k1
    have hs : ∃ a n c, c3 = .slice a n c ∧ n ≤ c := by
      rcases open_slice hG k2 with ⟨hcs, _⟩ | ⟨x, l, c, m, n, D, Pl, hcs, _, hl, _⟩
      · simp at hcs
        exact ⟨none, 0, 0, hcs, Nat.le_refl _⟩
      · simp at hcs
        exact ⟨_, _, _, hcs, hl⟩
    obtain ⟨a, len, cap, rfl, hlc⟩ := hs
    obtain ⟨a', rs, cap', e4, q1, q2, q3⟩ := open_ranges (v := .slice a len cap) hG hR hone hRC hr0 hr1 (by simpa [Value.cells] using k2) ⟨_, _, _, rfl⟩
    cases e4
    exact ⟨k, n, s, a, rs, cap, rfl, hk, hb, q1, q2, q3, hlc⟩

/-- An array of three ints. -/
theorem open_ints3 {r : Reach} {b0 : Nat} {t e : TypeId} {v : Value} {d : DataW H} {p : List MemPlace}
    (ht : P.underlying t = some (.array 3 e)) (he : P.underlying e = some (.int .i64)) (hc : P.cellsOf t = 3) (hce : P.cellsOf e = 1)
    (hv : Value.okWide P w r b0 t v) (h : DataW.Trod enc P w base spare held t v d p) :
    ∃ q0 q1 q2 : Int, v = .agg #[.int .i64 q0, .int .i64 q1, .int .i64 q2] ∧ (-9223372036854775808 ≤ q0 ∧ q0 ≤ 9223372036854775807) ∧ (-9223372036854775808 ≤ q1 ∧ q1 ≤ 9223372036854775807) ∧ (-9223372036854775808 ≤ q2 ∧ q2 ≤ 9223372036854775807) := by
  obtain ⟨cs, rfl, hl, hx⟩ := open_arr ht hc hce hv h
  match cs, hl with
  | [c0, c1, c2], _ =>
    obtain ⟨_, _, k0⟩ := hx 0 (by simp)
    obtain ⟨_, _, k1⟩ := hx 1 (by simp)
    obtain ⟨_, _, k2⟩ := hx 2 (by simp)
    obtain ⟨n0, e0, _, w0⟩ := DataW.trod_int he k0
    obtain ⟨n1, e1, _, w1⟩ := DataW.trod_int he k1
    obtain ⟨n2, e2, _, w2⟩ := DataW.trod_int he k2
    simp at e0 e1 e2
    subst e0 e1 e2
    exact ⟨n0, n1, n2, rfl, bounds_i64 w0, bounds_i64 w1, bounds_i64 w2⟩
end
end Go.Proofs.Ytfnfpanmbmkhmaa
/- Rows of writes, and what is another thing, among the arguments, opened. -/
namespace Go.Proofs.Ytfnfpanmbmkhmaa
open Go.ChangeShapes Go.WideShapes Go.ChangeAt Go.RowKit Go.Joins Go.Deep
set_option linter.unusedVariables false

section
variable {H : Type} {enc : TypeId × Value → H} {P : Program} {w : World} {base : Nat} {spare : Nat → Bool} {held : Bool}

/-- A slice of ints in a cell. -/
theorem trod_ints {t e : TypeId} {fuel : Nat} {c : Value} {x : DataW H × List MemPlace} (ht : P.underlying t = some (.slice e)) (he : P.underlying e = some (.int .i64)) (hc : P.cellsOf e = 1) (h : DataW.trod enc P w base spare held fuel t [c] = some x) :
    ∃ (a : Option Addr) (l : List Int) (cap : Nat), c = .slice a l.length cap ∧ l.length ≤ 9223372036854775807 ∧ IntsIn w a l := by
  rcases open_ints ht he hc h with ⟨hcs, _⟩ | ⟨x, len, cap, zs, hcs, _, hl, hm, hz, _, hcell, hwz⟩
  · simp at hcs
    exact ⟨none, [], 0, hcs, by simp, fun i h => absurd h (by simp)⟩
  · simp at hcs
    have hle : len ≤ zs.length := by rw [hz]; split <;> omega
    unfold maxLen at hm
    obtain ⟨b, off, spot⟩ := x
    refine ⟨some ⟨b, off, spot⟩, zs.take len, cap, by rw [hcs]; simp; omega, by simp; omega, fun i hi => ?_⟩
    have hi' : i < zs.length := by simp at hi; omega
    have hcl := hcell i hi'
    have hspot : spot = none := by simpa [Addr.add] using World.cell?_spot (hcell 0 (by omega))
    subst hspot
    rw [Addr.add_lit] at hcl
    refine ⟨b, off, rfl, World.block_lt_of_cell? w _ hcl, ?_⟩
    have e : (zs.take len)[i] = zs[i] := by simp
    rw [e]
    simpa [List.getD_eq_getElem?_getD, hi'] using hcl
/-- Cells that read as a write. -/
theorem trod_write {t e s : TypeId} {f0 f1 f2 : Field} {fuel : Nat} {cs : List Value} {x : DataW H × List MemPlace} (he : P.underlying e = some (.struct #[f0, f1, f2])) (hone : oneCellFields P #[f0, f1, f2] = true) (hC : P.cellsOf e = 3)
    (h0 : P.underlying f0.type = some (.int .i64)) (h1 : P.underlying f1.type = some (.int .i64)) (h2 : P.underlying f2.type = some (.slice s)) (hs : P.underlying s = some (.int .i64)) (hsc : P.cellsOf s = 1)
    (h : DataW.trod enc P w base spare held fuel e cs = some x) :
    ∃ (r : Wr) (a : Option Addr) (cap : Nat), cs = [.int .i64 r.key, .int .i64 r.site, .slice a r.saw.length cap] ∧ r.saw.length ≤ 9223372036854775807 ∧ IntsIn w a r.saw := by
  obtain ⟨y0, y1, y2, n', hx, hcl, k0, k1, k2⟩ := trod_struct3 he h
  obtain ⟨o0, j0⟩ := hone_of hone 0 f0 rfl
  obtain ⟨o1, j1⟩ := hone_of hone 1 f1 rfl
  obtain ⟨o2, j2⟩ := hone_of hone 2 f2 rfl
  rw [hC] at hcl
  match cs, hcl with
  | [c0, c1, c2], _ =>
    rw [o0, j0] at k0
    rw [o1, j1] at k1
    rw [o2, j2] at k2
    obtain ⟨k, e0, _, _⟩ := DataW.trod_int h0 k0
    obtain ⟨st, e1, _, _⟩ := DataW.trod_int h1 k1
    simp at e0 e1
    subst e0 e1
    obtain ⟨a, l, cap, e2, hl, hi⟩ := trod_ints h2 hs hsc (by simpa using k2)
    subst e2
    exact ⟨⟨k, st, l⟩, a, cap, rfl, hl, hi⟩
/-- A row of writes. -/
theorem open_writes {t e s : TypeId} {f0 f1 f2 : Field} {fuel : Nat} {v : Value} {x : DataW H × List MemPlace} (ht : P.underlying t = some (.slice e)) (he : P.underlying e = some (.struct #[f0, f1, f2])) (hone : oneCellFields P #[f0, f1, f2] = true) (hC : P.cellsOf e = 3)
    (h0 : P.underlying f0.type = some (.int .i64)) (h1 : P.underlying f1.type = some (.int .i64)) (h2 : P.underlying f2.type = some (.slice s)) (hs : P.underlying s = some (.int .i64)) (hsc : P.cellsOf s = 1)
    (h : DataW.trod enc P w base spare held fuel t v.cells.toList = some x) (hv : ∃ a n c, v = .slice a n c) :
    ∃ (a : Option Addr) (ws : List Wr) (cap : Nat), v = .slice a ws.length cap ∧ ws.length ≤ 9223372036854775807 ∧ WrIn w a ws := by
  obtain ⟨a, len, cap, rfl⟩ := hv
  rcases open_slice ht h with ⟨hcs, _⟩ | ⟨x, l, c, m, n, D, Pl, hcs, _, hl, hm, hmm, _, hi⟩
  · simp [Value.cells] at hcs
    obtain ⟨rfl, rfl, rfl⟩ := hcs
    exact ⟨none, [], 0, rfl, by simp, fun i h => absurd h (by simp)⟩
  · simp [Value.cells] at hcs
    obtain ⟨rfl, rfl, rfl⟩ := hcs
    have hlm : len ≤ m := by rw [hmm]; split <;> omega
    unfold maxLen at hm
    have all : ∀ i, ∃ z : Wr × Option Addr × Nat, i < len → w.cell? (x.add (i * 3)) = some (.int .i64 z.1.key) ∧ w.cell? (x.add (i * 3 + 1)) = some (.int .i64 z.1.site) ∧ w.cell? (x.add (i * 3 + 2)) = some (.slice z.2.1 z.1.saw.length z.2.2) ∧ z.1.saw.length ≤ 9223372036854775807 ∧ IntsIn w z.2.1 z.1.saw := by
      intro i
      by_cases hil : i < len
      · obtain ⟨cs', hc, ht'⟩ := hi i (by omega)
        rw [hC] at hc
        obtain ⟨r, a, q, rfl, hrl, hin⟩ := trod_write (t := t) he hone hC h0 h1 h2 hs hsc ht'
        obtain ⟨_, hcl', hat⟩ := World.cells?_some hc
        refine ⟨(r, a, q), fun _ => ⟨?_, ?_, ?_, hrl, hin⟩⟩
        · have := hat 0 (by omega)
          simpa [Go.Deep.add_add] using this
        · have := hat 1 (by omega)
          simpa [Go.Deep.add_add] using this
        · have := hat 2 (by omega)
          simpa [Go.Deep.add_add] using this
      · exact ⟨(⟨0, 0, []⟩, none, 0), fun hh => absurd hh hil⟩
    obtain ⟨F, hF⟩ : ∃ F : Nat → Wr × Option Addr × Nat, ∀ i, i < len → w.cell? (x.add (i * 3)) = some (.int .i64 (F i).1.key) ∧ w.cell? (x.add (i * 3 + 1)) = some (.int .i64 (F i).1.site) ∧ w.cell? (x.add (i * 3 + 2)) = some (.slice (F i).2.1 (F i).1.saw.length (F i).2.2) ∧ (F i).1.saw.length ≤ 9223372036854775807 ∧ IntsIn w (F i).2.1 (F i).1.saw :=
      ⟨fun i => (all i).choose, fun i => (all i).choose_spec⟩
    obtain ⟨b, off, spot⟩ := x
    refine ⟨some ⟨b, off, spot⟩, (List.range len).map (fun i => (F i).1), cap, by simp, by simp; omega, ?_⟩
    intro i hi
    have hi' : i < len := by simpa using hi
    have hspot : spot = none := by
      have := (hF 0 (by omega)).1
      simpa [Addr.add] using World.cell?_spot this
    subst hspot
    obtain ⟨q0, q1, q2, q3, q4⟩ := hF i hi'
    rw [Addr.add_lit] at q0 q1 q2
    simp only [List.getElem_map, List.getElem_range]
    exact ⟨b, off, (F i).2.1, (F i).2.2, rfl, World.block_lt_of_cell? w _ q0, q0, by rw [Nat.add_assoc]; exact q1, by rw [Nat.add_assoc]; exact q2, q3, q4⟩

/-- What is another thing: two ints, a bool, a dependency, by value. -/
theorem open_change {r : Reach} {b0 : Nat} {t e : TypeId} {F0 F1 F2 F3 f0 f1 g0 g1 : Field} {v : Value} {d : DataW H} {p : List MemPlace} (ht : P.underlying t = some (.struct #[F0, F1, F2, F3])) (hF : F0.offset = 0 ∧ F1.offset = 1 ∧ F2.offset = 2 ∧ F3.offset = 3 ∧ P.cellsOf F0.type = 1 ∧ P.cellsOf F1.type = 1 ∧ P.cellsOf F2.type = 1) (hT : P.cellsOf t = 6)
    (i0 : P.underlying F0.type = some (.int .i64)) (i1 : P.underlying F1.type = some (.int .i64)) (i2 : P.underlying F2.type = some .bool)
    (he : P.underlying F3.type = some (.struct #[f0, f1])) (hf : f0.offset = 0 ∧ f1.offset = 1 ∧ P.cellsOf f0.type = 1 ∧ P.cellsOf f1.type = 2)
    (hC : P.cellsOf F3.type = 3) (h0 : P.underlying f0.type = some .string) (h1 : P.underlying f1.type = some (.struct #[g0, g1])) (hg : g0.offset = 0 ∧ g1.offset = 1 ∧ P.cellsOf g0.type = 1 ∧ P.cellsOf g1.type = 1)
    (h2 : P.underlying g0.type = some (.int .i64)) (h3 : P.underlying g1.type = some (.int .i64)) (hv : Value.okWide P w r b0 t v) (h : DataW.Trod enc P w base spare held t v d p) :
    ∃ (wh at_ : Int) (al : Bool) (k : ByteArray) (n s : Int), v = .agg #[.int .i64 wh, .int .i64 at_, .bool al, .string k, .int .i64 n, .int .i64 s] ∧ k.size ≤ maxLen ∧ In64 (n, s) := by
  obtain ⟨cs, rfl, hsz⟩ := okWide_struct ht hv
  obtain ⟨fuel, hf'⟩ := h
  obtain ⟨y0, y1, y2, y3, n', hx, hcl, k0, k1, k2, k3⟩ := trod_struct4 ht hf'
  obtain ⟨q0, q1, q2, q3, q4, q5, q6⟩ := hF
  rw [q0, q4] at k0
  rw [q1, q5] at k1
  rw [q2, q6] at k2
  rw [q3, hC] at k3
  have e0 : (Value.agg cs).cells.toList = cs.toList := rfl
  rw [e0] at k0 k1 k2 k3
  obtain ⟨k, n, s, e1, hk, hb⟩ := trod_dep he hf hC h0 h1 hg h2 h3 k3
  rw [hT] at hsz
  obtain ⟨l⟩ := cs
  match l, hsz with
  | [c0, c1, c2, c3, c4, c5], _ =>
    simp at e1
    obtain ⟨rfl, rfl, rfl⟩ := e1
    obtain ⟨wh, e2, _, _⟩ := DataW.trod_int i0 k0
    obtain ⟨at_, e3, _, _⟩ := DataW.trod_int i1 k1
    simp at e2 e3
    subst e2 e3
    obtain ⟨al, e4⟩ : ∃ al, c2 = .bool al := by
      obtain ⟨al, e4, _⟩ := DataW.trod_bool i2 k2
      simp at e4
      exact ⟨al, e4⟩
    subst e4
    exact ⟨wh, at_, al, k, n, s, rfl, hk, hb⟩
end
end Go.Proofs.Ytfnfpanmbmkhmaa
