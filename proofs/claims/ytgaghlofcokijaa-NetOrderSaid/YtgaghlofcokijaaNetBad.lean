/- What the methods answer where there is no session. -/
import Derived.Test.YtgaghlofcokijaaNetNet
namespace Go.Proofs.Ytgaghlofcokijaa
open Go.RowKit
set_option linter.unusedVariables false
set_option linter.unusedSimpArgs false

set_option maxRecDepth 100000 in
theorem nsend_bad (nv : Value) (a b : Int) (d : ByteArray) (w : World) (hs : NoSes w nv a b) :
    Calls Try.prog 11 #[nv, .int .i64 a, .int .i64 b, .string d] w fun e w' => e = .returned (.int .i64 1) ∧ w' = w := by
  have hs := hs w (Below.refl _ _)
  go_enter Try.func11, Try.ntmps11
  go_wp2_with fail
  refine hs.mono ?_
  rintro e w2 ⟨rfl, rfl⟩
  go_wp2
  go_ret
  exact ⟨rfl, rfl⟩
set_option maxRecDepth 100000 in
theorem npick_bad (nv : Value) (a b at' how : Int) (w : World) (hs : NoSes w nv a b) :
    Calls Try.prog 13 #[nv, .int .i64 a, .int .i64 b, .int .i64 at', .int .i64 how] w fun e w' => e = .returned (.tuple #[.string ⟨#[]⟩, .bool false]) ∧ w' = w := by
  have hs := hs w (Below.refl _ _)
  go_enter Try.func13, Try.ntmps13
  go_wp2_with fail
  refine hs.mono ?_
  rintro e w2 ⟨rfl, rfl⟩
  go_wp2_with fail
  refine (has_none at' w2).mono ?_
  rintro e w3 ⟨rfl, rfl⟩
  go_wp2
  go_ret2
  exact ⟨rfl, rfl⟩
set_option maxRecDepth 100000 in
theorem ntakes_bad (nv : Value) (a b at' : Int) (w : World) (hs : NoSes w nv a b) :
    Calls Try.prog 17 #[nv, .int .i64 a, .int .i64 b, .int .i64 at'] w fun e w' => e = .returned (.tuple #[.string ⟨#[]⟩, .bool false]) ∧ w' = w := by
  have hs := hs w (Below.refl _ _)
  go_enter Try.func17, Try.ntmps17
  go_wp2_with fail
  refine hs.mono ?_
  rintro e w2 ⟨rfl, rfl⟩
  go_wp2_with fail
  refine (has_none at' w2).mono ?_
  rintro e w3 ⟨rfl, rfl⟩
  go_wp2
  go_ret2
  exact ⟨rfl, rfl⟩
set_option maxRecDepth 100000 in
theorem nagain_bad (nv : Value) (a b : Int) (w : World) (hs : NoSes w nv a b) :
    Calls Try.prog 12 #[nv, .int .i64 a, .int .i64 b] w fun e w' => e = .returned (.int .i64 0) ∧ w' = w := by
  have hs := hs w (Below.refl _ _)
  go_enter Try.func12, Try.ntmps12
  go_wp2_with fail
  refine hs.mono ?_
  rintro e w2 ⟨rfl, rfl⟩
  go_wp2
  go_ret
  exact ⟨rfl, rfl⟩
set_option maxRecDepth 100000 in
theorem nopen_bad (nv : Value) (a b : Int) (w : World) (hs : NoSes w nv a b) :
    Calls Try.prog 14 #[nv, .int .i64 a, .int .i64 b] w fun e w' => e = .returned (.int .i64 0) ∧ w' = w := by
  have hs := hs w (Below.refl _ _)
  go_enter Try.func14, Try.ntmps14
  go_wp2_with fail
  refine hs.mono ?_
  rintro e w2 ⟨rfl, rfl⟩
  go_wp2
  go_ret
  exact ⟨rfl, rfl⟩
set_option maxRecDepth 100000 in
theorem nflying_bad (nv : Value) (a b : Int) (w : World) (hs : NoSes w nv a b) :
    Calls Try.prog 15 #[nv, .int .i64 a, .int .i64 b] w fun e w' => e = .returned (.slice none 0 0) ∧ w' = w := by
  have hs := hs w (Below.refl _ _)
  go_enter Try.func15, Try.ntmps15
  go_wp2_with fail
  refine hs.mono ?_
  rintro e w2 ⟨rfl, rfl⟩
  go_wp2
  go_ret
  exact ⟨rfl, rfl⟩
set_option maxRecDepth 100000 in
theorem nidle_nil (w : World) :
    Calls Try.prog 16 #[.pointer none] w fun e w' => e = .returned (.bool false) ∧ w' = w := by
  go_enter Try.func16, Try.ntmps16
  go_wp2
  go_ret
  exact ⟨rfl, rfl⟩
end Go.Proofs.Ytgaghlofcokijaa
