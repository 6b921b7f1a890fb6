/- HelpMixes: the walk. -/
import Derived.Test.YtmdblhgnncfooaaHG
namespace Go.Proofs.Ytmdblhgnncfooaa
open Go.ChangeShapes Go.WideShapes Go.ChangeAt Go.RowKit
open HM
set_option linter.unusedVariables false
set_option maxRecDepth 100000 in
theorem helpMixes_walk (w : World) (x : Int) (hx : -9223372036854775808 ≤ x ∧ x ≤ 9223372036854775807) (y : Int) (hy : -9223372036854775808 ≤ y ∧ y ≤ 9223372036854775807) : Calls Try.prog 8 #[.int .i64 x, .int .i64 y] w fun e w' => e = .returned (.bool true) ∧ Below w.heap.size w w' := by
  have hk := Lib.hid (known_any w)
  have h1 := fun w => mix_any x y w
  have h2 := fun w => refMix_any x y w
  have h3 := fun w => mix_any y x w
  have h4 := fun w => refMix_any y x w
  generalize mixV x y = m at *
  generalize mixV y x = k at *
  go_enter Try.func8, Try.ntmps8
  go_wp2_with fail
  refine hk.out.mono ?_
  rintro e w' ⟨rfl, hB⟩
  go_wp2_with fail
  refine (h1 _).mono ?_
  rintro e w' ⟨rfl, rfl⟩
  go_wp2_with fail
  refine (h2 _).mono ?_
  rintro e w' ⟨rfl, rfl⟩
  go_wp2_with fail
  refine (h3 _).mono ?_
  rintro e w' ⟨rfl, rfl⟩
  go_wp2_with fail
  refine (h4 _).mono ?_
  rintro e w' ⟨rfl, rfl⟩
  go_wp2_with fail
  go_ret
  exact ⟨by simp, hB⟩
end Go.Proofs.Ytmdblhgnncfooaa
