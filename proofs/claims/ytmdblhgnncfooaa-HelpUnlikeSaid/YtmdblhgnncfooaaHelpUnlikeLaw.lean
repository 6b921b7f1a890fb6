/- HelpUnlike: the walk. -/
import Derived.Test.YtmdblhgnncfooaaHG
namespace Go.Proofs.Ytmdblhgnncfooaa
open Go.ChangeShapes Go.WideShapes Go.ChangeAt Go.RowKit
open HM
set_option linter.unusedVariables false
set_option maxRecDepth 100000 in
theorem helpUnlike_walk (w : World) (x : Int) (hx : -9223372036854775808 ≤ x ∧ x ≤ 9223372036854775807) (y : Int) (hy : -9223372036854775808 ≤ y ∧ y ≤ 9223372036854775807) (z : Int) (hz : -9223372036854775808 ≤ z ∧ z ≤ 9223372036854775807) :
    Calls Try.prog 14 #[.int .i64 x, .int .i64 y, .int .i64 z] w fun e w' => e = .returned (.bool true) ∧ Below w.heap.size w w' := by
  have hk := Lib.hid (known_any w)
  by_cases hyz : y = z
  · subst hyz
    have h1 := fun w => mix_any x y w
    have h3 := fun w => mix_any y x w
    generalize mixV x y = m at *
    generalize mixV y x = k at *
    go_enter Try.func14, Try.ntmps14
    go_wp2_with fail
    refine hk.out.mono ?_
    rintro e w' ⟨rfl, hB⟩
    go_wp2_with fail
    refine (h1 _).mono ?_
    rintro e w' ⟨rfl, rfl⟩
    go_wp2_with fail
    refine (h1 _).mono ?_
    rintro e w' ⟨rfl, rfl⟩
    go_wp2_with fail
    refine (h3 _).mono ?_
    rintro e w' ⟨rfl, rfl⟩
    go_wp2_with fail
    refine (h3 _).mono ?_
    rintro e w' ⟨rfl, rfl⟩
    go_wp2_with fail
    go_ret
    exact ⟨by simp, hB⟩
  · have h1 := fun w => mix_any x y w
    have h2 := fun w => mix_any x z w
    have h3 := fun w => mix_any y x w
    have h4 := fun w => mix_any z x w
    have e1 : (mixV x y != mixV x z) = true := by simpa using fun h => hyz (mixV_left x y z ⟨hy.1, by omega⟩ ⟨hz.1, by omega⟩ h)
    have e2 : (mixV y x != mixV z x) = true := by simpa using fun h => hyz (mixV_right y x z ⟨hy.1, by omega⟩ ⟨hz.1, by omega⟩ h)
    have e3 : (y == z) = false := by simpa using hyz
    generalize mixV x y = m1 at *
    generalize mixV x z = m2 at *
    generalize mixV y x = m3 at *
    generalize mixV z x = m4 at *
    clear hyz
    go_enter Try.func14, Try.ntmps14
    go_wp2_with fail
    refine hk.out.mono ?_
    rintro e w' ⟨rfl, hB⟩
    go_wp2_with fail
    refine (h1 _).mono ?_
    rintro e w' ⟨rfl, rfl⟩
    go_wp2_with fail
    refine (h2 _).mono ?_
    rintro e w' ⟨rfl, rfl⟩
    go_wp2_with fail
    refine (h3 _).mono ?_
    rintro e w' ⟨rfl, rfl⟩
    go_wp2_with fail
    refine (h4 _).mono ?_
    rintro e w' ⟨rfl, rfl⟩
    go_wp2_with fail
    go_ret
    exact ⟨by simp, hB⟩
end Go.Proofs.Ytmdblhgnncfooaa
