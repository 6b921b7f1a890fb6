/- The law's awake: one answer that the document tells. -/
import Derived.Test.YtjhgjplhhhgfcaaGreatSpSr
import Derived.KernelRfl
namespace Go.Proofs.YtjhgjplhhhgfcaaGreat
open Go.ChangeShapes Go.WideShapes Go.ChangeAt Go.RowKit
open Spn
namespace Spc
set_option linter.unusedVariables false
set_option maxRecDepth 100000
theorem awake_math : aluS 1 false ⟨1, 5, false, false⟩ ⟨10, 20, false, false⟩ = ⟨11, 25, false, false⟩ := by kernel_rfl
set_option maxHeartbeats 1000000 in
theorem awake_any (w : World) : Calls Tryz.prog 7 #[] w (RetB w true) := by
  have HA := Lib.hid (fun w => Alu_of 1 1 5 false false 10 20 false false false 1 5 10 20 rfl rfl (fun h => by cases h) 11 25 false false awake_math w)
  go_enter Tryz.func7, Tryz.ntmps7
  go_wp2_with fail
  refine (HA.out _).mono ?_
  rintro e w1 ⟨rfl, hB⟩
  go_wp2_with fail
  go_ret
  exact ⟨rfl, hB⟩
end Spc
end Go.Proofs.YtjhgjplhhhgfcaaGreat
