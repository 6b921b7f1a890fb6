/- Contracts of package span: Full, Of, Has, Low, NotZero, Bytes. -/
import Derived.Test.YtjhgjplhhhgfcaaGreatSpC
namespace Go.Proofs.YtjhgjplhhhgfcaaGreat
open Go.ChangeShapes Go.WideShapes Go.ChangeAt Go.RowKit
open Spn
namespace Spc
set_option linter.unusedVariables false
set_option maxRecDepth 100000
set_option maxHeartbeats 1000000 in
theorem full_any (w : World) : Calls Tryz.prog 22 #[] w (RetS w 0 0 true true) := by
  have b2 := Lib.hid (Blk.new w 23 zS)
  have H2 := Lib.hid (below_box' w (.cells zS 23))
  have HS := Lib.hid (fun w => span_any (-9223372036854775808) 9223372036854775807 0 0 true true rfl w)
  have HA := Lib.hid (fun w => all_any w)
  go_enter Tryz.func22, Tryz.ntmps22
  go_wp2_with fail
  refine (HA.out _).mono ?_
  rintro e w1 ⟨rfl, hB⟩
  have HR := Lib.hid (b2.out.up hB)
  have HB := Lib.hid (nx H2.out hB)
  clear hB b2 H2
  go_wp2_with fail
  refine (HS.out _).mono ?_
  rintro e w2 ⟨rfl, hB⟩
  have HR2 := Lib.hid (HR.out.up hB)
  have HB2 := Lib.hid (nx HB.out hB)
  clear hB HR HB
  obtain ⟨⟨c0, c1, c2, c3⟩, ⟨c4, c5, c6, c7⟩, c8⟩ := cells4 HR2.out
  go_wp2_with fail
  exact bodyPost_ret (v := .agg #[.int .i64 _, .int .i64 _, .bool _, .bool _]) (results_cell_row Tryz.results22 _ _ (w.heap.size) 23 #[.int .i64 _, .int .i64 _, .bool _, .bool _] (0, 0) _ rfl (set4 HR2.out _ _ _ _) Tryz.underlying23 rfl (by kernel_rfl)) rfl ⟨rfl, Below.set4 HB2.out (Nat.le_refl _) _ _ _ _⟩
def ofX (lo hi : Int) : Sp := if lo > hi then fullS else sp ⟨lo, hi⟩
end Spc
end Go.Proofs.YtjhgjplhhhgfcaaGreat
