/- What every law of package code needs: the tables from the row's list; a world for the witness. -/
import Derived.Test.YthibideapapcbaaDoorCards
import Derived.Test.YthibideapapcbaaDoorTie
import Derived.Test.YthibideapapcbaaDoorEnd
import Derived.Test.YthibideapapcbaaDoorCodeH
import Derived.Deep.DeepHandedRow
import Derived.Lib.LaidTab
import Derived.LaidSub
namespace Go.Proofs.YthibideapapcbaaDoor
open Go.ChangeShapes Go.WideShapes Go.ChangeAt Go.RowKit
open Cod

abbrev laid3 : List (String × DataW Unit) := [("warrant/code.sizes", Rows.laid_warrant_code_sizes), ("warrant/code.joinings", Rows.laid_warrant_code_joinings), ("warrant/code.jumps", Rows.laid_warrant_code_jumps)]
theorem laid_sizes {W : World} (h : laidMetH Tryd.prog laid3 W) : Lib.TabIs Tryd.prog W "warrant/code.sizes" .i64 sizeT :=
  Lib.tabIs_of_head (g := 3) (t := 114) (e := 3) (n := 4) (by kernel_rfl) (by kernel_rfl) (by kernel_rfl) (by kernel_rfl) (by kernel_rfl) (by kernel_rfl) h
theorem laid_joins {W : World} (h : laidMetH Tryd.prog laid3 W) : Lib.TabIs Tryd.prog W "warrant/code.joinings" .i64 joinT := by
  have h2 := h.filter (fun x => x.1 == "warrant/code.joinings")
  have e : laid3.filter (fun x => x.1 == "warrant/code.joinings") = [("warrant/code.joinings", Rows.laid_warrant_code_joinings)] := by kernel_rfl
  rw [e] at h2
  exact Lib.tabIs_of_head (g := 1) (t := 112) (e := 3) (n := 13) (by kernel_rfl) (by kernel_rfl) (by kernel_rfl) (by kernel_rfl) (by kernel_rfl) (by kernel_rfl) h2
theorem laid_jumps {W : World} (h : laidMetH Tryd.prog laid3 W) : Lib.TabIs Tryd.prog W "warrant/code.jumps" .i64 jumpT := by
  have h2 := h.filter (fun x => x.1 == "warrant/code.jumps")
  have e : laid3.filter (fun x => x.1 == "warrant/code.jumps") = [("warrant/code.jumps", Rows.laid_warrant_code_jumps)] := by kernel_rfl
  rw [e] at h2
  exact Lib.tabIs_of_head (g := 2) (t := 113) (e := 3) (n := 14) (by kernel_rfl) (by kernel_rfl) (by kernel_rfl) (by kernel_rfl) (by kernel_rfl) (by kernel_rfl) h2
theorem tabs_of {W : World} (h : laidMetH Tryd.prog laid3 W) : Tabs W := by
  have h1 := fun i hi => (laid_sizes h).cell (g := 3) (by kernel_rfl) i hi
  refine ⟨?_, h1, fun i hi => (laid_joins h).cell (g := 1) (by kernel_rfl) i hi, fun i hi => (laid_jumps h).cell (g := 2) (by kernel_rfl) i hi⟩
  have c := h1 0 (by decide)
  rcases Nat.lt_or_ge 3 W.heap.size with h2 | h2
  · exact h2
  · rw [World.cell?] at c
    simp [Array.getElem?_eq_none h2] at c
/-- a block's cells put anew -/
def putCells (cs : List Int) : Obj → Obj
  | .cells _ t frozen => .cells (cs.map (Value.int .i64)).toArray t frozen
  | o => o
/-- a world in which the tables hold what the start lays -/
noncomputable def laidWorld (os : Os) : World :=
  { World.holding Tryd.prog os ⟨#[], #[], []⟩ with heap := (((World.holding Tryd.prog os ⟨#[], #[], []⟩).heap.modify 1 (putCells joinT)).modify 2 (putCells jumpT)).modify 3 (putCells sizeT) }
end Go.Proofs.YthibideapapcbaaDoor
