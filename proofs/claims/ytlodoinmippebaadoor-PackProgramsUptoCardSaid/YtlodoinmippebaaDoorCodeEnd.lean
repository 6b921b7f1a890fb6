/- What every law of package code needs: the tables from the row's list; a world for the witness. -/
import Derived.Test.YtlodoinmippebaaDoorCards
import Derived.Test.YtlodoinmippebaaDoorTie
import Derived.Test.YtlodoinmippebaaDoorEnd
import Derived.Test.YtlodoinmippebaaDoorCodeH
import Derived.Deep.DeepHandedRow
import Derived.Lib.LaidTab
import Derived.LaidSub
namespace Go.Proofs.YtlodoinmippebaaDoor
open Go.ChangeShapes Go.WideShapes Go.ChangeAt Go.RowKit
open Cod

abbrev laid3 : List (String × DataW Unit) := [("warrant/code.sizes", Rows.laid_warrant_code_sizes), ("warrant/code.joinings", Rows.laid_warrant_code_joinings), ("warrant/code.jumps", Rows.laid_warrant_code_jumps)]
theorem laid_sizes {W : World} (h : laidMetH Tryd.prog laid3 W) : Lib.TabIs Tryd.prog W "warrant/code.sizes" .i64 sizeT :=
  Lib.tabIs_of_head (g := 0) (t := 167) (e := 3) (n := 4) (by kernel_rfl) (by kernel_rfl) (by kernel_rfl) (by kernel_rfl) (by kernel_rfl) (by kernel_rfl) h
theorem laid_joins {W : World} (h : laidMetH Tryd.prog laid3 W) : Lib.TabIs Tryd.prog W "warrant/code.joinings" .i64 joinT := by
  have h2 := h.filter (fun x => x.1 == "warrant/code.joinings")
  have e : laid3.filter (fun x => x.1 == "warrant/code.joinings") = [("warrant/code.joinings", Rows.laid_warrant_code_joinings)] := by kernel_rfl
  rw [e] at h2
  exact Lib.tabIs_of_head (g := 1) (t := 168) (e := 3) (n := 13) (by kernel_rfl) (by kernel_rfl) (by kernel_rfl) (by kernel_rfl) (by kernel_rfl) (by kernel_rfl) h2
theorem laid_jumps {W : World} (h : laidMetH Tryd.prog laid3 W) : Lib.TabIs Tryd.prog W "warrant/code.jumps" .i64 jumpT := by
  have h2 := h.filter (fun x => x.1 == "warrant/code.jumps")
  have e : laid3.filter (fun x => x.1 == "warrant/code.jumps") = [("warrant/code.jumps", Rows.laid_warrant_code_jumps)] := by kernel_rfl
  rw [e] at h2
  exact Lib.tabIs_of_head (g := 2) (t := 169) (e := 3) (n := 14) (by kernel_rfl) (by kernel_rfl) (by kernel_rfl) (by kernel_rfl) (by kernel_rfl) (by kernel_rfl) h2
theorem lt_of_cell {W : World} {b o : Nat} {v : Value} (c : W.cell? ⟨b, o, none⟩ = some v) : b < W.heap.size := by
  rcases Nat.lt_or_ge b W.heap.size with h2 | h2
  · exact h2
  · rw [World.cell?] at c
    simp [Array.getElem?_eq_none h2] at c
theorem tabs_of {W : World} (h : laidMetH Tryd.prog laid3 W) : Tabs W := by
  have h1 := fun i hi => (laid_sizes h).cell (g := 0) (by kernel_rfl) i hi
  have h2 := fun i hi => (laid_joins h).cell (g := 1) (by kernel_rfl) i hi
  have h3 := fun i hi => (laid_jumps h).cell (g := 2) (by kernel_rfl) i hi
  refine ⟨?_, h1, h2, h3⟩
  have c1 := lt_of_cell (h1 0 (by decide))
  have c2 := lt_of_cell (h2 0 (by decide))
  have c3 := lt_of_cell (h3 0 (by decide))
  omega
/-- a block's cells put anew -/
def putCells (cs : List Int) : Obj → Obj
  | .cells _ t frozen => .cells (cs.map (Value.int .i64)).toArray t frozen
  | o => o
/-- a world in which the tables hold what the start lays -/
noncomputable def laidWorld (os : Os) : World :=
  { World.holding Tryd.prog os ⟨#[], #[], []⟩ with heap := (((World.holding Tryd.prog os ⟨#[], #[], []⟩).heap.modify 1 (putCells joinT)).modify 2 (putCells jumpT)).modify 0 (putCells sizeT) }
end Go.Proofs.YtlodoinmippebaaDoor
