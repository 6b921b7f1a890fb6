/- What the laws of package code that lend a list need besides: the law's mark from the row's list; a world for the witness. -/
import Derived.Test.YtaglclmfjopnlaaDoorCodeEnd
import Derived.Test.YtaglclmfjopnlaaDoorLendC
import Derived.ChangeArms
namespace Go.Proofs.YtaglclmfjopnlaaDoor
open Go.ChangeShapes Go.WideShapes Go.ChangeAt Go.RowKit
open Cod
set_option maxRecDepth 100000

abbrev laid4 : List (String × DataW Unit) := [("warrant/code.sizes", Rows.laid_warrant_code_sizes), ("warrant/code.joinings", Rows.laid_warrant_code_joinings), ("warrant/code.jumps", Rows.laid_warrant_code_jumps), ("warrant/warrantlaw02.mark", Rows.laid_warrant_warrantlaw02_mark)]
theorem laid_three {W : World} (h : laidMetH Tryd.prog laid4 W) : laidMetH Tryd.prog laid3 W := by
  have h2 := h.filter (fun x => x.1 != "warrant/warrantlaw02.mark")
  have e : laid4.filter (fun x => x.1 != "warrant/warrantlaw02.mark") = laid3 := by kernel_rfl
  rwa [e] at h2
theorem mark_cells {H : Type} {enc : TypeId × Value → H} {W : World} {base : Nat} {sp : Nat → Bool} {held : Bool} {n : Nat} {cs : List Value} {p : List MemPlace}
    (h : DataW.trod enc Tryd.prog W base sp held n 41 cs = some (Rows.laid_warrant_warrantlaw02_mark, p)) : cs = markI.cells := by
  obtain ⟨xs, k, hk, hxy, hcl, hxl, hf⟩ := DataW.trod_struct Tryd.underlying41 h
  have c3 : Tryd.prog.cellsOf 3 = 1 := by kernel_rfl
  have c4 : Tryd.prog.cellsOf 4 = 1 := by kernel_rfl
  have c8 : Tryd.prog.cellsOf 41 = 8 := by kernel_rfl
  rw [c8] at hcl
  match xs, hxl, cs, hcl with
  | [y0, y1, y2, y3, y4, y5, y6, y7], _, [v0, v1, v2, v3, v4, v5, v6, v7], _ =>
    have g0 := hf 0 _ rfl
    have g1 := hf 1 _ rfl
    have g2 := hf 2 _ rfl
    have g3 := hf 3 _ rfl
    have g4 := hf 4 _ rfl
    have g5 := hf 5 _ rfl
    have g6 := hf 6 _ rfl
    have g7 := hf 7 _ rfl
    simp [c3, c4] at g0 g1 g2 g3 g4 g5 g6 g7
    obtain ⟨n0, e0, d0, -⟩ := DataW.trod_int Tryd.underlying3 g0
    obtain ⟨n1, e1, d1⟩ := DataW.trod_bool Tryd.underlying4 g1
    obtain ⟨n2, e2, d2⟩ := DataW.trod_bool Tryd.underlying4 g2
    obtain ⟨n3, e3, d3, -⟩ := DataW.trod_int Tryd.underlying3 g3
    obtain ⟨n4, e4, d4, -⟩ := DataW.trod_int Tryd.underlying3 g4
    obtain ⟨n5, e5, d5, -⟩ := DataW.trod_int Tryd.underlying3 g5
    obtain ⟨n6, e6, d6, -⟩ := DataW.trod_int Tryd.underlying3 g6
    obtain ⟨n7, e7, d7, -⟩ := DataW.trod_int Tryd.underlying3 g7
    have hx := congrArg Prod.fst hxy
    subst d0 d1 d2 d3 d4 d5 d6 d7
    simp only [Rows.laid_warrant_warrantlaw02_mark, List.map_cons, List.map_nil, DataW.agg.injEq, List.cons.injEq, DataW.lit.injEq, Lit.int.injEq, Lit.bool.injEq, true_and, and_true] at hx
    obtain ⟨rfl, rfl, rfl, rfl, rfl, rfl, rfl, rfl⟩ := hx
    simp only [List.cons.injEq, and_true] at e0 e1 e2 e3 e4 e5 e6 e7
    rw [e0, e1, e2, e3, e4, e5, e6, e7]; rfl
theorem mark_of {W : World} (h : laidMetH Tryd.prog laid4 W) : MarkAt W := by
  have h2 := h.filter (fun x => x.1 == "warrant/warrantlaw02.mark")
  have e : laid4.filter (fun x => x.1 == "warrant/warrantlaw02.mark") = [("warrant/warrantlaw02.mark", Rows.laid_warrant_warrantlaw02_mark)] := by kernel_rfl
  rw [e] at h2
  have h3 : laidMet Tryd.prog [("warrant/warrantlaw02.mark", Rows.laid_warrant_warrantlaw02_mark)] W := h2
  obtain ⟨ps, ⟨g', t', cs, fuel, p, q, hg', ht', hvar, hd, _, _⟩, _⟩ := h3
  have hg : Tryd.prog.globalNamed "warrant/warrantlaw02.mark" = some 0 := by kernel_rfl
  have ht : (Tryd.prog.globals[0]?).map (·.type) = some 41 := by kernel_rfl
  obtain rfl := Option.some.inj (hg.symm.trans hg')
  obtain rfl := Option.some.inj (ht.symm.trans ht')
  have hcs := mark_cells hd
  obtain rfl : cs = markI.cells.toArray := by rw [← hcs]
  have hc := fun i => World.var?_cell hg hvar i
  refine ⟨?_, hc 0, hc 1, hc 2, hc 3, hc 4, hc 5, hc 6, hc 7⟩
  exact lt_of_cell (hc 0)
def putMark : Obj → Obj
  | .cells _ t frozen => .cells markI.cells.toArray t frozen
  | o => o
noncomputable def laidWorld4 (os : Os) : World := { laidWorld os with heap := (laidWorld os).heap.modify 0 putMark }
end Go.Proofs.YtaglclmfjopnlaaDoor
