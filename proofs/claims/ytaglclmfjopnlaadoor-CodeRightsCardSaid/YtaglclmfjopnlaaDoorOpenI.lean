/- An instruction that came in by value: its cells. -/
import Derived.Test.YtaglclmfjopnlaaDoorOpenC
import Derived.Test.YtaglclmfjopnlaaDoorCodeU
namespace Go.Proofs.YtaglclmfjopnlaaDoor
open Go.ChangeShapes Go.WideShapes Go.ChangeAt Go.RowKit Go.Deep
open Cod Bits
set_option linter.unusedVariables false
theorem open_ins {H : Type} {enc : TypeId × Value → H} {W : World} {base : Nat} {v1 : Value} {d1 : DataW H} {p1 : List MemPlace} (hval : Value.okWide Tryd.prog W .any base 41 v1) (h1 : DataW.Trod enc Tryd.prog W 0 (fun _ => true) true 41 v1 d1 p1) :
    ∃ i : Ins, i.rng ∧ v1 = .agg i.arr := by
  obtain ⟨cs, rfl, hsz⟩ := okWide_struct Tryd.underlying41 hval
  obtain ⟨fuel, hf⟩ := h1
  have c8 : Tryd.prog.cellsOf 41 = 8 := by kernel_rfl
  obtain ⟨i, hr, hi⟩ := ins_of_cells (by rw [← c8, ← hsz]; rfl) hf
  refine ⟨i, hr, ?_⟩
  have : cs = i.cells.toArray := by rw [← hi]; rfl
  rw [this]; rfl
end Go.Proofs.YtaglclmfjopnlaaDoor
