/- Package pack: PackAgain's walk: any program, checked, made a container, written, read, and read as a program. -/
import Derived.Test.YtlodoinmippebaaDoorPkPP
namespace Go.Proofs.YtlodoinmippebaaDoor.Pak
open Go.ChangeShapes Go.WideShapes Go.ChangeAt Go.RowKit
open Cod
set_option linter.unusedVariables false
set_option linter.unusedSimpArgs false
set_option maxRecDepth 100000
theorem fb_cells {w : World} {g : Nat} {t : TypeId} {n : Nat} {f : Nat → Value} (h : FB w g t n f) : ∀ k, k < n → w.cell? ⟨g, 0 + k, none⟩ = some (f k) := fun k hk => by rw [Nat.zero_add]; exact h.cell k hk
theorem samePg_self (g : Pg) : samePg g g = true := (samePg_iff g g).2 rfl
theorem samePk_self (k : Pk) : samePk k k = true := (samePk_iff k k).2 rfl
structure BxS (ga : Nat) (t : TypeId) (X : Nat → Value) (W : World) : Prop where
  a : FB W ga t 5 X
end Go.Proofs.YtlodoinmippebaaDoor.Pak
