/- The law's met. -/
import Derived.Test.YtejcijbohnlbgaaZT
namespace Go.Proofs.Ytejcijbohnlbgaa
open Go.ChangeShapes Go.WideShapes Go.ChangeAt Go.RowKit
open Zon
set_option linter.unusedVariables false
set_option maxRecDepth 100000
def metB (a : Nat → Int) (x : Con) : Bool := (wrong1 x == 0) && !(decide (x.c < a x.i.toNat - a x.j.toNat))
def metL (L : List Con) (a : Nat → Int) : List Con := L.filter (metB a)
end Go.Proofs.Ytejcijbohnlbgaa
