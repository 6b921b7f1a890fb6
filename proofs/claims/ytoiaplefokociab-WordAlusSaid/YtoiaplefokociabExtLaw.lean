/- WordExtends: the walk of the law. -/
import Derived.Test.YtoiaplefokociabExt
namespace Go.Proofs.Ytoiaplefokociab
open Go.ChangeShapes Go.WideShapes Go.ChangeAt Go.RowKit
open Bits

def extI (k : Int) (n : Bool) (a : Int) : Int := if k = 8 ∨ k = 16 ∨ (k = 32 ∧ n = false) then extV k.toNat n a else 0

end Go.Proofs.Ytoiaplefokociab
