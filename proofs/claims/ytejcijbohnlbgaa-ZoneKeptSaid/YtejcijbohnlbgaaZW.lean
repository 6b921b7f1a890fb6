/- The law's meets, of an assignment that meets. -/
import Derived.Test.YtejcijbohnlbgaaZoneM5
import Derived.Test.YtejcijbohnlbgaaZT
namespace Go.Proofs.Ytejcijbohnlbgaa
open Go.ChangeShapes Go.WideShapes Go.ChangeAt Go.RowKit
open Zon
set_option linter.unusedVariables false
set_option maxRecDepth 100000
end Go.Proofs.Ytejcijbohnlbgaa
