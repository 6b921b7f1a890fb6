/- Package mach: New. -/
import Derived.Test.YtpigkppnelnhiaaGreatMcN
namespace Go.Proofs.YtpigkppnelnhiaaGreat
open Go.ChangeShapes Go.WideShapes Go.ChangeAt Go.RowKit
open Cod Bits
set_option linter.unusedVariables false
set_option linter.unusedSimpArgs false
set_option maxRecDepth 100000
def blankSt (X : List Int) : St := ⟨fun _ => V.zero, fun _ => ⟨V.zero, fun _ => 0, 0⟩, X, [], 0, 0, false⟩
/-- the state at a run's beginning -/
def startSt (X : List Int) : St := (((blankSt X).put 1 ⟨3, 0, 0, 0⟩).put 2 (V.num X.length)).put 10 ⟨2, 0, 0, 256⟩
theorem built_mach (A : Option Addr) (n c : Nat) (B : Option Addr) (m d : Nat) (D : Option Addr) (p q : Nat) (X : List Int) : Tryz.prog.built 72 [(0, .agg (arr 420 (mem0 (.slice A n c)))), (1, .slice B m d), (2, .slice D p q)] = some (arr 470 (mC (blankSt X) (.slice A n c) (.slice B m d) (.slice D p q) (.slice none 0 0))) := by kernel_rfl
end Go.Proofs.YtpigkppnelnhiaaGreat
