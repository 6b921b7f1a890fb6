/- Contracts of word.Holds and what it calls. -/
import Derived.Test.YtjhgjplhhhgfcaaRows
import Derived.WalkKit
import Derived.ProofKit
import Derived.OpenShut
import Derived.Lib.Hide
namespace Go.Proofs.Ytjhgjplhhhgfcaa
open Go.ChangeShapes Go.WideShapes Go.ChangeAt Go.RowKit

def cmpM (x y : Int) : Int := if x < y then -1 else if y < x then 1 else 0

def standsM (op o : Int) : Bool :=
  if (op == 32) = true then decide (0 < -o) || (-o == 0)
  else if (op == 36) = true then decide (0 < -o) || (-o == 0)
  else if (op == 30) = true then decide (0 < o) || (o == 0)
  else if (op == 34) = true then decide (0 < o) || (o == 0)
  else if (op == 27) = true then o == 0
  else if (op == 31) = true then decide (0 < -o)
  else if (op == 35) = true then decide (0 < -o)
  else if (op == 29) = true then decide (0 < o)
  else if (op == 33) = true then decide (0 < o)
  else if (op == 28) = true then o != 0
  else false

def S32 (x : Int) : Int := IntKind.u64.wrap (wrap64 (IntKind.u64.wrap (x * 4294967296)) / 4294967296)
theorem cmpM_cases (x y : Int) : cmpM x y = -1 ∨ cmpM x y = 0 ∨ cmpM x y = 1 := by
  unfold cmpM; split
  · exact .inl rfl
  · split
    · exact .inr (.inr rfl)
    · exact .inr (.inl rfl)

theorem signed32 (x : Int) (w : World) : Calls Try.prog 67 #[.int .u64 x, .int .i64 32] w fun e w' => e = .returned (.int .u64 (S32 x)) ∧ w = w' := by
  go_enter Try.func67, Try.ntmps67
  go_wp2
  go_ret
  exact ⟨rfl, rfl⟩

def holdsW (op x y : Int) : Bool :=
  if (op == 37) = true then bits BinOp.and IntKind.u64 x y != 0
  else if (op == 33) = true then standsM op (cmpM (wrap64 x) (wrap64 y))
  else if (op == 34) = true then standsM op (cmpM (wrap64 x) (wrap64 y))
  else if (op == 35) = true then standsM op (cmpM (wrap64 x) (wrap64 y))
  else if (op == 36) = true then standsM op (cmpM (wrap64 x) (wrap64 y))
  else standsM op (cmpM x y)
def holdsM (op : Int) (n : Bool) (a b : Int) : Bool :=
  if n = true then holdsW op (S32 (IntKind.u64.wrap a)) (S32 (IntKind.u64.wrap b)) else holdsW op (IntKind.u64.wrap a) (IntKind.u64.wrap b)

end Go.Proofs.Ytjhgjplhhhgfcaa
