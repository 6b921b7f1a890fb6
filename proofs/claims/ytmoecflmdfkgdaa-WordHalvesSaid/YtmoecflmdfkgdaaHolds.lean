/- Contracts of word.Holds and what it calls. -/
import Derived.Test.YtmoecflmdfkgdaaRows
import Derived.WalkKit
import Derived.ProofKit
import Derived.OpenShut
import Derived.Lib.Hide
namespace Go.Proofs.Ytmoecflmdfkgdaa
open Go.ChangeShapes Go.WideShapes Go.ChangeAt Go.RowKit

theorem nanI (x : Int) (w : World) : Calls Try.prog 60 #[.int .i64 x] w fun e w' => e = .returned (.bool false) ∧ w = w' := by
  go_enter Try.func60, Try.ntmps60
  go_wp2
  go_ret
  exact ⟨rfl, rfl⟩

def cmpM (x y : Int) : Int := if x < y then -1 else if y < x then 1 else 0

set_option maxHeartbeats 1000000 in
theorem cmpI (x y : Int) (w : World) : Calls Try.prog 50 #[.int .i64 x, .int .i64 y] w fun e w' => e = .returned (.int .i64 (cmpM x y)) ∧ w = w' := by
  unfold cmpM
  by_cases h : x < y
  · go_enter Try.func50, Try.ntmps50
    go_wp2_with (go_at_call 60; refine (nanI _ _).mono ?_; rintro e w' ⟨rfl, rfl⟩)
    go_ret
    exact ⟨rfl, rfl⟩
  · by_cases h2 : y < x
    · go_enter Try.func50, Try.ntmps50
      go_wp2_with (go_at_call 60; refine (nanI _ _).mono ?_; rintro e w' ⟨rfl, rfl⟩)
      go_ret
      exact ⟨rfl, rfl⟩
    · go_enter Try.func50, Try.ntmps50
      go_wp2_with (go_at_call 60; refine (nanI _ _).mono ?_; rintro e w' ⟨rfl, rfl⟩)
      go_ret
      exact ⟨rfl, rfl⟩
def standsM (op o : Int) : Bool :=
  if (op == 32) = true then decide (0 < -o) || (-o == 0)
  else if (op == 36) = true then decide (0 < -o) || (-o == 0)
  else if (op == 30) = true then decide (0 < o) || (o == 0)
  else if (op == 34) = true then decide (0 < o) || (o == 0)
  else if (op == 27) = true then o == 0
  else if (op == 31) = true then decide (0 < -o)
  else if (op == 35) = true then decide (0 < -o)
  else if (op == 29) = true then decide (0 < o)
  else if (op == 33) = true then decide (0 < o)
  else if (op == 28) = true then o != 0
  else false

set_option maxHeartbeats 2000000 in
theorem stands_any (op o : Int) (ho : o = -1 ∨ o = 0 ∨ o = 1) (w : World) : Calls Try.prog 49 #[.int .i64 op, .int .i64 o] w fun e w' => e = .returned (.bool (standsM op o)) ∧ w = w' := by
  rcases ho with rfl | rfl | rfl
  all_goals
    go_enter Try.func49, Try.ntmps49
    go_wp2
    all_goals
      go_ret
      refine ⟨?_, rfl⟩
      simp_all [standsM]
def S32 (x : Int) : Int := IntKind.u64.wrap (wrap64 (IntKind.u64.wrap (x * 4294967296)) / 4294967296)
theorem cmpM_cases (x y : Int) : cmpM x y = -1 ∨ cmpM x y = 0 ∨ cmpM x y = 1 := by
  unfold cmpM; split
  · exact .inl rfl
  · split
    · exact .inr (.inr rfl)
    · exact .inr (.inl rfl)

theorem signed32 (x : Int) (w : World) : Calls Try.prog 45 #[.int .u64 x, .int .i64 32] w fun e w' => e = .returned (.int .u64 (S32 x)) ∧ w = w' := by
  go_enter Try.func45, Try.ntmps45
  go_wp2
  go_ret
  exact ⟨rfl, rfl⟩

theorem nanU (x : Int) (w : World) : Calls Try.prog 61 #[.int .u64 x] w fun e w' => e = .returned (.bool false) ∧ w = w' := by
  go_enter Try.func61, Try.ntmps61
  go_wp2
  go_ret
  exact ⟨rfl, rfl⟩

set_option maxHeartbeats 1000000 in
theorem cmpU (x y : Int) (w : World) : Calls Try.prog 51 #[.int .u64 x, .int .u64 y] w fun e w' => e = .returned (.int .i64 (cmpM x y)) ∧ w = w' := by
  unfold cmpM
  by_cases h : x < y
  · go_enter Try.func51, Try.ntmps51
    go_wp2_with (go_at_call 61; refine (nanU _ _).mono ?_; rintro e w' ⟨rfl, rfl⟩)
    go_ret
    exact ⟨rfl, rfl⟩
  · by_cases h2 : y < x
    · go_enter Try.func51, Try.ntmps51
      go_wp2_with (go_at_call 61; refine (nanU _ _).mono ?_; rintro e w' ⟨rfl, rfl⟩)
      go_ret
      exact ⟨rfl, rfl⟩
    · go_enter Try.func51, Try.ntmps51
      go_wp2_with (go_at_call 61; refine (nanU _ _).mono ?_; rintro e w' ⟨rfl, rfl⟩)
      go_ret
      exact ⟨rfl, rfl⟩


def holdsW (op x y : Int) : Bool :=
  if (op == 37) = true then bits BinOp.and IntKind.u64 x y != 0
  else if (op == 33) = true then standsM op (cmpM (wrap64 x) (wrap64 y))
  else if (op == 34) = true then standsM op (cmpM (wrap64 x) (wrap64 y))
  else if (op == 35) = true then standsM op (cmpM (wrap64 x) (wrap64 y))
  else if (op == 36) = true then standsM op (cmpM (wrap64 x) (wrap64 y))
  else standsM op (cmpM x y)
def holdsM (op : Int) (n : Bool) (a b : Int) : Bool :=
  if n = true then holdsW op (S32 (IntKind.u64.wrap a)) (S32 (IntKind.u64.wrap b)) else holdsW op (IntKind.u64.wrap a) (IntKind.u64.wrap b)

set_option maxHeartbeats 4000000 in
theorem holds_any (op : Int) (n : Bool) (a b : Int) (w : World) : Calls Try.prog 21 #[.int .i64 op, .bool n, .int .i64 a, .int .i64 b] w fun e w' => e = .returned (.bool (holdsM op n a b)) ∧ w = w' := by
  cases n
  all_goals
    go_enter Try.func21, Try.ntmps21
    go_wp2_with (first | (go_at_call 45; refine (signed32 _ _).mono ?_; rintro e w' ⟨rfl, rfl⟩) | (go_at_call 50; refine (cmpI _ _ _).mono ?_; rintro e w' ⟨rfl, rfl⟩) | (go_at_call 51; refine (cmpU _ _ _).mono ?_; rintro e w' ⟨rfl, rfl⟩) | (go_at_call 49; refine (stands_any _ _ (cmpM_cases _ _) _).mono ?_; rintro e w' ⟨rfl, rfl⟩))
    all_goals
      go_ret
      refine ⟨congrArg (fun x => Ending.returned (.bool x)) ?_, rfl⟩
      simp only [holdsM, holdsW, if_true, if_false, Bool.false_eq_true]
      repeat (first | rw [if_pos (by assumption)] | rw [if_neg (Bool.eq_false_iff.mp (by assumption))])
end Go.Proofs.Ytmoecflmdfkgdaa
