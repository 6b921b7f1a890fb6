/- The orders of two numbers: the helper 'orders', and the law WordOrders. -/
import Derived.Test.YtmoecflmdfkgdaaHolds
namespace Go.Proofs.Ytmoecflmdfkgdaa
open Go.ChangeShapes Go.WideShapes Go.ChangeAt Go.RowKit

/-- What 'orders' asks: just one of less, equal, more; and how the others hang together. -/
def ordersOk (n : Bool) (a b lt gt le ge : Int) : Prop :=
  ((holdsM lt n a b = true ∧ holdsM gt n a b = false ∧ holdsM 27 n a b = false) ∨ (holdsM lt n a b = false ∧ holdsM gt n a b = true ∧ holdsM 27 n a b = false) ∨ (holdsM lt n a b = false ∧ holdsM gt n a b = false ∧ holdsM 27 n a b = true)) ∧
  holdsM le n a b = !holdsM gt n a b ∧ holdsM ge n a b = !holdsM lt n a b ∧ holdsM gt n b a = holdsM lt n a b ∧ holdsM ge n b a = !holdsM gt n a b

set_option maxHeartbeats 1000000 in
theorem orders_any (n : Bool) (a b lt gt le ge : Int) (h : ordersOk n a b lt gt le ge) (w : World) :
    Calls Try.prog 38 #[.bool n, .int .i64 a, .int .i64 b, .int .i64 lt, .int .i64 gt, .int .i64 le, .int .i64 ge] w fun e w' => e = .returned (.bool true) ∧ w = w' := by
  obtain ⟨h1, h2, h3, h4, h5⟩ := h
  rcases h1 with ⟨e1, e2, e3⟩ | ⟨e1, e2, e3⟩ | ⟨e1, e2, e3⟩
  all_goals
    rw [e2] at h2 h5
    rw [e1] at h3 h4
    simp only [Bool.not_true, Bool.not_false] at h2 h3 h4 h5
    go_enter Try.func38, Try.ntmps38
    go_wp2_with (go_at_call 21; refine (holds_any _ _ _ _ _).mono ?_; rintro e w' ⟨rfl, rfl⟩)
    go_ret
    exact ⟨rfl, rfl⟩
end Go.Proofs.Ytmoecflmdfkgdaa
