/- Contracts of package code: row, named, register, fits, fetches, atom. -/
import Derived.Test.YtlodoinmippebaaDoorCodeM
import Derived.Test.YtlodoinmippebaaDoorRows
import Derived.WalkKit
import Derived.ProofKit
import Derived.OpenShut
import Derived.Lib.Hide
import Derived.Below
import Derived.Deep.QuietTactic
import Derived.BigQuiet
namespace Go.Proofs.YtlodoinmippebaaDoor
open Go.ChangeShapes Go.WideShapes Go.ChangeAt Go.RowKit
open Cod
set_option linter.unusedVariables false

theorem ops_cases {op : Int} (h : 1 ≤ op ∧ op ≤ 39) : op = 1 ∨ op = 2 ∨ op = 3 ∨ op = 4 ∨ op = 5 ∨ op = 6 ∨ op = 7 ∨ op = 8 ∨ op = 9 ∨ op = 10 ∨ op = 11 ∨ op = 12 ∨ op = 13 ∨ op = 14 ∨ op = 15 ∨ op = 16 ∨ op = 17 ∨ op = 18 ∨ op = 19 ∨ op = 20 ∨ op = 21 ∨ op = 22 ∨ op = 23 ∨ op = 24 ∨ op = 25 ∨ op = 26 ∨ op = 27 ∨ op = 28 ∨ op = 29 ∨ op = 30 ∨ op = 31 ∨ op = 32 ∨ op = 33 ∨ op = 34 ∨ op = 35 ∨ op = 36 ∨ op = 37 ∨ op = 38 ∨ op = 39 := by omega

set_option maxHeartbeats 4000000 in
theorem row_any (op : Int) (h : 1 ≤ op ∧ op ≤ 39) (w : World) : Calls Tryd.prog 125 #[.int .i64 op] w fun e w' => e = .returned (.int .i64 (rowL op)) ∧ w = w' := by
  rcases ops_cases h with rfl | rfl | rfl | rfl | rfl | rfl | rfl | rfl | rfl | rfl | rfl | rfl | rfl | rfl | rfl | rfl | rfl | rfl | rfl | rfl | rfl | rfl | rfl | rfl | rfl | rfl | rfl | rfl | rfl | rfl | rfl | rfl | rfl | rfl | rfl | rfl | rfl | rfl | rfl
  all_goals
    clear h
    go_enter Tryd.func125, Tryd.ntmps125
    go_wp2_with fail
    go_ret
    exact ⟨rfl, rfl⟩

theorem fits_any (v most : Int) (h : 0 ≤ most ∧ most ≤ 2147483647) (w : World) : Calls Tryd.prog 122 #[.int .i64 v, .int .i64 most] w fun e w' => e = .returned (.bool (decide (-most - 1 ≤ v) && decide (v ≤ most))) ∧ w = w' := by
  obtain ⟨h1, h2⟩ := h
  by_cases h3 : -most - 1 ≤ v
  · go_enter Tryd.func122, Tryd.ntmps122
    go_wp2_with fail
    go_ret
    exact ⟨by simp [h3], rfl⟩
  · have h4 : decide (-most - 1 ≤ v) = false := by simp; omega
    go_enter Tryd.func122, Tryd.ntmps122
    go_wp2_with fail
    go_ret
    exact ⟨rfl, rfl⟩
theorem register_any (r : Int) (wr : Bool) (w : World) : Calls Tryd.prog 119 #[.int .i64 r, .bool wr] w fun e w' => e = .returned (.bool (registerL r wr)) ∧ w = w' := by
  by_cases h1 : 0 ≤ r
  · by_cases h2 : r < 10
    · have HE := Lib.hid (show registerL r wr = true by simp [registerL, h1, h2])
      go_enter Tryd.func119, Tryd.ntmps119
      go_wp2_with fail
      go_ret
      exact ⟨by rw [HE.out]; rfl, rfl⟩
    · have h3 : decide (r < 10) = false := by simp; omega
      by_cases h4 : r = 10
      · subst h4
        cases wr
        all_goals
          go_enter Tryd.func119, Tryd.ntmps119
          go_wp2_with fail
          go_ret
          exact ⟨rfl, rfl⟩
      · have h5 : (r == 10) = false := by rw [beq_eq_false_iff_ne]; exact h4
        have HE := Lib.hid (show registerL r wr = false by simp [registerL, h3, h5])
        clear h2 h4
        go_enter Tryd.func119, Tryd.ntmps119
        go_wp2_with fail
        go_ret
        exact ⟨by rw [HE.out]; rfl, rfl⟩
  · have h2 : decide (0 ≤ r) = false := by simp; omega
    have HE := Lib.hid (show registerL r wr = false by simp [registerL, h2])
    clear h1
    go_enter Tryd.func119, Tryd.ntmps119
    go_wp2_with fail
    go_ret
    exact ⟨by rw [HE.out]; rfl, rfl⟩
end Go.Proofs.YtlodoinmippebaaDoor
