/- Package shape: what tags are good. -/
import Derived.Test.YtejcijbohnlbgaaShB
namespace Go.Proofs.Ytejcijbohnlbgaa
open Go.ChangeShapes Go.WideShapes Go.ChangeAt Go.RowKit
open Zon
set_option linter.unusedVariables false
set_option linter.unusedSimpArgs false
set_option maxRecDepth 100000
def maxTB (k : Int) : Int := if k = 5 ∨ k = 6 then 7 else 0
def maxMK (k : Int) (s : Bool) : Int := if k = 0 ∧ s = true then 255 else 0
/-- a tag that a register (or a slot, s) may have -/
def good1 (k t m : Int) (s : Bool) : Bool := decide (0 ≤ k) && decide (k ≤ 6) && decide (0 ≤ t) && decide (t ≤ maxTB k) && decide (0 ≤ m) && decide (m ≤ maxMK k s)
theorem tag_box (w : World) (i j c : Int) (t : TypeId) : ConIs (w.alloc (.cells #[.int .i64 i, .int .i64 j, .int .i64 c] t)) w.heap.size 0 ⟨i, j, c⟩ := con_box w i j c t
set_option maxHeartbeats 4000000 in
theorem good1_any (w : World) (k t m : Int) (s : Bool) : Calls Try.prog 79 #[.agg #[.int .i64 k, .int .i64 t, .int .i64 m], .bool s] w (RetV w (.bool (good1 k t m s))) := by
  obtain ⟨w1, hw1⟩ : ∃ w1, w1 = w.alloc (.cells #[.int .i64 k, .int .i64 t, .int .i64 m] 58) := ⟨_, rfl⟩
  have HC1 := Lib.hid (show ConIs w1 w.heap.size 0 ⟨k, t, m⟩ by rw [hw1]; exact con_box w k t m _)
  have HB1 := Lib.hid (show Below w.heap.size w w1 by rw [hw1]; exact below_box w _)
  have HW1 := Lib.hid hw1
  clear hw1
  go_enter Try.func79, Try.ntmps79
  go_upto_region 1 with (fail)
  rw [← HW1.out]
  clear HW1
  obtain ⟨b, hb⟩ : ∃ b, b = w.heap.size := ⟨_, rfl⟩
  rw [← hb] at HC1 ⊢
  clear hb
  obtain ⟨c0, c1, c2⟩ := HC1.out
  clear HC1
  simp only at c0 c1 c2
  by_cases k0 : k = 0
  · subst k0
    cases s
    · have HG := Lib.hid (show good1 0 t m false = (decide (0 ≤ t) && decide (t ≤ 0) && decide (0 ≤ m) && decide (m ≤ 0)) by unfold good1 maxTB maxMK; simp)
      cases h1 : decide (0 ≤ t) <;> cases h2 : decide (t ≤ 0) <;> cases h3 : decide (0 ≤ m) <;> cases h4 : decide (m ≤ 0)
      all_goals
        have HG2 := Lib.hid (HG.out.trans (by rw [h1, h2, h3, h4]))
        clear HG
        go_wp2_with fail
        go_ret
        exact ⟨ret_bool (by rw [HG2.out]; rfl), HB1.out⟩
    · have HG := Lib.hid (show good1 0 t m true = (decide (0 ≤ t) && decide (t ≤ 0) && decide (0 ≤ m) && decide (m ≤ 255)) by unfold good1 maxTB maxMK; simp)
      cases h1 : decide (0 ≤ t) <;> cases h2 : decide (t ≤ 0) <;> cases h3 : decide (0 ≤ m) <;> cases h4 : decide (m ≤ 255)
      all_goals
        have HG2 := Lib.hid (HG.out.trans (by rw [h1, h2, h3, h4]))
        clear HG
        go_wp2_with fail
        go_ret
        exact ⟨ret_bool (by rw [HG2.out]; rfl), HB1.out⟩
  have d0 : decide (k = 0) = false := decide_eq_false k0
  by_cases k1 : k = 1
  · subst k1
    have HG := Lib.hid (show good1 1 t m s = (decide (0 ≤ t) && decide (t ≤ 0) && decide (0 ≤ m) && decide (m ≤ 0)) by unfold good1 maxTB maxMK; simp)
    cases h1 : decide (0 ≤ t) <;> cases h2 : decide (t ≤ 0) <;> cases h3 : decide (0 ≤ m) <;> cases h4 : decide (m ≤ 0)
    all_goals
      have HG2 := Lib.hid (HG.out.trans (by rw [h1, h2, h3, h4]))
      clear HG
      go_wp2_with fail
      go_ret
      exact ⟨ret_bool (by rw [HG2.out]; rfl), HB1.out⟩
  have d1 : decide (k = 1) = false := decide_eq_false k1
  by_cases k2 : k = 2
  · subst k2
    have HG := Lib.hid (show good1 2 t m s = (decide (0 ≤ t) && decide (t ≤ 0) && decide (0 ≤ m) && decide (m ≤ 0)) by unfold good1 maxTB maxMK; simp)
    cases h1 : decide (0 ≤ t) <;> cases h2 : decide (t ≤ 0) <;> cases h3 : decide (0 ≤ m) <;> cases h4 : decide (m ≤ 0)
    all_goals
      have HG2 := Lib.hid (HG.out.trans (by rw [h1, h2, h3, h4]))
      clear HG
      go_wp2_with fail
      go_ret
      exact ⟨ret_bool (by rw [HG2.out]; rfl), HB1.out⟩
  have d2 : decide (k = 2) = false := decide_eq_false k2
  by_cases k3 : k = 3
  · subst k3
    have HG := Lib.hid (show good1 3 t m s = (decide (0 ≤ t) && decide (t ≤ 0) && decide (0 ≤ m) && decide (m ≤ 0)) by unfold good1 maxTB maxMK; simp)
    cases h1 : decide (0 ≤ t) <;> cases h2 : decide (t ≤ 0) <;> cases h3 : decide (0 ≤ m) <;> cases h4 : decide (m ≤ 0)
    all_goals
      have HG2 := Lib.hid (HG.out.trans (by rw [h1, h2, h3, h4]))
      clear HG
      go_wp2_with fail
      go_ret
      exact ⟨ret_bool (by rw [HG2.out]; rfl), HB1.out⟩
  have d3 : decide (k = 3) = false := decide_eq_false k3
  by_cases k4 : k = 4
  · subst k4
    have HG := Lib.hid (show good1 4 t m s = (decide (0 ≤ t) && decide (t ≤ 0) && decide (0 ≤ m) && decide (m ≤ 0)) by unfold good1 maxTB maxMK; simp)
    cases h1 : decide (0 ≤ t) <;> cases h2 : decide (t ≤ 0) <;> cases h3 : decide (0 ≤ m) <;> cases h4 : decide (m ≤ 0)
    all_goals
      have HG2 := Lib.hid (HG.out.trans (by rw [h1, h2, h3, h4]))
      clear HG
      go_wp2_with fail
      go_ret
      exact ⟨ret_bool (by rw [HG2.out]; rfl), HB1.out⟩
  have d4 : decide (k = 4) = false := decide_eq_false k4
  by_cases k5 : k = 5
  · subst k5
    have HG := Lib.hid (show good1 5 t m s = (decide (0 ≤ t) && decide (t ≤ 7) && decide (0 ≤ m) && decide (m ≤ 0)) by unfold good1 maxTB maxMK; simp)
    cases h1 : decide (0 ≤ t) <;> cases h2 : decide (t ≤ 7) <;> cases h3 : decide (0 ≤ m) <;> cases h4 : decide (m ≤ 0)
    all_goals
      have HG2 := Lib.hid (HG.out.trans (by rw [h1, h2, h3, h4]))
      clear HG
      go_wp2_with fail
      go_ret
      exact ⟨ret_bool (by rw [HG2.out]; rfl), HB1.out⟩
  have d5 : decide (k = 5) = false := decide_eq_false k5
  by_cases k6 : k = 6
  · subst k6
    have HG := Lib.hid (show good1 6 t m s = (decide (0 ≤ t) && decide (t ≤ 7) && decide (0 ≤ m) && decide (m ≤ 0)) by unfold good1 maxTB maxMK; simp)
    cases h1 : decide (0 ≤ t) <;> cases h2 : decide (t ≤ 7) <;> cases h3 : decide (0 ≤ m) <;> cases h4 : decide (m ≤ 0)
    all_goals
      have HG2 := Lib.hid (HG.out.trans (by rw [h1, h2, h3, h4]))
      clear HG
      go_wp2_with fail
      go_ret
      exact ⟨ret_bool (by rw [HG2.out]; rfl), HB1.out⟩
  have d6 : decide (k = 6) = false := decide_eq_false k6
  have HG2 := Lib.hid (show good1 k t m s = false by
    unfold good1
    have : (decide (0 ≤ k) && decide (k ≤ 6)) = false := by simp; omega
    rw [this]; rfl)
  go_wp2_with fail
  go_ret
  exact ⟨ret_bool (by rw [HG2.out]), HB1.out⟩
end Go.Proofs.Ytejcijbohnlbgaa
