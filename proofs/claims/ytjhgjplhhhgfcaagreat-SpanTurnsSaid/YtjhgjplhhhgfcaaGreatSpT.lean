/- The law's own words of chapter 6: Sound, sound, inside. -/
import Derived.Test.YtjhgjplhhhgfcaaGreatSpF
namespace Go.Proofs.YtjhgjplhhhgfcaaGreat
open Go.ChangeShapes Go.WideShapes Go.ChangeAt Go.RowKit
open Spn
namespace Spc
set_option linter.unusedVariables false
set_option maxRecDepth 100000
theorem four (v : Int) : (v < -1152921504606846976 ∧ (v != 0) = true) ∨ (1152921504606846976 < v ∧ (v != 0) = true) ∨ ((-1152921504606846976 ≤ v ∧ v ≤ 1152921504606846976) ∧ (v != 0) = true) ∨ v = 0 := by
  by_cases h0 : v = 0
  · exact .inr (.inr (.inr h0))
  · have h : (v != 0) = true := by simpa using h0
    rcases (by omega : v < -1152921504606846976 ∨ 1152921504606846976 < v ∨ (-1152921504606846976 ≤ v ∧ v ≤ 1152921504606846976)) with h1 | h1 | h1
    · exact .inl ⟨h1, h⟩
    · exact .inr (.inl ⟨h1, h⟩)
    · exact .inr (.inr (.inl ⟨h1, h⟩))
set_option maxHeartbeats 4000000 in
theorem refSound_any (lo hi : Int) (nl nh : Bool) (w : World) : Calls Tryz.prog 61 #[.agg #[.int .i64 lo, .int .i64 hi, .bool nl, .bool nh]] w (RetB w (soundB ⟨lo, hi, nl, nh⟩)) := by
  have HB := Lib.hid (below_box' w (.cells #[.int .i64 lo, .int .i64 hi, .bool nl, .bool nh] 23))
  obtain ⟨B, hB⟩ : ∃ B, B = soundB ⟨lo, hi, nl, nh⟩ := ⟨_, rfl⟩
  rw [← hB]
  have HQ := Lib.hid hB
  clear hB
  rcases four lo with ⟨h1, h2⟩ | ⟨h1, h2⟩ | ⟨⟨h1, h1'⟩, h2⟩ | rfl
  all_goals
    rcases four hi with ⟨h3, h4⟩ | ⟨h3, h4⟩ | ⟨⟨h3, h3'⟩, h4⟩ | rfl
  all_goals
    cases nl <;> cases nh
  all_goals
    go_enter Tryz.func61, Tryz.ntmps61
    go_wp2_with fail
    go_ret
    refine ⟨ret_b ?_, HB.out⟩
    have hq := HQ.out
    unfold soundB endB ends0 MX LEAST TOP at hq
    rw [hq]
    clear hq HQ HB
    try simp only [bne_iff_ne, ne_eq] at h2
    try simp only [bne_iff_ne, ne_eq] at h4
    simp
    try omega
end Spc
end Go.Proofs.YtjhgjplhhhgfcaaGreat
