/- Mathematics of the shape of a run's beginning: its zone is met by each beginning. No program is named. -/
import Derived.Test.YtejcijbohnlbgaaZoneM7
namespace Go.Proofs.Ytejcijbohnlbgaa
open Zon
set_option linter.unusedVariables false
set_option maxRecDepth 100000
/-- the zone of a run's beginning: the length between lo and hi, r1 an offset of 0, r2 the length -/
def startZ (lo hi : Int) : Zn := (withZ (some topT) [⟨0, 1, -lo⟩, ⟨1, 0, hi⟩]).map fun M => assignT (assignT M 3 0 0) 4 1 0
theorem updI_same {a : Nat → Int} {x : Nat} {v : Int} (h : a x = v) : updI a x v = a := funext fun q => by
  unfold updI
  by_cases e : q = x
  · rw [if_pos e, e, h]
  · rw [if_neg e]
theorem wrong1_ok {i j c : Int} (hi : 0 ≤ i ∧ i < 60) (hj : 0 ≤ j ∧ j < 60) (hc : -1152921504606846976 ≤ c ∧ c ≤ 1152921504606846976) : wrong1 ⟨i, j, c⟩ = 0 := by
  unfold wrong1 varB rngB
  simp only
  rw [decide_eq_true hi.1, decide_eq_true hi.2, decide_eq_true hj.1, decide_eq_true hj.2, decide_eq_true hc.1, decide_eq_true hc.2]
  rfl
/-- nothing is lost: each beginning's numbers meet it -/
theorem start_meets {lo hi n : Int} (h0 : 0 ≤ lo) (h1 : lo ≤ n) (h2 : n ≤ hi) (h3 : hi ≤ 65535) {a : Nat → Int} (a0 : a 0 = 0) (a1 : a 1 = n) (a3 : a 3 = 0) (a4 : a 4 = n) :
    ∃ M, startZ lo hi = some M ∧ OkT M ∧ Meets M a := by
  obtain ⟨M, e, hM, hm, -⟩ := withZ_meets okT_top (meets_top a) [⟨0, 1, -lo⟩, ⟨1, 0, hi⟩] (fun x hx => by
    simp only [List.mem_cons, List.mem_nil_iff, or_false] at hx
    rcases hx with rfl | rfl
    · exact ⟨wrong1_ok ⟨by omega, by omega⟩ ⟨by omega, by omega⟩ ⟨by omega, by omega⟩, by show a 0 - a 1 ≤ -lo; omega⟩
    · exact ⟨wrong1_ok ⟨by omega, by omega⟩ ⟨by omega, by omega⟩ ⟨by omega, by omega⟩, by show a 1 - a 0 ≤ hi; omega⟩)
  have r0 : rngB 0 = true := by decide
  have m1 := meets_assign hM hm (x := 3) (y := 0) (c := 0) (by omega) (by omega) r0
  rw [updI_same (by omega)] at m1
  have o1 := okT_assign hM 3 0 0
  have m2 := meets_assign o1 m1 (x := 4) (y := 1) (c := 0) (by omega) (by omega) r0
  rw [updI_same (by omega)] at m2
  exact ⟨_, by unfold startZ; rw [e]; rfl, okT_assign o1 4 1 0, m2⟩
/-- the program's question whether x less y is at most c, each sum in 64 bits -/
theorem atMost_math {x y c : Int} (hx : -9223372036854775808 ≤ x ∧ x ≤ 9223372036854775807) (hy : -9223372036854775808 ≤ y ∧ y ≤ 9223372036854775807) (hc : -1152921504606846976 ≤ c ∧ c ≤ 1152921504606846976) :
    (c < 0 → ((-9223372036854775808 - c ≤ y ∧ x ≤ y + c) ↔ x - y ≤ c)) ∧ (¬ c < 0 → ((9223372036854775807 - c < y ∨ x ≤ y + c) ↔ x - y ≤ c)) :=
  ⟨fun _ => by omega, fun _ => by omega⟩
end Go.Proofs.Ytejcijbohnlbgaa
