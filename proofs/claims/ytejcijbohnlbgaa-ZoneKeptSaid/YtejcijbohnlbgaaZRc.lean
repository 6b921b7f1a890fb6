/- The document's zone: Close. -/
import Derived.Test.YtejcijbohnlbgaaZRb
import Derived.Deep.CutBlock
namespace Go.Proofs.Ytejcijbohnlbgaa
open Go.ChangeShapes Go.WideShapes Go.ChangeAt Go.RowKit
open Zon
set_option linter.unusedVariables false
set_option maxRecDepth 100000
theorem zeroSq : (Try.prog.info? 39).bind (fun i => i.zero.map Value.cells) = some (arr 3600 (fun _ => .int .i64 0)) := by kernel_rfl
theorem sizeSq : (Try.prog.info? 39).map (·.size) = some 3600 := by kernel_rfl
theorem rmin {x y : Int} (h : Ok x) (g : Ok y) : lessV (rN x) (rN y) = rN (min x y) := rN_min h g
/-- the table while ways through k are taken, the rows below i done and of row i the places below j -/
def stK (M : Tab) (k i j : Nat) : Tab := fun p q => if p < i ∨ (p = i ∧ q < j) then rN (stepF M k p q) else rN (M p q)
theorem stK_step {M : Tab} {k i j : Nat} (a b : Nat) : (if a = i ∧ b = j then rN (stepF M k i j) else stK M k i j a b) = stK M k i (j + 1) a b := by
  unfold stK
  by_cases e : a = i ∧ b = j
  · rw [if_pos e, if_pos (show a < i ∨ (a = i ∧ b < j + 1) by omega), e.1, e.2]
  · rw [if_neg e]
    by_cases e2 : a < i ∨ (a = i ∧ b < j)
    · rw [if_pos e2, if_pos (show a < i ∨ (a = i ∧ b < j + 1) by omega)]
    · rw [if_neg e2, if_neg (show ¬ (a < i ∨ (a = i ∧ b < j + 1)) by omega)]
theorem stK_row {M : Tab} {k i : Nat} (a b : Nat) (hb : b < 60) : stK M k i 60 a b = stK M k (i + 1) 0 a b := by
  unfold stK
  by_cases e2 : a < i ∨ (a = i ∧ b < 60)
  · rw [if_pos e2, if_pos (show a < i + 1 ∨ (a = i + 1 ∧ b < 0) by omega)]
  · rw [if_neg e2, if_neg (show ¬ (a < i + 1 ∨ (a = i + 1 ∧ b < 0)) by omega)]
theorem stK_skip {M : Tab} (hM : OkT M) {k i : Nat} (hk : k < 60) (hi : i < 60) (h : M i k = 3458764513820540928) (a b : Nat) (ha : a < 60) (hb : b < 60) : stK M k i 0 a b = stK M k (i + 1) 0 a b := by
  unfold stK
  by_cases e2 : a < i ∨ (a = i ∧ b < 0)
  · rw [if_pos e2, if_pos (show a < i + 1 ∨ (a = i + 1 ∧ b < 0) by omega)]
  · rw [if_neg e2]
    by_cases e : a = i
    · rw [if_pos (show a < i + 1 ∨ (a = i + 1 ∧ b < 0) by omega), e]
      unfold stepF
      rw [psum_no _ _ h (hM k b hk hb).rng.1, Int.min_eq_left (hM i b hi hb).rng.2]
    · rw [if_neg (show ¬ (a < i + 1 ∨ (a = i + 1 ∧ b < 0)) by omega)]
theorem okT_mins {M : Tab} (hM : OkT M) (L : List Con) (hL : ∀ x ∈ L, wrong1 x = 0) : OkT (L.foldl minT M) := by
  induction L generalizing M with
  | nil => exact hM
  | cons x L ih =>
    obtain ⟨_, _, g5⟩ := wrong1_zero (hL x (by simp))
    exact ih (okT_min hM (by unfold rngB; simp; omega)) fun y hy => hL y (by simp [hy])
end Go.Proofs.Ytejcijbohnlbgaa
