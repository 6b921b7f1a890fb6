/- WordDivides: the walk of the law. -/
import Derived.Test.YtmoecflmdfkgdaaDivMath
import Derived.Test.YtmoecflmdfkgdaaShiftsLaw
namespace Go.Proofs.Ytmoecflmdfkgdaa
open Go.ChangeShapes Go.WideShapes Go.ChangeAt Go.RowKit
open Bits
set_option linter.unusedVariables false

theorem un_pos {b : Int} (rb : -9223372036854775808 ≤ b ∧ b ≤ 9223372036854775807) (h : b ≠ 0) : 1 ≤ IntKind.u64.wrap b := by rw [IntKind.wrap_u64]; omega
theorem aluE_wide {op b : Int} (h1 : 1 ≤ op ∧ op ≤ 15) (h : 1 ≤ IntKind.u64.wrap b) : aluE op false b = 0 := aluE_ok (by omega) false b (fun h2 => by rw [dv_f] at h2; omega)

/-- the unsigned quotient and rest, as numbers -/
theorem ud_facts (a b : Int) (ra : -9223372036854775808 ≤ a ∧ a ≤ 9223372036854775807) (rb : -9223372036854775808 ≤ b ∧ b ≤ 9223372036854775807) (h : b ≠ 0) :
    (-9223372036854775808 ≤ aluV 4 false a b ∧ aluV 4 false a b ≤ 9223372036854775807) ∧ (-9223372036854775808 ≤ aluV 5 false a b ∧ aluV 5 false a b ≤ 9223372036854775807) ∧
    wrap64 (wrap64 (aluV 4 false a b * b) + aluV 5 false a b) = a ∧ IntKind.u64.wrap (aluV 5 false a b) < IntKind.u64.wrap b ∧
    IntKind.u64.wrap b * IntKind.u64.wrap (aluV 4 false a b) < 18446744073709551616 ∧ ¬ IntKind.u64.wrap a < IntKind.u64.wrap (aluV 5 false a b) := by
  have hb := un_pos rb h
  have hA := un_rng a
  have hB := un_rng b
  have hq := div_rng hA hb
  have hr := mod_rng hA hb
  rw [aluV_f, aluV_f, wv_4, wv_5, u_w64 _ hq, u_w64 _ hr]
  have hd := Int.emod_def (IntKind.u64.wrap a) (IntKind.u64.wrap b)
  have hlt := Int.emod_lt_of_pos (IntKind.u64.wrap a) (show 0 < IntKind.u64.wrap b by omega)
  have hnn := Int.mul_nonneg hB.1 hq.1
  refine ⟨w64_rng _, w64_rng _, ?_, hlt, by omega, by omega⟩
  have e : wrap64 (wrap64 (wrap64 (IntKind.u64.wrap a / IntKind.u64.wrap b) * b) + wrap64 (IntKind.u64.wrap a % IntKind.u64.wrap b)) = wrap64 a := by
    refine w64_congr ?_
    have m1 : wrap64 (wrap64 (IntKind.u64.wrap a / IntKind.u64.wrap b) * b) % 18446744073709551616 = (IntKind.u64.wrap b * (IntKind.u64.wrap a / IntKind.u64.wrap b)) % 18446744073709551616 := by
      rw [w64_mod, Int.mul_emod, w64_mod, ← u_mod b, ← Int.mul_emod, Int.mul_comm]
    have m2 := w64_mod (IntKind.u64.wrap a % IntKind.u64.wrap b)
    have m3 := u_mod a
    generalize wrap64 (wrap64 (IntKind.u64.wrap a / IntKind.u64.wrap b) * b) = x at *
    generalize wrap64 (IntKind.u64.wrap a % IntKind.u64.wrap b) = y at *
    generalize IntKind.u64.wrap b * (IntKind.u64.wrap a / IntKind.u64.wrap b) = z at *
    generalize IntKind.u64.wrap a % IntKind.u64.wrap b = v at *
    omega
  rw [e, w64_self ra]

/-- the quotient and rest with signs, as numbers -/
theorem sd_eq (a b : Int) (ra : -9223372036854775808 ≤ a ∧ a ≤ 9223372036854775807) (rb : -9223372036854775808 ≤ b ∧ b ≤ 9223372036854775807) :
    aluV 6 false a b = wrap64 (a.tdiv b) ∧ aluV 7 false a b = a.tmod b := by
  constructor
  · rw [aluV_f, wv_6, w64_wrap, w64_wrap, w64_wrap, w64_self ra, w64_self rb]
    exact w64_self (w64_rng _)
  · rw [aluV_f, wv_7, w64_wrap, w64_wrap, w64_wrap, w64_self ra, w64_self rb]
    refine w64_self ?_
    by_cases h : b = 0
    · rw [h, Int.tmod_zero]; exact ra
    · have h1 := Int.tmod_lt_of_pos (a.natAbs : Int) (show (0 : Int) < 1 by decide)
      have h2 : ((a.tmod b).natAbs : Int) ≤ a.natAbs := by rw [Int.natAbs_tmod]; exact_mod_cast Nat.mod_le _ _
      have h3 : 0 ≤ a → 0 ≤ a.tmod b := fun h => Int.tmod_nonneg b h
      have h4 : a ≤ 0 → a.tmod b ≤ 0 := fun h => by
        have := Int.tmod_nonneg b (show 0 ≤ -a by omega)
        rw [Int.neg_tmod] at this; omega
      omega


theorem sd_sum (a b : Int) (ra : -9223372036854775808 ≤ a ∧ a ≤ 9223372036854775807) : wrap64 (wrap64 (wrap64 (a.tdiv b) * b) + a.tmod b) = a := by
  have h := Int.mul_tdiv_add_tmod a b
  have m1 : wrap64 (wrap64 (a.tdiv b) * b) % 18446744073709551616 = (b * a.tdiv b) % 18446744073709551616 := by
    rw [w64_mod, Int.mul_emod, w64_mod, ← Int.mul_emod, Int.mul_comm]
  have e : wrap64 (wrap64 (wrap64 (a.tdiv b) * b) + a.tmod b) = wrap64 a := by
    refine w64_congr ?_
    generalize wrap64 (wrap64 (a.tdiv b) * b) = x at *
    generalize b * a.tdiv b = y at *
    generalize a.tmod b = z at *
    omega
  rw [e, w64_self ra]
theorem sd_rest (a b : Int) (hb : b ≠ 0) : (a.tmod b = 0 ∨ (a.tmod b < 0 ∧ a < 0) ∨ (0 < a.tmod b ∧ 0 ≤ a)) ∧ (0 < b → -b < a.tmod b ∧ a.tmod b < b) ∧ (b < 0 → b < a.tmod b ∧ a.tmod b < -b) := by
  have h2 : ((a.tmod b).natAbs : Int) < b.natAbs := by rw [Int.natAbs_tmod]; exact_mod_cast Nat.mod_lt _ (by omega)
  have h3 : 0 ≤ a → 0 ≤ a.tmod b := fun h => Int.tmod_nonneg b h
  have h4 : a ≤ 0 → a.tmod b ≤ 0 := fun h => by
    have := Int.tmod_nonneg b (show 0 ≤ -a by omega)
    rw [Int.neg_tmod] at this; omega
  generalize a.tmod b = t at *
  omega
theorem sd_sign (a b : Int) (hb : b ≠ 0) : a.tdiv b = 0 ∨ (a.tdiv b < 0 ∧ (a < 0 ∧ 0 < b ∨ 0 ≤ a ∧ b < 0)) ∨ (0 < a.tdiv b ∧ (a < 0 ∧ b < 0 ∨ 0 ≤ a ∧ 0 < b)) := by
  have p1 : 0 ≤ a → 0 ≤ b → 0 ≤ a.tdiv b := fun h k => Int.tdiv_nonneg h k
  have p2 : a < 0 → 0 ≤ b → a.tdiv b ≤ 0 := fun h k => by
    have := Int.tdiv_nonneg (show 0 ≤ -a by omega) k
    rw [Int.neg_tdiv] at this; omega
  have p3 : 0 ≤ a → b < 0 → a.tdiv b ≤ 0 := fun h k => by
    have := Int.tdiv_nonneg h (show 0 ≤ -b by omega)
    rw [Int.tdiv_neg] at this; omega
  have p4 : a < 0 → b < 0 → 0 ≤ a.tdiv b := fun h k => by
    have := Int.tdiv_nonneg (show 0 ≤ -a by omega) (show 0 ≤ -b by omega)
    rw [Int.neg_tdiv, Int.tdiv_neg] at this; omega
  generalize a.tdiv b = s at *
  omega
theorem sd_abs (a b : Int) (hb : b ≠ 0) (ra : -9223372036854775808 ≤ a ∧ a ≤ 9223372036854775807) (h : ¬ (a = -9223372036854775808 ∧ b = -1)) : -9223372036854775808 ≤ a.tdiv b ∧ a.tdiv b ≤ 9223372036854775807 := by
  have h2 : ((a.tdiv b).natAbs : Int) ≤ a.natAbs := by
    rw [Int.natAbs_tdiv]; exact_mod_cast Nat.div_le_self _ _
  have hs := sd_sign a b hb
  by_cases ha : a = -9223372036854775808
  · have h1 : (a.tdiv b).natAbs ≤ 9223372036854775808 := by omega
    have h5 : (a.tdiv b).natAbs = 9223372036854775808 → b = 1 := by
      intro e
      rw [Int.natAbs_tdiv, ha] at e
      have e2 : (9223372036854775808 : Nat) / b.natAbs = 9223372036854775808 := e
      rcases Nat.lt_or_ge 1 b.natAbs with hb2 | hb2
      · have := Nat.div_lt_self (show 0 < 9223372036854775808 by decide) hb2
        omega
      · omega
    generalize a.tdiv b = s at *
    omega
  · generalize a.tdiv b = s at *
    omega
theorem sd_least (a b : Int) (ra : -9223372036854775808 ≤ a ∧ a ≤ 9223372036854775807) (h : b = -9223372036854775808) : a.tmod b = a ∨ a = -9223372036854775808 := by
  by_cases ha : a = -9223372036854775808
  · exact .inr ha
  · left
    subst h
    have e : (a.tdiv (-9223372036854775808)).natAbs = 0 := by
      rw [Int.natAbs_tdiv]
      exact Nat.div_eq_of_lt (by omega)
    have e2 : a.tdiv (-9223372036854775808) = 0 := by omega
    rw [Int.tmod_def, e2]; omega

/-- what the law asks of quotient and rest with signs -/
structure Signed (a b s t : Int) : Prop where
  sum : wrap64 (wrap64 (s * b) + t) = a
  rest : t = 0 ∨ (t < 0 ∧ a < 0) ∨ (0 < t ∧ 0 ≤ a)
  sign : s = 0 ∨ (s < 0 ∧ (a < 0 ∧ 0 < b ∨ 0 ≤ a ∧ b < 0)) ∨ (0 < s ∧ (a < 0 ∧ b < 0 ∨ 0 ≤ a ∧ 0 < b))
  pos : 0 < b → -b < t ∧ t < b
  neg : b < 0 → b < t ∧ t < -b
  least : b = -9223372036854775808 → t = a ∨ a = -9223372036854775808
theorem signed_facts (a b : Int) (ra : -9223372036854775808 ≤ a ∧ a ≤ 9223372036854775807) (rb : -9223372036854775808 ≤ b ∧ b ≤ 9223372036854775807) (hb : b ≠ 0) (h : ¬ (a = -9223372036854775808 ∧ b = -1)) :
    Signed a b (aluV 6 false a b) (aluV 7 false a b) := by
  obtain ⟨e1, e2⟩ := sd_eq a b ra rb
  rw [e1, e2]
  have hs := sd_sum a b ra
  rw [w64_self (sd_abs a b hb ra h)] at hs ⊢
  exact ⟨hs, (sd_rest a b hb).1, sd_sign a b hb, (sd_rest a b hb).2.1, (sd_rest a b hb).2.2, sd_least a b ra⟩
theorem special : aluV 6 false (-9223372036854775808) (-1) = -9223372036854775808 ∧ aluV 7 false (-9223372036854775808) (-1) = 0 := by decide +kernel
end Go.Proofs.Ytmoecflmdfkgdaa
