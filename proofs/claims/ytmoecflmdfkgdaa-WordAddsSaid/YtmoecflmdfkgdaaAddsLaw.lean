/- WordAdds: the walk of the law. -/
import Derived.Test.YtmoecflmdfkgdaaAluMath
namespace Go.Proofs.Ytmoecflmdfkgdaa
open Go.ChangeShapes Go.WideShapes Go.ChangeAt Go.RowKit
open Bits
set_option linter.unusedVariables false

theorem bt {a b : Int} (h : a = b) : (a == b) = true := by rw [beq_iff_eq]; exact h
theorem bf {a b : Int} (h : a = b) : (a != b) = false := by simp [h]

theorem af1 (a b : Int) (ra : -9223372036854775808 ≤ a ∧ a ≤ 9223372036854775807) : aluV 2 false (aluV 1 false a b) b = a := by
  rw [m_sub, m_add]
  have mab := w64_mod (a + b)
  have h : wrap64 (wrap64 (a + b) - b) = wrap64 a := w64_congr (by omega)
  rw [h, w64_self ra]
theorem af2 (a b : Int) : aluV 1 false a b = aluV 1 false b a := by rw [m_add, m_add, Int.add_comm]
theorem af3 (a b : Int) : aluV 1 false a b = wrap64 (aluV 8 false a b + aluV 9 false a b) := by
  rw [m_add, m_or, m_and]
  have ma := u_mod a
  have mb := u_mod b
  have s := bits_sum a b
  have h1 := w64_mod (bits BinOp.or IntKind.u64 (IntKind.u64.wrap a) (IntKind.u64.wrap b))
  have h2 := w64_mod (bits BinOp.and IntKind.u64 (IntKind.u64.wrap a) (IntKind.u64.wrap b))
  refine w64_congr ?_
  generalize bits BinOp.or IntKind.u64 (IntKind.u64.wrap a) (IntKind.u64.wrap b) = x at *
  generalize bits BinOp.and IntKind.u64 (IntKind.u64.wrap a) (IntKind.u64.wrap b) = y at *
  omega
theorem af4 (a b : Int) : aluV 10 false a b = wrap64 (aluV 8 false a b - aluV 9 false a b) := by
  rw [m_xor, m_or, m_and]
  have s := bits_sum a b
  have h1 := w64_mod (bits BinOp.or IntKind.u64 (IntKind.u64.wrap a) (IntKind.u64.wrap b))
  have h2 := w64_mod (bits BinOp.and IntKind.u64 (IntKind.u64.wrap a) (IntKind.u64.wrap b))
  refine w64_congr ?_
  generalize bits BinOp.or IntKind.u64 (IntKind.u64.wrap a) (IntKind.u64.wrap b) = x at *
  generalize bits BinOp.and IntKind.u64 (IntKind.u64.wrap a) (IntKind.u64.wrap b) = y at *
  generalize bits BinOp.xor IntKind.u64 (IntKind.u64.wrap a) (IntKind.u64.wrap b) = z at *
  omega
theorem af5 (a b : Int) : aluV 1 false a b = wrap64 (aluV 10 false a b + wrap64 (2 * aluV 9 false a b)) := by
  rw [m_add, m_xor, m_and]
  have ma := u_mod a
  have mb := u_mod b
  have s := bits_sum a b
  have h1 := w64_mod (bits BinOp.xor IntKind.u64 (IntKind.u64.wrap a) (IntKind.u64.wrap b))
  have h2 := w64_mod (bits BinOp.and IntKind.u64 (IntKind.u64.wrap a) (IntKind.u64.wrap b))
  have h3 := w64_mod (2 * wrap64 (bits BinOp.and IntKind.u64 (IntKind.u64.wrap a) (IntKind.u64.wrap b)))
  refine w64_congr ?_
  generalize bits BinOp.or IntKind.u64 (IntKind.u64.wrap a) (IntKind.u64.wrap b) = x at *
  generalize bits BinOp.and IntKind.u64 (IntKind.u64.wrap a) (IntKind.u64.wrap b) = y at *
  generalize bits BinOp.xor IntKind.u64 (IntKind.u64.wrap a) (IntKind.u64.wrap b) = z at *
  omega
theorem af6 (a b c : Int) : aluV 3 false a (aluV 1 false b c) = aluV 1 false (aluV 3 false a b) (aluV 3 false a c) := by
  rw [m_mul, m_add, m_add, m_mul, m_mul]
  have h1 := w64_mod (a * b)
  have h2 := w64_mod (a * c)
  refine w64_congr ?_
  rw [Int.mul_emod, w64_mod, ← Int.mul_emod, Int.mul_add]
  generalize a * b = x at *
  generalize a * c = y at *
  omega
theorem af7 (a b : Int) : aluV 14 false a b = aluV 2 false 0 a := by rw [m_neg, m_sub, Int.zero_sub]
theorem af8 (a b : Int) (rb : -9223372036854775808 ≤ b ∧ b ≤ 9223372036854775807) : aluV 15 false a b = b := by rw [m_mov, w64_self rb]
theorem af10 (a : Int) (ra : -9223372036854775808 ≤ a ∧ a ≤ 9223372036854775807) : aluV 1 false a 0 = a := by rw [m_add, Int.add_zero, w64_self ra]
theorem af11 (a : Int) (ra : -9223372036854775808 ≤ a ∧ a ≤ 9223372036854775807) : aluV 3 false a 1 = a := by rw [m_mul, Int.mul_one, w64_self ra]
theorem af12 : aluV 1 false 2 3 = 5 := by rw [m_add]; exact w64_self (by omega)

set_option maxHeartbeats 4000000 in
theorem wordAdds_walk (a : Int) (ra : -9223372036854775808 ≤ a ∧ a ≤ 9223372036854775807) (b : Int) (rb : -9223372036854775808 ≤ b ∧ b ≤ 9223372036854775807) (c : Int) (rc : -9223372036854775808 ≤ c ∧ c ≤ 9223372036854775807) (w : World) :
    Calls Try.prog 14 #[.int .i64 a, .int .i64 b, .int .i64 c] w fun e w' => e = .returned (.bool true) ∧ Below w.heap.size w w' := by
  have f1 := bt (af1 a b ra)
  have f2 := bf (af2 a b)
  have f3 := bf (af3 a b)
  have f4 := bf (af4 a b)
  have f5 := bf (af5 a b)
  have f6 := bt (af6 a b c)
  have f7 := bt (af7 a b)
  have f8 := bt (af8 a b rb)
  have f9 := bt (xor_undo a b ra)
  have f10 := bt (af10 a ra)
  have f11 := bt (af11 a ra)
  have f12 := bt af12
  have hB := Below.refl w.heap.size w
  clear ra rb rc
  go_enter Try.func14, Try.ntmps14
  go_wp2_with (first | (go_at_call 35; refine (of_b w _ _ _ _ _ (aluE_nd _ _ (by decide) (by decide)) (by assumption)).mono ?_; rintro e w' ⟨rfl, hB'⟩) | (go_at_call 34; refine (is_b w _ _ _ _ _ _ (aluE_nd _ _ (by decide) (by decide)) (by assumption)).mono ?_; rintro e w' ⟨rfl, hB'⟩))
  go_ret
  exact ⟨rfl, by assumption⟩
end Go.Proofs.Ytmoecflmdfkgdaa
