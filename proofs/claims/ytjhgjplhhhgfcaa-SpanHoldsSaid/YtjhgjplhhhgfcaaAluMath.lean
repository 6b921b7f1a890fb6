/- What Alu's wide answers are, as plain arithmetic of 64 bits. -/
import Derived.Test.YtjhgjplhhhgfcaaAlu2
namespace Go.Proofs.Ytjhgjplhhhgfcaa
open Go.ChangeShapes Go.WideShapes Go.ChangeAt Go.RowKit
open Bits
set_option linter.unusedVariables false

theorem w64_wrap (x : Int) : wrap64 (IntKind.u64.wrap x) = wrap64 x := by rw [IntKind.wrap_u64]; unfold wrap64; omega
theorem w64_congr {x y : Int} (h : x % 18446744073709551616 = y % 18446744073709551616) : wrap64 x = wrap64 y := by unfold wrap64; omega
theorem w64_self {x : Int} (h : -9223372036854775808 ≤ x ∧ x ≤ 9223372036854775807) : wrap64 x = x := by unfold wrap64; omega
theorem w64_rng (x : Int) : -9223372036854775808 ≤ wrap64 x ∧ wrap64 x ≤ 9223372036854775807 := by unfold wrap64; omega
theorem w64_mod (x : Int) : wrap64 x % 18446744073709551616 = x % 18446744073709551616 := by unfold wrap64; omega
theorem u_mod (x : Int) : IntKind.u64.wrap x % 18446744073709551616 = x % 18446744073709551616 := by rw [IntKind.wrap_u64]; omega

theorem m_add (a b : Int) : aluV 1 false a b = wrap64 (a + b) := by
  rw [aluV_f, wv_1, w64_wrap]
  have h1 := u_mod a; have h2 := u_mod b
  exact w64_congr (by omega)
theorem m_sub (a b : Int) : aluV 2 false a b = wrap64 (a - b) := by
  rw [aluV_f, wv_2, w64_wrap]
  have h1 := u_mod a; have h2 := u_mod b
  exact w64_congr (by omega)
theorem m_mul (a b : Int) : aluV 3 false a b = wrap64 (a * b) := by
  rw [aluV_f, wv_3, w64_wrap]
  refine w64_congr ?_
  rw [Int.mul_emod, u_mod, u_mod, ← Int.mul_emod]
theorem m_neg (a b : Int) : aluV 14 false a b = wrap64 (-a) := by
  rw [aluV_f, wv_14, w64_wrap]
  have h1 := u_mod a
  exact w64_congr (by omega)
theorem m_mov (a b : Int) : aluV 15 false a b = wrap64 b := by rw [aluV_f, wv_15, w64_wrap]

/-! ### bit by bit -/
theorem nat_bits (x y : Nat) : (x ||| y) + (x &&& y) = x + y ∧ (x ^^^ y) + (x &&& y) = (x ||| y) := by
  induction x using Nat.strongRecOn generalizing y with
  | _ x ih =>
    by_cases h0 : x = 0
    · subst h0; simp
    · have h := ih (x / 2) (by omega) (y / 2)
      have o1 := @Nat.or_div_two_pow x y 1
      have o2 := @Nat.or_mod_two_pow x y 1
      have a1 := @Nat.and_div_two_pow x y 1
      have a2 := @Nat.and_mod_two_pow x y 1
      have x1 := @Nat.xor_div_two_pow x y 1
      have x2 := @Nat.xor_mod_two_pow x y 1
      simp only [Nat.pow_one] at o1 o2 a1 a2 x1 x2
      rcases Nat.mod_two_eq_zero_or_one x with e1 | e1 <;> rcases Nat.mod_two_eq_zero_or_one y with e2 | e2 <;> rw [e1, e2] at o2 a2 x2
      · have c1 : (0 ||| 0 : Nat) = 0 := rfl
        have c2 : (0 &&& 0 : Nat) = 0 := rfl
        have c3 : (0 ^^^ 0 : Nat) = 0 := rfl
        rw [c1] at o2; rw [c2] at a2; rw [c3] at x2; omega
      · have c1 : (0 ||| 1 : Nat) = 1 := rfl
        have c2 : (0 &&& 1 : Nat) = 0 := rfl
        have c3 : (0 ^^^ 1 : Nat) = 1 := rfl
        rw [c1] at o2; rw [c2] at a2; rw [c3] at x2; omega
      · have c1 : (1 ||| 0 : Nat) = 1 := rfl
        have c2 : (1 &&& 0 : Nat) = 0 := rfl
        have c3 : (1 ^^^ 0 : Nat) = 1 := rfl
        rw [c1] at o2; rw [c2] at a2; rw [c3] at x2; omega
      · have c1 : (1 ||| 1 : Nat) = 1 := rfl
        have c2 : (1 &&& 1 : Nat) = 1 := rfl
        have c3 : (1 ^^^ 1 : Nat) = 0 := rfl
        rw [c1] at o2; rw [c2] at a2; rw [c3] at x2; omega

theorem un_lt' (a : Int) : ∃ n : Nat, IntKind.u64.wrap a = n ∧ n < 18446744073709551616 := by
  have h := un_rng a
  exact ⟨(IntKind.u64.wrap a).toNat, by omega, by omega⟩
/-- or, and, xor of two numbers: what they make together -/
theorem bits_sum (a b : Int) : bits BinOp.or IntKind.u64 (IntKind.u64.wrap a) (IntKind.u64.wrap b) + bits BinOp.and IntKind.u64 (IntKind.u64.wrap a) (IntKind.u64.wrap b) = IntKind.u64.wrap a + IntKind.u64.wrap b ∧
    bits BinOp.xor IntKind.u64 (IntKind.u64.wrap a) (IntKind.u64.wrap b) + bits BinOp.and IntKind.u64 (IntKind.u64.wrap a) (IntKind.u64.wrap b) = bits BinOp.or IntKind.u64 (IntKind.u64.wrap a) (IntKind.u64.wrap b) := by
  obtain ⟨m, e1, h1⟩ := un_lt' a
  obtain ⟨n, e2, h2⟩ := un_lt' b
  rw [e1, e2, u64_or_nat m n h1 h2, u64_and_nat m n h1 h2, u64_xor_nat m n h1 h2]
  have := nat_bits m n
  omega
theorem m_or (a b : Int) : aluV 8 false a b = wrap64 (bits BinOp.or IntKind.u64 (IntKind.u64.wrap a) (IntKind.u64.wrap b)) := by rw [aluV_f, wv_8]
theorem m_and (a b : Int) : aluV 9 false a b = wrap64 (bits BinOp.and IntKind.u64 (IntKind.u64.wrap a) (IntKind.u64.wrap b)) := by rw [aluV_f, wv_9]
theorem m_xor (a b : Int) : aluV 10 false a b = wrap64 (bits BinOp.xor IntKind.u64 (IntKind.u64.wrap a) (IntKind.u64.wrap b)) := by rw [aluV_f, wv_10]
theorem u_w64 (x : Int) (h : 0 ≤ x ∧ x < 18446744073709551616) : IntKind.u64.wrap (wrap64 x) = x := by rw [IntKind.wrap_u64]; unfold wrap64; omega

/-- exclusive or undoes itself -/
theorem xor_undo (a b : Int) (ra : -9223372036854775808 ≤ a ∧ a ≤ 9223372036854775807) : aluV 10 false (aluV 10 false a b) b = a := by
  rw [m_xor, m_xor]
  obtain ⟨m, e1, h1⟩ := un_lt' a
  obtain ⟨n, e2, h2⟩ := un_lt' b
  rw [u_w64 _ (bits_rng _ _ _), e1, e2, u64_xor_nat m n h1 h2, u64_xor_nat _ n (Nat.xor_lt_two_pow (n := 64) h1 h2) h2]
  rw [Nat.xor_assoc, Nat.xor_self, Nat.xor_zero, ← e1, w64_wrap, w64_self ra]

theorem aluE_nd {op : Int} (n : Bool) (b : Int) (h1 : 1 ≤ op ∧ op ≤ 15) (h2 : op < 4 ∨ 7 < op) : aluE op n b = 0 :=
  aluE_ok (by omega) n b (fun h => by omega)

theorem alu_b (w0 : World) (op : Int) (n : Bool) (a b : Int) (w : World) (hB : Below w0.heap.size w0 w) :
    Calls Try.prog 60 #[.int .i64 op, .bool n, .int .i64 a, .int .i64 b] w fun e w' => e = .returned (.tuple #[.int .i64 (aluR op n a b), .int .i64 (aluE op n b)]) ∧ Below w0.heap.size w0 w' :=
  (alu_any op n a b w).mono fun _ _ ⟨h1, h2⟩ => ⟨h1, hB.trans (h2.mono hB.size)⟩
end Go.Proofs.Ytjhgjplhhhgfcaa
