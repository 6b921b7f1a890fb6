/- Division: what its law's helpers answer, and the arithmetic of quotient and rest. -/
import Derived.Test.YtmoecflmdfkgdaaShiftsMath
namespace Go.Proofs.Ytmoecflmdfkgdaa
open Go.ChangeShapes Go.WideShapes Go.ChangeAt Go.RowKit
open Bits
set_option linter.unusedVariables false

theorem nat_xor_top (m : Nat) (hm : m < 18446744073709551616) : m ^^^ 9223372036854775808 = if m < 9223372036854775808 then m + 9223372036854775808 else m - 9223372036854775808 := by
  have h1 := @Nat.xor_div_two_pow m 9223372036854775808 63
  have h2 := @Nat.xor_mod_two_pow m 9223372036854775808 63
  rw [show (2 : Nat) ^ 63 = 9223372036854775808 from rfl] at h1 h2
  rw [show (9223372036854775808 : Nat) / 9223372036854775808 = 1 from rfl] at h1
  rw [show (9223372036854775808 : Nat) % 9223372036854775808 = 0 from rfl, Nat.xor_zero] at h2
  by_cases h : m < 9223372036854775808
  · rw [show m / 9223372036854775808 = 0 by omega, Nat.zero_xor] at h1
    rw [if_pos h]; omega
  · rw [show m / 9223372036854775808 = 1 by omega, Nat.xor_self] at h1
    rw [if_neg h]; omega
theorem xor_least (x : Int) (rx : -9223372036854775808 ≤ x ∧ x ≤ 9223372036854775807) : bits BinOp.xor IntKind.i64 x (-9223372036854775808) = IntKind.u64.wrap x - 9223372036854775808 := by
  show IntKind.i64.wrap (((BitVec.ofInt 64 x ^^^ BitVec.ofInt 64 (-9223372036854775808)).toNat : Nat) : Int) = _
  have e1 : (BitVec.ofInt 64 (-9223372036854775808)).toNat = 9223372036854775808 := by decide
  rw [BitVec.toNat_xor, e1, BitVec.toNat_ofInt, IntKind.wrap_u64]
  have hm : (x % ((2 ^ 64 : Nat) : Int)).toNat < 18446744073709551616 := by omega
  rw [nat_xor_top _ hm]
  have hx : ((x % ((2 ^ 64 : Nat) : Int)).toNat : Int) = x % 18446744073709551616 := by omega
  generalize (x % ((2 ^ 64 : Nat) : Int)).toNat = m at *
  rw [← hx]
  split
  · rw [IntKind.wrap_i64]; omega
  · rw [IntKind.wrap_i64]; omega

theorem ahead_any (x y : Int) (rx : -9223372036854775808 ≤ x ∧ x ≤ 9223372036854775807) (ry : -9223372036854775808 ≤ y ∧ y ≤ 9223372036854775807) (w : World) :
    Calls Try.prog 36 #[.int .i64 x, .int .i64 y] w fun e w' => e = .returned (.bool (decide (IntKind.u64.wrap x < IntKind.u64.wrap y))) ∧ w = w' := by
  have HX := Lib.hid (xor_least x rx)
  have HY := Lib.hid (xor_least y ry)
  clear rx ry
  go_enter Try.func36, Try.ntmps36
  go_wp2_with fail
  go_ret
  refine ⟨?_, rfl⟩
  show Ending.returned (.bool (decide (bits BinOp.xor IntKind.i64 x (-9223372036854775808) < bits BinOp.xor IntKind.i64 y (-9223372036854775808)))) = _
  rw [HX.out, HY.out]
  refine congrArg (fun v => Ending.returned (.bool v)) ?_
  rw [decide_eq_decide]
  generalize IntKind.u64.wrap x = p
  generalize IntKind.u64.wrap y = q
  omega

theorem hi_eq (x : Int) : bits BinOp.and IntKind.i64 (x / 4294967296) 4294967295 = IntKind.u64.wrap x / 4294967296 := by
  have := and_low (x / 4294967296) 32 (by decide)
  rw [show (2 : Int) ^ 32 - 1 = 4294967295 from rfl, show (2 : Int) ^ 32 = 4294967296 from rfl] at this
  rw [this, IntKind.wrap_u64]; omega
theorem lo_eq (x : Int) : x % 4294967296 = IntKind.u64.wrap x % 4294967296 := by rw [IntKind.wrap_u64]; omega

/-- two unsigned numbers whose product fits, by halves -/
theorem fit_math (B Q : Int) (hB : 0 ≤ B ∧ B < 18446744073709551616) (hQ : 0 ≤ Q ∧ Q < 18446744073709551616) (h : B * Q < 18446744073709551616) :
    (B / 4294967296 = 0 ∨ Q / 4294967296 = 0) ∧ 0 ≤ B / 4294967296 * (Q % 4294967296) ∧ 0 ≤ B % 4294967296 * (Q / 4294967296) ∧
    B / 4294967296 * (Q % 4294967296) + B % 4294967296 * (Q / 4294967296) ≤ 4294967295 ∧
    B * Q = B % 4294967296 * (Q % 4294967296) + 4294967296 * (B / 4294967296 * (Q % 4294967296) + B % 4294967296 * (Q / 4294967296)) ∧
    0 ≤ B % 4294967296 * (Q % 4294967296) := by
  have b1 : B = 4294967296 * (B / 4294967296) + B % 4294967296 := by omega
  have q1 : Q = 4294967296 * (Q / 4294967296) + Q % 4294967296 := by omega
  have bh : 0 ≤ B / 4294967296 := by omega
  have bl : 0 ≤ B % 4294967296 ∧ B % 4294967296 < 4294967296 := by omega
  have qh : 0 ≤ Q / 4294967296 := by omega
  have ql : 0 ≤ Q % 4294967296 ∧ Q % 4294967296 < 4294967296 := by omega
  generalize B / 4294967296 = x at *
  generalize B % 4294967296 = y at *
  generalize Q / 4294967296 = u at *
  generalize Q % 4294967296 = v at *
  have hxu := Int.mul_nonneg bh qh
  have hxv := Int.mul_nonneg bh ql.1
  have hyu := Int.mul_nonneg bl.1 qh
  have hyv := Int.mul_nonneg bl.1 ql.1
  have e : B * Q = 18446744073709551616 * (x * u) + 4294967296 * (x * v + y * u) + y * v := by
    rw [b1, q1, Int.add_mul, Int.mul_add, Int.mul_add]
    have e1 : 4294967296 * x * (4294967296 * u) = 18446744073709551616 * (x * u) := by
      rw [Int.mul_assoc, Int.mul_left_comm x, ← Int.mul_assoc]; rfl
    have e2 : 4294967296 * x * v = 4294967296 * (x * v) := Int.mul_assoc _ _ _
    have e3 : y * (4294967296 * u) = 4294967296 * (y * u) := Int.mul_left_comm _ _ _
    rw [e1, e2, e3]; omega
  have hz : x * u = 0 := by omega
  refine ⟨Int.mul_eq_zero.1 hz, hxv, hyu, by omega, by omega, hyv⟩

set_option maxHeartbeats 1000000 in
theorem fitted_any (b q : Int) (rb : -9223372036854775808 ≤ b ∧ b ≤ 9223372036854775807) (rq : -9223372036854775808 ≤ q ∧ q ≤ 9223372036854775807)
    (h : IntKind.u64.wrap b * IntKind.u64.wrap q < 18446744073709551616) (w : World) :
    Calls Try.prog 37 #[.int .i64 b, .int .i64 q] w fun e w' => e = .returned (.bool true) ∧ w = w' := by
  obtain ⟨h0, h1, h2, h3, h4, h5⟩ := fit_math _ _ (un_rng b) (un_rng q) h
  have hb := hi_eq b
  have hq := hi_eq q
  have H1 := Lib.hid (lo_eq b)
  have H2 := Lib.hid (lo_eq q)
  have u0 := un_rng b
  have u1 := un_rng q
  have c1 : 0 ≤ IntKind.u64.wrap b / 4294967296 ∧ IntKind.u64.wrap b / 4294967296 ≤ 4294967295 := by omega
  have c2 : 0 ≤ IntKind.u64.wrap q / 4294967296 ∧ IntKind.u64.wrap q / 4294967296 ≤ 4294967295 := by omega
  have c3 : 0 ≤ IntKind.u64.wrap b % 4294967296 ∧ IntKind.u64.wrap b % 4294967296 ≤ 4294967295 := by omega
  have c4 : 0 ≤ IntKind.u64.wrap q % 4294967296 ∧ IntKind.u64.wrap q % 4294967296 ≤ 4294967295 := by omega
  have hBQ := Int.mul_nonneg u0.1 u1.1
  clear u0 u1
  generalize IntKind.u64.wrap b * IntKind.u64.wrap q = BQ at *
  generalize IntKind.u64.wrap b / 4294967296 = bh at *
  generalize IntKind.u64.wrap q / 4294967296 = qh at *
  generalize IntKind.u64.wrap b % 4294967296 = bl at *
  generalize IntKind.u64.wrap q % 4294967296 = ql at *
  have hA : ∀ w : World, Calls Try.prog 36 #[.int .i64 (wrap64 (wrap64 (bl * ql) + wrap64 ((bh * ql + bl * qh) * 4294967296))), .int .i64 (wrap64 (bl * ql))] w fun e w' => e = .returned (.bool false) ∧ w = w' := by
    intro w
    refine (ahead_any _ _ (w64_rng _) (w64_rng _) w).mono ?_
    rintro e w' ⟨rfl, rfl⟩
    refine ⟨?_, rfl⟩
    refine congrArg (fun v => Ending.returned (.bool v)) ?_
    rw [decide_eq_false_iff_not]
    have e1 : IntKind.u64.wrap (wrap64 (bl * ql)) = bl * ql := u_w64 _ (by omega)
    have e2 : wrap64 (wrap64 (bl * ql) + wrap64 ((bh * ql + bl * qh) * 4294967296)) = wrap64 BQ := by
      have m1 := w64_mod (bl * ql)
      have m2 := w64_mod ((bh * ql + bl * qh) * 4294967296)
      refine w64_congr ?_
      rw [h4]
      generalize bl * ql = s at *
      generalize bh * ql + bl * qh = t at *
      omega
    rw [e1, e2, u_w64 _ ⟨hBQ, h⟩]
    omega
  have HA := Lib.hid hA
  clear hA h4 h
  have hbq : (bh != 0) = false ∨ (bh != 0) = true ∧ (qh != 0) = false := by
    rcases h0 with h0 | h0
    · exact .inl (by simp [h0])
    · by_cases hb0 : bh = 0
      · exact .inl (by simp [hb0])
      · exact .inr ⟨by simp [hb0], by simp [h0]⟩
  clear h0 hBQ
  have c5 : 0 ≤ bh * ql ∧ bh * ql ≤ 4294967295 := by omega
  have c6 : 0 ≤ bl * qh ∧ bl * qh ≤ 4294967295 := by omega
  have c7 : 0 ≤ bh * ql + bl * qh ∧ bh * ql + bl * qh ≤ 4294967295 := by omega
  have c8 : bits BinOp.and IntKind.i64 ((bh * ql + bl * qh) / 4294967296) 4294967295 = 0 := by
    have := and_low ((bh * ql + bl * qh) / 4294967296) 32 (by decide)
    rw [show (2 : Int) ^ 32 - 1 = 4294967295 from rfl, show (2 : Int) ^ 32 = 4294967296 from rfl] at this
    rw [this]; omega
  rcases hbq with t1 | ⟨t1, t2⟩
  all_goals
    go_enter Try.func37, Try.ntmps37
    go_wp2_with fail
    refine (llow_any b 32 (by decide) _).mono ?_
    rintro e w' ⟨rfl, rfl⟩
    rw [show (2 : Int) ^ 32 = 4294967296 from rfl, H1.out]
    go_wp2_with fail
    refine (llow_any q 32 (by decide) _).mono ?_
    rintro e w' ⟨rfl, rfl⟩
    rw [show (2 : Int) ^ 32 = 4294967296 from rfl, H2.out]
    go_wp2_with fail
    refine (HA.out _).mono ?_
    rintro e w' ⟨rfl, rfl⟩
    go_wp2_with fail
    go_ret
    exact ⟨rfl, rfl⟩
end Go.Proofs.Ytmoecflmdfkgdaa
