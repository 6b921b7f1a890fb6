/- Contracts of package span: times, quotient, left, right, filled. -/
import Derived.Test.YtjhgjplhhhgfcaaGreatSpH
import Derived.Deep.QuietTactic
import Derived.BigQuiet
import Derived.Lib.Strings
import Derived.Lib.Slices
import Derived.Lib.Small
import Derived.Lib.Walk
namespace Go.Proofs.YtjhgjplhhhgfcaaGreat
open Go.ChangeShapes Go.WideShapes Go.ChangeAt Go.RowKit
open Spn
namespace Spc
set_option linter.unusedVariables false
set_option maxRecDepth 100000
theorem below_dn {B : Nat} {a w : World} (h : Below B a w) (n : Nat) : Below B a (w.drewN n) := ⟨h.os, h.tape, h.output, h.size, h.block⟩
theorem mag_any (v : Int) (hv : I64 v) (w : World) : Calls Tryz.prog 119 #[.int .i64 v] w fun e w' => e = .returned (.int .u64 (v.natAbs : Int)) ∧ w = w' := by
  unfold I64 LEAST TOP at hv
  by_cases h : v < 0
  · have HM := Lib.hid (show IntKind.u64.wrap (-IntKind.u64.wrap v) = (v.natAbs : Int) by rw [IntKind.wrap_u64, IntKind.wrap_u64]; omega)
    clear hv
    go_enter Tryz.func119, Tryz.ntmps119
    go_wp2_with fail
    go_ret
    exact ⟨congrArg (fun x => Ending.returned (.int .u64 x)) HM.out, rfl⟩
  · have HM := Lib.hid (show IntKind.u64.wrap v = (v.natAbs : Int) by rw [IntKind.wrap_u64]; omega)
    clear hv
    go_enter Tryz.func119, Tryz.ntmps119
    go_wp2_with fail
    go_ret
    exact ⟨congrArg (fun x => Ending.returned (.int .u64 x)) HM.out, rfl⟩
namespace Mul
theorem maskN (a : Nat) (ha : a < 18446744073709551616) : bits .and .u64 (a : Int) 4294967295 = ((a % 4294967296 : Nat) : Int) := by
  have h := bits_and_u64_nat a 4294967295 ha (by omega)
  have e : a &&& 4294967295 = a % 4294967296 := Nat.and_two_pow_sub_one_eq_mod a 32
  rw [e] at h
  exact h
theorem divN (a : Nat) : (a : Int) / 4294967296 = ((a / 4294967296 : Nat) : Int) := by omega
theorem mulN (a b : Nat) : (a : Int) * (b : Int) = ((a * b : Nat) : Int) := (Int.natCast_mul a b).symm
theorem addN (a b : Nat) : (a : Int) + (b : Int) = ((a + b : Nat) : Int) := (Int.natCast_add a b).symm
theorem wrapN (a : Nat) (ha : a < 18446744073709551616) : IntKind.u64.wrap (a : Int) = (a : Int) := by rw [IntKind.wrap_u64]; omega
theorem wrapM (a : Nat) : IntKind.u64.wrap (a : Int) = ((a % 18446744073709551616 : Nat) : Int) := by rw [IntKind.wrap_u64]; omega
end Mul
set_option maxHeartbeats 2000000 in
theorem mul64_any (x y : Nat) (hx : x < 18446744073709551616) (hy : y < 18446744073709551616) (w : World) :
    Calls Tryz.prog 118 #[.int .u64 x, .int .u64 y] w fun e w' => e = .returned (.tuple #[.int .u64 ((x * y / 18446744073709551616 : Nat) : Int), .int .u64 ((x * y % 18446744073709551616 : Nat) : Int)]) ∧ w = w' := by
  obtain ⟨bd, bt, bw, hhi⟩ := Lib.mul64_hi x y hx hy
  have ba := Lib.half_mul_le (a := x / 4294967296) (b := y / 4294967296) (by omega) (by omega)
  have bb := Lib.half_mul_le (a := x / 4294967296) (b := y % 4294967296) (by omega) (by omega)
  have bc := Lib.half_mul_le (a := x % 4294967296) (b := y / 4294967296) (by omega) (by omega)
  have ba' : x / 4294967296 * (y / 4294967296) < 18446744073709551616 := by omega
  have bb' : x / 4294967296 * (y % 4294967296) < 18446744073709551616 := by omega
  have bc' : x % 4294967296 * (y / 4294967296) < 18446744073709551616 := by omega
  have bh1 : x / 4294967296 * (y / 4294967296) + (x / 4294967296 * (y % 4294967296) + x % 4294967296 * (y % 4294967296) / 4294967296) / 4294967296 < 18446744073709551616 := by omega
  have bh : x / 4294967296 * (y / 4294967296) + (x / 4294967296 * (y % 4294967296) + x % 4294967296 * (y % 4294967296) / 4294967296) / 4294967296 + ((x / 4294967296 * (y % 4294967296) + x % 4294967296 * (y % 4294967296) / 4294967296) % 4294967296 + x % 4294967296 * (y / 4294967296)) / 4294967296 < 18446744073709551616 := by
    rw [hhi]
    have := Nat.mul_le_mul (show x ≤ 18446744073709551615 by omega) (show y ≤ 18446744073709551615 by omega)
    omega
  go_enter Tryz.func118, Tryz.ntmps118
  go_wp2
  simp only [Mul.maskN x hx, Mul.maskN y hy, Mul.divN, Mul.mulN, Mul.addN, Mul.wrapN _ bd, Mul.wrapN _ bb', Mul.wrapN _ bt, Mul.maskN _ bt, Mul.wrapN _ bc', Mul.wrapN _ bw, Mul.wrapN _ ba', Mul.wrapN _ bh1, Mul.wrapN _ bh, Mul.wrapM (x * y)]
  rw [hhi]
  go_ret2
  exact ⟨rfl, rfl⟩
theorem natAbs_mul' (a b : Int) : (a * b).natAbs = a.natAbs * b.natAbs := Int.natAbs_mul a b
set_option maxHeartbeats 2000000 in
theorem times_any (a b : Int) (ha : I64 a) (hb : I64 b) (w : World) : Calls Tryz.prog 88 #[.int .i64 a, .int .i64 b] w (RetX w (timesX a b)) := by
  have HA := Lib.hid (fun w => mag_any a ha w)
  have HB := Lib.hid (fun w => mag_any b hb w)
  have hM := fun w => mul64_any a.natAbs b.natAbs (by unfold I64 LEAST TOP at ha; omega) (by unfold I64 LEAST TOP at hb; omega) w
  have hP := natAbs_mul' a b
  rw [← hP] at hM
  have HM := Lib.hid hM
  clear hM
  have hs : (a < 0 ∧ ¬ b < 0) ∨ (¬ a < 0 ∧ b < 0) ∨ (a < 0 ∧ b < 0) ∨ (¬ a < 0 ∧ ¬ b < 0) := by omega
  have hsg : (((a < 0 ∧ ¬ b < 0) ∨ (¬ a < 0 ∧ b < 0)) → a * b ≤ 0) ∧ (((a < 0 ∧ b < 0) ∨ (¬ a < 0 ∧ ¬ b < 0)) → 0 ≤ a * b) := by
    constructor
    · rintro (⟨h1, h2⟩ | ⟨h1, h2⟩)
      · exact Int.mul_nonpos_of_nonpos_of_nonneg (by omega) (by omega)
      · exact Int.mul_nonpos_of_nonneg_of_nonpos (by omega) (by omega)
    · rintro (⟨h1, h2⟩ | ⟨h1, h2⟩)
      · exact Int.mul_nonneg_of_nonpos_of_nonpos (by omega) (by omega)
      · exact Int.mul_nonneg (by omega) (by omega)
  unfold timesX
  generalize a * b = p at *
  generalize a.natAbs = x at *
  generalize b.natAbs = y at *
  clear hP
  rcases (by omega : p.natAbs ≤ 9223372036854775807 ∨ p.natAbs = 9223372036854775808 ∨ (9223372036854775808 < p.natAbs ∧ p.natAbs < 18446744073709551616) ∨ 18446744073709551616 ≤ p.natAbs) with h | h | ⟨h, h'⟩ | h
  all_goals
    rcases hs with ⟨s1, s2⟩ | ⟨s1, s2⟩ | ⟨s1, s2⟩ | ⟨s1, s2⟩
    all_goals
      first
        | (have hp : p ≤ 0 := hsg.1 (by omega))
        | (have hp : 0 ≤ p := hsg.2 (by omega))
      clear hsg ha hb
      first
        | (rw [fits_in (by unfold LEAST TOP; omega)]
           have e1 : p.natAbs / 18446744073709551616 = 0 := by omega
           rw [e1] at HM
           have HV := Lib.hid (show wrap64 ((p.natAbs % 18446744073709551616 : Nat) : Int) = p by unfold wrap64; omega)
           have t2 : decide (((p.natAbs % 18446744073709551616 : Nat) : Int) < 9223372036854775808) = true := decide_eq_true (by omega))
        | (rw [fits_in (by unfold LEAST TOP; omega)]
           have e1 : p.natAbs / 18446744073709551616 = 0 := by omega
           rw [e1] at HM
           have HV := Lib.hid (show wrap64 (IntKind.u64.wrap (-((p.natAbs % 18446744073709551616 : Nat) : Int))) = p by rw [IntKind.wrap_u64]; unfold wrap64; omega)
           have t2 : decide (((p.natAbs % 18446744073709551616 : Nat) : Int) ≤ 9223372036854775808) = true := decide_eq_true (by omega))
        | (rw [fits_no (by unfold LEAST TOP; omega)]
           have e1 : p.natAbs / 18446744073709551616 = 0 := by omega
           rw [e1] at HM
           have t2 : decide (((p.natAbs % 18446744073709551616 : Nat) : Int) < 9223372036854775808) = false := decide_eq_false (by omega)
           first
             | (have t3 : decide (((p.natAbs % 18446744073709551616 : Nat) : Int) ≤ 9223372036854775808) = false := decide_eq_false (by omega))
             | skip)
        | (rw [fits_no (by unfold LEAST TOP; omega)]
           have t1 : (((p.natAbs / 18446744073709551616 : Nat) : Int) == 0) = false := by simp; omega)
  all_goals
    generalize ((p.natAbs % 18446744073709551616 : Nat) : Int) = lo at *
    try generalize ((p.natAbs / 18446744073709551616 : Nat) : Int) = hi at *
    clear h hp
    first
      | (have u1 : decide (a < 0) = true := decide_eq_true s1
         have u2 : decide (b < 0) = false := decide_eq_false s2)
      | (have u1 : decide (a < 0) = false := decide_eq_false s1
         have u2 : decide (b < 0) = true := decide_eq_true s2)
      | (have u1 : decide (a < 0) = true := decide_eq_true s1
         have u2 : decide (b < 0) = true := decide_eq_true s2)
      | (have u1 : decide (a < 0) = false := decide_eq_false s1
         have u2 : decide (b < 0) = false := decide_eq_false s2)
    clear s1 s2
    go_enter Tryz.func88, Tryz.ntmps88
    go_wp2_with fail
    refine (HA.out _).mono ?_
    rintro e w' ⟨rfl, rfl⟩
    go_wp2_with fail
    refine (HB.out _).mono ?_
    rintro e w' ⟨rfl, rfl⟩
    go_wp2_with fail
    refine (HM.out _).mono ?_
    rintro e w' ⟨rfl, rfl⟩
    go_wp2_with fail
    go_ret2
    first
      | exact retQ_at (Below.refl _ _) (o := some p) rfl (by intro u e; cases e; exact HV.out)
      | exact retQ_none w _
set_option maxHeartbeats 1000000 in
theorem quot_any (a b : Int) (ha : I64 a) (hb : I64 b) (h0 : b ≠ 0) (w : World) : Calls Tryz.prog 120 #[.int .i64 a, .int .i64 b] w (RetX w (quotX a b)) := by
  unfold quotX
  unfold I64 LEAST TOP at ha hb
  have hz : (b == 0) = false := by simpa using h0
  by_cases h : a = -9223372036854775808 ∧ b = -1
  · obtain ⟨rfl, rfl⟩ := h
    rw [fits_no (by decide)]
    clear h0 hz
    go_enter Tryz.func120, Tryz.ntmps120
    go_wp2_with fail
    go_ret2
    exact retQ_none w _
  · have hq : -9223372036854775808 ≤ a.tdiv b ∧ a.tdiv b ≤ 9223372036854775807 := by
      have h1 : (a.tdiv b).natAbs = a.natAbs / b.natAbs := Int.natAbs_tdiv a b
      have h2 : a.natAbs / b.natAbs ≤ a.natAbs := Nat.div_le_self _ _
      by_cases hm : a = -9223372036854775808
      · subst hm
        by_cases hb1 : b = 1
        · subst hb1; decide
        · have h3 : ((-9223372036854775808 : Int).natAbs) / b.natAbs ≤ (-9223372036854775808 : Int).natAbs / 2 := Nat.div_le_div_left (by omega) (by decide)
          have h4 : (-9223372036854775808 : Int).natAbs / 2 = 4611686018427387904 := by decide
          omega
      · omega
    rw [fits_in hq]
    have HV := Lib.hid (show wrap64 (a.tdiv b) = a.tdiv b from IntWalk.wrap64_in _ hq)
    have hg : ((a == -9223372036854775808) && (b == -1)) = false := by
      rw [Bool.eq_false_iff]; intro hh
      rw [Bool.and_eq_true] at hh
      exact h ⟨eq_of_beq hh.1, eq_of_beq hh.2⟩
    clear hq h
    cases t1 : (a == -9223372036854775808)
    · go_enter Tryz.func120, Tryz.ntmps120
      go_wp2_with fail
      go_ret2
      exact retQ_at (Below.refl _ _) (o := some (a.tdiv b)) rfl (by intro u e; cases e; exact HV.out)
    · have t2 : (b == -1) = false := by rw [t1, Bool.true_and] at hg; exact hg
      obtain rfl : a = -9223372036854775808 := eq_of_beq t1
      rw [show (-9223372036854775808 : Int).tdiv b = -(Int.tdiv 9223372036854775808 b) from Int.neg_tdiv 9223372036854775808 b] at HV ⊢
      clear hg
      go_enter Tryz.func120, Tryz.ntmps120
      go_wp2_with fail
      go_ret2
      exact retQ_at (Below.refl _ _) (o := some (-(Int.tdiv 9223372036854775808 b))) rfl (by intro u e; cases e; exact HV.out)
theorem left_math (a : Int) (ha : I64 a) (k : Nat) (hk : k ≤ 63) : (wrap64 (a * 2 ^ k) / 2 ^ k == a) = (fits (a * 2 ^ k)).isSome ∧ ∀ u, fits (a * 2 ^ k) = some u → wrap64 (a * 2 ^ k) = u := by
  obtain ⟨h0, h1⟩ := nat_lt hk
  by_cases hf : LEAST ≤ a * 2 ^ k ∧ a * 2 ^ k ≤ TOP
  · rw [fits_in hf, w64_id hf]
    refine ⟨?_, fun u e => by cases e; rfl⟩
    rw [Int.mul_ediv_cancel _ (by omega), beq_self_eq_true]; rfl
  · rw [show fits (a * 2 ^ k) = none by unfold fits; rw [if_neg hf]]
    refine ⟨?_, fun u e => by cases e⟩
    rw [Option.isSome_none, beq_eq_false_iff_ne]
    intro h
    apply hf
    have hw := w64_in (a * 2 ^ k)
    have he : wrap64 (a * 2 ^ k) = a * 2 ^ k := by
      have e1 := Int.emod_add_mul_ediv (wrap64 (a * 2 ^ k)) (2 ^ k)
      rw [h] at e1
      have e2 := Int.emod_nonneg (wrap64 (a * 2 ^ k)) (show (2 : Int) ^ k ≠ 0 by omega)
      have e3 := Int.emod_lt_of_pos (wrap64 (a * 2 ^ k)) h0
      have e4 : ∃ q, wrap64 (a * 2 ^ k) = a * 2 ^ k + 18446744073709551616 * q := by
        refine ⟨-((a * 2 ^ k + 9223372036854775808) / 18446744073709551616), ?_⟩
        unfold wrap64; omega
      obtain ⟨q, e4⟩ := e4
      rw [Int.mul_comm (2 ^ k) a] at e1
      generalize a * 2 ^ k = p at *
      generalize wrap64 p % 2 ^ k = r at *
      generalize wrap64 p = v at *
      omega
    rw [← he]; exact hw
set_option maxHeartbeats 1000000 in
theorem left_any (a c : Int) (ha : I64 a) (h0 : 0 ≤ c) (h1 : c ≤ 63) (w : World) : Calls Tryz.prog 139 #[.int .i64 a, .int .i64 c] w (RetX w (leftX a c)) := by
  obtain ⟨k, rfl⟩ := Int.eq_ofNat_of_zero_le h0
  have hk : k ≤ 63 := by omega
  unfold leftX
  rw [Int.toNat_natCast]
  have HM := Lib.hid (left_math a ha k hk)
  go_enter Tryz.func139, Tryz.ntmps139
  go_wp2_with fail
  go_quiet (fail)
  go_wp2_with fail
  go_ret2
  exact retQ_at (below_dn (Below.refl _ _) _) HM.out.1 HM.out.2
set_option maxHeartbeats 1000000 in
theorem right_any (a c : Int) (h0 : 0 ≤ c) (h1 : c ≤ 63) (w : World) : Calls Tryz.prog 140 #[.int .i64 a, .int .i64 c] w (RetX w (rightX a c)) := by
  obtain ⟨k, rfl⟩ := Int.eq_ofNat_of_zero_le h0
  have hk : k ≤ 63 := by omega
  unfold rightX
  rw [Int.toNat_natCast]
  go_enter Tryz.func140, Tryz.ntmps140
  go_wp2_with fail
  go_ret2
  exact retQ_some w _
end Spc
end Go.Proofs.YtjhgjplhhhgfcaaGreat
