/- What shifts by single places come to. -/
import Derived.Test.YtmoecflmdfkgdaaAluMath
import Derived.Test.YtmoecflmdfkgdaaExt
namespace Go.Proofs.Ytmoecflmdfkgdaa
open Go.ChangeShapes Go.WideShapes Go.ChangeAt Go.RowKit
open Bits
set_option linter.unusedVariables false

theorem and_low (x : Int) (k : Nat) (hk : k ≤ 62) : bits BinOp.and IntKind.i64 x (2 ^ k - 1) = x % 2 ^ k := by
  have hp : (0 : Int) < 2 ^ k := pow_pos' k
  have h62 : (2 : Int) ^ k ≤ 2 ^ 62 := pow_le_of hk
  rw [show (2 : Int) ^ 62 = 4611686018427387904 from rfl] at h62
  have em : ((2 : Int) ^ k - 1) = ((2 ^ k - 1 : Nat) : Int) := by
    rw [Int.ofNat_sub (Nat.pow_pos (by decide))]; simp
  show IntKind.i64.wrap (((BitVec.ofInt 64 x &&& BitVec.ofInt 64 (2 ^ k - 1)).toNat : Nat) : Int) = x % 2 ^ k
  have hlt : 2 ^ k - 1 < 18446744073709551616 := by omega
  have e1 : (BitVec.ofInt 64 ((2 : Int) ^ k - 1)).toNat = 2 ^ k - 1 := by rw [em]; exact ofInt_u64 _ hlt
  rw [BitVec.toNat_and, e1, Nat.and_two_pow_sub_one_eq_mod, BitVec.toNat_ofInt]
  have e2 : (((x % ((2 ^ 64 : Nat) : Int)).toNat % 2 ^ k : Nat) : Int) = x % 2 ^ k := by
    rw [Int.natCast_emod, Int.toNat_of_nonneg (Int.emod_nonneg _ (by decide))]
    rw [show (((2 : Nat) ^ k : Nat) : Int) = 2 ^ k by simp]
    exact Int.emod_emod_of_dvd x ⟨2 ^ (64 - k), (pow_split (show k + (64 - k) = 64 by omega)).symm⟩
  rw [e2]
  have h0 := Int.emod_nonneg x (show (2 : Int) ^ k ≠ 0 by omega)
  have h1 := Int.emod_lt_of_pos x hp
  exact IntWalk.i64_in _ (by omega)

theorem mask_i64 (k : Nat) (hk : k ≤ 62) : wrap64 (wrap64 (2 ^ k) - 1) = 2 ^ k - 1 := by
  have hp : (0 : Int) < 2 ^ k := pow_pos' k
  have h62 : (2 : Int) ^ k ≤ 2 ^ 62 := pow_le_of hk
  rw [show (2 : Int) ^ 62 = 4611686018427387904 from rfl] at h62
  rw [IntWalk.wrap64_in (2 ^ k) (by omega), IntWalk.wrap64_in _ (by omega)]

set_option maxHeartbeats 400000 in
theorem llow_any (v : Int) (k : Nat) (hk : k ≤ 62) (w : World) :
    Calls Try.prog 32 #[.int .i64 v, .int .i64 k] w fun e w' => e = .returned (.int .i64 (v % 2 ^ k)) ∧ w = w' := by
  have hm := and_low v k hk
  rw [← mask_i64 k hk] at hm
  have HM := Lib.hid hm
  clear hm
  go_enter Try.func32, Try.ntmps32
  go_wp2_with fail
  go_ret
  refine ⟨?_, rfl⟩
  rw [← HM.out]
  rfl

/-! ### wide -/
theorem pow_succ2 (i : Nat) : (2 : Int) ^ (i + 1) = 2 ^ i * 2 := Int.pow_succ ..
theorem sh_up (a : Int) (i : Nat) : aluV 1 false (wrap64 (a * 2 ^ i)) (wrap64 (a * 2 ^ i)) = wrap64 (a * 2 ^ (i + 1)) := by
  rw [m_add, pow_succ2, ← Int.mul_assoc]
  have h := w64_mod (a * 2 ^ i)
  generalize a * 2 ^ i = x at *
  exact w64_congr (by omega)
theorem div_rng2 (x : Int) (hx : 0 ≤ x ∧ x < 18446744073709551616) (i : Nat) : 0 ≤ x / 2 ^ i ∧ x / 2 ^ i < 18446744073709551616 := shr_rng hx i
theorem sh_down (a : Int) (i : Nat) : aluV 4 false (wrap64 (IntKind.u64.wrap a / 2 ^ i)) 2 = wrap64 (IntKind.u64.wrap a / 2 ^ (i + 1)) := by
  rw [aluV_f, wv_4, u_w64 _ (div_rng2 _ (un_rng a) i), show IntKind.u64.wrap 2 = 2 from rfl, pow_succ2, Int.ediv_ediv_of_nonneg (Int.le_of_lt (pow_pos' i))]
theorem keep_rng (a : Int) (ra : -9223372036854775808 ≤ a ∧ a ≤ 9223372036854775807) (i : Nat) : -9223372036854775808 ≤ a / 2 ^ i ∧ a / 2 ^ i ≤ 9223372036854775807 := by
  have hp := pow_pos' i
  constructor
  · rw [Int.le_ediv_iff_mul_le hp]
    have : (-9223372036854775808 : Int) * 2 ^ i ≤ -9223372036854775808 * 1 := Int.mul_le_mul_of_nonpos_left (by omega) (by omega)
    omega
  · have h : a / 2 ^ i < 9223372036854775808 := by
      rw [Int.ediv_lt_iff_lt_mul hp]
      have : (9223372036854775808 : Int) * 1 ≤ 9223372036854775808 * 2 ^ i := Int.mul_le_mul_of_nonneg_left (by omega) (by omega)
      omega
    omega
theorem m_arsh (a : Int) (k : Int) {j : Nat} (h : (IntKind.u64.wrap k % 64).toNat = j) (ra : -9223372036854775808 ≤ a ∧ a ≤ 9223372036854775807) : aluV 13 false a k = a / 2 ^ j := by
  rw [aluV_f, wv_13, h, w64_wrap, w64_wrap, w64_self ra, w64_self (keep_rng a ra j)]
theorem sh_keep (a : Int) (i : Nat) (ra : -9223372036854775808 ≤ a ∧ a ≤ 9223372036854775807) : aluV 13 false (a / 2 ^ i) 1 = a / 2 ^ (i + 1) := by
  rw [m_arsh (a / 2 ^ i) 1 (j := 1) rfl (keep_rng a ra i), pow_succ2 i, ← Int.ediv_ediv_of_nonneg (Int.le_of_lt (pow_pos' i))]; rfl
/-- how far a shift goes -/
def far64 (b : Int) : Nat := (b % 64).toNat
theorem far_u (b : Int) : (IntKind.u64.wrap b % 64).toNat = far64 b := by unfold far64; rw [IntKind.wrap_u64]; congr 1; omega
theorem m_lsh (a b : Int) : aluV 11 false a b = wrap64 (a * 2 ^ far64 b) := by
  rw [aluV_f, wv_11, far_u, w64_wrap]
  refine w64_congr ?_
  rw [Int.mul_emod, u_mod, ← Int.mul_emod]
theorem m_rsh (a b : Int) : aluV 12 false a b = wrap64 (IntKind.u64.wrap a / 2 ^ far64 b) := by rw [aluV_f, wv_12, far_u]
theorem m_arsh' (a b : Int) (ra : -9223372036854775808 ≤ a ∧ a ≤ 9223372036854775807) : aluV 13 false a b = a / 2 ^ far64 b := m_arsh a b (far_u b) ra

/-! ### narrow -/
def far32 (b : Int) : Nat := (b % 32).toNat
theorem far_n (b : Int) : (IntKind.u64.wrap b % 32 % 64).toNat = far32 b := by unfold far32; rw [IntKind.wrap_u64]; congr 1; omega
theorem u_low (a : Int) : IntKind.u64.wrap a % 4294967296 = a % 4294967296 := by rw [IntKind.wrap_u64]; omega
theorem u_self {x : Int} (h : 0 ≤ x ∧ x < 4294967296) : IntKind.u64.wrap x = x := by rw [IntKind.wrap_u64]; omega
theorem n_up (a : Int) (i : Nat) : aluV 1 true (a * 2 ^ i % 4294967296) (a * 2 ^ i % 4294967296) = a * 2 ^ (i + 1) % 4294967296 := by
  rw [aluV_t, hv1_1, hv2_1, wv_1n, pow_succ2, ← Int.mul_assoc, u_low]
  generalize a * 2 ^ i = x at *
  omega
theorem low_div (a : Int) (i : Nat) : 0 ≤ a % 4294967296 / 2 ^ i ∧ a % 4294967296 / 2 ^ i < 4294967296 := by
  have hp := pow_pos' i
  have h : 0 ≤ a % 4294967296 := by omega
  exact ⟨Int.ediv_nonneg h (Int.le_of_lt hp), Int.lt_of_le_of_lt (Int.ediv_le_self _ h) (by omega)⟩
theorem n_down (a : Int) (i : Nat) : aluV 4 true (a % 4294967296 / 2 ^ i) 2 = a % 4294967296 / 2 ^ (i + 1) := by
  have h := low_div a i
  have h2 := low_div a (i + 1)
  rw [aluV_t, hv1_4, hv2_4, wv_4, u_low, u_low]
  rw [show (2 : Int) % 4294967296 = 2 from rfl, Int.emod_eq_of_lt h.1 h.2, Int.ediv_ediv_of_nonneg (Int.le_of_lt (pow_pos' i)), ← pow_succ2, Int.emod_eq_of_lt h2.1 h2.2]
theorem sx32_rng (a : Int) : -2147483648 ≤ sx 32 a ∧ sx 32 a < 2147483648 := by
  have := sx_rng 32 (by decide) a
  rwa [show (2 : Int) ^ (32 - 1) = 2147483648 from rfl] at this
theorem sg_eq (a : Int) : wrap64 (sg (IntKind.u64.wrap a)) = sx 32 a := by
  unfold sg
  rw [sx_u64 32 (by omega), w64_wrap, w64_self (by have := sx32_rng a; omega)]
theorem sx32_div (a : Int) (i : Nat) : -2147483648 ≤ sx 32 a / 2 ^ i ∧ sx 32 a / 2 ^ i < 2147483648 := by
  have hr := sx32_rng a
  have hp := pow_pos' i
  constructor
  · rw [Int.le_ediv_iff_mul_le hp]
    have : (-2147483648 : Int) * 2 ^ i ≤ -2147483648 * 1 := Int.mul_le_mul_of_nonpos_left (by omega) (by omega)
    omega
  · rw [Int.ediv_lt_iff_lt_mul hp]
    have : (2147483648 : Int) * 1 ≤ 2147483648 * 2 ^ i := Int.mul_le_mul_of_nonneg_left (by omega) (by omega)
    omega
theorem sx32_low {x : Int} (h : -2147483648 ≤ x ∧ x < 2147483648) : sx 32 (x % 4294967296) = x := by
  unfold sx
  rw [show (2 : Int) ^ 32 = 4294967296 from rfl, show (2 : Int) ^ (32 - 1) = 2147483648 from rfl]
  split <;> omega
theorem n_arsh (a k : Int) {j : Nat} (h : (IntKind.u64.wrap k % 32 % 64).toNat = j) : aluV 13 true a k = sx 32 a / 2 ^ j % 4294967296 := by
  rw [aluV_t, hv1_13, hv2_13, wv_13, h, sg_eq, IntKind.wrap_u64]
  generalize sx 32 a / 2 ^ j = x
  omega
theorem n_keep (a : Int) (i : Nat) : aluV 13 true (sx 32 a / 2 ^ i % 4294967296) 1 = sx 32 a / 2 ^ (i + 1) % 4294967296 := by
  rw [n_arsh _ 1 (j := 1) rfl, sx32_low (sx32_div a i), pow_succ2 i, ← Int.ediv_ediv_of_nonneg (Int.le_of_lt (pow_pos' i))]; rfl
theorem n_keep0 (a : Int) : a % 4294967296 = sx 32 a / 2 ^ 0 % 4294967296 := by
  rw [Int.pow_zero, Int.ediv_one]
  unfold sx
  rw [show (2 : Int) ^ 32 = 4294967296 from rfl, show (2 : Int) ^ (32 - 1) = 2147483648 from rfl]
  split <;> omega
theorem n_lsh (a b : Int) : aluV 11 true a b = a * 2 ^ far32 b % 4294967296 := by
  rw [aluV_t, hv1_11, hv2_11, wv_11, far_n, u_low, u_low]
  rw [Int.mul_emod, Int.emod_emod, ← Int.mul_emod]
theorem n_rsh (a b : Int) : aluV 12 true a b = a % 4294967296 / 2 ^ far32 b := by
  rw [aluV_t, hv1_12, hv2_12, wv_12, far_n, u_low]
  have h := low_div a (far32 b)
  exact Int.emod_eq_of_lt h.1 h.2
theorem n_arsh' (a b : Int) : aluV 13 true a b = sx 32 a / 2 ^ far32 b % 4294967296 := n_arsh a b (far_n b)
theorem and63 (b : Int) : bits BinOp.and IntKind.i64 b 63 = (far64 b : Int) := by
  have := and_low b 6 (by decide)
  rw [show (2 : Int) ^ 6 - 1 = 63 from rfl, show (2 : Int) ^ 6 = 64 from rfl] at this
  rw [this]; unfold far64; omega
theorem and31 (b : Int) : bits BinOp.and IntKind.i64 b 31 = (far32 b : Int) := by
  have := and_low b 5 (by decide)
  rw [show (2 : Int) ^ 5 - 1 = 31 from rfl, show (2 : Int) ^ 5 = 32 from rfl] at this
  rw [this]; unfold far32; omega
theorem far64_lt (b : Int) : far64 b < 64 := by unfold far64; omega
theorem far32_lt (b : Int) : far32 b < 32 := by unfold far32; omega
end Go.Proofs.Ytmoecflmdfkgdaa
