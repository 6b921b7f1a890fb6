/- What the document's Alu answers is what the program's does: plain arithmetic. -/
import Derived.Test.YtjhgjplhhhgfcaaRefAlu
import Derived.Test.YtjhgjplhhhgfcaaHalvesMath
namespace Go.Proofs.Ytjhgjplhhhgfcaa
open Go.ChangeShapes Go.WideShapes Go.ChangeAt Go.RowKit
open Bits
set_option linter.unusedVariables false

theorem p64 : (2 : Int) ^ 64 = 18446744073709551616 := by decide
theorem p32 : (2 : Int) ^ 32 = 4294967296 := by decide
theorem w64_m64 (V : Int) : wrap64 (V % 2 ^ 64) = wrap64 V := by rw [p64]; exact w64_congr (by omega)
theorem w64_m32 (V : Int) : wrap64 (V % 2 ^ 32) = V % 4294967296 := by rw [p32]; exact w64_self (by omega)
theorem u_m64 (a : Int) : IntKind.u64.wrap a = a % 2 ^ 64 := u64_pow a
/-- bits of or, and, xor -/
theorem nat_bit (m n j : Nat) : (m ||| n) / 2 ^ j % 2 = (if 0 < m / 2 ^ j % 2 + n / 2 ^ j % 2 then 1 else 0) ∧ (m &&& n) / 2 ^ j % 2 = (if m / 2 ^ j % 2 + n / 2 ^ j % 2 = 2 then 1 else 0) ∧ (m ^^^ n) / 2 ^ j % 2 = (if m / 2 ^ j % 2 + n / 2 ^ j % 2 = 1 then 1 else 0) := by
  rw [Nat.or_div_two_pow, Nat.and_div_two_pow, Nat.xor_div_two_pow]
  generalize m / 2 ^ j = x
  generalize n / 2 ^ j = y
  have o := @Nat.or_mod_two_pow x y 1
  have a := @Nat.and_mod_two_pow x y 1
  have e := @Nat.xor_mod_two_pow x y 1
  simp only [Nat.pow_one] at o a e
  rw [o, a, e]
  rcases Nat.mod_two_eq_zero_or_one x with h1 | h1 <;> rcases Nat.mod_two_eq_zero_or_one y with h2 | h2 <;> rw [h1, h2] <;> decide
theorem int_bit (a : Int) (m j : Nat) (h : IntKind.u64.wrap a = m) (hj : j < 64) : ((m / 2 ^ j % 2 : Nat) : Int) = a / 2 ^ j % 2 := by
  have h1 : (m : Int) / 2 ^ j % 2 = a / 2 ^ j % 2 := bit_congr (n := 64) (by rw [← h, u64_pow, Int.emod_emod]) hj
  rw [← h1]
  simp
theorem bw_8 (s : Int) : bw 8 s = if 0 < s then 1 else 0 := by unfold bw; rw [if_pos rfl]
theorem bw_9 (s : Int) : bw 9 s = if s = 2 then 1 else 0 := by unfold bw; rw [if_neg (by decide), if_pos rfl]
theorem bw_10 (s : Int) : bw 10 s = if s = 1 then 1 else 0 := by unfold bw; rw [if_neg (by decide), if_neg (by decide)]
theorem or_bit (a b : Int) (j : Nat) (hj : j < 64) : bits BinOp.or IntKind.u64 (IntKind.u64.wrap a) (IntKind.u64.wrap b) / 2 ^ j % 2 = bw 8 (a / 2 ^ j % 2 + b / 2 ^ j % 2) := by
  obtain ⟨m, e1, h1⟩ := un_lt' a
  obtain ⟨n, e2, h2⟩ := un_lt' b
  rw [e1, e2, u64_or_nat m n h1 h2, ← int_bit a m j e1 hj, ← int_bit b n j e2 hj]
  have h := (nat_bit m n j).1
  have hc : (((m ||| n : Nat) : Int) / 2 ^ j % 2) = (((m ||| n) / 2 ^ j % 2 : Nat) : Int) := by simp
  rw [hc, h]
  rw [bw_8]
  split <;> split <;> omega
theorem and_bit (a b : Int) (j : Nat) (hj : j < 64) : bits BinOp.and IntKind.u64 (IntKind.u64.wrap a) (IntKind.u64.wrap b) / 2 ^ j % 2 = bw 9 (a / 2 ^ j % 2 + b / 2 ^ j % 2) := by
  obtain ⟨m, e1, h1⟩ := un_lt' a
  obtain ⟨n, e2, h2⟩ := un_lt' b
  rw [e1, e2, u64_and_nat m n h1 h2, ← int_bit a m j e1 hj, ← int_bit b n j e2 hj]
  have h := (nat_bit m n j).2.1
  have hc : (((m &&& n : Nat) : Int) / 2 ^ j % 2) = (((m &&& n) / 2 ^ j % 2 : Nat) : Int) := by simp
  rw [hc, h]
  rw [bw_9]
  split <;> split <;> omega
theorem xor_bit (a b : Int) (j : Nat) (hj : j < 64) : bits BinOp.xor IntKind.u64 (IntKind.u64.wrap a) (IntKind.u64.wrap b) / 2 ^ j % 2 = bw 10 (a / 2 ^ j % 2 + b / 2 ^ j % 2) := by
  obtain ⟨m, e1, h1⟩ := un_lt' a
  obtain ⟨n, e2, h2⟩ := un_lt' b
  rw [e1, e2, u64_xor_nat m n h1 h2, ← int_bit a m j e1 hj, ← int_bit b n j e2 hj]
  have h := (nat_bit m n j).2.2
  have hc : (((m ^^^ n : Nat) : Int) / 2 ^ j % 2) = (((m ^^^ n) / 2 ^ j % 2 : Nat) : Int) := by simp
  rw [hc, h]
  rw [bw_10]
  split <;> split <;> omega

theorem shk64 (b : Int) : (IntKind.u64.wrap b % 64).toNat = shk 64 b := by unfold shk; rw [IntKind.wrap_u64]; congr 1; omega
theorem shk32 (b : Int) : (IntKind.u64.wrap b % 32 % 64).toNat = shk 32 b := by unfold shk; rw [IntKind.wrap_u64]; congr 1; omega
theorem sx32_rng (a : Int) : -2147483648 ≤ sx 32 a ∧ sx 32 a < 2147483648 := by
  have := sx_rng 32 (by decide) a
  rwa [show (2 : Int) ^ (32 - 1) = 2147483648 from rfl] at this
theorem sg_eq (a : Int) : wrap64 (sg (IntKind.u64.wrap a)) = sx 32 a := by
  unfold sg
  rw [sx_u64 32 (by omega), w64_wrap, w64_self (by have := sx32_rng a; omega)]
theorem sx64_w (a : Int) : sx 64 a = wrap64 a := by
  unfold sx
  have e1 : (2 : Int) ^ 64 = 18446744073709551616 := by decide
  have e2 : (2 : Int) ^ (64 - 1) = 9223372036854775808 := by decide
  rw [e1, e2]
  unfold wrap64
  split <;> omega
theorem sx64_eq (a : Int) : wrap64 (IntKind.u64.wrap a) = sx 64 a := by rw [w64_wrap, sx64_w]
theorem filled_sx (a : Int) (k : Nat) (hk : 1 ≤ k) : a % 2 ^ k - (a / 2 ^ (k - 1) % 2) * 2 ^ k = sx k a := by
  have hP : (2 : Int) ^ k = 2 ^ (k - 1) * 2 := by rw [← Int.pow_succ]; congr 1; omega
  have h1 := emod_mul2 a (2 ^ (k - 1)) (pow_pos' _)
  have h2 := Int.emod_nonneg a (Int.ne_of_gt (pow_pos' (k - 1)))
  have h3 := Int.emod_lt_of_pos a (pow_pos' (k - 1))
  unfold sx
  rw [hP] at *
  generalize (2 : Int) ^ (k - 1) = H at *
  rcases Int.emod_two_eq (a / H) with h | h
  · rw [h] at h1 ⊢; rw [if_pos (by omega)]; omega
  · rw [h] at h1 ⊢; rw [if_neg (by omega)]; omega

/-! ### wide -/
theorem W4 (a b : Int) : wrap64 (a % 2 ^ 64 / (b % 2 ^ 64)) = aluV 4 false a b := by rw [aluV_f, wv_4, u_m64, u_m64]
theorem W5 (a b : Int) : wrap64 (a % 2 ^ 64 % (b % 2 ^ 64)) = aluV 5 false a b := by rw [aluV_f, wv_5, u_m64, u_m64]
theorem w64_w64 (x : Int) : wrap64 (wrap64 x) = wrap64 x := by unfold wrap64; omega
theorem W6 (a b : Int) : wrap64 ((sx 64 a).tdiv (sx 64 b)) = aluV 6 false a b := by rw [aluV_f, wv_6, w64_wrap, w64_w64, sx64_eq, sx64_eq]
theorem W7 (a b : Int) : wrap64 ((sx 64 a).tmod (sx 64 b)) = aluV 7 false a b := by rw [aluV_f, wv_7, w64_wrap, sx64_eq, sx64_eq]
theorem W11 (a b : Int) : wrap64 (a * 2 ^ shk 64 b) = aluV 11 false a b := by
  rw [aluV_f, wv_11, w64_wrap, shk64]
  refine w64_congr ?_
  rw [Int.mul_emod (IntKind.u64.wrap a), u_mod, ← Int.mul_emod]
theorem W12 (a b : Int) : wrap64 ((a % 2 ^ 64 - 0 * 2 ^ 64) / 2 ^ shk 64 b) = aluV 12 false a b := by
  rw [aluV_f, wv_12, shk64, u_m64, Int.zero_mul, Int.sub_zero]
theorem W13 (a b : Int) : wrap64 ((a % 2 ^ 64 - (a / 2 ^ (64 - 1) % 2) * 2 ^ 64) / 2 ^ shk 64 b) = aluV 13 false a b := by
  rw [filled_sx a 64 (by decide), aluV_f, wv_13, w64_wrap, shk64, sx64_eq]
/-! ### narrow -/
theorem N4 (a b : Int) : a % 2 ^ 32 / (b % 2 ^ 32) % 4294967296 = aluV 4 true a b := by rw [aluV_t, wv_4, hv1_4, hv2_4, u_low, u_low, p32]
theorem N5 (a b : Int) : a % 2 ^ 32 % (b % 2 ^ 32) % 4294967296 = aluV 5 true a b := by rw [aluV_t, wv_5, hv1_5, hv2_5, u_low, u_low, p32]
theorem u_low' (x : Int) : IntKind.u64.wrap x % 4294967296 = x % 4294967296 := by rw [IntKind.wrap_u64]; omega
theorem N6 (a b : Int) : ((sx 32 a).tdiv (sx 32 b)) % 4294967296 = aluV 6 true a b := by rw [aluV_t, wv_6, hv1_6, hv2_6, u_low', w64_low, sg_eq, sg_eq]
theorem N7 (a b : Int) : ((sx 32 a).tmod (sx 32 b)) % 4294967296 = aluV 7 true a b := by rw [aluV_t, wv_7, hv1_7, hv2_7, u_low', sg_eq, sg_eq]
theorem N11 (a b : Int) : (a * 2 ^ shk 32 b) % 4294967296 = aluV 11 true a b := by
  rw [aluV_t, wv_11, hv1_11, hv2_11, u_low', shk32, u_low', Int.mul_emod (a % 4294967296), Int.emod_emod, ← Int.mul_emod]
theorem N12 (a b : Int) : ((a % 2 ^ 32 - 0 * 2 ^ 32) / 2 ^ shk 32 b) % 4294967296 = aluV 12 true a b := by
  rw [aluV_t, wv_12, hv1_12, hv2_12, shk32, u_low', p32, Int.zero_mul, Int.sub_zero]
theorem N13 (a b : Int) : ((a % 2 ^ 32 - (a / 2 ^ (32 - 1) % 2) * 2 ^ 32) / 2 ^ shk 32 b) % 4294967296 = aluV 13 true a b := by
  rw [filled_sx a 32 (by decide), aluV_t, wv_13, hv1_13, hv2_13, u_low', shk32, sg_eq]
end Go.Proofs.Ytjhgjplhhhgfcaa
