/- Contracts of the program's words: low, signed, Swap, Extend; and of bits.ReverseBytes64. -/
import Derived.Test.YtjhgjplhhhgfcaaGreatRow2
import Derived.Test.YtjhgjplhhhgfcaaGreatBytes
namespace Go.Proofs.YtjhgjplhhhgfcaaGreat
open Go.ChangeShapes Go.WideShapes Go.ChangeAt Go.RowKit
open Bits

/-- the low k bits with their sign -/
def sx (k : Nat) (x : Int) : Int := if x % 2 ^ k < 2 ^ (k - 1) then x % 2 ^ k else x % 2 ^ k - 2 ^ k

theorem pow_split {a b c : Nat} (h : a + b = c) : (2 : Int) ^ a * 2 ^ b = 2 ^ c := by rw [← Int.pow_add, h]
theorem pow_pos' (a : Nat) : (0 : Int) < 2 ^ a := Int.pow_pos (by decide)
theorem u64_pow (x : Int) : IntKind.u64.wrap x = x % 2 ^ 64 := IntKind.wrap_u64 x

theorem sx_eq (x : Int) (k : Nat) (hk : k ≤ 64) (h1 : 1 ≤ k) : wrap64 (IntKind.u64.wrap (x * 2 ^ (64 - k))) / 2 ^ (64 - k) = sx k x := by
  have hP := pow_pos' (64 - k)
  have hK := pow_pos' k
  have e64 := pow_split (show 64 - k + k = 64 by omega)
  have e63 := pow_split (show 64 - k + (k - 1) = 63 by omega)
  have hKH : (2 : Int) ^ k = 2 * 2 ^ (k - 1) := by rw [← Int.pow_succ']; congr 1; omega
  have hu : IntKind.u64.wrap (x * 2 ^ (64 - k)) = 2 ^ (64 - k) * (x % 2 ^ k) := by
    rw [u64_pow, ← e64, Int.mul_comm x, Int.mul_emod_mul_of_pos _ _ hP]
  rw [hu]
  unfold sx
  have hm0 := Int.emod_nonneg x (show (2 : Int) ^ k ≠ 0 by omega)
  have hm1 := Int.emod_lt_of_pos x hK
  have hH := pow_pos' (k - 1)
  generalize x % 2 ^ k = m at *
  generalize (2 : Int) ^ (64 - k) = P at *
  generalize (2 : Int) ^ (k - 1) = H at *
  generalize (2 : Int) ^ k = K at *
  have e64' : P * K = 18446744073709551616 := by rw [e64]; decide
  have e63' : P * H = 9223372036854775808 := by rw [e63]; decide
  have b0 : 0 ≤ P * m := Int.mul_nonneg (by omega) hm0
  have b1 : P * m < 18446744073709551616 := by rw [← e64']; exact Int.mul_lt_mul_of_pos_left hm1 hP
  by_cases h : m < H
  · have b2 : P * m < 9223372036854775808 := by rw [← e63']; exact Int.mul_lt_mul_of_pos_left h hP
    rw [IntWalk.wrap64_in _ (by omega), if_pos h, Int.mul_ediv_cancel_left _ (by omega)]
  · have b2 : 9223372036854775808 ≤ P * m := by rw [← e63']; exact Int.mul_le_mul_of_nonneg_left (by omega) (by omega)
    have hw : wrap64 (P * m) = P * (m - K) := by
      rw [Int.mul_sub, e64']; unfold wrap64; omega
    rw [hw, if_neg h, Int.mul_ediv_cancel_left _ (by omega)]

theorem and_mask (x : Int) (k : Nat) (hk : k ≤ 64) (hx : 0 ≤ x ∧ x < 18446744073709551616) : bits BinOp.and IntKind.u64 x (2 ^ k - 1) = x % 2 ^ k := by
  obtain ⟨n, rfl⟩ := Int.eq_ofNat_of_zero_le hx.1
  have e : ((2 : Int) ^ k - 1) = ((2 ^ k - 1 : Nat) : Int) := by
    rw [Int.ofNat_sub (Nat.pow_pos (by decide))]; simp
  have hlt : 2 ^ k - 1 < 18446744073709551616 := by
    have : 2 ^ k ≤ 2 ^ 64 := Nat.pow_le_pow_right (by decide) hk
    have h2 : (2 : Nat) ^ 64 = 18446744073709551616 := by decide
    have := Nat.pow_pos (n := k) (show 0 < 2 by decide)
    omega
  rw [e, u64_and_nat n _ (by omega) hlt, Nat.and_two_pow_sub_one_eq_mod]
  simp

theorem mask_eq (k : Nat) (hk : k ≤ 64) : IntKind.u64.wrap (IntKind.u64.wrap (2 ^ k) - 1) = 2 ^ k - 1 := by
  have h1 := pow_pos' k
  rw [u64_pow, u64_pow, Int.emod_sub_emod]
  have h2 : (2 : Int) ^ k ≤ 2 ^ 64 := pow_le_of hk
  exact Int.emod_eq_of_lt (by omega) (by omega)

theorem low_any (x : Int) (k : Nat) (hk : k ≤ 64) (hx : 0 ≤ x ∧ x < 18446744073709551616) (w : World) :
    Calls Tryz.prog 58 #[.int .u64 x, .int .i64 k] w fun e w' => e = .returned (.int .u64 (x % 2 ^ k)) ∧ w = w' := by
  have hm := and_mask x k hk hx
  rw [← mask_eq k hk] at hm
  have HM := Lib.hid hm
  clear hm
  go_enter Tryz.func58, Tryz.ntmps58
  go_wp2
  go_ret
  exact ⟨congrArg (fun v => Ending.returned (.int .u64 v)) HM.out, rfl⟩

theorem signed_w (x : Int) (k : Nat) (hk : k ≤ 64) (h1 : 1 ≤ k) (w : World) :
    Calls Tryz.prog 63 #[.int .u64 x, .int .i64 k] w fun e w' => e = .returned (.int .u64 (IntKind.u64.wrap (sx k x))) ∧ w = w' := by
  have HM := Lib.hid (sx_eq x k hk h1)
  go_enter Tryz.func63, Tryz.ntmps63
  go_wp2
  go_ret
  exact ⟨congrArg (fun v => Ending.returned (.int .u64 (IntKind.u64.wrap v))) HM.out, rfl⟩

theorem or_u64 (a b : Nat) (ha : a < 18446744073709551616) (hb : b < 18446744073709551616) : bits BinOp.or IntKind.u64 (a : Int) (b : Int) = ((a ||| b : Nat) : Int) := u64_or_nat a b ha hb
theorem shl_u64 (a c : Nat) : IntKind.u64.wrap ((a : Int) * (c : Int)) = ((a * c % 18446744073709551616 : Nat) : Int) := by rw [IntKind.wrap_u64]; simp

theorem rv1_eq (n : Nat) (h : n < 18446744073709551616) : bits BinOp.or IntKind.u64 (bits BinOp.and IntKind.u64 ((n : Int) / 256) 71777214294589695) (IntKind.u64.wrap (bits BinOp.and IntKind.u64 (n : Int) 71777214294589695 * 256)) = (rv1 n : Int) := by
  have e1 := u64_and_nat (n / 256) 71777214294589695 (by omega) (by decide)
  have e2 := u64_and_nat n 71777214294589695 (by omega) (by decide)
  have e3 := shl_u64 (n &&& 71777214294589695) 256
  have hb : n / 256 &&& 71777214294589695 < 18446744073709551616 := Nat.lt_of_le_of_lt Nat.and_le_right (by decide)
  have e4 := or_u64 (n / 256 &&& 71777214294589695) ((n &&& 71777214294589695) * 256 % 18446744073709551616) hb (Nat.mod_lt _ (by decide))
  have d : ((n : Int) / 256) = ((n / 256 : Nat) : Int) := rfl
  rw [d]
  rw [show ((71777214294589695 : Nat) : Int) = 71777214294589695 from rfl] at e1 e2
  rw [show ((256 : Nat) : Int) = 256 from rfl] at e3
  rw [e1, e2, e3, e4]; rfl
theorem rv1_lt (n : Nat) : rv1 n < 18446744073709551616 :=
  Nat.or_lt_two_pow (n := 64) (Nat.lt_of_le_of_lt Nat.and_le_right (by decide)) (Nat.mod_lt _ (by decide))
theorem rv2_eq (n : Nat) (h : n < 18446744073709551616) : bits BinOp.or IntKind.u64 (bits BinOp.and IntKind.u64 ((n : Int) / 65536) 281470681808895) (IntKind.u64.wrap (bits BinOp.and IntKind.u64 (n : Int) 281470681808895 * 65536)) = (rv2 n : Int) := by
  have e1 := u64_and_nat (n / 65536) 281470681808895 (by omega) (by decide)
  have e2 := u64_and_nat n 281470681808895 (by omega) (by decide)
  have e3 := shl_u64 (n &&& 281470681808895) 65536
  have hb : n / 65536 &&& 281470681808895 < 18446744073709551616 := Nat.lt_of_le_of_lt Nat.and_le_right (by decide)
  have e4 := or_u64 (n / 65536 &&& 281470681808895) ((n &&& 281470681808895) * 65536 % 18446744073709551616) hb (Nat.mod_lt _ (by decide))
  have d : ((n : Int) / 65536) = ((n / 65536 : Nat) : Int) := rfl
  rw [d]
  rw [show ((281470681808895 : Nat) : Int) = 281470681808895 from rfl] at e1 e2
  rw [show ((65536 : Nat) : Int) = 65536 from rfl] at e3
  rw [e1, e2, e3, e4]; rfl
theorem rv3_eq (n : Nat) (h : n < 18446744073709551616) : bits BinOp.or IntKind.u64 ((n : Int) / 4294967296) (IntKind.u64.wrap ((n : Int) * 4294967296)) = (rv3 n : Int) := by
  have e3 := shl_u64 n 4294967296
  have e4 := or_u64 (n / 4294967296) (n * 4294967296 % 18446744073709551616) (by omega) (Nat.mod_lt _ (by decide))
  have d : ((n : Int) / 4294967296) = ((n / 4294967296 : Nat) : Int) := rfl
  rw [d]
  rw [show ((4294967296 : Nat) : Int) = 4294967296 from rfl] at e3
  rw [e3, e4]; rfl

theorem rev_any (n : Nat) (h : n < 18446744073709551616) (w : World) :
    Calls Tryz.prog 57 #[.int .u64 n] w fun e w' => e = .returned (.int .u64 (revN 8 n)) ∧ w = w' := by
  have e1 := rv1_eq n h
  have e2 := rv2_eq (rv1 n) (rv1_lt n)
  have e3 := rv3_eq (rv2 (rv1 n)) (by have := rv2_lt (rv1 n); omega)
  rw [rv_eq] at e3
  have HM := Lib.hid e1
  have HM2 := Lib.hid e2
  have HM3 := Lib.hid e3
  clear e1 e2 e3
  go_enter Tryz.func57, Tryz.ntmps57
  go_wp2
  go_ret
  refine ⟨congrArg (fun v => Ending.returned (.int .u64 v)) ?_, rfl⟩
  rw [HM.out, HM2.out, HM3.out]
end Go.Proofs.YtjhgjplhhhgfcaaGreat
