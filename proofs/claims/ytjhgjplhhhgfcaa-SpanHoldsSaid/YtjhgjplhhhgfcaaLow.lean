/- low: the low bits of a number, as the laws ask for them. -/
import Derived.Test.YtjhgjplhhhgfcaaExt
namespace Go.Proofs.Ytjhgjplhhhgfcaa
open Go.ChangeShapes Go.WideShapes Go.ChangeAt Go.RowKit
open Bits
set_option linter.unusedVariables false

theorem and_low (x : Int) (k : Nat) (hk : k ≤ 62) : bits BinOp.and IntKind.i64 x (2 ^ k - 1) = x % 2 ^ k := by
  have hp : (0 : Int) < 2 ^ k := pow_pos' k
  have h62 : (2 : Int) ^ k ≤ 2 ^ 62 := pow_le_of hk
  rw [show (2 : Int) ^ 62 = 4611686018427387904 from rfl] at h62
  have em : ((2 : Int) ^ k - 1) = ((2 ^ k - 1 : Nat) : Int) := by
    rw [Int.ofNat_sub (Nat.pow_pos (by decide))]; simp
  show IntKind.i64.wrap (((BitVec.ofInt 64 x &&& BitVec.ofInt 64 (2 ^ k - 1)).toNat : Nat) : Int) = x % 2 ^ k
  have hlt : 2 ^ k - 1 < 18446744073709551616 := by omega
  have e1 : (BitVec.ofInt 64 ((2 : Int) ^ k - 1)).toNat = 2 ^ k - 1 := by rw [em]; exact ofInt_u64 _ hlt
  rw [BitVec.toNat_and, e1, Nat.and_two_pow_sub_one_eq_mod, BitVec.toNat_ofInt]
  have e2 : (((x % ((2 ^ 64 : Nat) : Int)).toNat % 2 ^ k : Nat) : Int) = x % 2 ^ k := by
    rw [Int.natCast_emod, Int.toNat_of_nonneg (Int.emod_nonneg _ (by decide))]
    rw [show (((2 : Nat) ^ k : Nat) : Int) = 2 ^ k by simp]
    exact Int.emod_emod_of_dvd x ⟨2 ^ (64 - k), (pow_split (show k + (64 - k) = 64 by omega)).symm⟩
  rw [e2]
  have h0 := Int.emod_nonneg x (show (2 : Int) ^ k ≠ 0 by omega)
  have h1 := Int.emod_lt_of_pos x hp
  exact IntWalk.i64_in _ (by omega)

theorem mask_i64 (k : Nat) (hk : k ≤ 62) : wrap64 (wrap64 (2 ^ k) - 1) = 2 ^ k - 1 := by
  have hp : (0 : Int) < 2 ^ k := pow_pos' k
  have h62 : (2 : Int) ^ k ≤ 2 ^ 62 := pow_le_of hk
  rw [show (2 : Int) ^ 62 = 4611686018427387904 from rfl] at h62
  rw [IntWalk.wrap64_in (2 ^ k) (by omega), IntWalk.wrap64_in _ (by omega)]

end Go.Proofs.Ytjhgjplhhhgfcaa
