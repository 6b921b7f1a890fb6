/- Extend: the program's and the document's, one function. -/
import Derived.Test.YthibideapapcbaaDoorWord
namespace Go.Proofs.YthibideapapcbaaDoor
open Go.ChangeShapes Go.WideShapes Go.ChangeAt Go.RowKit
open Bits

theorem below_drewN {B : Nat} {a w : World} (h : Below B a w) (n : Nat) : Below B a (w.drewN n) := ⟨h.os, h.tape, h.output, h.size, h.block⟩

theorem sx_u64 (k : Nat) (hk : k ≤ 64) (a : Int) : sx k (IntKind.u64.wrap a) = sx k a := by
  have e : IntKind.u64.wrap a % 2 ^ k = a % 2 ^ k := by
    rw [u64_pow]
    exact Int.emod_emod_of_dvd a ⟨2 ^ (64 - k), (pow_split (show k + (64 - k) = 64 by omega)).symm⟩
  unfold sx; rw [e]
theorem sx_rng (k : Nat) (h1 : 1 ≤ k) (a : Int) : -(2 ^ (k - 1)) ≤ sx k a ∧ sx k a < 2 ^ (k - 1) := by
  have hK := pow_pos' k
  have hKH : (2 : Int) ^ k = 2 * 2 ^ (k - 1) := by rw [← Int.pow_succ']; congr 1; omega
  have hm0 := Int.emod_nonneg a (show (2 : Int) ^ k ≠ 0 by omega)
  have hm1 := Int.emod_lt_of_pos a hK
  unfold sx; split <;> omega
theorem sx_rng64 (k : Nat) (h1 : 1 ≤ k) (hk : k ≤ 64) (a : Int) : -9223372036854775808 ≤ sx k a ∧ sx k a < 9223372036854775808 := by
  have h := sx_rng k h1 a
  have h2 : (2 : Int) ^ (k - 1) ≤ 2 ^ 63 := pow_le_of (by omega)
  have h3 : (2 : Int) ^ 63 = 9223372036854775808 := by decide
  omega
theorem w64_u64 (x : Int) (h : -9223372036854775808 ≤ x ∧ x < 9223372036854775808) : wrap64 (IntKind.u64.wrap x) = x := by
  rw [IntKind.wrap_u64]; unfold wrap64; omega
theorem emod_mul2 (a H : Int) (hH : 0 < H) : a % (H * 2) = a % H + H * (a / H % 2) := by
  rw [Int.emod_def a (H * 2), Int.emod_def a H, Int.emod_def (a / H) 2, ← Int.ediv_ediv_of_nonneg (Int.le_of_lt hH), Int.mul_sub, Int.mul_assoc]
  omega
theorem sgnL_bits (a : Int) (k : Nat) (h1 : 1 ≤ k) (hk : k < 64) : sgnL (bitsL a k) = sx k a := by
  have hb : (bitsL a k)[(bitsL a k).length - 1]?.getD 0 = a / 2 ^ (k - 1) % 2 := by
    rw [bitsL_length, bitsL_get _ _ _ (by omega)]; rfl
  unfold sgnL sx
  rw [hb]
  simp only [bitsL_length, valL_bits]
  rw [if_neg (by omega), if_neg (by omega)]
  have hH := pow_pos' (k - 1)
  have hKH : (2 : Int) ^ k = 2 ^ (k - 1) * 2 := by rw [← Int.pow_succ]; congr 1; omega
  rw [hKH]
  have e : a % (2 ^ (k - 1) * 2) = a % 2 ^ (k - 1) + 2 ^ (k - 1) * (a / 2 ^ (k - 1) % 2) := emod_mul2 a _ hH
  have hm0 := Int.emod_nonneg a (show (2 : Int) ^ (k - 1) ≠ 0 by omega)
  have hm1 := Int.emod_lt_of_pos a hH
  rw [e]
  rcases Int.emod_two_eq (a / 2 ^ (k - 1)) with h | h
  · rw [h, if_pos rfl, if_pos (by omega)]
  · rw [h, if_neg (by decide), if_neg (by omega)]

/-- what Extend is, where its size is one of three -/
def extV (k : Nat) (n : Bool) (a : Int) : Int := if n = true then sx k a % 4294967296 else sx k a
theorem extV_f (k : Nat) (a : Int) (h1 : 1 ≤ k) (hk : k ≤ 32) : wrap64 (IntKind.u64.wrap (sx k (IntKind.u64.wrap a))) = extV k false a := by
  rw [sx_u64 k (by omega), w64_u64 _ (sx_rng64 k h1 (by omega) a)]; rfl
theorem extV_t (k : Nat) (a : Int) (hk : k ≤ 32) : IntKind.u64.wrap (sx k (IntKind.u64.wrap a)) % 4294967296 = extV k true a := by
  rw [sx_u64 k (by omega), IntKind.wrap_u64]
  show sx k a % 18446744073709551616 % 4294967296 = sx k a % 4294967296
  omega

/-- the document's Extend behind its tests: for any number of bits and any width -/
theorem ref_tail (a : Int) (k m : Nat) (h1 : 1 ≤ k) (hk : k ≤ 32) : wrap64 (valL (bitsL (sgnL (bitsL a k)) m)) = wrap64 (sx k a % 2 ^ m) := by
  rw [valL_bits, sgnL_bits a k h1 (by omega)]
theorem ref_t (a : Int) (k : Nat) (h1 : 1 ≤ k) (hk : k ≤ 32) : wrap64 (valL (bitsL (sgnL (bitsL a k)) 32)) = extV k true a := by
  rw [ref_tail a k 32 h1 hk]
  show wrap64 (sx k a % 2 ^ 32) = sx k a % 4294967296
  rw [show (2 : Int) ^ 32 = 4294967296 from rfl]; unfold wrap64; omega
theorem ref_f (a : Int) (k : Nat) (h1 : 1 ≤ k) (hk : k ≤ 32) : wrap64 (valL (bitsL (sgnL (bitsL a k)) 64)) = extV k false a := by
  rw [ref_tail a k 64 h1 hk]
  have h := sx_rng64 k h1 (by omega) a
  show wrap64 (sx k a % 2 ^ 64) = sx k a
  rw [show (2 : Int) ^ 64 = 18446744073709551616 from rfl]; unfold wrap64; omega

end Go.Proofs.YthibideapapcbaaDoor
