/- The document's Beyond; the law's met, full, with, place, meets. -/
import Derived.Test.YtejcijbohnlbgaaZR
namespace Go.Proofs.Ytejcijbohnlbgaa
open Go.ChangeShapes Go.WideShapes Go.ChangeAt Go.RowKit
open Zon
set_option linter.unusedVariables false
set_option maxRecDepth 100000
theorem and3 (a : Int) : bits BinOp.and IntKind.i64 a 3 = a % 4 := by
  show IntKind.i64.wrap (((BitVec.ofInt 64 a &&& BitVec.ofInt 64 3).toNat : Nat) : Int) = a % 4
  have e1 : (BitVec.ofInt 64 (3 : Int)).toNat = 2 ^ 2 - 1 := rfl
  rw [BitVec.toNat_and, e1, Nat.and_two_pow_sub_one_eq_mod, BitVec.toNat_ofInt]
  have e2 : (((a % ((2 ^ 64 : Nat) : Int)).toNat % 2 ^ 2 : Nat) : Int) = a % 4 := by
    rw [Int.natCast_emod, Int.toNat_of_nonneg (Int.emod_nonneg _ (by decide))]
    rw [show (((2 : Nat) ^ 2 : Nat) : Int) = 4 by rfl, show (((2 : Nat) ^ 64 : Nat) : Int) = 4 * 4611686018427387904 by rfl]
    exact Int.emod_emod_of_dvd a ⟨4611686018427387904, rfl⟩
  rw [e2]
  exact IntWalk.i64_in _ (by omega)
end Go.Proofs.Ytejcijbohnlbgaa
