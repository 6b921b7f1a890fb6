/- The numbers of a unit's bytes: plain mathematics. -/
import Derived.Test.YthibideapapcbaaDoorCodeM
namespace Go.Proofs.YthibideapapcbaaDoor
open Go.RowKit
set_option linter.unusedVariables false

theorem w16 (x : Int) : IntKind.i16.wrap x = (x + 32768) % 65536 - 32768 := by
  simp [IntKind.wrap, IntKind.bits, IntKind.signed]
  split <;> omega
theorem w32 (x : Int) : IntKind.i32.wrap x = (x + 2147483648) % 4294967296 - 2147483648 := IntKind.wrap_i32 x
theorem w32_mod (x : Int) (n : Nat) (h : x = n) (hn : n < 4294967296) : IntKind.i32.wrap x % 4294967296 = (n : Int) := by rw [w32]; omega
theorem or_i16 (x y : Int) (p q : Nat) (hx : x % 65536 = p) (hy : y % 65536 = q) : bits BinOp.or IntKind.i16 x y = IntKind.i16.wrap ((p ||| q : Nat) : Int) := by
  show IntKind.i16.wrap (((BitVec.ofInt 16 x ||| BitVec.ofInt 16 y).toNat : Nat) : Int) = _
  rw [BitVec.toNat_or, BitVec.toNat_ofInt, BitVec.toNat_ofInt]
  have e1 : (x % ((2 ^ 16 : Nat) : Int)).toNat = p := by
    rw [show ((2 ^ 16 : Nat) : Int) = 65536 from rfl, hx]; rfl
  have e2 : (y % ((2 ^ 16 : Nat) : Int)).toNat = q := by
    rw [show ((2 ^ 16 : Nat) : Int) = 65536 from rfl, hy]; rfl
  rw [e1, e2]
theorem or_i32 (x y : Int) (p q : Nat) (hx : x % 4294967296 = p) (hy : y % 4294967296 = q) : bits BinOp.or IntKind.i32 x y = IntKind.i32.wrap ((p ||| q : Nat) : Int) := by
  show IntKind.i32.wrap (((BitVec.ofInt 32 x ||| BitVec.ofInt 32 y).toNat : Nat) : Int) = _
  rw [BitVec.toNat_or, BitVec.toNat_ofInt, BitVec.toNat_ofInt]
  have e1 : (x % ((2 ^ 32 : Nat) : Int)).toNat = p := by
    rw [show ((2 ^ 32 : Nat) : Int) = 4294967296 from rfl, hx]; rfl
  have e2 : (y % ((2 ^ 32 : Nat) : Int)).toNat = q := by
    rw [show ((2 ^ 32 : Nat) : Int) = 4294967296 from rfl, hy]; rfl
  rw [e1, e2]
/-- the number of two bytes with its sign, of four -/
def off16 (a b : Int) : Int := if a + 256 * b < 32768 then a + 256 * b else a + 256 * b - 65536
def imm32 (a b c d : Int) : Int := if a + 256 * b + 65536 * c + 16777216 * d < 2147483648 then a + 256 * b + 65536 * c + 16777216 * d else a + 256 * b + 65536 * c + 16777216 * d - 4294967296
theorem off16_eq (a b : Int) (ha : 0 ≤ a ∧ a < 256) (hb : 0 ≤ b ∧ b < 256) : bits BinOp.or IntKind.i16 (IntKind.i16.wrap a) (IntKind.i16.wrap (IntKind.i16.wrap b * 256)) = off16 a b := by
  obtain ⟨m, rfl⟩ := Int.eq_ofNat_of_zero_le ha.1
  obtain ⟨n, rfl⟩ := Int.eq_ofNat_of_zero_le hb.1
  have e1 : IntKind.i16.wrap (m : Int) = m := by rw [w16]; omega
  have e2 : IntKind.i16.wrap (n : Int) = n := by rw [w16]; omega
  have e3 : IntKind.i16.wrap ((n : Int) * 256) % 65536 = ((n * 256 : Nat) : Int) := by rw [w16]; omega
  rw [e1, e2, or_i16 _ _ m (n * 256) (by omega) e3, Nat.or_comm, nat_join 8 (n * 256) m (by omega) (by omega), w16]
  unfold off16
  split <;> omega
theorem and15 (b : Int) (hb : 0 ≤ b ∧ b < 256) : bits BinOp.and IntKind.u8 b 15 = b % 16 := by
  show IntKind.u8.wrap (((BitVec.ofInt 8 b &&& BitVec.ofInt 8 15).toNat : Nat) : Int) = _
  obtain ⟨m, rfl⟩ := Int.eq_ofNat_of_zero_le hb.1
  rw [BitVec.toNat_and, BitVec.toNat_ofInt, show (BitVec.ofInt 8 15).toNat = 15 by decide]
  have e1 : (((m : Nat) : Int) % ((2 ^ 8 : Nat) : Int)).toNat = m := by rw [show ((2 ^ 8 : Nat) : Int) = 256 from rfl]; omega
  rw [e1, show (15 : Nat) = 2 ^ 4 - 1 by decide, Nat.and_two_pow_sub_one_eq_mod, IntKind.wrap_u8]
  omega
end Go.Proofs.YthibideapapcbaaDoor
