/- The number of four bytes of a unit: plain mathematics. -/
import Derived.Test.YthibideapapcbaaDoorCodeS1
namespace Go.Proofs.YthibideapapcbaaDoor
open Go.RowKit
set_option linter.unusedVariables false

theorem times_mod (q : Nat) (m : Int) (k : Nat) (hm : m = k) (h : q * k < 4294967296) : IntKind.i32.wrap ((q : Int) * m) % 4294967296 = ((q * k : Nat) : Int) :=
  w32_mod _ _ (by rw [hm]; simp) h
theorem or_at (k : Nat) (x : Int) (u q : Nat) (hx : x % 4294967296 = u) (hu : u < 2 ^ k) (hq : q * 2 ^ k < 4294967296) (m : Int) (hm : m = (2 ^ k : Nat)) :
    bits BinOp.or IntKind.i32 x (IntKind.i32.wrap ((q : Int) * m)) = IntKind.i32.wrap ((q * 2 ^ k + u : Nat) : Int) := by
  rw [or_i32 x _ u (q * 2 ^ k) hx (times_mod q m (2 ^ k) hm hq), Nat.or_comm, nat_join k (q * 2 ^ k) u (Nat.mul_mod_left _ _) hu]
theorem lt8 (q : Nat) (h : q < 256) : q * 2 ^ 8 < 4294967296 := by rw [show 2 ^ 8 = 256 by decide]; omega
theorem lt16 (q : Nat) (h : q < 256) : q * 2 ^ 16 < 4294967296 := by rw [show 2 ^ 16 = 65536 by decide]; omega
theorem lt24 (q : Nat) (h : q < 256) : q * 2 ^ 24 < 4294967296 := by rw [show 2 ^ 24 = 16777216 by decide]; omega
theorem small32 (n : Nat) (h : n < 4294967296) : IntKind.i32.wrap (n : Int) % 4294967296 = (n : Int) := w32_mod _ _ rfl h
theorem byte32 (n : Nat) (h : n < 256) : IntKind.i32.wrap (n : Int) = (n : Int) := by rw [w32]; omega
theorem sum8 (n m : Nat) (hn : n < 256) (hm : m < 256) : n * 2 ^ 8 + m < 2 ^ 16 := by
  rw [show 2 ^ 8 = 256 by decide, show 2 ^ 16 = 65536 by decide]; omega
theorem sum16 (n m : Nat) (hn : n < 256) (hm : m < 2 ^ 16) : n * 2 ^ 16 + m < 2 ^ 24 := by
  rw [show 2 ^ 16 = 65536 by decide] at *; rw [show 2 ^ 24 = 16777216 by decide]; omega
theorem lit16 (n : Nat) (h : n < 2 ^ 16) : n < 4294967296 := by rw [show 2 ^ 16 = 65536 by decide] at h; omega
theorem lit24 (n : Nat) (h : n < 2 ^ 24) : n < 4294967296 := by rw [show 2 ^ 24 = 16777216 by decide] at h; omega
theorem sum32 (m n p q : Nat) : ((q * 2 ^ 24 + (p * 2 ^ 16 + (n * 2 ^ 8 + m)) : Nat) : Int) = (m : Int) + 256 * n + 65536 * p + 16777216 * q := by
  rw [show 2 ^ 8 = 256 by decide, show 2 ^ 16 = 65536 by decide, show 2 ^ 24 = 16777216 by decide]; omega
theorem fold32 (x : Int) (h0 : 0 ≤ x) (h1 : x < 4294967296) : IntKind.i32.wrap x = if x < 2147483648 then x else x - 4294967296 := by
  rw [w32]; split <;> omega
theorem range32 (m n p q : Nat) (hm : m < 256) (hn : n < 256) (hp : p < 256) (hq : q < 256) : (m : Int) + 256 * n + 65536 * p + 16777216 * q < 4294967296 := by omega
theorem imm32_nat (m n p q : Nat) (hm : m < 256) (hn : n < 256) (hp : p < 256) (hq : q < 256) :
    bits BinOp.or IntKind.i32 (bits BinOp.or IntKind.i32 (bits BinOp.or IntKind.i32 (m : Int) (IntKind.i32.wrap ((n : Int) * 256))) (IntKind.i32.wrap ((p : Int) * 65536))) (IntKind.i32.wrap ((q : Int) * 16777216)) = imm32 m n p q := by
  rw [or_at 8 _ m n (by omega) hm (lt8 n hn) 256 rfl,
    or_at 16 _ _ p (small32 _ (lit16 _ (sum8 n m hn hm))) (sum8 n m hn hm) (lt16 p hp) 65536 rfl,
    or_at 24 _ _ q (small32 _ (lit24 _ (sum16 p _ hp (sum8 n m hn hm)))) (sum16 p _ hp (sum8 n m hn hm)) (lt24 q hq) 16777216 rfl,
    sum32, fold32 _ (by omega) (range32 m n p q hm hn hp hq)]
  rfl
theorem imm32_eq (a b c d : Int) (ha : 0 ≤ a ∧ a < 256) (hb : 0 ≤ b ∧ b < 256) (hc : 0 ≤ c ∧ c < 256) (hd : 0 ≤ d ∧ d < 256) :
    bits BinOp.or IntKind.i32 (bits BinOp.or IntKind.i32 (bits BinOp.or IntKind.i32 (IntKind.i32.wrap a) (IntKind.i32.wrap (IntKind.i32.wrap b * 256))) (IntKind.i32.wrap (IntKind.i32.wrap c * 65536))) (IntKind.i32.wrap (IntKind.i32.wrap d * 16777216)) = imm32 a b c d := by
  obtain ⟨m, rfl⟩ := Int.eq_ofNat_of_zero_le ha.1
  obtain ⟨n, rfl⟩ := Int.eq_ofNat_of_zero_le hb.1
  obtain ⟨p, rfl⟩ := Int.eq_ofNat_of_zero_le hc.1
  obtain ⟨q, rfl⟩ := Int.eq_ofNat_of_zero_le hd.1
  have hm := Int.ofNat_lt.mp ha.2
  have hn := Int.ofNat_lt.mp hb.2
  have hp := Int.ofNat_lt.mp hc.2
  have hq := Int.ofNat_lt.mp hd.2
  rw [byte32 m hm, byte32 n hn, byte32 p hp, byte32 q hq]
  exact imm32_nat m n p q hm hn hp hq
end Go.Proofs.YthibideapapcbaaDoor
