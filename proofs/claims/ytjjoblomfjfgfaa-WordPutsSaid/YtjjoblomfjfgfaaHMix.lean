/- Mix, plain mathematics: for one of two numbers fixed the other one is told by the answer. No program is named. -/
import Derived.Test.YtjjoblomfjfgfaaCore
namespace Go.Proofs.Ytjjoblomfjfgfaa.HM
open Go.RowKit
set_option linter.unusedVariables false

theorem xor_u64 (a b : Nat) (ha : a < 18446744073709551616) (hb : b < 18446744073709551616) : bits BinOp.xor IntKind.u64 (a : Int) (b : Int) = ((a ^^^ b : Nat) : Int) := by
  show IntKind.u64.wrap (((BitVec.ofInt 64 (a : Int) ^^^ BitVec.ofInt 64 (b : Int)).toNat : Nat) : Int) = _
  rw [BitVec.toNat_xor, BitVec.toNat_ofInt, BitVec.toNat_ofInt, IntKind.wrap_u64]
  have e1 : ((a : Int) % ((2 ^ 64 : Nat) : Int)).toNat = a := by omega
  have e2 : ((b : Int) % ((2 ^ 64 : Nat) : Int)).toNat = b := by omega
  rw [e1, e2]
  have h := Nat.xor_lt_two_pow (n := 64) ha hb
  omega

theorem xeq (a b : Nat) (h : a ^^^ b = 0) : a = b := by
  have : (a ^^^ b) ^^^ b = b := by rw [h, Nat.zero_xor]
  rwa [Nat.xor_assoc, Nat.xor_self, Nat.xor_zero] at this
theorem xs_inj (k a b : Nat) (hk : 0 < k) (h : a ^^^ a / 2 ^ k = b ^^^ b / 2 ^ k) : a = b := by
  have e : (a ^^^ b) = (a ^^^ b) / 2 ^ k := by
    rw [Nat.xor_div_two_pow]
    have h1 : (a ^^^ a / 2 ^ k) ^^^ (b ^^^ b / 2 ^ k) = 0 := by rw [h, Nat.xor_self]
    have h2 : (a ^^^ b) ^^^ (a / 2 ^ k ^^^ b / 2 ^ k) = 0 := by
      rw [← h1]
      simp only [Nat.xor_assoc]
      congr 1
      rw [← Nat.xor_assoc, Nat.xor_comm b, Nat.xor_assoc]
    exact xeq _ _ h2
  have h0 : a ^^^ b = 0 := by
    rcases Nat.eq_zero_or_pos (a ^^^ b) with h | h
    · exact h
    · have := Nat.div_lt_self h (Nat.one_lt_two_pow (by omega : k ≠ 0))
      omega
  exact xeq _ _ h0
theorem mul_inj (K Ki a b : Nat) (hK : K * Ki % 18446744073709551616 = 1) (ha : a < 18446744073709551616) (hb : b < 18446744073709551616)
    (h : a * K % 18446744073709551616 = b * K % 18446744073709551616) : a = b := by
  have e : ∀ x, x < 18446744073709551616 → (x * K % 18446744073709551616) * Ki % 18446744073709551616 = x := by
    intro x hx
    rw [Nat.mod_mul_mod, Nat.mul_assoc, Nat.mul_mod, hK, Nat.mul_one, Nat.mod_mod, Nat.mod_eq_of_lt hx]
  rw [← e a ha, ← e b hb, h]

def kA : Nat := 14437167314951722571
def kB : Nat := 10320681969465668653
def mixN (x y : Nat) : Nat :=
  let z1 := x ^^^ (y * kA % 18446744073709551616)
  let z2 := z1 ^^^ z1 / 2 ^ 29
  let z3 := z2 * kB % 18446744073709551616
  z3 ^^^ z3 / 2 ^ 32
theorem xor_lt (a b : Nat) (ha : a < 18446744073709551616) (hb : b < 18446744073709551616) : a ^^^ b < 18446744073709551616 := Nat.xor_lt_two_pow (n := 64) ha hb
theorem tail_inj (a b : Nat) (ha : a < 18446744073709551616) (hb : b < 18446744073709551616)
    (h : ((a ^^^ a / 2 ^ 29) * kB % 18446744073709551616) ^^^ ((a ^^^ a / 2 ^ 29) * kB % 18446744073709551616) / 2 ^ 32 = ((b ^^^ b / 2 ^ 29) * kB % 18446744073709551616) ^^^ ((b ^^^ b / 2 ^ 29) * kB % 18446744073709551616) / 2 ^ 32) : a = b := by
  have h1 := xs_inj 32 _ _ (by decide) h
  have l : ∀ x, x < 18446744073709551616 → x ^^^ x / 2 ^ 29 < 18446744073709551616 := fun x hx => xor_lt _ _ hx (Nat.lt_of_le_of_lt (Nat.div_le_self _ _) hx)
  have h2 := mul_inj kB 13300268030440029093 _ _ (by decide) (l a ha) (l b hb) h1
  exact xs_inj 29 _ _ (by decide) h2
theorem mod_lt64 (a : Nat) : a % 18446744073709551616 < 18446744073709551616 := Nat.mod_lt _ (by decide)
theorem mixN_left (x y z : Nat) (hx : x < 18446744073709551616) (hy : y < 18446744073709551616) (hz : z < 18446744073709551616) (h : mixN x y = mixN x z) : y = z := by
  have h1 := tail_inj _ _ (xor_lt _ _ hx (mod_lt64 _)) (xor_lt _ _ hx (mod_lt64 _)) h
  have h2 : x ^^^ (x ^^^ (y * kA % 18446744073709551616)) = x ^^^ (x ^^^ (z * kA % 18446744073709551616)) := by rw [h1]
  rw [← Nat.xor_assoc, ← Nat.xor_assoc, Nat.xor_self, Nat.zero_xor, Nat.zero_xor] at h2
  exact mul_inj kA 6199848179663094627 _ _ (by decide) hy hz h2
theorem mixN_right (x y z : Nat) (hx : x < 18446744073709551616) (hz : z < 18446744073709551616) (h : mixN x y = mixN z y) : x = z := by
  have h1 := tail_inj _ _ (xor_lt _ _ hx (mod_lt64 _)) (xor_lt _ _ hz (mod_lt64 _)) h
  have h2 : (x ^^^ (y * kA % 18446744073709551616)) ^^^ (y * kA % 18446744073709551616) = (z ^^^ (y * kA % 18446744073709551616)) ^^^ (y * kA % 18446744073709551616) := by rw [h1]
  rw [Nat.xor_assoc, Nat.xor_assoc, Nat.xor_self, Nat.xor_zero, Nat.xor_zero] at h2
  exact h2
theorem mixN_lt (x y : Nat) : mixN x y < 18446744073709551616 := by
  unfold mixN
  exact xor_lt _ _ (mod_lt64 _) (Nat.lt_of_le_of_lt (Nat.div_le_self _ _) (mod_lt64 _))

/-- the 64 bits of a number, without a sign -/
def u64N (x : Int) : Nat := (x % 18446744073709551616).toNat
theorem u64N_lt (x : Int) : u64N x < 18446744073709551616 := by unfold u64N; omega
theorem u64N_eq (x : Int) : IntKind.u64.wrap x = (u64N x : Int) := by
  rw [IntKind.wrap_u64]; unfold u64N; omega
theorem u64N_inj (x y : Int) (hx : -9223372036854775808 ≤ x ∧ x < 9223372036854775808) (hy : -9223372036854775808 ≤ y ∧ y < 9223372036854775808) (h : u64N x = u64N y) : x = y := by
  unfold u64N at h; omega
/-- Mix as a number with a sign -/
def mixV (x y : Int) : Int := wrap64 (mixN (u64N x) (u64N y) : Int)
theorem w64_inj (a b : Nat) (ha : a < 18446744073709551616) (hb : b < 18446744073709551616) (h : wrap64 (a : Int) = wrap64 (b : Int)) : a = b := by
  unfold wrap64 at h; omega
theorem mixV_left (x y z : Int) (hy : -9223372036854775808 ≤ y ∧ y < 9223372036854775808) (hz : -9223372036854775808 ≤ z ∧ z < 9223372036854775808) (h : mixV x y = mixV x z) : y = z :=
  u64N_inj _ _ hy hz (mixN_left _ _ _ (u64N_lt x) (u64N_lt y) (u64N_lt z) (w64_inj _ _ (mixN_lt _ _) (mixN_lt _ _) h))
theorem mixV_right (x y z : Int) (hx : -9223372036854775808 ≤ x ∧ x < 9223372036854775808) (hz : -9223372036854775808 ≤ z ∧ z < 9223372036854775808) (h : mixV x y = mixV z y) : x = z :=
  u64N_inj _ _ hx hz (mixN_right _ _ _ (u64N_lt x) (u64N_lt z) (w64_inj _ _ (mixN_lt _ _) (mixN_lt _ _) h))
end Go.Proofs.Ytjjoblomfjfgfaa.HM
