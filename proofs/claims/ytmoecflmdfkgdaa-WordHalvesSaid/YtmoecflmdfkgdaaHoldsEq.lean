/- Holds: the program's and the document's, one function of two numbers of 64 bits. -/
import Derived.Test.YtmoecflmdfkgdaaOrdersLaw
import Derived.Test.YtmoecflmdfkgdaaRefHolds2
namespace Go.Proofs.Ytmoecflmdfkgdaa
open Go.ChangeShapes Go.WideShapes Go.ChangeAt Go.RowKit
open Bits

theorem S32_eq (x : Int) : S32 x = IntKind.u64.wrap (sx 32 x) := by
  have := sx_eq x 32 (by omega) (by omega)
  unfold S32
  rw [← this]; rfl
theorem opd_t (a : Int) : opd true a = if a % 4294967296 < 2147483648 then a % 4294967296 else a % 4294967296 + 18446744069414584320 := by
  unfold opd
  rw [if_pos rfl, S32_eq, sx_u64 32 (by omega), IntKind.wrap_u64]
  unfold sx
  rw [show (2 : Int) ^ 32 = 4294967296 from rfl, show (2 : Int) ^ (32 - 1) = 2147483648 from rfl]
  split <;> omega
theorem opd_f (a : Int) : opd false a = a % 18446744073709551616 := by
  unfold opd; rw [if_neg Bool.false_ne_true, IntKind.wrap_u64]
theorem w64_opd (n : Bool) (a : Int) (_ra : -9223372036854775808 ≤ a ∧ a ≤ 9223372036854775807) : wrap64 (opd n a) = sx (kw n) a := by
  cases n
  · rw [opd_f]
    show _ = sx 64 a
    unfold sx
    rw [show (2 : Int) ^ 64 = 18446744073709551616 from rfl, show (2 : Int) ^ (64 - 1) = 9223372036854775808 from rfl]
    unfold wrap64; split <;> omega
  · rw [opd_t]
    show _ = sx 32 a
    unfold sx
    rw [show (2 : Int) ^ 32 = 4294967296 from rfl, show (2 : Int) ^ (32 - 1) = 2147483648 from rfl]
    unfold wrap64; split <;> omega
theorem lt_u (n : Bool) (a b : Int) : opd n a < opd n b ↔ valL (bitsL a (kw n)) < valL (bitsL b (kw n)) := by
  rw [valL_bits, valL_bits]
  cases n
  · rw [opd_f, opd_f]; exact Iff.rfl
  · rw [opd_t, opd_t]
    show _ ↔ a % 2 ^ 32 < b % 2 ^ 32
    rw [show (2 : Int) ^ 32 = 4294967296 from rfl]
    split <;> split <;> omega
theorem lt_s (n : Bool) (a b : Int) (ra : -9223372036854775808 ≤ a ∧ a ≤ 9223372036854775807) (rb : -9223372036854775808 ≤ b ∧ b ≤ 9223372036854775807) :
    wrap64 (opd n a) < wrap64 (opd n b) ↔ valL (flipL (bitsL a (kw n))) < valL (flipL (bitsL b (kw n))) := by
  rw [w64_opd n a ra, w64_opd n b rb, valL_flip a _ (kw_le n).1, valL_flip b _ (kw_le n).1]
  omega

theorem bit_emod (a : Int) (k i : Nat) (h : i < k) : a % 2 ^ k / 2 ^ i % 2 = a / 2 ^ i % 2 := by
  have hp := pow_pos' i
  rw [← pow_split (show i + (k - i) = k by omega)]
  rw [Int.emod_def a, Int.mul_assoc, Int.sub_eq_add_neg, ← Int.mul_neg, Int.add_mul_ediv_left _ _ (by omega)]
  rw [← pow_split (show 1 + (k - i - 1) = k - i by omega), Int.mul_assoc, ← Int.mul_neg]
  show (a / 2 ^ i + 2 ^ 1 * _) % 2 ^ 1 = a / 2 ^ i % 2 ^ 1
  rw [Int.add_mul_emod_self_left]
theorem bit_opd_lo (n : Bool) (a : Int) (i : Nat) (h : i < kw n) : opd n a / 2 ^ i % 2 = a / 2 ^ i % 2 := by
  cases n
  · rw [opd_f]; exact bit_emod a 64 i h
  · have h32 : i < 32 := h
    have e : opd true a % 2 ^ 32 = a % 2 ^ 32 := by
      rw [opd_t, show (2 : Int) ^ 32 = 4294967296 from rfl]; split <;> omega
    rw [← bit_emod (opd true a) 32 i h32, e, bit_emod a 32 i h32]
theorem bit_opd_hi (n : Bool) (a : Int) (i : Nat) (h : kw n ≤ i) (hi : i < 64) : opd n a / 2 ^ i % 2 = a / 2 ^ (kw n - 1) % 2 := by
  cases n
  · have h64 : 64 ≤ i := h
    omega
  · have h32 : 32 ≤ i := h
    show _ = a / 2 ^ 31 % 2
    have e : opd true a / 2 ^ i % 2 = opd true a / 2 ^ 32 / 2 ^ (i - 32) % 2 := by
      rw [Int.ediv_ediv_of_nonneg (Int.le_of_lt (pow_pos' _)), pow_split (show 32 + (i - 32) = i by omega)]
    rw [e, opd_t, show (2 : Int) ^ 32 = 4294967296 from rfl, show (2 : Int) ^ 31 = 2147483648 from rfl]
    have hp := pow_pos' (i - 32)
    split
    · rw [show a % 4294967296 / 4294967296 = 0 by omega, Int.zero_ediv]; omega
    · rw [show (a % 4294967296 + 18446744069414584320) / 4294967296 = 4294967295 by omega]
      have e2 := bit_emod (-1) 32 (i - 32) (by omega)
      rw [show (-1 : Int) % 2 ^ 32 = 4294967295 from rfl] at e2
      rw [e2]
      have e3 : (-1 : Int) / 2 ^ (i - 32) = -1 := by
        rw [Int.ediv_eq_iff_of_pos hp]; omega
      rw [e3]; omega

theorem and_ne (x y : Int) (hx : 0 ≤ x ∧ x < 18446744073709551616) (hy : 0 ≤ y ∧ y < 18446744073709551616) :
    bits BinOp.and IntKind.u64 x y ≠ 0 ↔ ∃ i, i < 64 ∧ x / 2 ^ i % 2 = 1 ∧ y / 2 ^ i % 2 = 1 := by
  obtain ⟨m, rfl⟩ := Int.eq_ofNat_of_zero_le hx.1
  obtain ⟨k, rfl⟩ := Int.eq_ofNat_of_zero_le hy.1
  rw [u64_and_nat m k (by omega) (by omega)]
  have tb : ∀ (z i : Nat), ((z : Int) / 2 ^ i % 2 = 1) ↔ z.testBit i = true := by
    intro z i
    rw [Nat.testBit_eq_decide_div_mod_eq, decide_eq_true_iff]
    have : ((z : Int) / 2 ^ i % 2) = ((z / 2 ^ i % 2 : Nat) : Int) := by simp
    rw [this]; omega
  simp only [tb]
  constructor
  · intro h
    have h' : m &&& k ≠ 0 := by omega
    obtain ⟨i, hi⟩ := Nat.exists_testBit_of_ne_zero h'
    rw [Nat.testBit_and, Bool.and_eq_true] at hi
    refine ⟨i, ?_, hi⟩
    rcases Nat.lt_or_ge i 64 with h1 | h1
    · exact h1
    · exfalso
      have : m < 2 ^ i := Nat.lt_of_lt_of_le (show m < 2 ^ 64 by omega) (Nat.pow_le_pow_right (by decide) h1)
      rw [Nat.testBit_lt_two_pow this] at hi
      exact Bool.false_ne_true hi.1
  · rintro ⟨i, _, h1, h2⟩ h0
    have h0' : m &&& k = 0 := by omega
    have : (m &&& k).testBit i = true := by rw [Nat.testBit_and, h1, h2]; rfl
    rw [h0', Nat.zero_testBit] at this
    exact Bool.false_ne_true this

theorem jset_eq (n : Bool) (a b : Int) : (bits BinOp.and IntKind.u64 (opd n a) (opd n b) != 0) = jset (kw n) a b := by
  rw [Bool.eq_iff_iff, bne_iff_ne, and_ne _ _ (opd_rng n a) (opd_rng n b)]
  have hk := kw_le n
  unfold jset
  rw [List.any_eq_true]
  constructor
  · rintro ⟨i, hi, h1, h2⟩
    rcases Nat.lt_or_ge i (kw n) with h | h
    · rw [bit_opd_lo n _ i h] at h1 h2
      exact ⟨i, List.mem_range.2 h, by rw [h1, h2]; rfl⟩
    · rw [bit_opd_hi n _ i h hi] at h1 h2
      exact ⟨kw n - 1, List.mem_range.2 (by omega), by rw [h1, h2]; rfl⟩
  · rintro ⟨i, hi, h⟩
    have hi' := List.mem_range.1 hi
    have h' : a / 2 ^ i % 2 + b / 2 ^ i % 2 = 2 := by simpa using h
    refine ⟨i, by omega, ?_, ?_⟩
    · rw [bit_opd_lo n _ i hi']; omega
    · rw [bit_opd_lo n _ i hi']; omega

end Go.Proofs.Ytmoecflmdfkgdaa
