/- WordHalves: an operation of halves sees only the low halves. -/
import Derived.Test.YtjhgjplhhhgfcaaAluMath
import Derived.Test.YtjhgjplhhhgfcaaHolds
import Derived.Test.YtjhgjplhhhgfcaaExtLaw
import Derived.Test.YtjhgjplhhhgfcaaLow
namespace Go.Proofs.Ytjhgjplhhhgfcaa
open Go.ChangeShapes Go.WideShapes Go.ChangeAt Go.RowKit
open Bits
set_option linter.unusedVariables false

theorem u_low (a : Int) : IntKind.u64.wrap a % 4294967296 = a % 4294967296 := by
  have := u_mod a
  omega
theorem sx32_c {a b : Int} (h : a % 4294967296 = b % 4294967296) : sx 32 a = sx 32 b := by
  have e : ∀ x, sx 32 x = if x % 4294967296 < 2147483648 then x % 4294967296 else x % 4294967296 - 4294967296 := fun _ => rfl
  rw [e, e, h]
theorem sg_c {a b : Int} (h : a % 4294967296 = b % 4294967296) : sg (IntKind.u64.wrap a) = sg (IntKind.u64.wrap b) := by
  unfold sg; rw [sx32_c (show IntKind.u64.wrap a % 4294967296 = IntKind.u64.wrap b % 4294967296 by rw [u_low, u_low, h])]
theorem hv1_c (op : Int) {a b : Int} (h : a % 4294967296 = b % 4294967296) : hv1 op (IntKind.u64.wrap a) = hv1 op (IntKind.u64.wrap b) := by
  unfold hv1; rw [sg_c h, u_low, u_low, h]
theorem hv2_c (op : Int) {a b : Int} (h : a % 4294967296 = b % 4294967296) : hv2 op (IntKind.u64.wrap a) = hv2 op (IntKind.u64.wrap b) := by
  have h5 : IntKind.u64.wrap a % 32 = IntKind.u64.wrap b % 32 := by
    have h1 := u_low a; have h2 := u_low b
    generalize IntKind.u64.wrap a = x at *
    generalize IntKind.u64.wrap b = y at *
    omega
  unfold hv2; rw [sg_c h, u_low, u_low, h, h5]
theorem aluE_c (op : Int) {b b' : Int} (h : b % 4294967296 = b' % 4294967296) : aluE op true b = aluE op true b' := by
  unfold aluE; rw [dv_t, dv_t, hv2_c op h]
theorem aluR_c (op : Int) {a a' b b' : Int} (ha : a % 4294967296 = a' % 4294967296) (h : b % 4294967296 = b' % 4294967296) : aluR op true a b = aluR op true a' b' := by
  unfold aluR; rw [aluE_c op h, aluV_t, aluV_t, hv1_c op ha, hv2_c op h]
theorem S32_c {a b : Int} (h : a % 4294967296 = b % 4294967296) : S32 (IntKind.u64.wrap a) = S32 (IntKind.u64.wrap b) := by
  have e : IntKind.u64.wrap (IntKind.u64.wrap a * 4294967296) = IntKind.u64.wrap (IntKind.u64.wrap b * 4294967296) := by
    have h1 := u_low a; have h2 := u_low b
    generalize IntKind.u64.wrap a = x at *
    generalize IntKind.u64.wrap b = y at *
    rw [IntKind.wrap_u64, IntKind.wrap_u64]
    omega
  unfold S32; rw [e]
theorem holds_c (op : Int) {a a' b b' : Int} (ha : a % 4294967296 = a' % 4294967296) (h : b % 4294967296 = b' % 4294967296) : holdsM op true a b = holdsM op true a' b' := by
  unfold holdsM; rw [if_pos rfl, if_pos rfl, S32_c ha, S32_c h]
theorem aluR_rng (op a b : Int) : 0 ≤ aluR op true a b ∧ aluR op true a b < 4294967296 := by
  unfold aluR
  split
  · rw [aluV_t]
    generalize wv op (hv1 op (IntKind.u64.wrap a)) (hv2 op (IntKind.u64.wrap b)) = x
    omega
  · omega

/-! ### division by a low half of zero -/
theorem dv_zero (op b : Int) (h : 4 ≤ op ∧ op ≤ 7) : dv op true b = 0 ↔ b % 4294967296 = 0 := by
  rw [dv_t]
  have hop : op = 4 ∨ op = 5 ∨ op = 6 ∨ op = 7 := by omega
  have hs : sg (IntKind.u64.wrap b) = 0 ↔ b % 4294967296 = 0 := by
    have e : ∀ x, sx 32 x = if x % 4294967296 < 2147483648 then x % 4294967296 else x % 4294967296 - 4294967296 := fun _ => rfl
    unfold sg
    rw [e, u_low, IntKind.wrap_u64]
    split <;> omega
  rcases hop with rfl | rfl | rfl | rfl
  · rw [hv2_4, u_low]
  · rw [hv2_5, u_low]
  · rw [hv2_6]; exact hs
  · rw [hv2_7]; exact hs

/-! ### the low half of the whole -/
theorem w64_low (x : Int) : wrap64 x % 4294967296 = x % 4294967296 := by unfold wrap64; omega
theorem h_add (a b : Int) : aluV 1 true a b = aluV 1 false a b % 4294967296 := by
  rw [m_add, w64_low, aluV_t, wv_1, hv1_1, hv2_1, u_low, u_low, u_low]; omega
theorem h_sub (a b : Int) : aluV 2 true a b = aluV 2 false a b % 4294967296 := by
  rw [m_sub, w64_low, aluV_t, wv_2, hv1_2, hv2_2, u_low, u_low, u_low]; omega
theorem h_mul (a b : Int) : aluV 3 true a b = aluV 3 false a b % 4294967296 := by
  rw [m_mul, w64_low, aluV_t, wv_3, hv1_3, hv2_3, u_low, u_low, u_low, ← Int.mul_emod]
theorem h_neg (a b : Int) : aluV 14 true a b = aluV 14 false a b % 4294967296 := by
  rw [m_neg, w64_low, aluV_t, wv_14, hv1_14, u_low, u_low]; omega
theorem h_mov (a b : Int) : aluV 15 true a b = aluV 15 false a b % 4294967296 := by
  rw [m_mov, w64_low, aluV_t, wv_15, hv2_15, u_low]; omega
theorem nat_low (a : Int) : ∃ m : Nat, IntKind.u64.wrap a = m ∧ m < 18446744073709551616 ∧ IntKind.u64.wrap a % 4294967296 = ((m % 4294967296 : Nat) : Int) ∧ m % 4294967296 < 18446744073709551616 := by
  obtain ⟨m, e, h⟩ := un_lt' a
  exact ⟨m, e, h, by rw [e]; omega, by omega⟩
theorem h_or (a b : Int) : aluV 8 true a b = aluV 8 false a b % 4294967296 := by
  obtain ⟨m, e1, h1, l1, k1⟩ := nat_low a
  obtain ⟨n, e2, h2, l2, k2⟩ := nat_low b
  have e := @Nat.or_mod_two_pow m n 32
  rw [show (2 : Nat) ^ 32 = 4294967296 from rfl] at e
  have e' := @Nat.or_mod_two_pow (m % 4294967296) (n % 4294967296) 32
  rw [show (2 : Nat) ^ 32 = 4294967296 from rfl, Nat.mod_mod, Nat.mod_mod] at e'
  rw [m_or, w64_low, aluV_t, wv_8, hv1_8, hv2_8, l1, l2, e1, e2, u64_or_nat m n h1 h2, u64_or_nat _ _ k1 k2]
  omega
theorem h_and (a b : Int) : aluV 9 true a b = aluV 9 false a b % 4294967296 := by
  obtain ⟨m, e1, h1, l1, k1⟩ := nat_low a
  obtain ⟨n, e2, h2, l2, k2⟩ := nat_low b
  have e := @Nat.and_mod_two_pow m n 32
  rw [show (2 : Nat) ^ 32 = 4294967296 from rfl] at e
  have e' := @Nat.and_mod_two_pow (m % 4294967296) (n % 4294967296) 32
  rw [show (2 : Nat) ^ 32 = 4294967296 from rfl, Nat.mod_mod, Nat.mod_mod] at e'
  rw [m_and, w64_low, aluV_t, wv_9, hv1_9, hv2_9, l1, l2, e1, e2, u64_and_nat m n h1 h2, u64_and_nat _ _ k1 k2]
  omega
theorem h_xor (a b : Int) : aluV 10 true a b = aluV 10 false a b % 4294967296 := by
  obtain ⟨m, e1, h1, l1, k1⟩ := nat_low a
  obtain ⟨n, e2, h2, l2, k2⟩ := nat_low b
  have e := @Nat.xor_mod_two_pow m n 32
  rw [show (2 : Nat) ^ 32 = 4294967296 from rfl] at e
  have e' := @Nat.xor_mod_two_pow (m % 4294967296) (n % 4294967296) 32
  rw [show (2 : Nat) ^ 32 = 4294967296 from rfl, Nat.mod_mod, Nat.mod_mod] at e'
  rw [m_xor, w64_low, aluV_t, wv_10, hv1_10, hv2_10, l1, l2, e1, e2, u64_xor_nat m n h1 h2, u64_xor_nat _ _ k1 k2]
  omega
theorem h_whole (op a b : Int) (h : (1 ≤ op ∧ op ≤ 3) ∨ (8 ≤ op ∧ op ≤ 10) ∨ (14 ≤ op ∧ op ≤ 15)) : aluV op true a b = aluV op false a b % 4294967296 := by
  have : op = 1 ∨ op = 2 ∨ op = 3 ∨ op = 8 ∨ op = 9 ∨ op = 10 ∨ op = 14 ∨ op = 15 := by omega
  rcases this with rfl | rfl | rfl | rfl | rfl | rfl | rfl | rfl
  · exact h_add a b
  · exact h_sub a b
  · exact h_mul a b
  · exact h_or a b
  · exact h_and a b
  · exact h_xor a b
  · exact h_neg a b
  · exact h_mov a b

/-! ### a low half, with another high half -/
theorem mix_low (x y : Int) : bits BinOp.or IntKind.i64 (x % 4294967296) (wrap64 (y * 4294967296)) % 4294967296 = x % 4294967296 := by
  show IntKind.i64.wrap (((BitVec.ofInt 64 (x % 4294967296) ||| BitVec.ofInt 64 (wrap64 (y * 4294967296))).toNat : Nat) : Int) % 4294967296 = x % 4294967296
  have w : ∀ v : Int, IntKind.i64.wrap v % 4294967296 = v % 4294967296 := fun v => by rw [IntKind.wrap_i64]; omega
  rw [w, BitVec.toNat_or, BitVec.toNat_ofInt, BitVec.toNat_ofInt]
  have e := @Nat.or_mod_two_pow ((x % 4294967296 % ((2 ^ 64 : Nat) : Int)).toNat) ((wrap64 (y * 4294967296) % ((2 ^ 64 : Nat) : Int)).toNat) 32
  rw [show (2 : Nat) ^ 32 = 4294967296 from rfl] at e
  have e0 : (wrap64 (y * 4294967296) % ((2 ^ 64 : Nat) : Int)).toNat % 4294967296 = 0 := by
    rw [show ((2 ^ 64 : Nat) : Int) = 18446744073709551616 by decide, w64_mod]
    omega
  have e1 : (x % 4294967296 % ((2 ^ 64 : Nat) : Int)).toNat % 4294967296 = (x % 4294967296).toNat := by
    rw [show ((2 ^ 64 : Nat) : Int) = 18446744073709551616 by decide]
    omega
  rw [e0, e1, Nat.or_zero] at e
  have e2 := congrArg (fun n : Nat => (n : Int)) e
  simp only [Int.natCast_emod] at e2
  have e3 : (((4294967296 : Nat)) : Int) = 4294967296 := rfl
  rw [e3] at e2
  rw [e2]
  omega
theorem ext16_c {a b : Int} (h : a % 4294967296 = b % 4294967296) : extI 16 true a = extI 16 true b := by
  have e : ∀ x, extI 16 true x = (if x % 65536 < 32768 then x % 65536 else x % 65536 - 65536) % 4294967296 := fun _ => rfl
  rw [e, e, show a % 65536 = b % 65536 by omega]
theorem ext8_c {a b : Int} (h : a % 4294967296 = b % 4294967296) : extI 8 true a = extI 8 false b % 4294967296 := by
  have e : ∀ x, extI 8 true x = (if x % 256 < 128 then x % 256 else x % 256 - 256) % 4294967296 := fun _ => rfl
  have f : ∀ x, extI 8 false x = (if x % 256 < 128 then x % 256 else x % 256 - 256) := fun _ => rfl
  rw [e, f, show a % 256 = b % 256 by omega]
end Go.Proofs.Ytjhgjplhhhgfcaa
