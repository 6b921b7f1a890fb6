/- The document's Beyond; the law's met, full, with, place, meets. -/
import Derived.Test.YtockoolcdhgopaaZR
namespace Go.Proofs.Ytockoolcdhgopaa
open Go.ChangeShapes Go.WideShapes Go.ChangeAt Go.RowKit
open Zon
set_option linter.unusedVariables false
set_option maxRecDepth 100000
theorem and3 (a : Int) : bits BinOp.and IntKind.i64 a 3 = a % 4 := by
  show IntKind.i64.wrap (((BitVec.ofInt 64 a &&& BitVec.ofInt 64 3).toNat : Nat) : Int) = a % 4
  have e1 : (BitVec.ofInt 64 (3 : Int)).toNat = 2 ^ 2 - 1 := rfl
  rw [BitVec.toNat_and, e1, Nat.and_two_pow_sub_one_eq_mod, BitVec.toNat_ofInt]
  have e2 : (((a % ((2 ^ 64 : Nat) : Int)).toNat % 2 ^ 2 : Nat) : Int) = a % 4 := by
    rw [Int.natCast_emod, Int.toNat_of_nonneg (Int.emod_nonneg _ (by decide))]
    rw [show (((2 : Nat) ^ 2 : Nat) : Int) = 4 by rfl, show (((2 : Nat) ^ 64 : Nat) : Int) = 4 * 4611686018427387904 by rfl]
    exact Int.emod_emod_of_dvd a ⟨4611686018427387904, rfl⟩
  rw [e2]
  exact IntWalk.i64_in _ (by omega)
set_option maxHeartbeats 1000000 in
theorem beyond_any (a b c : Int) (w : World) (ha : I64 a) (hb : I64 b) (hc : -2305843009213693952 ≤ c ∧ c ≤ 2305843009213693952) :
    Calls Try.prog 15 #[.int .i64 a, .int .i64 b, .int .i64 c] w fun e w' => e = .returned (.bool (decide (c < a - b))) ∧ w = w' := by
  unfold I64 at ha hb
  obtain ⟨qa, ea⟩ : ∃ q, a / 4 = q := ⟨_, rfl⟩
  obtain ⟨qb, eb⟩ : ∃ q, b / 4 = q := ⟨_, rfl⟩
  obtain ⟨qc, ec⟩ : ∃ q, c / 4 = q := ⟨_, rfl⟩
  obtain ⟨ra, fa⟩ : ∃ q, bits BinOp.and IntKind.i64 a 3 = q := ⟨_, rfl⟩
  obtain ⟨rb, fb⟩ : ∃ q, bits BinOp.and IntKind.i64 b 3 = q := ⟨_, rfl⟩
  obtain ⟨rc, fc⟩ : ∃ q, bits BinOp.and IntKind.i64 c 3 = q := ⟨_, rfl⟩
  have ga : a = 4 * qa + ra ∧ 0 ≤ ra ∧ ra ≤ 3 := by rw [← fa, and3]; omega
  have gb : b = 4 * qb + rb ∧ 0 ≤ rb ∧ rb ≤ 3 := by rw [← fb, and3]; omega
  have gc : c = 4 * qc + rc ∧ 0 ≤ rc ∧ rc ≤ 3 := by rw [← fc, and3]; omega
  have GA := Lib.hid ga.1
  have GB := Lib.hid gb.1
  have GC := Lib.hid gc.1
  obtain ⟨-, a1, a2⟩ := ga
  obtain ⟨-, b1, b2⟩ := gb
  obtain ⟨-, c1, c2⟩ := gc
  have q1 : -2305843009213693952 ≤ qa := by omega
  have q2 : qa ≤ 2305843009213693951 := by omega
  have q3 : -2305843009213693952 ≤ qb := by omega
  have q4 : qb ≤ 2305843009213693951 := by omega
  have q5 : -576460752303423488 ≤ qc := by omega
  have q6 : qc ≤ 576460752303423488 := by omega
  clear ha hb hc
  go_enter Try.func15, Try.ntmps15
  go_wp2_with fail
  all_goals
    go_ret
    refine ⟨ret_bool ?_, rfl⟩
    have := GA.out
    have := GB.out
    have := GC.out
    clear ea eb ec fa fb fc
    first
      | (rw [Bool.eq_iff_iff]; simp only [Bool.or_eq_true, decide_eq_true_eq]; omega)
      | exact (decide_eq_true (by omega)).symm
end Go.Proofs.Ytockoolcdhgopaa
