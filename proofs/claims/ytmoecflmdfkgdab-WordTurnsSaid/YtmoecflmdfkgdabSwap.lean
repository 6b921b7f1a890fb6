/- Swap: the program's and the document's, one function. -/
import Derived.Test.YtmoecflmdfkgdabOwnI
namespace Go.Proofs.Ytmoecflmdfkgdab
open Go.ChangeShapes Go.WideShapes Go.ChangeAt Go.RowKit
open Bits

/-- eight of a number's bits, from 8 t on -/
theorem chunk_eq (a : Int) (k t i : Nat) (h : 8 * t + i < k) (hi : i < 8) : (bitsL a k)[8 * t + i]? = (bitsL (a / 2 ^ (8 * t)) 8)[i]? := by
  rw [bitsL_get _ _ _ h, bitsL_get _ _ _ hi, Int.pow_add, ← Int.ediv_ediv_of_nonneg (Int.le_of_lt (pow_pos' _))]

/-- the first j of n rows of eight bits, the highest first -/
def revL (a : Int) (n : Nat) : Nat → List Int
  | 0 => []
  | j + 1 => revL a n j ++ bitsL (a / 2 ^ (8 * (n - 1 - j))) 8
theorem revL_length (a : Int) (n j : Nat) : (revL a n j).length = 8 * j := by
  induction j with
  | zero => rfl
  | succ j ih => rw [revL, List.length_append, ih, bitsL_length]; omega
/-- the unsigned number -/
def un (a : Int) : Nat := (a % 18446744073709551616).toNat
theorem un_cast (a : Int) : ((un a : Nat) : Int) = IntKind.u64.wrap a := by rw [IntKind.wrap_u64]; unfold un; omega
theorem un_lt (a : Int) : un a < 18446744073709551616 := by unfold un; omega
theorem byte_un (a : Int) (t : Nat) (ht : t < 8) : a / 2 ^ (8 * t) % 2 ^ 8 = (bt t (un a) : Int) := by
  have e : ((bt t (un a) : Nat) : Int) = (un a : Int) / 2 ^ (8 * t) % 2 ^ 8 := by unfold bt; simp
  rw [e, un_cast, u64_pow]
  have hp := pow_pos' (8 * t)
  rw [← pow_split (show 8 * t + (64 - 8 * t) = 64 by omega)]
  rw [Int.emod_def a, Int.mul_assoc, Int.sub_eq_add_neg, ← Int.mul_neg, Int.add_mul_ediv_left _ _ (by omega)]
  rw [← pow_split (show 8 + (56 - 8 * t) = 64 - 8 * t by omega), Int.mul_assoc, ← Int.mul_neg, Int.add_mul_emod_self_left]
theorem revL_val (a : Int) (n : Nat) (hn : n ≤ 8) : ∀ j m, j + m = n → ((revN n (un a) : Nat) : Int) = valL (revL a n j) + 2 ^ (8 * j) * (revN m (un a) : Int) := by
  intro j
  induction j with
  | zero => intro m h; rw [Nat.zero_add] at h; subst h; simp [revL, valL]
  | succ j ih =>
    intro m h
    rw [ih (m + 1) (by omega), revL, valL_append, revL_length, valL_bits, show n - 1 - j = m by omega, byte_un a m (by omega), revN]
    rw [show 8 * (j + 1) = 8 * j + 8 by omega, Int.pow_add]
    simp only [Int.natCast_add, Int.natCast_mul]
    rw [Int.mul_add, Int.mul_assoc, show ((256 : Nat) : Int) = 2 ^ 8 from rfl]
    omega
theorem revL_full (a : Int) (n : Nat) (hn : n ≤ 8) : valL (revL a n n) = (revN n (un a) : Int) := by
  rw [revL_val a n hn n 0 (by omega)]; simp [revN]

/-- what Swap is, where its size is n bytes, n one of 2, 4, 8 -/
def swapV (n : Nat) (t : Bool) (a : Int) : Int := wrap64 (if t = true then (revN n (un a) : Int) else a % 2 ^ (8 * n))

theorem swap_no (k : Int) (t : Bool) (a : Int) (h8 : k ≠ 16) (h16 : k ≠ 32) (h32 : k ≠ 64) (w : World) :
    Calls Try.prog 4 #[.int .i64 k, .bool t, .int .i64 a] w fun e w' => e = .returned (.int .i64 0) ∧ w = w' := by
  have t8 : (k == 16) = false := by rw [beq_eq_false_iff_ne]; exact h8
  have t16 : (k == 32) = false := by rw [beq_eq_false_iff_ne]; exact h16
  have t32 : (k == 64) = false := by rw [beq_eq_false_iff_ne]; exact h32
  clear h8 h16 h32
  go_enter Try.func4, Try.ntmps4
  go_wp2_with fail
  go_ret
  exact ⟨rfl, rfl⟩

theorem rev_int (x : Int) (h : 0 ≤ x ∧ x < 18446744073709551616) (w : World) :
    Calls Try.prog 9 #[.int .u64 x] w fun e w' => e = .returned (.int .u64 (revN 8 x.toNat)) ∧ w = w' := by
  obtain ⟨n, rfl⟩ := Int.eq_ofNat_of_zero_le h.1
  exact rev_any n (by omega) w
theorem u64_rng' (x : Int) : 0 ≤ IntKind.u64.wrap x ∧ IntKind.u64.wrap x < 18446744073709551616 := by rw [IntKind.wrap_u64]; omega
theorem swapV_t (n m : Nat) (a : Int) (h : n + m = 8) : wrap64 (revN 8 (IntKind.u64.wrap (IntKind.u64.wrap a * 2 ^ (8 * m))).toNat) = swapV n true a := by
  have e : (IntKind.u64.wrap (IntKind.u64.wrap a * 2 ^ (8 * m))).toNat = un a * 2 ^ (8 * m) % 2 ^ 64 := by
    rw [← un_cast a, IntKind.wrap_u64]
    have e2 : ((un a : Int) * 2 ^ (8 * m)) = ((un a * 2 ^ (8 * m) : Nat) : Int) := by simp
    rw [e2]
    omega
  have e3 : revN 8 (un a * 2 ^ (8 * m) % 2 ^ 64) = revN n (un a) := by
    have := revN_shift n m (un a) (by omega)
    rw [h] at this
    exact this
  rw [e, e3]; rfl
theorem swapV_8 (a : Int) : wrap64 (revN 8 (IntKind.u64.wrap (IntKind.u64.wrap a)).toNat) = swapV 8 true a := by
  rw [IntWalk.u64_in _ (by have := u64_rng' a; omega)]
  have e : (IntKind.u64.wrap a).toNat = un a := by rw [← un_cast a, Int.toNat_natCast]
  rw [e]; rfl
theorem swapV_f (n : Nat) (a : Int) (h : n ≤ 8) : wrap64 (IntKind.u64.wrap a % 2 ^ (8 * n)) = swapV n false a := by
  have e : IntKind.u64.wrap a % 2 ^ (8 * n) = a % 2 ^ (8 * n) := by
    rw [u64_pow]
    exact Int.emod_emod_of_dvd a ⟨2 ^ (64 - 8 * n), (pow_split (show 8 * n + (64 - 8 * n) = 64 by omega)).symm⟩
  rw [e]; rfl

theorem swapV_g (n : Nat) (a : Int) (h : n ≤ 4) : IntKind.u64.wrap a % 2 ^ (8 * n) = swapV n false a := by
  rw [← swapV_f n a (by omega)]
  have h0 := Int.emod_nonneg (IntKind.u64.wrap a) (show (2 : Int) ^ (8 * n) ≠ 0 by have := pow_pos' (8 * n); omega)
  have h1 := Int.emod_lt_of_pos (IntKind.u64.wrap a) (pow_pos' (8 * n))
  have h2 : (2 : Int) ^ (8 * n) ≤ 2 ^ 32 := pow_le_of (by omega)
  rw [show (2 : Int) ^ 32 = 4294967296 from rfl] at h2
  rw [IntWalk.wrap64_in _ (by omega)]

set_option maxHeartbeats 4000000 in
theorem swap_core (n : Nat) (t : Bool) (a : Int) (hn : n = 2 ∨ n = 4 ∨ n = 8) (w : World) :
    Calls Try.prog 4 #[.int .i64 ((8 * n : Nat) : Int), .bool t, .int .i64 a] w fun e w' => e = .returned (.int .i64 (swapV n t a)) ∧ w = w' := by
  rcases hn with rfl | rfl | rfl
  · have HT := Lib.hid (swapV_t 2 6 a rfl)
    have HF := Lib.hid (swapV_f 2 a (by omega))
    have HG := Lib.hid (swapV_g 2 a (by omega))
    cases t
    all_goals
      go_enter Try.func4, Try.ntmps4
      go_wp2_with (first | (go_at_call 9; refine (rev_int _ (u64_rng' _) _).mono ?_; rintro e w' ⟨rfl, rfl⟩) | (go_at_call 10; refine (low_any _ 16 (by omega) (u64_rng' _) _).mono ?_; rintro e w' ⟨rfl, rfl⟩))
      go_ret
      exact ⟨congrArg (fun v => Ending.returned (.int .i64 v)) (by first | exact HT.out | exact HF.out | exact HG.out), rfl⟩
  · have HT := Lib.hid (swapV_t 4 4 a rfl)
    have HF := Lib.hid (swapV_f 4 a (by omega))
    have HG := Lib.hid (swapV_g 4 a (by omega))
    cases t
    all_goals
      go_enter Try.func4, Try.ntmps4
      go_wp2_with (first | (go_at_call 9; refine (rev_int _ (u64_rng' _) _).mono ?_; rintro e w' ⟨rfl, rfl⟩) | (go_at_call 10; refine (low_any _ 32 (by omega) (u64_rng' _) _).mono ?_; rintro e w' ⟨rfl, rfl⟩))
      go_ret
      exact ⟨congrArg (fun v => Ending.returned (.int .i64 v)) (by first | exact HT.out | exact HF.out | exact HG.out), rfl⟩
  · have HT := Lib.hid (swapV_8 a)
    have HF := Lib.hid (swapV_f 8 a (by omega))
    have HG := Lib.hid (swapV_f 8 a (by omega))
    cases t
    all_goals
      go_enter Try.func4, Try.ntmps4
      go_wp2_with (first | (go_at_call 9; refine (rev_int _ (u64_rng' _) _).mono ?_; rintro e w' ⟨rfl, rfl⟩) | (go_at_call 10; refine (low_any _ 64 (by omega) (u64_rng' _) _).mono ?_; rintro e w' ⟨rfl, rfl⟩))
      go_ret
      exact ⟨congrArg (fun v => Ending.returned (.int .i64 v)) (by first | exact HT.out | exact HF.out | exact HG.out), rfl⟩
end Go.Proofs.Ytmoecflmdfkgdab
