/- Extend: the program's and the document's, one function. -/
import Derived.Test.YtjhgjplhhhgfcaaGreatWord
namespace Go.Proofs.YtjhgjplhhhgfcaaGreat
open Go.ChangeShapes Go.WideShapes Go.ChangeAt Go.RowKit
open Bits

theorem below_drewN {B : Nat} {a w : World} (h : Below B a w) (n : Nat) : Below B a (w.drewN n) := ⟨h.os, h.tape, h.output, h.size, h.block⟩

theorem number_n (A : Option Addr) (n c : Nat) (L : List Int) (w : World) (hn : L.length = n) (hlen : n ≤ 1099511627776) (h : IntsAt w A L) :
    Calls Tryz.prog 60 #[.slice A n c] w fun e w' => e = .returned (.int .i64 (wrap64 (valL L))) ∧ w = w' := by
  subst hn; exact number_any A c L w hlen h
theorem signed_n (A : Option Addr) (n c : Nat) (L : List Int) (w : World) (hn : L.length = n) (hbit : Bit L) (hlen : n ≤ 64) (h : IntsAt w A L) :
    Calls Tryz.prog 64 #[.slice A n c] w fun e w' => e = .returned (.int .i64 (sgnL L)) ∧ ∃ n, w' = w.drewN n := by
  subst hn; exact signed_any A c L w hbit hlen h
theorem row_n (v k : Int) (n : Nat) (hn : (n : Int) = k) (hk : n ≤ 64) (w : World) :
    Calls Tryz.prog 59 #[.int .i64 v, .int .i64 k] w fun e w' => e = .returned (.slice (some ⟨w.heap.size, 0, none⟩) n n) ∧ IntBlk w' w.heap.size (bitsL v n) ∧ Below w.heap.size w w' ∧ w'.heap.size = w.heap.size + 1 := by
  subst hn; exact row_any v n hk w

theorem sx_u64 (k : Nat) (hk : k ≤ 64) (a : Int) : sx k (IntKind.u64.wrap a) = sx k a := by
  have e : IntKind.u64.wrap a % 2 ^ k = a % 2 ^ k := by
    rw [u64_pow]
    exact Int.emod_emod_of_dvd a ⟨2 ^ (64 - k), (pow_split (show k + (64 - k) = 64 by omega)).symm⟩
  unfold sx; rw [e]
theorem sx_rng (k : Nat) (h1 : 1 ≤ k) (a : Int) : -(2 ^ (k - 1)) ≤ sx k a ∧ sx k a < 2 ^ (k - 1) := by
  have hK := pow_pos' k
  have hKH : (2 : Int) ^ k = 2 * 2 ^ (k - 1) := by rw [← Int.pow_succ']; congr 1; omega
  have hm0 := Int.emod_nonneg a (show (2 : Int) ^ k ≠ 0 by omega)
  have hm1 := Int.emod_lt_of_pos a hK
  unfold sx; split <;> omega
theorem sx_rng64 (k : Nat) (h1 : 1 ≤ k) (hk : k ≤ 64) (a : Int) : -9223372036854775808 ≤ sx k a ∧ sx k a < 9223372036854775808 := by
  have h := sx_rng k h1 a
  have h2 : (2 : Int) ^ (k - 1) ≤ 2 ^ 63 := pow_le_of (by omega)
  have h3 : (2 : Int) ^ 63 = 9223372036854775808 := by decide
  omega
theorem w64_u64 (x : Int) (h : -9223372036854775808 ≤ x ∧ x < 9223372036854775808) : wrap64 (IntKind.u64.wrap x) = x := by
  rw [IntKind.wrap_u64]; unfold wrap64; omega
theorem emod_mul2 (a H : Int) (hH : 0 < H) : a % (H * 2) = a % H + H * (a / H % 2) := by
  rw [Int.emod_def a (H * 2), Int.emod_def a H, Int.emod_def (a / H) 2, ← Int.ediv_ediv_of_nonneg (Int.le_of_lt hH), Int.mul_sub, Int.mul_assoc]
  omega
theorem sgnL_bits (a : Int) (k : Nat) (h1 : 1 ≤ k) (hk : k < 64) : sgnL (bitsL a k) = sx k a := by
  have hb : (bitsL a k)[(bitsL a k).length - 1]?.getD 0 = a / 2 ^ (k - 1) % 2 := by
    rw [bitsL_length, bitsL_get _ _ _ (by omega)]; rfl
  unfold sgnL sx
  rw [hb]
  simp only [bitsL_length, valL_bits]
  rw [if_neg (by omega), if_neg (by omega)]
  have hH := pow_pos' (k - 1)
  have hKH : (2 : Int) ^ k = 2 ^ (k - 1) * 2 := by rw [← Int.pow_succ]; congr 1; omega
  rw [hKH]
  have e : a % (2 ^ (k - 1) * 2) = a % 2 ^ (k - 1) + 2 ^ (k - 1) * (a / 2 ^ (k - 1) % 2) := emod_mul2 a _ hH
  have hm0 := Int.emod_nonneg a (show (2 : Int) ^ (k - 1) ≠ 0 by omega)
  have hm1 := Int.emod_lt_of_pos a hH
  rw [e]
  rcases Int.emod_two_eq (a / 2 ^ (k - 1)) with h | h
  · rw [h, if_pos rfl, if_pos (by omega)]
  · rw [h, if_neg (by decide), if_neg (by omega)]

/-- what Extend is, where its size is one of three -/
def extV (k : Nat) (n : Bool) (a : Int) : Int := if n = true then sx k a % 4294967296 else sx k a
theorem extV_f (k : Nat) (a : Int) (h1 : 1 ≤ k) (hk : k ≤ 32) : wrap64 (IntKind.u64.wrap (sx k (IntKind.u64.wrap a))) = extV k false a := by
  rw [sx_u64 k (by omega), w64_u64 _ (sx_rng64 k h1 (by omega) a)]; rfl
theorem extV_t (k : Nat) (a : Int) (hk : k ≤ 32) : IntKind.u64.wrap (sx k (IntKind.u64.wrap a)) % 4294967296 = extV k true a := by
  rw [sx_u64 k (by omega), IntKind.wrap_u64]
  show sx k a % 18446744073709551616 % 4294967296 = sx k a % 4294967296
  omega

set_option maxHeartbeats 2000000 in
theorem extend_yes (k : Nat) (n : Bool) (a : Int) (hk : k = 8 ∨ k = 16 ∨ (k = 32 ∧ n = false)) (w : World) :
    Calls Tryz.prog 33 #[.int .i64 k, .bool n, .int .i64 a] w fun e w' => e = .returned (.int .i64 (extV k n a)) ∧ w = w' := by
  rcases hk with rfl | rfl | ⟨rfl, rfl⟩
  · have HM := Lib.hid (extV_f 8 a (by omega) (by omega))
    have HN := Lib.hid (extV_t 8 a (by omega))
    cases n
    all_goals
      go_enter Tryz.func33, Tryz.ntmps33
      go_wp2_with (first | (go_at_call 63; refine (signed_w _ 8 (by omega) (by omega) _).mono ?_; rintro e w' ⟨rfl, rfl⟩) | (go_at_call 58; refine (low_any _ 32 (by omega) (by rw [IntKind.wrap_u64]; omega) _).mono ?_; rintro e w' ⟨rfl, rfl⟩))
      go_ret
      exact ⟨congrArg (fun v => Ending.returned (.int .i64 v)) (by first | exact HM.out | exact HN.out), rfl⟩
  · have HM := Lib.hid (extV_f 16 a (by omega) (by omega))
    have HN := Lib.hid (extV_t 16 a (by omega))
    cases n
    all_goals
      go_enter Tryz.func33, Tryz.ntmps33
      go_wp2_with (first | (go_at_call 63; refine (signed_w _ 16 (by omega) (by omega) _).mono ?_; rintro e w' ⟨rfl, rfl⟩) | (go_at_call 58; refine (low_any _ 32 (by omega) (by rw [IntKind.wrap_u64]; omega) _).mono ?_; rintro e w' ⟨rfl, rfl⟩))
      go_ret
      exact ⟨congrArg (fun v => Ending.returned (.int .i64 v)) (by first | exact HM.out | exact HN.out), rfl⟩
  · have HM := Lib.hid (extV_f 32 a (by omega) (by omega))
    go_enter Tryz.func33, Tryz.ntmps33
    go_wp2_with (first | (go_at_call 63; refine (signed_w _ 32 (by omega) (by omega) _).mono ?_; rintro e w' ⟨rfl, rfl⟩) | (go_at_call 58; refine (low_any _ 32 (by omega) (by rw [IntKind.wrap_u64]; omega) _).mono ?_; rintro e w' ⟨rfl, rfl⟩))
    go_ret
    exact ⟨congrArg (fun v => Ending.returned (.int .i64 v)) HM.out, rfl⟩

set_option maxHeartbeats 2000000 in
theorem extend_no (k : Int) (n : Bool) (a : Int) (h8 : k ≠ 8) (h16 : k ≠ 16) (h32 : k = 32 → n = true) (w : World) :
    Calls Tryz.prog 33 #[.int .i64 k, .bool n, .int .i64 a] w fun e w' => e = .returned (.int .i64 0) ∧ w = w' := by
  have t8 : (k == 8) = false := by rw [beq_eq_false_iff_ne]; exact h8
  have t16 : (k == 16) = false := by rw [beq_eq_false_iff_ne]; exact h16
  by_cases h : k = 32
  · have := h32 h
    subst this
    have t32 : (k == 32) = true := by rw [beq_iff_eq]; exact h
    clear h8 h16 h32 h
    go_enter Tryz.func33, Tryz.ntmps33
    go_wp2
    go_ret
    exact ⟨rfl, rfl⟩
  · have t32 : (k == 32) = false := by rw [beq_eq_false_iff_ne]; exact h
    clear h8 h16 h32 h
    go_enter Tryz.func33, Tryz.ntmps33
    go_wp2
    go_ret
    exact ⟨rfl, rfl⟩

set_option maxHeartbeats 2000000 in
theorem refExtend_no (k : Int) (n : Bool) (a : Int) (h8 : k ≠ 8) (h16 : k ≠ 16) (h32 : k = 32 → n = true) (w : World) :
    Calls Tryz.prog 37 #[.int .i64 k, .bool n, .int .i64 a] w fun e w' => e = .returned (.int .i64 0) ∧ w = w' := by
  have t8 : (k != 8) = true := by rw [bne_iff_ne]; exact h8
  have t16 : (k != 16) = true := by rw [bne_iff_ne]; exact h16
  by_cases h : k = 32
  · have := h32 h
    subst this
    have t32 : (k != 32) = false := by simp [h]
    clear h8 h16 h32 h
    go_enter Tryz.func37, Tryz.ntmps37
    go_wp2
    go_ret
    exact ⟨rfl, rfl⟩
  · have t32 : (k != 32) = true := by rw [bne_iff_ne]; exact h
    clear h8 h16 h32 h
    go_enter Tryz.func37, Tryz.ntmps37
    go_wp2
    go_ret
    exact ⟨rfl, rfl⟩

/-- the document's Extend behind its tests: for any number of bits and any width -/
theorem ref_tail (a : Int) (k m : Nat) (h1 : 1 ≤ k) (hk : k ≤ 32) : wrap64 (valL (bitsL (sgnL (bitsL a k)) m)) = wrap64 (sx k a % 2 ^ m) := by
  rw [valL_bits, sgnL_bits a k h1 (by omega)]
theorem ref_t (a : Int) (k : Nat) (h1 : 1 ≤ k) (hk : k ≤ 32) : wrap64 (valL (bitsL (sgnL (bitsL a k)) 32)) = extV k true a := by
  rw [ref_tail a k 32 h1 hk]
  show wrap64 (sx k a % 2 ^ 32) = sx k a % 4294967296
  rw [show (2 : Int) ^ 32 = 4294967296 from rfl]; unfold wrap64; omega
theorem ref_f (a : Int) (k : Nat) (h1 : 1 ≤ k) (hk : k ≤ 32) : wrap64 (valL (bitsL (sgnL (bitsL a k)) 64)) = extV k false a := by
  rw [ref_tail a k 64 h1 hk]
  have h := sx_rng64 k h1 (by omega) a
  show wrap64 (sx k a % 2 ^ 64) = sx k a
  rw [show (2 : Int) ^ 64 = 18446744073709551616 from rfl]; unfold wrap64; omega

set_option maxHeartbeats 4000000 in
theorem refExtend_core (k : Nat) (n : Bool) (a : Int) (h1 : 1 ≤ k) (hk : k ≤ 32)
    (ht : ((k : Int) != 8) = false ∨ ((k : Int) != 8) = true ∧ ((k : Int) != 16) = false ∨ ((k : Int) != 8) = true ∧ ((k : Int) != 16) = true ∧ ((k : Int) != 32) = false ∧ n = false) (w : World) :
    Calls Tryz.prog 37 #[.int .i64 k, .bool n, .int .i64 a] w fun e w' => e = .returned (.int .i64 (extV k n a)) ∧ Below w.heap.size w w' := by
  have HT := Lib.hid (ref_t a k h1 hk)
  have HF := Lib.hid (ref_f a k h1 hk)
  rcases ht with t1 | ⟨t1, t2⟩ | ⟨t1, t2, t3, rfl⟩
  · cases n
    all_goals
      go_enter Tryz.func37, Tryz.ntmps37
      go_wp2_with fail
      refine (row_n _ _ k rfl (by omega) _).mono ?_
      rintro e w1 ⟨rfl, hb1, hB1, hs1⟩
      clear hs1
      go_wp2_with fail
      refine (signed_n _ _ _ _ _ (bitsL_length a k) (bit_bits a k) (by omega) hb1.at_).mono ?_
      rintro e w2 ⟨rfl, n2, rfl⟩
      go_wp2_with fail
      refine (width_any _ _).mono ?_
      rintro e w3 ⟨rfl, rfl⟩
      go_wp2_with fail
      first | refine (row_n _ _ 64 (by decide) (by omega) _).mono ?_ | refine (row_n _ _ 32 (by decide) (by omega) _).mono ?_
      rintro e w4 ⟨rfl, hb4, hB4, hs4⟩
      clear hs4
      go_wp2_with fail
      refine (number_n _ _ _ _ _ (bitsL_length _ _) (by omega) hb4.at_).mono ?_
      rintro e w5 ⟨rfl, rfl⟩
      go_wp2_with fail
      go_ret
      exact ⟨congrArg (fun v => Ending.returned (.int .i64 v)) (by first | exact HT.out | exact HF.out), (below_drewN hB1 n2).trans (hB4.mono hB1.size)⟩
  · cases n
    all_goals
      go_enter Tryz.func37, Tryz.ntmps37
      go_wp2_with fail
      refine (row_n _ _ k rfl (by omega) _).mono ?_
      rintro e w1 ⟨rfl, hb1, hB1, hs1⟩
      clear hs1
      go_wp2_with fail
      refine (signed_n _ _ _ _ _ (bitsL_length a k) (bit_bits a k) (by omega) hb1.at_).mono ?_
      rintro e w2 ⟨rfl, n2, rfl⟩
      go_wp2_with fail
      refine (width_any _ _).mono ?_
      rintro e w3 ⟨rfl, rfl⟩
      go_wp2_with fail
      first | refine (row_n _ _ 64 (by decide) (by omega) _).mono ?_ | refine (row_n _ _ 32 (by decide) (by omega) _).mono ?_
      rintro e w4 ⟨rfl, hb4, hB4, hs4⟩
      clear hs4
      go_wp2_with fail
      refine (number_n _ _ _ _ _ (bitsL_length _ _) (by omega) hb4.at_).mono ?_
      rintro e w5 ⟨rfl, rfl⟩
      go_wp2_with fail
      go_ret
      exact ⟨congrArg (fun v => Ending.returned (.int .i64 v)) (by first | exact HT.out | exact HF.out), (below_drewN hB1 n2).trans (hB4.mono hB1.size)⟩
  · all_goals
      go_enter Tryz.func37, Tryz.ntmps37
      go_wp2_with fail
      refine (row_n _ _ k rfl (by omega) _).mono ?_
      rintro e w1 ⟨rfl, hb1, hB1, hs1⟩
      clear hs1
      go_wp2_with fail
      refine (signed_n _ _ _ _ _ (bitsL_length a k) (bit_bits a k) (by omega) hb1.at_).mono ?_
      rintro e w2 ⟨rfl, n2, rfl⟩
      go_wp2_with fail
      refine (width_any _ _).mono ?_
      rintro e w3 ⟨rfl, rfl⟩
      go_wp2_with fail
      first | refine (row_n _ _ 64 (by decide) (by omega) _).mono ?_ | refine (row_n _ _ 32 (by decide) (by omega) _).mono ?_
      rintro e w4 ⟨rfl, hb4, hB4, hs4⟩
      clear hs4
      go_wp2_with fail
      refine (number_n _ _ _ _ _ (bitsL_length _ _) (by omega) hb4.at_).mono ?_
      rintro e w5 ⟨rfl, rfl⟩
      go_wp2_with fail
      go_ret
      exact ⟨congrArg (fun v => Ending.returned (.int .i64 v)) (by first | exact HT.out | exact HF.out), (below_drewN hB1 n2).trans (hB4.mono hB1.size)⟩

end Go.Proofs.YtjhgjplhhhgfcaaGreat
