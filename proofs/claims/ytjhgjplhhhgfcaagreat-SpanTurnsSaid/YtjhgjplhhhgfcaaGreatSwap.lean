/- Swap: the program's and the document's, one function. -/
import Derived.Test.YtjhgjplhhhgfcaaGreatOwnI
namespace Go.Proofs.YtjhgjplhhhgfcaaGreat
open Go.ChangeShapes Go.WideShapes Go.ChangeAt Go.RowKit
open Bits

/-- eight of a number's bits, from 8 t on -/
theorem chunk_eq (a : Int) (k t i : Nat) (h : 8 * t + i < k) (hi : i < 8) : (bitsL a k)[8 * t + i]? = (bitsL (a / 2 ^ (8 * t)) 8)[i]? := by
  rw [bitsL_get _ _ _ h, bitsL_get _ _ _ hi, Int.pow_add, ← Int.ediv_ediv_of_nonneg (Int.le_of_lt (pow_pos' _))]

/-- the first j of n rows of eight bits, the highest first -/
def revL (a : Int) (n : Nat) : Nat → List Int
  | 0 => []
  | j + 1 => revL a n j ++ bitsL (a / 2 ^ (8 * (n - 1 - j))) 8
theorem revL_length (a : Int) (n j : Nat) : (revL a n j).length = 8 * j := by
  induction j with
  | zero => rfl
  | succ j ih => rw [revL, List.length_append, ih, bitsL_length]; omega
/-- the unsigned number -/
def un (a : Int) : Nat := (a % 18446744073709551616).toNat
theorem un_cast (a : Int) : ((un a : Nat) : Int) = IntKind.u64.wrap a := by rw [IntKind.wrap_u64]; unfold un; omega
theorem un_lt (a : Int) : un a < 18446744073709551616 := by unfold un; omega
theorem byte_un (a : Int) (t : Nat) (ht : t < 8) : a / 2 ^ (8 * t) % 2 ^ 8 = (bt t (un a) : Int) := by
  have e : ((bt t (un a) : Nat) : Int) = (un a : Int) / 2 ^ (8 * t) % 2 ^ 8 := by unfold bt; simp
  rw [e, un_cast, u64_pow]
  have hp := pow_pos' (8 * t)
  rw [← pow_split (show 8 * t + (64 - 8 * t) = 64 by omega)]
  rw [Int.emod_def a, Int.mul_assoc, Int.sub_eq_add_neg, ← Int.mul_neg, Int.add_mul_ediv_left _ _ (by omega)]
  rw [← pow_split (show 8 + (56 - 8 * t) = 64 - 8 * t by omega), Int.mul_assoc, ← Int.mul_neg, Int.add_mul_emod_self_left]
theorem revL_val (a : Int) (n : Nat) (hn : n ≤ 8) : ∀ j m, j + m = n → ((revN n (un a) : Nat) : Int) = valL (revL a n j) + 2 ^ (8 * j) * (revN m (un a) : Int) := by
  intro j
  induction j with
  | zero => intro m h; rw [Nat.zero_add] at h; subst h; simp [revL, valL]
  | succ j ih =>
    intro m h
    rw [ih (m + 1) (by omega), revL, valL_append, revL_length, valL_bits, show n - 1 - j = m by omega, byte_un a m (by omega), revN]
    rw [show 8 * (j + 1) = 8 * j + 8 by omega, Int.pow_add]
    simp only [Int.natCast_add, Int.natCast_mul]
    rw [Int.mul_add, Int.mul_assoc, show ((256 : Nat) : Int) = 2 ^ 8 from rfl]
    omega
theorem revL_full (a : Int) (n : Nat) (hn : n ≤ 8) : valL (revL a n n) = (revN n (un a) : Int) := by
  rw [revL_val a n hn n 0 (by omega)]; simp [revN]

/-- what Swap is, where its size is n bytes, n one of 2, 4, 8 -/
def swapV (n : Nat) (t : Bool) (a : Int) : Int := wrap64 (if t = true then (revN n (un a) : Int) else a % 2 ^ (8 * n))

set_option maxHeartbeats 4000000 in
set_option maxRecDepth 100000 in
theorem refSwap_core (n : Nat) (t : Bool) (a : Int) (h1 : 1 ≤ n) (hn : n ≤ 8)
    (ht : (((8 * n : Nat) : Int) != 16) = false ∨ (((8 * n : Nat) : Int) != 16) = true ∧ (((8 * n : Nat) : Int) != 32) = false ∨ (((8 * n : Nat) : Int) != 16) = true ∧ (((8 * n : Nat) : Int) != 32) = true ∧ (((8 * n : Nat) : Int) != 64) = false) (w : World) :
    Calls Tryz.prog 29 #[.int .i64 ((8 * n : Nat) : Int), .bool t, .int .i64 a] w fun e w' => e = .returned (.int .i64 (swapV n t a)) ∧ Below w.heap.size w w' := by
  cases t
  · have HF := Lib.hid (show wrap64 (valL (bitsL a (8 * n))) = swapV n false a by rw [valL_bits]; rfl)
    generalize hk : 8 * n = k at *
    have Hk := Lib.hid hk
    have hk64 : k ≤ 64 := by omega
    clear hk
    rcases ht with t1 | ⟨t1, t2⟩ | ⟨t1, t2, t3⟩
    all_goals
      go_enter Tryz.func29, Tryz.ntmps29
      go_wp2_with fail
      refine (row_n _ _ k rfl (by omega) _).mono ?_
      rintro e w1 ⟨rfl, hb1, hB1, hs1⟩
      clear hs1
      go_wp2_with fail
      refine (number_n _ _ _ _ _ (bitsL_length _ _) (by omega) hb1.at_).mono ?_
      rintro e w5 ⟨rfl, rfl⟩
      go_wp2_with fail
      go_ret
      exact ⟨congrArg (fun v => Ending.returned (.int .i64 v)) HF.out, hB1⟩
  · have HF := Lib.hid (show wrap64 (valL (revL a n n)) = swapV n true a by rw [revL_full a n hn]; rfl)
    generalize hk : 8 * n = k at *
    have Hk := Lib.hid hk
    have hk64 : k ≤ 64 := by omega
    have hk8 : 8 ≤ k := by omega
    clear hk
    rcases ht with t1 | ⟨t1, t2⟩ | ⟨t1, t2, t3⟩
    all_goals
      go_enter Tryz.func29, Tryz.ntmps29
      go_wp2_with fail
      refine (row_n _ _ k rfl (by omega) _).mono ?_
      rintro e w1 ⟨rfl, hb1, hB1, hs1⟩
      go_wp2_with fail
      go_loopw [8, 9] (fun c i wr => ∃ r : Nat, r ≤ n ∧ i = .int .i64 (8 * (r : Int) - 8) ∧ OwnI wr (w.heap.size + 1) c (revL a n (n - r)) ∧ Below (w.heap.size + 1) w1 wr) (fun _ i _ => (intOf i + 8).toNat)
      case atStart => exact ⟨n, Nat.le_refl _, by rw [← Hk.out]; congr 1, by rw [Nat.sub_self]; exact OwnI.nil _ _, Below.refl _ _⟩
      case round =>
        obtain ⟨r, hr, rfl, hown, hBr⟩ := hrel
        rcases r with _ | r
        · rw [Nat.sub_zero] at hown
          obtain ⟨A, c, rfl, hat⟩ := hown.form
          rw [show (8 * ((0 : Nat) : Int) - 8) = -8 by omega]
          go_wp2_with fail
          refine (number_n _ _ _ _ _ rfl (by rw [revL_length]; omega) hat).mono ?_
          rintro e w5 ⟨rfl, rfl⟩
          go_wp2_with fail
          go_ret
          exact ⟨congrArg (fun v => Ending.returned (.int .i64 v)) HF.out, hB1.trans (hBr.mono (by omega))⟩
        · rw [show (8 * ((r + 1 : Nat) : Int) - 8) = ((8 * r : Nat) : Int) by omega]
          have hk8r : 8 * r + 8 ≤ k := by have := Hk.out; omega
          have hbr := hb1.below hBr (by omega)
          have hsrc : IntsAt wr (some ⟨w.heap.size, 8 * r, none⟩) (bitsL (a / 2 ^ (8 * r)) 8) := by
            intro _
            refine ⟨_, _, rfl, hbr.lt, fun i hi => ?_⟩
            rw [bitsL_length] at hi
            rw [hbr.cell _ (by rw [bitsL_length]; omega), chunk_eq a k r i (by omega) hi]
          have hnext : revL a n (n - r) = revL a n (n - (r + 1)) ++ bitsL (a / 2 ^ (8 * r)) 8 := by
            obtain ⟨m, hm⟩ : ∃ m, n - (r + 1) = m := ⟨_, rfl⟩
            rw [hm, show n - r = m + 1 by omega, revL, show n - 1 - m = r by omega]
          have HN := Lib.hid hnext
          have hl := revL_length a n (n - (r + 1))
          have hl2 : (revL a n (n - (r + 1))).length ≤ 64 := by omega
          clear hnext hl
          generalize hq : 8 * r = q at *
          have Hq := Lib.hid hq
          have HS1 := Lib.hid hs1
          clear hq hs1
          have hc3 : (revL a n (n - (r + 1))).length + (q + 8 - q) ≤ 1099511627776 := by omega
          have HM := Lib.hid (show (bitsL (a / 2 ^ q) 8).length = q + 8 - q by rw [bitsL_length]; omega)
          have hc5 : w.heap.size + 1 ≤ wr.heap.size := by have := hBr.size; have := HS1.out; omega
          go_wp2_with (at_builtin; (refine append_ints Tryz.underlying80 int_info _ rfl (.tmp 33) (.tmp 38) rfl (w.heap.size + 1) _ _ rfl hown _ (q + 8 - q) _ _ rfl HM.out hsrc hc3 hc5 ?_; intro v' w' hown' hB'))
          go_roundw
          case rel => exact ⟨r, by omega, by rw [← Hq.out]; go_num, by rw [HN.out]; exact hown', hBr.trans hB'⟩
          case measure => simp [intOf]; omega

theorem refSwap_no (k : Int) (t : Bool) (a : Int) (h8 : k ≠ 16) (h16 : k ≠ 32) (h32 : k ≠ 64) (w : World) :
    Calls Tryz.prog 29 #[.int .i64 k, .bool t, .int .i64 a] w fun e w' => e = .returned (.int .i64 0) ∧ Below w.heap.size w w' := by
  have t8 : (k != 16) = true := by rw [bne_iff_ne]; exact h8
  have t16 : (k != 32) = true := by rw [bne_iff_ne]; exact h16
  have t32 : (k != 64) = true := by rw [bne_iff_ne]; exact h32
  clear h8 h16 h32
  go_enter Tryz.func29, Tryz.ntmps29
  go_wp2_with fail
  go_ret
  exact ⟨rfl, Below.refl _ _⟩
theorem swap_no (k : Int) (t : Bool) (a : Int) (h8 : k ≠ 16) (h16 : k ≠ 32) (h32 : k ≠ 64) (w : World) :
    Calls Tryz.prog 24 #[.int .i64 k, .bool t, .int .i64 a] w fun e w' => e = .returned (.int .i64 0) ∧ w = w' := by
  have t8 : (k == 16) = false := by rw [beq_eq_false_iff_ne]; exact h8
  have t16 : (k == 32) = false := by rw [beq_eq_false_iff_ne]; exact h16
  have t32 : (k == 64) = false := by rw [beq_eq_false_iff_ne]; exact h32
  clear h8 h16 h32
  go_enter Tryz.func24, Tryz.ntmps24
  go_wp2_with fail
  go_ret
  exact ⟨rfl, rfl⟩

theorem rev_int (x : Int) (h : 0 ≤ x ∧ x < 18446744073709551616) (w : World) :
    Calls Tryz.prog 57 #[.int .u64 x] w fun e w' => e = .returned (.int .u64 (revN 8 x.toNat)) ∧ w = w' := by
  obtain ⟨n, rfl⟩ := Int.eq_ofNat_of_zero_le h.1
  exact rev_any n (by omega) w
theorem u64_rng' (x : Int) : 0 ≤ IntKind.u64.wrap x ∧ IntKind.u64.wrap x < 18446744073709551616 := by rw [IntKind.wrap_u64]; omega
theorem swapV_t (n m : Nat) (a : Int) (h : n + m = 8) : wrap64 (revN 8 (IntKind.u64.wrap (IntKind.u64.wrap a * 2 ^ (8 * m))).toNat) = swapV n true a := by
  have e : (IntKind.u64.wrap (IntKind.u64.wrap a * 2 ^ (8 * m))).toNat = un a * 2 ^ (8 * m) % 2 ^ 64 := by
    rw [← un_cast a, IntKind.wrap_u64]
    have e2 : ((un a : Int) * 2 ^ (8 * m)) = ((un a * 2 ^ (8 * m) : Nat) : Int) := by simp
    rw [e2]
    omega
  have e3 : revN 8 (un a * 2 ^ (8 * m) % 2 ^ 64) = revN n (un a) := by
    have := revN_shift n m (un a) (by omega)
    rw [h] at this
    exact this
  rw [e, e3]; rfl
theorem swapV_8 (a : Int) : wrap64 (revN 8 (IntKind.u64.wrap (IntKind.u64.wrap a)).toNat) = swapV 8 true a := by
  rw [IntWalk.u64_in _ (by have := u64_rng' a; omega)]
  have e : (IntKind.u64.wrap a).toNat = un a := by rw [← un_cast a, Int.toNat_natCast]
  rw [e]; rfl
theorem swapV_f (n : Nat) (a : Int) (h : n ≤ 8) : wrap64 (IntKind.u64.wrap a % 2 ^ (8 * n)) = swapV n false a := by
  have e : IntKind.u64.wrap a % 2 ^ (8 * n) = a % 2 ^ (8 * n) := by
    rw [u64_pow]
    exact Int.emod_emod_of_dvd a ⟨2 ^ (64 - 8 * n), (pow_split (show 8 * n + (64 - 8 * n) = 64 by omega)).symm⟩
  rw [e]; rfl

theorem swapV_g (n : Nat) (a : Int) (h : n ≤ 4) : IntKind.u64.wrap a % 2 ^ (8 * n) = swapV n false a := by
  rw [← swapV_f n a (by omega)]
  have h0 := Int.emod_nonneg (IntKind.u64.wrap a) (show (2 : Int) ^ (8 * n) ≠ 0 by have := pow_pos' (8 * n); omega)
  have h1 := Int.emod_lt_of_pos (IntKind.u64.wrap a) (pow_pos' (8 * n))
  have h2 : (2 : Int) ^ (8 * n) ≤ 2 ^ 32 := pow_le_of (by omega)
  rw [show (2 : Int) ^ 32 = 4294967296 from rfl] at h2
  rw [IntWalk.wrap64_in _ (by omega)]

set_option maxHeartbeats 4000000 in
theorem swap_core (n : Nat) (t : Bool) (a : Int) (hn : n = 2 ∨ n = 4 ∨ n = 8) (w : World) :
    Calls Tryz.prog 24 #[.int .i64 ((8 * n : Nat) : Int), .bool t, .int .i64 a] w fun e w' => e = .returned (.int .i64 (swapV n t a)) ∧ w = w' := by
  rcases hn with rfl | rfl | rfl
  · have HT := Lib.hid (swapV_t 2 6 a rfl)
    have HF := Lib.hid (swapV_f 2 a (by omega))
    have HG := Lib.hid (swapV_g 2 a (by omega))
    cases t
    all_goals
      go_enter Tryz.func24, Tryz.ntmps24
      go_wp2_with (first | (go_at_call 57; refine (rev_int _ (u64_rng' _) _).mono ?_; rintro e w' ⟨rfl, rfl⟩) | (go_at_call 58; refine (low_any _ 16 (by omega) (u64_rng' _) _).mono ?_; rintro e w' ⟨rfl, rfl⟩))
      go_ret
      exact ⟨congrArg (fun v => Ending.returned (.int .i64 v)) (by first | exact HT.out | exact HF.out | exact HG.out), rfl⟩
  · have HT := Lib.hid (swapV_t 4 4 a rfl)
    have HF := Lib.hid (swapV_f 4 a (by omega))
    have HG := Lib.hid (swapV_g 4 a (by omega))
    cases t
    all_goals
      go_enter Tryz.func24, Tryz.ntmps24
      go_wp2_with (first | (go_at_call 57; refine (rev_int _ (u64_rng' _) _).mono ?_; rintro e w' ⟨rfl, rfl⟩) | (go_at_call 58; refine (low_any _ 32 (by omega) (u64_rng' _) _).mono ?_; rintro e w' ⟨rfl, rfl⟩))
      go_ret
      exact ⟨congrArg (fun v => Ending.returned (.int .i64 v)) (by first | exact HT.out | exact HF.out | exact HG.out), rfl⟩
  · have HT := Lib.hid (swapV_8 a)
    have HF := Lib.hid (swapV_f 8 a (by omega))
    have HG := Lib.hid (swapV_f 8 a (by omega))
    cases t
    all_goals
      go_enter Tryz.func24, Tryz.ntmps24
      go_wp2_with (first | (go_at_call 57; refine (rev_int _ (u64_rng' _) _).mono ?_; rintro e w' ⟨rfl, rfl⟩) | (go_at_call 58; refine (low_any _ 64 (by omega) (u64_rng' _) _).mono ?_; rintro e w' ⟨rfl, rfl⟩))
      go_ret
      exact ⟨congrArg (fun v => Ending.returned (.int .i64 v)) (by first | exact HT.out | exact HF.out | exact HG.out), rfl⟩
end Go.Proofs.YtjhgjplhhhgfcaaGreat
