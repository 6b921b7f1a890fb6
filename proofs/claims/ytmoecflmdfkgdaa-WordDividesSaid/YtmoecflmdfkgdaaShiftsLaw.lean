/- WordShifts: the walk of the law. -/
import Derived.Test.YtmoecflmdfkgdaaShiftsMath
namespace Go.Proofs.Ytmoecflmdfkgdaa
open Go.ChangeShapes Go.WideShapes Go.ChangeAt Go.RowKit
open Bits
set_option linter.unusedVariables false

theorem aluE_d2 (n : Bool) : aluE 4 n 2 = 0 := aluE_ok (by decide) n 2 (by
  cases n
  · rw [dv_f]; decide
  · rw [dv_t, hv2_4]; decide)
theorem bt' {a b : Int} (h : a = b) : (a == b) = true := by rw [beq_iff_eq]; exact h

set_option maxHeartbeats 2000000 in
theorem wordShifts_walk (a : Int) (ra : -9223372036854775808 ≤ a ∧ a ≤ 9223372036854775807) (b : Int) (rb : -9223372036854775808 ≤ b ∧ b ≤ 9223372036854775807) (w : World) :
    Calls Try.prog 13 #[.int .i64 a, .int .i64 b] w fun e w' => e = .returned (.bool true) ∧ Below w.heap.size w w' := by
  have RA := Lib.hid ra
  have h63 := and63 b
  have h31 := and31 b
  have l64 := far64_lt b
  have l32 := far32_lt b
  clear ra rb
  go_enter Try.func13, Try.ntmps13
  go_wp2_with fail
  go_loopw [5, 6, 7, 8] (fun u d k i wr => ∃ j : Nat, j ≤ far64 b ∧ i = .int .i64 j ∧ u = .int .i64 (wrap64 (a * 2 ^ j)) ∧ d = .int .i64 (wrap64 (IntKind.u64.wrap a / 2 ^ j)) ∧ k = .int .i64 (a / 2 ^ j) ∧ Below w.heap.size w wr) (fun _ _ _ i _ => (far64 b - intOf i).toNat)
  case atStart => exact ⟨0, Nat.zero_le _, rfl, by rw [Int.pow_zero, Int.mul_one, w64_self RA.out], by rw [Int.pow_zero, Int.ediv_one, w64_wrap, w64_self RA.out], by rw [Int.pow_zero, Int.ediv_one], Below.refl _ _⟩
  case round =>
    obtain ⟨j, hj, rfl, rfl, rfl, rfl, hB⟩ := hrel
    by_cases hlt : j < far64 b
    · have S1 := Lib.hid (sh_up a j)
      have S2 := Lib.hid (sh_down a j)
      have S3 := Lib.hid (sh_keep a j RA.out)
      generalize wrap64 (a * 2 ^ j) = x at *
      generalize wrap64 (IntKind.u64.wrap a / 2 ^ j) = y at *
      generalize a / 2 ^ j = z at *
      go_wp2_with fail
      refine (of_b w 1 false x x _ (aluE_nd _ _ (by decide) (by decide)) hB).mono ?_
      rintro e w1 ⟨rfl, hB1⟩
      go_wp2_with fail
      refine (of_b w 4 false y 2 _ (aluE_d2 _) hB1).mono ?_
      rintro e w2 ⟨rfl, hB2⟩
      go_wp2_with fail
      refine (of_b w 13 false z 1 _ (aluE_nd _ _ (by decide) (by decide)) hB2).mono ?_
      rintro e w3 ⟨rfl, hB3⟩
      clear hB hB1 hB2
      go_wp2_with fail
      go_roundw
      case rel => exact ⟨j + 1, by omega, by go_num, by rw [S1.out], by rw [S2.out], by rw [S3.out], hB3⟩
      case measure => simp [intOf]; omega
    · have hj' : far64 b = j := by omega
      have I1 := bt' ((m_lsh a b).trans (by rw [hj']))
      have I2 := bt' ((m_rsh a b).trans (by rw [hj']))
      have I3 := bt' ((m_arsh' a b RA.out).trans (by rw [hj']))
      generalize wrap64 (a * 2 ^ j) = x at *
      generalize wrap64 (IntKind.u64.wrap a / 2 ^ j) = y at *
      generalize a / 2 ^ j = z at *
      have HJ := Lib.hid hj'
      clear hj'
      go_wp2_with fail
      refine (is_b w 11 false a b x _ (aluE_nd _ _ (by decide) (by decide)) hB).mono ?_
      rintro e w1 ⟨rfl, hB1⟩
      go_wp2_with fail
      refine (is_b w 12 false a b y _ (aluE_nd _ _ (by decide) (by decide)) hB1).mono ?_
      rintro e w2 ⟨rfl, hB2⟩
      go_wp2_with fail
      refine (is_b w 13 false a b z _ (aluE_nd _ _ (by decide) (by decide)) hB2).mono ?_
      rintro e w3 ⟨rfl, hB3⟩
      clear hB hB1 hB2
      go_wp2_with (go_at_call 32; refine (llow_any a 32 (by decide) _).mono ?_; rintro e w' ⟨rfl, rfl⟩)
      go_loopw [5, 6, 7, 9] (fun u d k i wr => ∃ j : Nat, j ≤ far32 b ∧ i = .int .i64 j ∧ u = .int .i64 (a * 2 ^ j % 4294967296) ∧ d = .int .i64 (a % 4294967296 / 2 ^ j) ∧ k = .int .i64 (sx 32 a / 2 ^ j % 4294967296) ∧ Below w.heap.size w wr) (fun _ _ _ i _ => (far32 b - intOf i).toNat)
      case atStart => exact ⟨0, Nat.zero_le _, rfl, by rw [Int.pow_zero, Int.mul_one], by rw [Int.pow_zero, Int.ediv_one], by rw [← n_keep0], hB3⟩
      case round =>
        obtain ⟨j, hj, rfl, rfl, rfl, rfl, hB⟩ := hrel
        by_cases hlt : j < far32 b
        · have S1 := Lib.hid (n_up a j)
          have S2 := Lib.hid (n_down a j)
          have S3 := Lib.hid (n_keep a j)
          generalize a * 2 ^ j % 4294967296 = x at *
          generalize a % 4294967296 / 2 ^ j = y at *
          generalize sx 32 a / 2 ^ j % 4294967296 = z at *
          clear hB3
          go_wp2_with fail
          refine (of_b w 1 true x x _ (aluE_nd _ _ (by decide) (by decide)) hB).mono ?_
          rintro e w1 ⟨rfl, hB1⟩
          go_wp2_with fail
          refine (of_b w 4 true y 2 _ (aluE_d2 _) hB1).mono ?_
          rintro e w2 ⟨rfl, hB2⟩
          go_wp2_with fail
          refine (of_b w 13 true z 1 _ (aluE_nd _ _ (by decide) (by decide)) hB2).mono ?_
          rintro e w3 ⟨rfl, hB3⟩
          clear hB hB1 hB2
          go_wp2_with fail
          go_roundw
          case rel => exact ⟨j + 1, by omega, by go_num, by rw [S1.out], by rw [S2.out], by rw [S3.out], hB3⟩
          case measure => simp [intOf]; omega
        · have hj' : far32 b = j := by omega
          have I1 := bt' ((n_lsh a b).trans (by rw [hj']))
          have I2 := bt' ((n_rsh a b).trans (by rw [hj']))
          have I3 := bt' ((n_arsh' a b).trans (by rw [hj']))
          have I4 : (aluV 11 false 1 5 == 32) = true := by decide +kernel
          have hone : aluV 13 false a 1 = a / 2 := by rw [m_arsh a 1 (j := 1) rfl RA.out]; rfl
          generalize a * 2 ^ j % 4294967296 = x at *
          generalize a % 4294967296 / 2 ^ j = y at *
          generalize sx 32 a / 2 ^ j % 4294967296 = z at *
          have HJ2 := Lib.hid hj'
          clear hj' hB3
          go_wp2_with fail
          refine (of_b w 13 false a 1 _ (aluE_nd _ _ (by decide) (by decide)) hB).mono ?_
          rintro e w1 ⟨rfl, hB1⟩
          rw [hone]
          have q1 : 2 * (a / 2) ≤ a := by omega
          have q2 : a ≤ 2 * (a / 2) + 1 := by omega
          have q3 := RA.out
          clear hone
          generalize a / 2 = o at *
          have q4 : ((o + o) % 2 == 0) = true := bt' (by omega)
          have hc : (decide (a < 0) = decide (o < 0)) := by rw [decide_eq_decide]; omega
          have hp : (a - o - o == 0) = true ∨ (a - o - o == 0) = false ∧ (a - o - o == 1) = true := by
            by_cases h : a - o - o = 0
            · exact .inl (bt' h)
            · exact .inr ⟨by rw [beq_eq_false_iff_ne]; exact h, bt' (by omega)⟩
          obtain ⟨q5, q6⟩ := q3
          have QN := Lib.hid (⟨by omega, by omega⟩ : -4611686018427387904 ≤ o ∧ o ≤ 4611686018427387903)
          have q7 := QN.out.1
          have q8 := QN.out.2
          cases hs : decide (o < 0)
          all_goals
            rw [hs] at hc
            rcases hp with t1 | ⟨t1, t2⟩
            all_goals
              go_wp2_with fail
              refine (is_b w 11 true a b x _ (aluE_nd _ _ (by decide) (by decide)) hB1).mono ?_
              rintro e w2 ⟨rfl, hB2⟩
              go_wp2_with fail
              refine (is_b w 12 true a b y _ (aluE_nd _ _ (by decide) (by decide)) hB2).mono ?_
              rintro e w3 ⟨rfl, hB3⟩
              go_wp2_with fail
              refine (is_b w 13 true a b z _ (aluE_nd _ _ (by decide) (by decide)) hB3).mono ?_
              rintro e w4 ⟨rfl, hB4⟩
              go_wp2_with fail
              refine (llow_any (o + o) 1 (by decide) _).mono ?_
              rintro e w' ⟨rfl, rfl⟩
              go_wp2_with fail
              refine (is_b w 11 false 1 5 32 _ (aluE_nd _ _ (by decide) (by decide)) hB4).mono ?_
              rintro e w5 ⟨rfl, hB5⟩
              go_wp2_with fail
              go_ret
              exact ⟨rfl, hB5⟩
end Go.Proofs.Ytmoecflmdfkgdaa
