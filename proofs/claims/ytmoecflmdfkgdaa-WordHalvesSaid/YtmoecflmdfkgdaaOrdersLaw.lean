/- WordOrders: for any two numbers, of less, equal and greater just one holds, without signs and with, wide and narrow; the others are their opposites, and mirrored they are each other's. For every input. -/
import Derived.Test.YtmoecflmdfkgdaaOrders
namespace Go.Proofs.Ytmoecflmdfkgdaa
open Go.ChangeShapes Go.WideShapes Go.ChangeAt Go.RowKit

theorem cmp_lt {x y : Int} (h : x < y) : cmpM x y = -1 := by unfold cmpM; rw [if_pos h]
theorem cmp_gt {x y : Int} (h : y < x) : cmpM x y = 1 := by unfold cmpM; rw [if_neg (by omega), if_pos h]
theorem cmp_eq {x y : Int} (h : x = y) : cmpM x y = 0 := by unfold cmpM; rw [if_neg (by omega), if_neg (by omega)]

theorem wrap64_inj {x y : Int} (hx : 0 ≤ x ∧ x < 18446744073709551616) (hy : 0 ≤ y ∧ y < 18446744073709551616) : wrap64 x = wrap64 y ↔ x = y := by
  unfold wrap64; omega
theorem u64_rng (x : Int) : 0 ≤ IntKind.u64.wrap x ∧ IntKind.u64.wrap x < 18446744073709551616 := by rw [IntKind.wrap_u64]; omega

/-- the two words that Holds compares -/
def opd (n : Bool) (a : Int) : Int := if n = true then S32 (IntKind.u64.wrap a) else IntKind.u64.wrap a
theorem opd_rng (n : Bool) (a : Int) : 0 ≤ opd n a ∧ opd n a < 18446744073709551616 := by
  unfold opd S32; split <;> exact u64_rng _
theorem holdsM_opd (op : Int) (n : Bool) (a b : Int) : holdsM op n a b = holdsW op (opd n a) (opd n b) := by
  unfold holdsM opd; cases n <;> rfl

theorem ok_unsigned (n : Bool) (a b : Int) : ordersOk n a b 31 29 32 30 := by
  unfold ordersOk
  simp only [holdsM_opd]
  generalize opd n a = x
  generalize opd n b = y
  rcases Int.lt_trichotomy x y with h | h | h
  · simp [holdsW, standsM, cmp_lt h, cmp_gt h]
  · simp [holdsW, standsM, cmp_eq h, cmp_eq h.symm]
  · simp [holdsW, standsM, cmp_lt h, cmp_gt h]

theorem ok_signed (n : Bool) (a b : Int) : ordersOk n a b 35 33 36 34 := by
  unfold ordersOk
  simp only [holdsM_opd]
  have hi := wrap64_inj (opd_rng n a) (opd_rng n b)
  generalize opd n a = x at *
  generalize opd n b = y at *
  rcases Int.lt_trichotomy (wrap64 x) (wrap64 y) with h | h | h
  · have hne : x ≠ y := fun e => by rw [e] at h; omega
    rcases Int.lt_or_gt_of_ne hne with g | g
    · simp [holdsW, standsM, cmp_lt h, cmp_gt h, cmp_lt g]
    · simp [holdsW, standsM, cmp_lt h, cmp_gt h, cmp_gt g]
  · simp [holdsW, standsM, cmp_eq h, cmp_eq h.symm, cmp_eq (hi.1 h)]
  · have hne : x ≠ y := fun e => by rw [e] at h; omega
    rcases Int.lt_or_gt_of_ne hne with g | g
    · simp [holdsW, standsM, cmp_lt h, cmp_gt h, cmp_lt g]
    · simp [holdsW, standsM, cmp_lt h, cmp_gt h, cmp_gt g]

theorem bits_and_comm (x y : Int) : bits BinOp.and IntKind.u64 x y = bits BinOp.and IntKind.u64 y x := by
  unfold bits; simp only [BitVec.and_comm]

theorem h28 (n : Bool) (a b : Int) : holdsM 28 n a b = !holdsM 27 n a b := by
  simp only [holdsM_opd]
  generalize opd n a = x
  generalize opd n b = y
  rcases Int.lt_trichotomy x y with h | h | h
  · simp [holdsW, standsM, cmp_lt h]
  · simp [holdsW, standsM, cmp_eq h]
  · simp [holdsW, standsM, cmp_gt h]
theorem h27s (n : Bool) (a b : Int) : holdsM 27 n b a = holdsM 27 n a b := by
  simp only [holdsM_opd]
  generalize opd n a = x
  generalize opd n b = y
  rcases Int.lt_trichotomy x y with h | h | h
  · simp [holdsW, standsM, cmp_lt h, cmp_gt h]
  · simp [holdsW, standsM, cmp_eq h, cmp_eq h.symm]
  · simp [holdsW, standsM, cmp_lt h, cmp_gt h]
theorem h37s (n : Bool) (a b : Int) : holdsM 37 n b a = holdsM 37 n a b := by
  simp only [holdsM_opd, holdsW]
  simp only [beq_self_eq_true, if_true]
  rw [bits_and_comm]
theorem h27r (n : Bool) (a : Int) : holdsM 27 n a a = true := by
  simp [holdsM_opd, holdsW, standsM, cmp_eq]

theorem h37z (a : Int) (ha : -9223372036854775808 ≤ a ∧ a ≤ 9223372036854775807) : holdsM 37 false a a = (a != 0) := by
  have e : holdsM 37 false a a = (bits BinOp.and IntKind.u64 (IntKind.u64.wrap a) (IntKind.u64.wrap a) != 0) := by
    simp [holdsM, holdsW]
  rw [e]
  have e2 : bits BinOp.and IntKind.u64 (IntKind.u64.wrap a) (IntKind.u64.wrap a) = IntKind.u64.wrap a := by
    have hr := u64_rng a
    generalize IntKind.u64.wrap a = x at *
    unfold bits
    simp only [BitVec.and_self]
    rw [BitVec.toNat_ofInt]
    simp only [IntKind.bits]
    rw [IntWalk.u64_in]
    · omega
    · omega
  rw [e2, IntKind.wrap_u64]
  rw [Bool.eq_iff_iff]
  simp only [bne_iff_ne]
  omega
theorem h27z (a b : Int) (ha : -9223372036854775808 ≤ a ∧ a ≤ 9223372036854775807) (hb : -9223372036854775808 ≤ b ∧ b ≤ 9223372036854775807) : holdsM 27 false a b = (a == b) := by
  have e : holdsM 27 false a b = (cmpM (IntKind.u64.wrap a) (IntKind.u64.wrap b) == 0) := by simp [holdsM, holdsW, standsM]
  rw [e]
  rw [Bool.eq_iff_iff]
  simp only [beq_iff_eq, IntKind.wrap_u64, cmpM]
  split
  · omega
  · split <;> omega
theorem h35z (a b : Int) (ha : -9223372036854775808 ≤ a ∧ a ≤ 9223372036854775807) (hb : -9223372036854775808 ≤ b ∧ b ≤ 9223372036854775807) : holdsM 35 false a b = decide (a < b) := by
  have e : holdsM 35 false a b = decide (0 < -(cmpM (wrap64 (IntKind.u64.wrap a)) (wrap64 (IntKind.u64.wrap b)))) := by simp [holdsM, holdsW, standsM]
  rw [e]
  rw [decide_eq_decide]
  simp only [IntKind.wrap_u64, cmpM, wrap64]
  split
  · omega
  · split <;> omega

set_option maxHeartbeats 4000000 in
theorem wordOrders_walk (a : Int) (ra : -9223372036854775808 ≤ a ∧ a ≤ 9223372036854775807) (b : Int) (rb : -9223372036854775808 ≤ b ∧ b ≤ 9223372036854775807) (w : World) :
    Calls Try.prog 12 #[.int .i64 a, .int .i64 b] w fun e w' => e = .returned (.bool true) ∧ Below w.heap.size w w' := by
  go_enter Try.func12, Try.ntmps12
  go_wp2
  go_loop [5] (fun k => k = .int .i64 0 ∨ k = .int .i64 1 ∨ k = .int .i64 2) (fun k => (2 - intOf k).toNat)
  case atStart => exact .inl rfl
  case round =>
    rcases hrel with rfl | rfl | rfl
    · have f1 := h28 false a b
      have f2 := h27s false a b
      have f3 := h37s false a b
      have f4 := h27r false a
      cases e1 : holdsM 27 false a b
      all_goals
        cases e2 : holdsM 37 false a b
        all_goals
          rw [e1] at f1 f2
          rw [e2] at f3
          simp only [Bool.not_true, Bool.not_false] at f1
          go_wp2_with (first | (go_at_call 21; refine (holds_any _ _ _ _ _).mono ?_; rintro e w' ⟨rfl, rfl⟩) | (go_at_call 38; refine (orders_any _ _ _ _ _ _ _ (by first | exact ok_unsigned _ _ _ | exact ok_signed _ _ _) _).mono ?_; rintro e w' ⟨rfl, rfl⟩))
          go_round
          case rel => exact .inr (.inl rfl)
          case measure => simp [intOf]
    · have f1 := h28 true a b
      have f2 := h27s true a b
      have f3 := h37s true a b
      have f4 := h27r true a
      cases e1 : holdsM 27 true a b
      all_goals
        cases e2 : holdsM 37 true a b
        all_goals
          rw [e1] at f1 f2
          rw [e2] at f3
          simp only [Bool.not_true, Bool.not_false] at f1
          go_wp2_with (first | (go_at_call 21; refine (holds_any _ _ _ _ _).mono ?_; rintro e w' ⟨rfl, rfl⟩) | (go_at_call 38; refine (orders_any _ _ _ _ _ _ _ (by first | exact ok_unsigned _ _ _ | exact ok_signed _ _ _) _).mono ?_; rintro e w' ⟨rfl, rfl⟩))
          go_round
          case rel => exact .inr (.inr rfl)
          case measure => simp [intOf]
    · have f1 := h37z a ra
      have f2 := h27z a b ra rb
      have f3 := h35z a b ra rb
      cases e1 : (a != 0)
      all_goals
        cases e2 : (a == b)
        all_goals
          cases e3 : decide (a < b)
          all_goals
            rw [e1] at f1
            rw [e2] at f2
            rw [e3] at f3
            go_wp2_with (first | (go_at_call 21; refine (holds_any _ _ _ _ _).mono ?_; rintro e w' ⟨rfl, rfl⟩) | (go_at_call 38; refine (orders_any _ _ _ _ _ _ _ (by first | exact ok_unsigned _ _ _ | exact ok_signed _ _ _) _).mono ?_; rintro e w' ⟨rfl, rfl⟩))
            go_ret
            exact ⟨rfl, Below.refl _ _⟩
end Go.Proofs.Ytmoecflmdfkgdaa
