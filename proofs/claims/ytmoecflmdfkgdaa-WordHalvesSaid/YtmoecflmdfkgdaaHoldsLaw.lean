/- WordHolds: the walk of the law. -/
import Derived.Test.YtmoecflmdfkgdaaHoldsEq
import Derived.Test.YtmoecflmdfkgdaaOwn
namespace Go.Proofs.Ytmoecflmdfkgdaa
open Go.ChangeShapes Go.WideShapes Go.ChangeAt Go.RowKit
open Bits
set_option linter.unusedVariables false

theorem tri_u (n : Bool) (a b : Int) : (opd n a < opd n b ∧ valL (bitsL a (kw n)) < valL (bitsL b (kw n))) ∨ (opd n a = opd n b ∧ valL (bitsL a (kw n)) = valL (bitsL b (kw n))) ∨ (opd n b < opd n a ∧ valL (bitsL b (kw n)) < valL (bitsL a (kw n))) := by
  have h1 := lt_u n a b
  have h2 := lt_u n b a
  omega
theorem tri_s (n : Bool) (a b : Int) (ra : -9223372036854775808 ≤ a ∧ a ≤ 9223372036854775807) (rb : -9223372036854775808 ≤ b ∧ b ≤ 9223372036854775807) :
    (wrap64 (opd n a) < wrap64 (opd n b) ∧ valL (flipL (bitsL a (kw n))) < valL (flipL (bitsL b (kw n)))) ∨ (wrap64 (opd n a) = wrap64 (opd n b) ∧ valL (flipL (bitsL a (kw n))) = valL (flipL (bitsL b (kw n)))) ∨ (wrap64 (opd n b) < wrap64 (opd n a) ∧ valL (flipL (bitsL b (kw n))) < valL (flipL (bitsL a (kw n)))) := by
  have h1 := lt_s n a b ra rb
  have h2 := lt_s n b a rb ra
  omega

theorem holds_u (op : Int) (n : Bool) (a b : Int) (f : Int → Bool) (hop : ∀ x y, holdsW op x y = f (cmpM x y)) :
    holdsM op n a b = f (cmpM (valL (bitsL a (kw n))) (valL (bitsL b (kw n)))) := by
  rw [holdsM_opd, hop]
  rcases tri_u n a b with ⟨h1, h2⟩ | ⟨h1, h2⟩ | ⟨h1, h2⟩
  · rw [cmp_lt h1, cmp_lt h2]
  · rw [cmp_eq h1, cmp_eq h2]
  · rw [cmp_gt h1, cmp_gt h2]
theorem holds_s (op : Int) (n : Bool) (a b : Int) (f : Int → Bool) (hop : ∀ x y, holdsW op x y = f (cmpM (wrap64 x) (wrap64 y)))
    (ra : -9223372036854775808 ≤ a ∧ a ≤ 9223372036854775807) (rb : -9223372036854775808 ≤ b ∧ b ≤ 9223372036854775807) :
    holdsM op n a b = f (cmpM (valL (flipL (bitsL a (kw n)))) (valL (flipL (bitsL b (kw n))))) := by
  rw [holdsM_opd, hop]
  rcases tri_s n a b ra rb with ⟨h1, h2⟩ | ⟨h1, h2⟩ | ⟨h1, h2⟩
  · rw [cmp_lt h1, cmp_lt h2]
  · rw [cmp_eq h1, cmp_eq h2]
  · rw [cmp_gt h1, cmp_gt h2]
theorem cmp_tri (x y : Int) : (x < y ∧ cmpM x y = -1) ∨ (x = y ∧ cmpM x y = 0) ∨ (y < x ∧ cmpM x y = 1) := by
  rcases Int.lt_trichotomy x y with h | h | h
  · exact .inl ⟨h, cmp_lt h⟩
  · exact .inr (.inl ⟨h, cmp_eq h⟩)
  · exact .inr (.inr ⟨h, cmp_gt h⟩)
theorem c27 (x y : Int) : decide (x = y) = standsM 27 (cmpM x y) := by rcases cmp_tri x y with ⟨h, e⟩ | ⟨h, e⟩ | ⟨h, e⟩ <;> rw [e] <;> simp [standsM] <;> omega
theorem c28 (x y : Int) : (!decide (x = y)) = standsM 28 (cmpM x y) := by rcases cmp_tri x y with ⟨h, e⟩ | ⟨h, e⟩ | ⟨h, e⟩ <;> rw [e] <;> simp [standsM] <;> omega
theorem c29 (x y : Int) : decide (y < x) = standsM 29 (cmpM x y) := by rcases cmp_tri x y with ⟨h, e⟩ | ⟨h, e⟩ | ⟨h, e⟩ <;> rw [e] <;> simp [standsM] <;> omega
theorem c30 (x y : Int) : (!decide (x < y)) = standsM 30 (cmpM x y) := by rcases cmp_tri x y with ⟨h, e⟩ | ⟨h, e⟩ | ⟨h, e⟩ <;> rw [e] <;> simp [standsM] <;> omega
theorem c31 (x y : Int) : decide (x < y) = standsM 31 (cmpM x y) := by rcases cmp_tri x y with ⟨h, e⟩ | ⟨h, e⟩ | ⟨h, e⟩ <;> rw [e] <;> simp [standsM] <;> omega
theorem c32 (x y : Int) : (!decide (y < x)) = standsM 32 (cmpM x y) := by rcases cmp_tri x y with ⟨h, e⟩ | ⟨h, e⟩ | ⟨h, e⟩ <;> rw [e] <;> simp [standsM] <;> omega
theorem s33 (o : Int) : standsM 33 o = standsM 29 o := by simp [standsM]
theorem s34 (o : Int) : standsM 34 o = standsM 30 o := by simp [standsM]
theorem s35 (o : Int) : standsM 35 o = standsM 31 o := by simp [standsM]
theorem s36 (o : Int) : standsM 36 o = standsM 32 o := by simp [standsM]
theorem holds_no (op : Int) (n : Bool) (a b : Int) (h : op < 27 ∨ 37 < op) : holdsM op n a b = false := by
  have t : ∀ k : Int, 27 ≤ k → k ≤ 37 → ¬ ((op == k) = true) := fun k h1 h2 => by rw [beq_iff_eq]; omega
  rw [holdsM_opd]
  unfold holdsW standsM
  rw [if_neg (t 37 (by decide) (by decide)), if_neg (t 33 (by decide) (by decide)), if_neg (t 34 (by decide) (by decide)), if_neg (t 35 (by decide) (by decide)), if_neg (t 36 (by decide) (by decide)),
    if_neg (t 32 (by decide) (by decide)), if_neg (t 36 (by decide) (by decide)), if_neg (t 30 (by decide) (by decide)), if_neg (t 34 (by decide) (by decide)), if_neg (t 27 (by decide) (by decide)),
    if_neg (t 31 (by decide) (by decide)), if_neg (t 35 (by decide) (by decide)), if_neg (t 29 (by decide) (by decide)), if_neg (t 33 (by decide) (by decide)), if_neg (t 28 (by decide) (by decide))]

theorem refHolds_any (op : Int) (n : Bool) (a b : Int) (ra : -9223372036854775808 ≤ a ∧ a ≤ 9223372036854775807) (rb : -9223372036854775808 ≤ b ∧ b ≤ 9223372036854775807) (w : World) :
    Calls Try.prog 48 #[.int .i64 op, .bool n, .int .i64 a, .int .i64 b] w fun e w' => e = .returned (.bool (holdsM op n a b)) ∧ Below w.heap.size w w' := by
  by_cases h : op < 27 ∨ 37 < op
  · rw [holds_no op n a b h]; exact rh_no op n a b h w
  have hc : op = 27 ∨ op = 28 ∨ op = 29 ∨ op = 30 ∨ op = 31 ∨ op = 32 ∨ op = 33 ∨ op = 34 ∨ op = 35 ∨ op = 36 ∨ op = 37 := by omega
  rcases hc with rfl | rfl | rfl | rfl | rfl | rfl | rfl | rfl | rfl | rfl | rfl
  · rw [holds_u 27 n a b (standsM 27) (fun x y => by simp [holdsW]), ← c27]; exact rh_27 n a b w
  · rw [holds_u 28 n a b (standsM 28) (fun x y => by simp [holdsW]), ← c28]; exact rh_28 n a b w
  · rw [holds_u 29 n a b (standsM 29) (fun x y => by simp [holdsW]), ← c29]; exact rh_29 n a b w
  · rw [holds_u 30 n a b (standsM 30) (fun x y => by simp [holdsW]), ← c30]; exact rh_30 n a b w
  · rw [holds_u 31 n a b (standsM 31) (fun x y => by simp [holdsW]), ← c31]; exact rh_31 n a b w
  · rw [holds_u 32 n a b (standsM 32) (fun x y => by simp [holdsW]), ← c32]; exact rh_32 n a b w
  · rw [holds_s 33 n a b (standsM 33) (fun x y => by simp [holdsW]) ra rb, s33, ← c29]; exact rh_33 n a b w
  · rw [holds_s 34 n a b (standsM 34) (fun x y => by simp [holdsW]) ra rb, s34, ← c30]; exact rh_34 n a b w
  · rw [holds_s 35 n a b (standsM 35) (fun x y => by simp [holdsW]) ra rb, s35, ← c31]; exact rh_35 n a b w
  · rw [holds_s 36 n a b (standsM 36) (fun x y => by simp [holdsW]) ra rb, s36, ← c32]; exact rh_36 n a b w
  · rw [holdsM_opd, show holdsW 37 (opd n a) (opd n b) = (bits BinOp.and IntKind.u64 (opd n a) (opd n b) != 0) from by simp [holdsW], jset_eq]; exact rh_37 n a b w

/-- one condition, wide and narrow: the program's is the document's -/
theorem lholds_any (op a b : Int) (ra : -9223372036854775808 ≤ a ∧ a ≤ 9223372036854775807) (rb : -9223372036854775808 ≤ b ∧ b ≤ 9223372036854775807) (w : World) :
    Calls Try.prog 20 #[.int .i64 op, .int .i64 a, .int .i64 b] w fun e w' => e = .returned (.bool true) ∧ Below w.heap.size w w' := by
  have C1 := Lib.hid (fun n w => refHolds_any op n a b ra rb w)
  clear ra rb
  go_enter Try.func20, Try.ntmps20
  go_wp2_with fail
  refine (holds_any _ _ _ _ _).mono ?_
  rintro e w' ⟨rfl, rfl⟩
  go_wp2_with fail
  refine (C1.out _ _).mono ?_
  rintro e w1 ⟨rfl, hB1⟩
  go_wp2_with fail
  refine (holds_any _ _ _ _ _).mono ?_
  rintro e w' ⟨rfl, rfl⟩
  go_wp2_with fail
  refine (C1.out _ _).mono ?_
  rintro e w2 ⟨rfl, hB2⟩
  go_wp2_with fail
  go_ret
  exact ⟨rfl, hB1.trans (hB2.mono hB1.size)⟩

theorem h27_5 : holdsM 27 false 5 5 = true := by decide +kernel

set_option maxHeartbeats 4000000 in
theorem wordHolds_walk (s0 : Int) (r0 : -9223372036854775808 ≤ s0 ∧ s0 ≤ 9223372036854775807) (s1 : Int) (r1 : -9223372036854775808 ≤ s1 ∧ s1 ≤ 9223372036854775807) (s2 : Int) (r2 : -9223372036854775808 ≤ s2 ∧ s2 ≤ 9223372036854775807) (w : World) :
    Calls Try.prog 6 #[.agg #[.int .i64 s0, .int .i64 s1, .int .i64 s2]] w fun e w' => e = .returned (.bool true) ∧ Below w.heap.size w w' := by
  have C1 := Lib.hid (fun op w => lholds_any op s1 s2 r1 r2 w)
  have C2 := Lib.hid (fun op w => lholds_any op s2 s1 r2 r1 w)
  have C3 := Lib.hid (fun op w => lholds_any op s1 s1 r1 r1 w)
  clear r0 r1 r2
  go_enter Try.func6, Try.ntmps6
  go_wp2_with fail
  go_loopw [3] (fun k wr => ∃ j : Nat, j ≤ 42 ∧ k = .int .i64 ((j : Int) - 1) ∧ Blk wr w.heap.size 23 #[.int .i64 s0, .int .i64 s1, .int .i64 s2] ∧ Below w.heap.size w wr) (fun k _ => (41 - intOf k).toNat)
  case atStart => exact ⟨0, by omega, rfl, Blk.new _ _ _, (Below.refl _ _).alloc (Nat.le_refl _) _⟩
  case round =>
    obtain ⟨j, hj, rfl, hb, hB⟩ := hrel
    have q0 := hb.cell 0
    have q1 := hb.cell 1
    have q2 := hb.cell 2
    simp only [List.getElem?_toArray, List.getElem?_cons_zero, List.getElem?_cons_succ] at q0 q1 q2
    by_cases hlt : j ≤ 41
    · have h1 : (j : Int) - 1 ≤ 40 := by omega
      go_wp2_with fail
      refine (C1.out _ _).mono ?_
      rintro e w1 ⟨rfl, hB1⟩
      have hb1 := hb.below hB1 hb.lt
      have q3 := hb1.cell 1
      have q4 := hb1.cell 2
      simp only [List.getElem?_toArray, List.getElem?_cons_zero, List.getElem?_cons_succ] at q3 q4
      clear q0 q1 q2
      go_wp2_with fail
      refine (C2.out _ _).mono ?_
      rintro e w2 ⟨rfl, hB2⟩
      have hb2 := hb1.below hB2 hb1.lt
      have q5 := hb2.cell 1
      simp only [List.getElem?_toArray, List.getElem?_cons_zero, List.getElem?_cons_succ] at q5
      clear q3 q4
      go_wp2_with fail
      refine (C3.out _ _).mono ?_
      rintro e w3 ⟨rfl, hB3⟩
      have hb3 := hb2.below hB3 hb2.lt
      have hC := (hB.trans (hB1.mono hB.size)).trans ((hB2.mono (Nat.le_trans hB.size hB1.size)).trans (hB3.mono (Nat.le_trans (Nat.le_trans hB.size hB1.size) hB2.size)))
      clear q5 hB1 hB2 hB3 hb1 hb2
      go_wp2_with fail
      go_roundw
      case rel => exact ⟨j + 1, by omega, by go_num, hb3, hC⟩
      case measure => simp [intOf]; omega
    · have hj42 : j = 42 := by omega
      clear hj
      subst hj42
      have h5 := h27_5
      rw [show (((42 : Nat) : Int) - 1) = 41 by omega]
      go_wp2_with fail
      refine (C1.out _ _).mono ?_
      rintro e w1 ⟨rfl, hB1⟩
      have hC := hB.trans (hB1.mono hB.size)
      clear hB1
      go_wp2_with fail
      refine (holds_any _ _ _ _ _).mono ?_
      rintro e w' ⟨rfl, rfl⟩
      go_wp2_with fail
      go_ret
      exact ⟨rfl, hC⟩
end Go.Proofs.Ytmoecflmdfkgdaa
