/- The document's Alu: what it answers, for every operation, two numbers, wide and narrow. -/
import Derived.Test.YtjhgjplhhhgfcaaJoined
namespace Go.Proofs.Ytjhgjplhhhgfcaa
open Go.ChangeShapes Go.WideShapes Go.ChangeAt Go.RowKit
open Bits
set_option linter.unusedVariables false

theorem same_zero (P Q : Option Addr) (c d k : Nat) (b : Int) (w : World) (hk : k ≤ 64) (hb : IntsAt w P (bitsL b k)) (hz : IntsAt w Q (bitsL 0 k)) :
    Calls Try.prog 55 #[.slice P k c, .slice Q k d] w fun e w' => e = .returned (.bool (decide (b % 2 ^ k = 0))) ∧ ∃ m, w' = w.drewN m := by
  have h := same_any P Q c d k (bitsL b k) (bitsL 0 k) w (bitsL_length _ _) (bitsL_length _ _) hk (bit_bits _ _) (bit_bits _ _) hb hz
  rw [valL_bits, valL_bits, Int.zero_emod] at h
  exact h
theorem num_k (P : Option Addr) (c k : Nat) (V : Int) (w : World) (hk : k ≤ 64) (h : IntsAt w P (bitsL V k)) :
    Calls Try.prog 56 #[.slice P k c] w fun e w' => e = .returned (.int .i64 (wrap64 (V % 2 ^ k))) ∧ w = w' := by
  have h := number_n P k c (bitsL V k) w (bitsL_length _ _) (by omega) h
  rw [valL_bits] at h
  exact h
theorem refAlu_no (op : Int) (n : Bool) (a b : Int) (h : op < 1 ∨ 15 < op) (w : World) :
    Calls Try.prog 28 #[.int .i64 op, .bool n, .int .i64 a, .int .i64 b] w fun e w' => e = .returned (.tuple #[.int .i64 0, .int .i64 1]) ∧ Below w.heap.size w w' := by
  rcases h with h | h
  · go_enter Try.func28, Try.ntmps28
    go_wp2_with fail
    go_ret2
    exact ⟨rfl, Below.refl _ _⟩
  · have h2 : decide (op < 1) = false := by simp; omega
    go_enter Try.func28, Try.ntmps28
    go_wp2_with fail
    go_ret2
    exact ⟨rfl, Below.refl _ _⟩
/-- which of the four divisions it is, or none -/
def DivArm (op : Int) : Prop := (op == 4) = true ∨ ((op == 4) = false ∧ (op == 5) = true) ∨ ((op == 4) = false ∧ (op == 5) = false ∧ (op == 6) = true) ∨ ((op == 4) = false ∧ (op == 5) = false ∧ (op == 6) = false ∧ (op == 7) = true)
def NoArm (op : Int) : Prop := (op == 4) = false ∧ (op == 5) = false ∧ (op == 6) = false ∧ (op == 7) = false
theorem div_arm {op : Int} (h : 4 ≤ op ∧ op ≤ 7) : DivArm op := by
  have : op = 4 ∨ op = 5 ∨ op = 6 ∨ op = 7 := by omega
  unfold DivArm
  rcases this with rfl | rfl | rfl | rfl <;> decide
theorem no_arm {op : Int} (h : ¬ (4 ≤ op ∧ op ≤ 7)) : NoArm op := by
  unfold NoArm
  refine ⟨?_, ?_, ?_, ?_⟩ <;> (rw [beq_eq_false_iff_ne]; omega)

set_option maxRecDepth 100000 in
set_option maxHeartbeats 4000000 in
theorem refAlu_nd_32 (op : Int) (h : 1 ≤ op ∧ op ≤ 15) (hn : ¬ (4 ≤ op ∧ op ≤ 7)) (a b V : Int) (w : World) (HJ0 : ∀ (w : World) (P Q : Option Addr), IntsAt w P (bitsL a 32) → IntsAt w Q (bitsL b 32) → Calls Try.prog 57 #[.int .i64 op, .slice P 32 32, .slice Q 32 32] w (JOut w 32 V)) :
    Calls Try.prog 28 #[.int .i64 op, .bool true, .int .i64 a, .int .i64 b] w fun e w' => e = .returned (.tuple #[.int .i64 (wrap64 (V % 2 ^ 32)), .int .i64 0]) ∧ Below w.heap.size w w' := by
  have h1 : decide (op < 1) = false := by simp; omega
  have h2 : decide (15 < op) = false := by simp; omega
  obtain ⟨t4, t5, t6, t7⟩ := no_arm hn
  have HJ := Lib.hid HJ0
  clear HJ0 h hn
  go_enter Try.func28, Try.ntmps28
  go_wp2_with fail
  refine (width_any true _).mono ?_
  rintro e w' ⟨rfl, rfl⟩
  go_wp2_with fail
  refine (row_n _ _ 32 (by decide) (by decide) _).mono ?_
  rintro e w1 ⟨rfl, hx1, hB1, hs1⟩
  go_wp2_with fail
  refine (width_any true _).mono ?_
  rintro e w' ⟨rfl, rfl⟩
  go_wp2_with fail
  refine (row_n _ _ 32 (by decide) (by decide) _).mono ?_
  rintro e w2 ⟨rfl, hy2, hB2, hs2⟩
  have hx2 := (hx1.below hB2 hx1.lt).at_
  have hy2' := hy2.at_
  have hB := hB1.trans (hB2.mono hB1.size)
  clear hx1 hB1 hs1 hB2 hs2 hy2
  obtain ⟨g2, hg2⟩ : ∃ g2, w1.heap.size = g2 := ⟨_, rfl⟩
  rw [hg2] at hy2' ⊢
  clear hg2
  go_wp2_with fail
  refine (HJ.out _ _ _ hx2 hy2').mono ?_
  rintro e w4 ⟨P4, c4, rfl, hi4, hB4⟩
  have hB5 := hB.trans (hB4.mono hB.size)
  clear HJ
  go_wp2_with fail
  refine (num_k _ _ 32 V _ (by decide) hi4).mono ?_
  rintro e w' ⟨rfl, rfl⟩
  go_wp2_with fail
  go_ret2
  exact ⟨rfl, hB5⟩

set_option maxRecDepth 100000 in
set_option maxHeartbeats 8000000 in
theorem refAlu_d_32 (op : Int) (h : 4 ≤ op ∧ op ≤ 7) (a b V : Int) (hb0 : 0 < b % 2 ^ 32) (w : World) (HJ0 : ∀ (w : World) (P Q : Option Addr), IntsAt w P (bitsL a 32) → IntsAt w Q (bitsL b 32) → Calls Try.prog 57 #[.int .i64 op, .slice P 32 32, .slice Q 32 32] w (JOut w 32 V)) :
    Calls Try.prog 28 #[.int .i64 op, .bool true, .int .i64 a, .int .i64 b] w fun e w' => e = .returned (.tuple #[.int .i64 (wrap64 (V % 2 ^ 32)), .int .i64 0]) ∧ Below w.heap.size w w' := by
  have hz : decide (b % 2 ^ 32 = 0) = false := by rw [decide_eq_false_iff_not]; omega
  have HJ := Lib.hid HJ0
  clear HJ0
  have h1 : decide (op < 1) = false := by simp; omega
  have h2 : decide (15 < op) = false := by simp; omega
  have hmk : ∀ w, (Instr.makeSlice 63 (.int .i64 32) (.int .i64 32)).run Try.prog w = .ok (.slice (some ⟨w.heap.size, 0, none⟩) 32 32) (w.alloc (.cells ((zerosL 32).map (Value.int .i64)).toArray 3)) := make_ints 32 (by decide)
  have HZ := Lib.hid hz
  have HM := Lib.hid hmk
  clear hz hmk hb0
  rcases div_arm h with t4 | ⟨t4, t5⟩ | ⟨t4, t5, t6⟩ | ⟨t4, t5, t6, t7⟩
  all_goals
    go_enter Try.func28, Try.ntmps28
    go_wp2_with fail
    refine (width_any true _).mono ?_
    rintro e w' ⟨rfl, rfl⟩
    go_wp2_with fail
    refine (row_n _ _ 32 (by decide) (by decide) _).mono ?_
    rintro e w1 ⟨rfl, hx1, hB1, hs1⟩
    go_wp2_with fail
    refine (width_any true _).mono ?_
    rintro e w' ⟨rfl, rfl⟩
    go_wp2_with fail
    refine (row_n _ _ 32 (by decide) (by decide) _).mono ?_
    rintro e w2 ⟨rfl, hy2, hB2, hs2⟩
    have hx2 := (hx1.below hB2 hx1.lt).at_
    have hy2' := hy2.at_
    have hB := hB1.trans (hB2.mono hB1.size)
    clear hx1 hB1 hs1 hB2 hs2 hy2
    obtain ⟨g2, hg2⟩ : ∃ g2, w1.heap.size = g2 := ⟨_, rfl⟩
    rw [hg2] at hy2' ⊢
    clear hg2
    have hx3 := hx2.below ((Below.refl _ _).alloc (Nat.le_refl _) (.cells ((zerosL 32).map (Value.int .i64)).toArray 3))
    have hy3 := hy2'.below ((Below.refl _ _).alloc (Nat.le_refl _) (.cells ((zerosL 32).map (Value.int .i64)).toArray 3))
    have hB3 := hB.alloc hB.size (.cells ((zerosL 32).map (Value.int .i64)).toArray 3)
    have CS := Lib.hid (same_zero (some ⟨g2, 0, none⟩) (some ⟨w2.heap.size, 0, none⟩) 32 32 32 b _ (by decide) hy3 (zeros_new 32 w2))
    have hmk := HM.out
    rw [HZ.out] at CS
    clear hx2 hy2' hB
    go_wp2_with fail
    clear hmk
    refine CS.out.mono ?_
    rintro e w3 ⟨rfl, q, hw3⟩
    have hx4 := hx3.drewN q
    have hy4 := hy3.drewN q
    have hB4' := below_drewN hB3 q
    rw [← hw3] at hx4 hy4 hB4'
    clear hx3 hy3 hB3 CS hw3
    go_wp2_with fail
    refine (HJ.out _ _ _ hx4 hy4).mono ?_
    rintro e w4 ⟨P4, c4, rfl, hi4, hB4⟩
    have hB5 := hB4'.trans (hB4.mono hB4'.size)
    clear HJ
    go_wp2_with fail
    refine (num_k _ _ 32 V _ (by decide) hi4).mono ?_
    rintro e w' ⟨rfl, rfl⟩
    go_wp2_with fail
    go_ret2
    exact ⟨rfl, hB5⟩

set_option maxRecDepth 100000 in
set_option maxHeartbeats 8000000 in
theorem refAlu_dz_32 (op : Int) (h : 4 ≤ op ∧ op ≤ 7) (a b : Int) (hb0 : b % 2 ^ 32 = 0) (w : World) :
    Calls Try.prog 28 #[.int .i64 op, .bool true, .int .i64 a, .int .i64 b] w fun e w' => e = .returned (.tuple #[.int .i64 0, .int .i64 84]) ∧ Below w.heap.size w w' := by
  have hz : decide (b % 2 ^ 32 = 0) = true := by rw [decide_eq_true_iff]; exact hb0
  have h1 : decide (op < 1) = false := by simp; omega
  have h2 : decide (15 < op) = false := by simp; omega
  have hmk : ∀ w, (Instr.makeSlice 63 (.int .i64 32) (.int .i64 32)).run Try.prog w = .ok (.slice (some ⟨w.heap.size, 0, none⟩) 32 32) (w.alloc (.cells ((zerosL 32).map (Value.int .i64)).toArray 3)) := make_ints 32 (by decide)
  have HZ := Lib.hid hz
  have HM := Lib.hid hmk
  clear hz hmk hb0
  rcases div_arm h with t4 | ⟨t4, t5⟩ | ⟨t4, t5, t6⟩ | ⟨t4, t5, t6, t7⟩
  all_goals
    go_enter Try.func28, Try.ntmps28
    go_wp2_with fail
    refine (width_any true _).mono ?_
    rintro e w' ⟨rfl, rfl⟩
    go_wp2_with fail
    refine (row_n _ _ 32 (by decide) (by decide) _).mono ?_
    rintro e w1 ⟨rfl, hx1, hB1, hs1⟩
    go_wp2_with fail
    refine (width_any true _).mono ?_
    rintro e w' ⟨rfl, rfl⟩
    go_wp2_with fail
    refine (row_n _ _ 32 (by decide) (by decide) _).mono ?_
    rintro e w2 ⟨rfl, hy2, hB2, hs2⟩
    have hx2 := (hx1.below hB2 hx1.lt).at_
    have hy2' := hy2.at_
    have hB := hB1.trans (hB2.mono hB1.size)
    clear hx1 hB1 hs1 hB2 hs2 hy2
    obtain ⟨g2, hg2⟩ : ∃ g2, w1.heap.size = g2 := ⟨_, rfl⟩
    rw [hg2] at hy2' ⊢
    clear hg2
    have hx3 := hx2.below ((Below.refl _ _).alloc (Nat.le_refl _) (.cells ((zerosL 32).map (Value.int .i64)).toArray 3))
    have hy3 := hy2'.below ((Below.refl _ _).alloc (Nat.le_refl _) (.cells ((zerosL 32).map (Value.int .i64)).toArray 3))
    have hB3 := hB.alloc hB.size (.cells ((zerosL 32).map (Value.int .i64)).toArray 3)
    have CS := Lib.hid (same_zero (some ⟨g2, 0, none⟩) (some ⟨w2.heap.size, 0, none⟩) 32 32 32 b _ (by decide) hy3 (zeros_new 32 w2))
    have hmk := HM.out
    rw [HZ.out] at CS
    clear hx2 hy2' hB
    go_wp2_with fail
    clear hmk
    refine CS.out.mono ?_
    rintro e w3 ⟨rfl, q, hw3⟩
    have hx4 := hx3.drewN q
    have hy4 := hy3.drewN q
    have hB4' := below_drewN hB3 q
    rw [← hw3] at hx4 hy4 hB4'
    clear hx3 hy3 hB3 CS hw3
    go_wp2_with fail
    go_ret2
    exact ⟨rfl, hB4'⟩

set_option maxRecDepth 100000 in
set_option maxHeartbeats 4000000 in
theorem refAlu_nd_64 (op : Int) (h : 1 ≤ op ∧ op ≤ 15) (hn : ¬ (4 ≤ op ∧ op ≤ 7)) (a b V : Int) (w : World) (HJ0 : ∀ (w : World) (P Q : Option Addr), IntsAt w P (bitsL a 64) → IntsAt w Q (bitsL b 64) → Calls Try.prog 57 #[.int .i64 op, .slice P 64 64, .slice Q 64 64] w (JOut w 64 V)) :
    Calls Try.prog 28 #[.int .i64 op, .bool false, .int .i64 a, .int .i64 b] w fun e w' => e = .returned (.tuple #[.int .i64 (wrap64 (V % 2 ^ 64)), .int .i64 0]) ∧ Below w.heap.size w w' := by
  have h1 : decide (op < 1) = false := by simp; omega
  have h2 : decide (15 < op) = false := by simp; omega
  obtain ⟨t4, t5, t6, t7⟩ := no_arm hn
  have HJ := Lib.hid HJ0
  clear HJ0 h hn
  go_enter Try.func28, Try.ntmps28
  go_wp2_with fail
  refine (width_any false _).mono ?_
  rintro e w' ⟨rfl, rfl⟩
  go_wp2_with fail
  refine (row_n _ _ 64 (by decide) (by decide) _).mono ?_
  rintro e w1 ⟨rfl, hx1, hB1, hs1⟩
  go_wp2_with fail
  refine (width_any false _).mono ?_
  rintro e w' ⟨rfl, rfl⟩
  go_wp2_with fail
  refine (row_n _ _ 64 (by decide) (by decide) _).mono ?_
  rintro e w2 ⟨rfl, hy2, hB2, hs2⟩
  have hx2 := (hx1.below hB2 hx1.lt).at_
  have hy2' := hy2.at_
  have hB := hB1.trans (hB2.mono hB1.size)
  clear hx1 hB1 hs1 hB2 hs2 hy2
  obtain ⟨g2, hg2⟩ : ∃ g2, w1.heap.size = g2 := ⟨_, rfl⟩
  rw [hg2] at hy2' ⊢
  clear hg2
  go_wp2_with fail
  refine (HJ.out _ _ _ hx2 hy2').mono ?_
  rintro e w4 ⟨P4, c4, rfl, hi4, hB4⟩
  have hB5 := hB.trans (hB4.mono hB.size)
  clear HJ
  go_wp2_with fail
  refine (num_k _ _ 64 V _ (by decide) hi4).mono ?_
  rintro e w' ⟨rfl, rfl⟩
  go_wp2_with fail
  go_ret2
  exact ⟨rfl, hB5⟩

set_option maxRecDepth 100000 in
set_option maxHeartbeats 8000000 in
theorem refAlu_d_64 (op : Int) (h : 4 ≤ op ∧ op ≤ 7) (a b V : Int) (hb0 : 0 < b % 2 ^ 64) (w : World) (HJ0 : ∀ (w : World) (P Q : Option Addr), IntsAt w P (bitsL a 64) → IntsAt w Q (bitsL b 64) → Calls Try.prog 57 #[.int .i64 op, .slice P 64 64, .slice Q 64 64] w (JOut w 64 V)) :
    Calls Try.prog 28 #[.int .i64 op, .bool false, .int .i64 a, .int .i64 b] w fun e w' => e = .returned (.tuple #[.int .i64 (wrap64 (V % 2 ^ 64)), .int .i64 0]) ∧ Below w.heap.size w w' := by
  have hz : decide (b % 2 ^ 64 = 0) = false := by rw [decide_eq_false_iff_not]; omega
  have HJ := Lib.hid HJ0
  clear HJ0
  have h1 : decide (op < 1) = false := by simp; omega
  have h2 : decide (15 < op) = false := by simp; omega
  have hmk : ∀ w, (Instr.makeSlice 63 (.int .i64 64) (.int .i64 64)).run Try.prog w = .ok (.slice (some ⟨w.heap.size, 0, none⟩) 64 64) (w.alloc (.cells ((zerosL 64).map (Value.int .i64)).toArray 3)) := make_ints 64 (by decide)
  have HZ := Lib.hid hz
  have HM := Lib.hid hmk
  clear hz hmk hb0
  rcases div_arm h with t4 | ⟨t4, t5⟩ | ⟨t4, t5, t6⟩ | ⟨t4, t5, t6, t7⟩
  all_goals
    go_enter Try.func28, Try.ntmps28
    go_wp2_with fail
    refine (width_any false _).mono ?_
    rintro e w' ⟨rfl, rfl⟩
    go_wp2_with fail
    refine (row_n _ _ 64 (by decide) (by decide) _).mono ?_
    rintro e w1 ⟨rfl, hx1, hB1, hs1⟩
    go_wp2_with fail
    refine (width_any false _).mono ?_
    rintro e w' ⟨rfl, rfl⟩
    go_wp2_with fail
    refine (row_n _ _ 64 (by decide) (by decide) _).mono ?_
    rintro e w2 ⟨rfl, hy2, hB2, hs2⟩
    have hx2 := (hx1.below hB2 hx1.lt).at_
    have hy2' := hy2.at_
    have hB := hB1.trans (hB2.mono hB1.size)
    clear hx1 hB1 hs1 hB2 hs2 hy2
    obtain ⟨g2, hg2⟩ : ∃ g2, w1.heap.size = g2 := ⟨_, rfl⟩
    rw [hg2] at hy2' ⊢
    clear hg2
    have hx3 := hx2.below ((Below.refl _ _).alloc (Nat.le_refl _) (.cells ((zerosL 64).map (Value.int .i64)).toArray 3))
    have hy3 := hy2'.below ((Below.refl _ _).alloc (Nat.le_refl _) (.cells ((zerosL 64).map (Value.int .i64)).toArray 3))
    have hB3 := hB.alloc hB.size (.cells ((zerosL 64).map (Value.int .i64)).toArray 3)
    have CS := Lib.hid (same_zero (some ⟨g2, 0, none⟩) (some ⟨w2.heap.size, 0, none⟩) 64 64 64 b _ (by decide) hy3 (zeros_new 64 w2))
    have hmk := HM.out
    rw [HZ.out] at CS
    clear hx2 hy2' hB
    go_wp2_with fail
    clear hmk
    refine CS.out.mono ?_
    rintro e w3 ⟨rfl, q, hw3⟩
    have hx4 := hx3.drewN q
    have hy4 := hy3.drewN q
    have hB4' := below_drewN hB3 q
    rw [← hw3] at hx4 hy4 hB4'
    clear hx3 hy3 hB3 CS hw3
    go_wp2_with fail
    refine (HJ.out _ _ _ hx4 hy4).mono ?_
    rintro e w4 ⟨P4, c4, rfl, hi4, hB4⟩
    have hB5 := hB4'.trans (hB4.mono hB4'.size)
    clear HJ
    go_wp2_with fail
    refine (num_k _ _ 64 V _ (by decide) hi4).mono ?_
    rintro e w' ⟨rfl, rfl⟩
    go_wp2_with fail
    go_ret2
    exact ⟨rfl, hB5⟩

set_option maxRecDepth 100000 in
set_option maxHeartbeats 8000000 in
theorem refAlu_dz_64 (op : Int) (h : 4 ≤ op ∧ op ≤ 7) (a b : Int) (hb0 : b % 2 ^ 64 = 0) (w : World) :
    Calls Try.prog 28 #[.int .i64 op, .bool false, .int .i64 a, .int .i64 b] w fun e w' => e = .returned (.tuple #[.int .i64 0, .int .i64 84]) ∧ Below w.heap.size w w' := by
  have hz : decide (b % 2 ^ 64 = 0) = true := by rw [decide_eq_true_iff]; exact hb0
  have h1 : decide (op < 1) = false := by simp; omega
  have h2 : decide (15 < op) = false := by simp; omega
  have hmk : ∀ w, (Instr.makeSlice 63 (.int .i64 64) (.int .i64 64)).run Try.prog w = .ok (.slice (some ⟨w.heap.size, 0, none⟩) 64 64) (w.alloc (.cells ((zerosL 64).map (Value.int .i64)).toArray 3)) := make_ints 64 (by decide)
  have HZ := Lib.hid hz
  have HM := Lib.hid hmk
  clear hz hmk hb0
  rcases div_arm h with t4 | ⟨t4, t5⟩ | ⟨t4, t5, t6⟩ | ⟨t4, t5, t6, t7⟩
  all_goals
    go_enter Try.func28, Try.ntmps28
    go_wp2_with fail
    refine (width_any false _).mono ?_
    rintro e w' ⟨rfl, rfl⟩
    go_wp2_with fail
    refine (row_n _ _ 64 (by decide) (by decide) _).mono ?_
    rintro e w1 ⟨rfl, hx1, hB1, hs1⟩
    go_wp2_with fail
    refine (width_any false _).mono ?_
    rintro e w' ⟨rfl, rfl⟩
    go_wp2_with fail
    refine (row_n _ _ 64 (by decide) (by decide) _).mono ?_
    rintro e w2 ⟨rfl, hy2, hB2, hs2⟩
    have hx2 := (hx1.below hB2 hx1.lt).at_
    have hy2' := hy2.at_
    have hB := hB1.trans (hB2.mono hB1.size)
    clear hx1 hB1 hs1 hB2 hs2 hy2
    obtain ⟨g2, hg2⟩ : ∃ g2, w1.heap.size = g2 := ⟨_, rfl⟩
    rw [hg2] at hy2' ⊢
    clear hg2
    have hx3 := hx2.below ((Below.refl _ _).alloc (Nat.le_refl _) (.cells ((zerosL 64).map (Value.int .i64)).toArray 3))
    have hy3 := hy2'.below ((Below.refl _ _).alloc (Nat.le_refl _) (.cells ((zerosL 64).map (Value.int .i64)).toArray 3))
    have hB3 := hB.alloc hB.size (.cells ((zerosL 64).map (Value.int .i64)).toArray 3)
    have CS := Lib.hid (same_zero (some ⟨g2, 0, none⟩) (some ⟨w2.heap.size, 0, none⟩) 64 64 64 b _ (by decide) hy3 (zeros_new 64 w2))
    have hmk := HM.out
    rw [HZ.out] at CS
    clear hx2 hy2' hB
    go_wp2_with fail
    clear hmk
    refine CS.out.mono ?_
    rintro e w3 ⟨rfl, q, hw3⟩
    have hx4 := hx3.drewN q
    have hy4 := hy3.drewN q
    have hB4' := below_drewN hB3 q
    rw [← hw3] at hx4 hy4 hB4'
    clear hx3 hy3 hB3 CS hw3
    go_wp2_with fail
    go_ret2
    exact ⟨rfl, hB4'⟩

end Go.Proofs.Ytjhgjplhhhgfcaa
