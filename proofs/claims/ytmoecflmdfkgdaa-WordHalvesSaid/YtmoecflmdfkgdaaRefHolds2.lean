/- The document's Holds, condition by condition. -/
import Derived.Test.YtmoecflmdfkgdaaRefHolds
namespace Go.Proofs.Ytmoecflmdfkgdaa
open Go.ChangeShapes Go.WideShapes Go.ChangeAt Go.RowKit
open Bits
set_option linter.unusedVariables false

set_option maxHeartbeats 2000000 in
theorem rh_27 (n : Bool) (a b : Int) (w : World) :
    Calls Try.prog 48 #[.int .i64 27, .bool n, .int .i64 a, .int .i64 b] w fun e w' => e = .returned (.bool (decide (valL (bitsL a (kw n)) = valL (bitsL b (kw n))))) ∧ Below w.heap.size w w' := by
  have hk64 := (kw_le n).2
  have hk1 := (kw_le n).1
  go_enter Try.func48, Try.ntmps48
  go_wp2_with fail
  refine (width_n _ _).mono ?_
  rintro e w' ⟨rfl, rfl⟩
  go_wp2_with fail
  refine (row_n _ _ (kw n) rfl hk64 _).mono ?_
  rintro e w1 ⟨rfl, hb1, hB1, hs1⟩
  go_wp2_with fail
  refine (width_n _ _).mono ?_
  rintro e w' ⟨rfl, rfl⟩
  go_wp2_with fail
  refine (row_n _ _ (kw n) rfl hk64 _).mono ?_
  rintro e w2 ⟨rfl, hb2, hB2, hs2⟩
  have hT : Two w w2 w.heap.size w1.heap.size (bitsL a (kw n)) (bitsL b (kw n)) (kw n) :=
    ⟨bitsL_length _ _, bitsL_length _ _, bit_bits _ _, bit_bits _ _, hb1.below hB2 hb1.lt, hb2, hB1.trans (hB2.mono hB1.size), Nat.le_refl _, hB1.size, by omega⟩
  clear hb1 hb2 hB1 hB2
  have hne : w.heap.size ≠ w1.heap.size := by omega
  clear hs1 hs2
  go_wp2_with fail
  refine (hT.same hk64).mono ?_
  rintro e w3 ⟨rfl, hB3⟩
  go_wp2_with fail
  go_ret
  exact ⟨rfl, hB3⟩

set_option maxHeartbeats 2000000 in
theorem rh_28 (n : Bool) (a b : Int) (w : World) :
    Calls Try.prog 48 #[.int .i64 28, .bool n, .int .i64 a, .int .i64 b] w fun e w' => e = .returned (.bool (!decide (valL (bitsL a (kw n)) = valL (bitsL b (kw n))))) ∧ Below w.heap.size w w' := by
  have hk64 := (kw_le n).2
  have hk1 := (kw_le n).1
  go_enter Try.func48, Try.ntmps48
  go_wp2_with fail
  refine (width_n _ _).mono ?_
  rintro e w' ⟨rfl, rfl⟩
  go_wp2_with fail
  refine (row_n _ _ (kw n) rfl hk64 _).mono ?_
  rintro e w1 ⟨rfl, hb1, hB1, hs1⟩
  go_wp2_with fail
  refine (width_n _ _).mono ?_
  rintro e w' ⟨rfl, rfl⟩
  go_wp2_with fail
  refine (row_n _ _ (kw n) rfl hk64 _).mono ?_
  rintro e w2 ⟨rfl, hb2, hB2, hs2⟩
  have hT : Two w w2 w.heap.size w1.heap.size (bitsL a (kw n)) (bitsL b (kw n)) (kw n) :=
    ⟨bitsL_length _ _, bitsL_length _ _, bit_bits _ _, bit_bits _ _, hb1.below hB2 hb1.lt, hb2, hB1.trans (hB2.mono hB1.size), Nat.le_refl _, hB1.size, by omega⟩
  clear hb1 hb2 hB1 hB2
  have hne : w.heap.size ≠ w1.heap.size := by omega
  clear hs1 hs2
  go_wp2_with fail
  refine (hT.same hk64).mono ?_
  rintro e w3 ⟨rfl, hB3⟩
  go_wp2_with fail
  go_ret
  exact ⟨rfl, hB3⟩

set_option maxHeartbeats 2000000 in
theorem rh_29 (n : Bool) (a b : Int) (w : World) :
    Calls Try.prog 48 #[.int .i64 29, .bool n, .int .i64 a, .int .i64 b] w fun e w' => e = .returned (.bool (decide (valL (bitsL b (kw n)) < valL (bitsL a (kw n))))) ∧ Below w.heap.size w w' := by
  have hk64 := (kw_le n).2
  have hk1 := (kw_le n).1
  go_enter Try.func48, Try.ntmps48
  go_wp2_with fail
  refine (width_n _ _).mono ?_
  rintro e w' ⟨rfl, rfl⟩
  go_wp2_with fail
  refine (row_n _ _ (kw n) rfl hk64 _).mono ?_
  rintro e w1 ⟨rfl, hb1, hB1, hs1⟩
  go_wp2_with fail
  refine (width_n _ _).mono ?_
  rintro e w' ⟨rfl, rfl⟩
  go_wp2_with fail
  refine (row_n _ _ (kw n) rfl hk64 _).mono ?_
  rintro e w2 ⟨rfl, hb2, hB2, hs2⟩
  have hT : Two w w2 w.heap.size w1.heap.size (bitsL a (kw n)) (bitsL b (kw n)) (kw n) :=
    ⟨bitsL_length _ _, bitsL_length _ _, bit_bits _ _, bit_bits _ _, hb1.below hB2 hb1.lt, hb2, hB1.trans (hB2.mono hB1.size), Nat.le_refl _, hB1.size, by omega⟩
  clear hb1 hb2 hB1 hB2
  have hne : w.heap.size ≠ w1.heap.size := by omega
  clear hs1 hs2
  go_wp2_with fail
  refine (hT.more hk64).mono ?_
  rintro e w3 ⟨rfl, hB3⟩
  go_wp2_with fail
  go_ret
  exact ⟨rfl, hB3⟩

set_option maxHeartbeats 2000000 in
theorem rh_30 (n : Bool) (a b : Int) (w : World) :
    Calls Try.prog 48 #[.int .i64 30, .bool n, .int .i64 a, .int .i64 b] w fun e w' => e = .returned (.bool (!decide (valL (bitsL a (kw n)) < valL (bitsL b (kw n))))) ∧ Below w.heap.size w w' := by
  have hk64 := (kw_le n).2
  have hk1 := (kw_le n).1
  go_enter Try.func48, Try.ntmps48
  go_wp2_with fail
  refine (width_n _ _).mono ?_
  rintro e w' ⟨rfl, rfl⟩
  go_wp2_with fail
  refine (row_n _ _ (kw n) rfl hk64 _).mono ?_
  rintro e w1 ⟨rfl, hb1, hB1, hs1⟩
  go_wp2_with fail
  refine (width_n _ _).mono ?_
  rintro e w' ⟨rfl, rfl⟩
  go_wp2_with fail
  refine (row_n _ _ (kw n) rfl hk64 _).mono ?_
  rintro e w2 ⟨rfl, hb2, hB2, hs2⟩
  have hT : Two w w2 w.heap.size w1.heap.size (bitsL a (kw n)) (bitsL b (kw n)) (kw n) :=
    ⟨bitsL_length _ _, bitsL_length _ _, bit_bits _ _, bit_bits _ _, hb1.below hB2 hb1.lt, hb2, hB1.trans (hB2.mono hB1.size), Nat.le_refl _, hB1.size, by omega⟩
  clear hb1 hb2 hB1 hB2
  have hne : w.heap.size ≠ w1.heap.size := by omega
  clear hs1 hs2
  go_wp2_with fail
  refine (hT.less hk64).mono ?_
  rintro e w3 ⟨rfl, hB3⟩
  go_wp2_with fail
  go_ret
  exact ⟨rfl, hB3⟩

set_option maxHeartbeats 2000000 in
theorem rh_31 (n : Bool) (a b : Int) (w : World) :
    Calls Try.prog 48 #[.int .i64 31, .bool n, .int .i64 a, .int .i64 b] w fun e w' => e = .returned (.bool (decide (valL (bitsL a (kw n)) < valL (bitsL b (kw n))))) ∧ Below w.heap.size w w' := by
  have hk64 := (kw_le n).2
  have hk1 := (kw_le n).1
  go_enter Try.func48, Try.ntmps48
  go_wp2_with fail
  refine (width_n _ _).mono ?_
  rintro e w' ⟨rfl, rfl⟩
  go_wp2_with fail
  refine (row_n _ _ (kw n) rfl hk64 _).mono ?_
  rintro e w1 ⟨rfl, hb1, hB1, hs1⟩
  go_wp2_with fail
  refine (width_n _ _).mono ?_
  rintro e w' ⟨rfl, rfl⟩
  go_wp2_with fail
  refine (row_n _ _ (kw n) rfl hk64 _).mono ?_
  rintro e w2 ⟨rfl, hb2, hB2, hs2⟩
  have hT : Two w w2 w.heap.size w1.heap.size (bitsL a (kw n)) (bitsL b (kw n)) (kw n) :=
    ⟨bitsL_length _ _, bitsL_length _ _, bit_bits _ _, bit_bits _ _, hb1.below hB2 hb1.lt, hb2, hB1.trans (hB2.mono hB1.size), Nat.le_refl _, hB1.size, by omega⟩
  clear hb1 hb2 hB1 hB2
  have hne : w.heap.size ≠ w1.heap.size := by omega
  clear hs1 hs2
  go_wp2_with fail
  refine (hT.less hk64).mono ?_
  rintro e w3 ⟨rfl, hB3⟩
  go_wp2_with fail
  go_ret
  exact ⟨rfl, hB3⟩

set_option maxHeartbeats 2000000 in
theorem rh_32 (n : Bool) (a b : Int) (w : World) :
    Calls Try.prog 48 #[.int .i64 32, .bool n, .int .i64 a, .int .i64 b] w fun e w' => e = .returned (.bool (!decide (valL (bitsL b (kw n)) < valL (bitsL a (kw n))))) ∧ Below w.heap.size w w' := by
  have hk64 := (kw_le n).2
  have hk1 := (kw_le n).1
  go_enter Try.func48, Try.ntmps48
  go_wp2_with fail
  refine (width_n _ _).mono ?_
  rintro e w' ⟨rfl, rfl⟩
  go_wp2_with fail
  refine (row_n _ _ (kw n) rfl hk64 _).mono ?_
  rintro e w1 ⟨rfl, hb1, hB1, hs1⟩
  go_wp2_with fail
  refine (width_n _ _).mono ?_
  rintro e w' ⟨rfl, rfl⟩
  go_wp2_with fail
  refine (row_n _ _ (kw n) rfl hk64 _).mono ?_
  rintro e w2 ⟨rfl, hb2, hB2, hs2⟩
  have hT : Two w w2 w.heap.size w1.heap.size (bitsL a (kw n)) (bitsL b (kw n)) (kw n) :=
    ⟨bitsL_length _ _, bitsL_length _ _, bit_bits _ _, bit_bits _ _, hb1.below hB2 hb1.lt, hb2, hB1.trans (hB2.mono hB1.size), Nat.le_refl _, hB1.size, by omega⟩
  clear hb1 hb2 hB1 hB2
  have hne : w.heap.size ≠ w1.heap.size := by omega
  clear hs1 hs2
  go_wp2_with fail
  refine (hT.more hk64).mono ?_
  rintro e w3 ⟨rfl, hB3⟩
  go_wp2_with fail
  go_ret
  exact ⟨rfl, hB3⟩

set_option maxHeartbeats 2000000 in
theorem rh_33 (n : Bool) (a b : Int) (w : World) :
    Calls Try.prog 48 #[.int .i64 33, .bool n, .int .i64 a, .int .i64 b] w fun e w' => e = .returned (.bool (decide (valL (flipL (bitsL b (kw n))) < valL (flipL (bitsL a (kw n)))))) ∧ Below w.heap.size w w' := by
  have hk64 := (kw_le n).2
  have hk1 := (kw_le n).1
  go_enter Try.func48, Try.ntmps48
  go_wp2_with fail
  refine (width_n _ _).mono ?_
  rintro e w' ⟨rfl, rfl⟩
  go_wp2_with fail
  refine (row_n _ _ (kw n) rfl hk64 _).mono ?_
  rintro e w1 ⟨rfl, hb1, hB1, hs1⟩
  go_wp2_with fail
  refine (width_n _ _).mono ?_
  rintro e w' ⟨rfl, rfl⟩
  go_wp2_with fail
  refine (row_n _ _ (kw n) rfl hk64 _).mono ?_
  rintro e w2 ⟨rfl, hb2, hB2, hs2⟩
  have hT : Two w w2 w.heap.size w1.heap.size (bitsL a (kw n)) (bitsL b (kw n)) (kw n) :=
    ⟨bitsL_length _ _, bitsL_length _ _, bit_bits _ _, bit_bits _ _, hb1.below hB2 hb1.lt, hb2, hB1.trans (hB2.mono hB1.size), Nat.le_refl _, hB1.size, by omega⟩
  clear hb1 hb2 hB1 hB2
  have hne : w.heap.size ≠ w1.heap.size := by omega
  clear hs1 hs2
  have hA := hT.ha.cell (kw n - 1) (by rw [bitsL_length]; omega)
  have fA := hT.ha.frozen (kw n - 1)
  have hA1 := hT.hb.cell (kw n - 1) (by rw [bitsL_length]; omega)
  have fA1 := hT.hb.frozen (kw n - 1)
  have rA := bit_at (bit_bits a (kw n)) (kw n - 1)
  have rB := bit_at (bit_bits b (kw n)) (kw n - 1)
  have hF := hT.flip
  have HT := Lib.hid hF
  have HNE := Lib.hid hne
  clear hF hT
  generalize (bitsL a (kw n))[kw n - 1]?.getD 0 = x at *
  generalize (bitsL b (kw n))[kw n - 1]?.getD 0 = y at *
  have hx0 : 0 ≤ x ∧ x ≤ 1 := by omega
  have hy0 : 0 ≤ y ∧ y ≤ 1 := by omega
  clear rA rB
  go_wp2_with fail

  refine (HT.out.more hk64).mono ?_
  rintro e w3 ⟨rfl, hB3⟩
  go_wp2_with fail
  go_ret
  exact ⟨rfl, hB3⟩

set_option maxHeartbeats 2000000 in
theorem rh_34 (n : Bool) (a b : Int) (w : World) :
    Calls Try.prog 48 #[.int .i64 34, .bool n, .int .i64 a, .int .i64 b] w fun e w' => e = .returned (.bool (!decide (valL (flipL (bitsL a (kw n))) < valL (flipL (bitsL b (kw n)))))) ∧ Below w.heap.size w w' := by
  have hk64 := (kw_le n).2
  have hk1 := (kw_le n).1
  go_enter Try.func48, Try.ntmps48
  go_wp2_with fail
  refine (width_n _ _).mono ?_
  rintro e w' ⟨rfl, rfl⟩
  go_wp2_with fail
  refine (row_n _ _ (kw n) rfl hk64 _).mono ?_
  rintro e w1 ⟨rfl, hb1, hB1, hs1⟩
  go_wp2_with fail
  refine (width_n _ _).mono ?_
  rintro e w' ⟨rfl, rfl⟩
  go_wp2_with fail
  refine (row_n _ _ (kw n) rfl hk64 _).mono ?_
  rintro e w2 ⟨rfl, hb2, hB2, hs2⟩
  have hT : Two w w2 w.heap.size w1.heap.size (bitsL a (kw n)) (bitsL b (kw n)) (kw n) :=
    ⟨bitsL_length _ _, bitsL_length _ _, bit_bits _ _, bit_bits _ _, hb1.below hB2 hb1.lt, hb2, hB1.trans (hB2.mono hB1.size), Nat.le_refl _, hB1.size, by omega⟩
  clear hb1 hb2 hB1 hB2
  have hne : w.heap.size ≠ w1.heap.size := by omega
  clear hs1 hs2
  have hA := hT.ha.cell (kw n - 1) (by rw [bitsL_length]; omega)
  have fA := hT.ha.frozen (kw n - 1)
  have hA1 := hT.hb.cell (kw n - 1) (by rw [bitsL_length]; omega)
  have fA1 := hT.hb.frozen (kw n - 1)
  have rA := bit_at (bit_bits a (kw n)) (kw n - 1)
  have rB := bit_at (bit_bits b (kw n)) (kw n - 1)
  have hF := hT.flip
  have HT := Lib.hid hF
  have HNE := Lib.hid hne
  clear hF hT
  generalize (bitsL a (kw n))[kw n - 1]?.getD 0 = x at *
  generalize (bitsL b (kw n))[kw n - 1]?.getD 0 = y at *
  have hx0 : 0 ≤ x ∧ x ≤ 1 := by omega
  have hy0 : 0 ≤ y ∧ y ≤ 1 := by omega
  clear rA rB
  go_wp2_with fail

  refine (HT.out.less hk64).mono ?_
  rintro e w3 ⟨rfl, hB3⟩
  go_wp2_with fail
  go_ret
  exact ⟨rfl, hB3⟩

set_option maxHeartbeats 2000000 in
theorem rh_35 (n : Bool) (a b : Int) (w : World) :
    Calls Try.prog 48 #[.int .i64 35, .bool n, .int .i64 a, .int .i64 b] w fun e w' => e = .returned (.bool (decide (valL (flipL (bitsL a (kw n))) < valL (flipL (bitsL b (kw n)))))) ∧ Below w.heap.size w w' := by
  have hk64 := (kw_le n).2
  have hk1 := (kw_le n).1
  go_enter Try.func48, Try.ntmps48
  go_wp2_with fail
  refine (width_n _ _).mono ?_
  rintro e w' ⟨rfl, rfl⟩
  go_wp2_with fail
  refine (row_n _ _ (kw n) rfl hk64 _).mono ?_
  rintro e w1 ⟨rfl, hb1, hB1, hs1⟩
  go_wp2_with fail
  refine (width_n _ _).mono ?_
  rintro e w' ⟨rfl, rfl⟩
  go_wp2_with fail
  refine (row_n _ _ (kw n) rfl hk64 _).mono ?_
  rintro e w2 ⟨rfl, hb2, hB2, hs2⟩
  have hT : Two w w2 w.heap.size w1.heap.size (bitsL a (kw n)) (bitsL b (kw n)) (kw n) :=
    ⟨bitsL_length _ _, bitsL_length _ _, bit_bits _ _, bit_bits _ _, hb1.below hB2 hb1.lt, hb2, hB1.trans (hB2.mono hB1.size), Nat.le_refl _, hB1.size, by omega⟩
  clear hb1 hb2 hB1 hB2
  have hne : w.heap.size ≠ w1.heap.size := by omega
  clear hs1 hs2
  have hA := hT.ha.cell (kw n - 1) (by rw [bitsL_length]; omega)
  have fA := hT.ha.frozen (kw n - 1)
  have hA1 := hT.hb.cell (kw n - 1) (by rw [bitsL_length]; omega)
  have fA1 := hT.hb.frozen (kw n - 1)
  have rA := bit_at (bit_bits a (kw n)) (kw n - 1)
  have rB := bit_at (bit_bits b (kw n)) (kw n - 1)
  have hF := hT.flip
  have HT := Lib.hid hF
  have HNE := Lib.hid hne
  clear hF hT
  generalize (bitsL a (kw n))[kw n - 1]?.getD 0 = x at *
  generalize (bitsL b (kw n))[kw n - 1]?.getD 0 = y at *
  have hx0 : 0 ≤ x ∧ x ≤ 1 := by omega
  have hy0 : 0 ≤ y ∧ y ≤ 1 := by omega
  clear rA rB
  go_wp2_with fail

  refine (HT.out.less hk64).mono ?_
  rintro e w3 ⟨rfl, hB3⟩
  go_wp2_with fail
  go_ret
  exact ⟨rfl, hB3⟩

set_option maxHeartbeats 2000000 in
theorem rh_36 (n : Bool) (a b : Int) (w : World) :
    Calls Try.prog 48 #[.int .i64 36, .bool n, .int .i64 a, .int .i64 b] w fun e w' => e = .returned (.bool (!decide (valL (flipL (bitsL b (kw n))) < valL (flipL (bitsL a (kw n)))))) ∧ Below w.heap.size w w' := by
  have hk64 := (kw_le n).2
  have hk1 := (kw_le n).1
  go_enter Try.func48, Try.ntmps48
  go_wp2_with fail
  refine (width_n _ _).mono ?_
  rintro e w' ⟨rfl, rfl⟩
  go_wp2_with fail
  refine (row_n _ _ (kw n) rfl hk64 _).mono ?_
  rintro e w1 ⟨rfl, hb1, hB1, hs1⟩
  go_wp2_with fail
  refine (width_n _ _).mono ?_
  rintro e w' ⟨rfl, rfl⟩
  go_wp2_with fail
  refine (row_n _ _ (kw n) rfl hk64 _).mono ?_
  rintro e w2 ⟨rfl, hb2, hB2, hs2⟩
  have hT : Two w w2 w.heap.size w1.heap.size (bitsL a (kw n)) (bitsL b (kw n)) (kw n) :=
    ⟨bitsL_length _ _, bitsL_length _ _, bit_bits _ _, bit_bits _ _, hb1.below hB2 hb1.lt, hb2, hB1.trans (hB2.mono hB1.size), Nat.le_refl _, hB1.size, by omega⟩
  clear hb1 hb2 hB1 hB2
  have hne : w.heap.size ≠ w1.heap.size := by omega
  clear hs1 hs2
  have hA := hT.ha.cell (kw n - 1) (by rw [bitsL_length]; omega)
  have fA := hT.ha.frozen (kw n - 1)
  have hA1 := hT.hb.cell (kw n - 1) (by rw [bitsL_length]; omega)
  have fA1 := hT.hb.frozen (kw n - 1)
  have rA := bit_at (bit_bits a (kw n)) (kw n - 1)
  have rB := bit_at (bit_bits b (kw n)) (kw n - 1)
  have hF := hT.flip
  have HT := Lib.hid hF
  have HNE := Lib.hid hne
  clear hF hT
  generalize (bitsL a (kw n))[kw n - 1]?.getD 0 = x at *
  generalize (bitsL b (kw n))[kw n - 1]?.getD 0 = y at *
  have hx0 : 0 ≤ x ∧ x ≤ 1 := by omega
  have hy0 : 0 ≤ y ∧ y ≤ 1 := by omega
  clear rA rB
  go_wp2_with fail

  refine (HT.out.more hk64).mono ?_
  rintro e w3 ⟨rfl, hB3⟩
  go_wp2_with fail
  go_ret
  exact ⟨rfl, hB3⟩

theorem jset_true (k : Nat) (a b : Int) (i : Nat) (hi : i < k) (h : a / 2 ^ i % 2 + b / 2 ^ i % 2 = 2) : jset k a b = true := by
  unfold jset; rw [List.any_eq_true]
  exact ⟨i, List.mem_range.2 hi, by simp [h]⟩
theorem jset_false (k : Nat) (a b : Int) (h : ∀ i, i < k → a / 2 ^ i % 2 + b / 2 ^ i % 2 ≠ 2) : jset k a b = false := by
  unfold jset; rw [List.any_eq_false]
  intro i hi
  have := h i (List.mem_range.1 hi)
  simp [this]

set_option maxHeartbeats 2000000 in
theorem rh_37 (n : Bool) (a b : Int) (w : World) :
    Calls Try.prog 48 #[.int .i64 37, .bool n, .int .i64 a, .int .i64 b] w fun e w' => e = .returned (.bool (jset (kw n) a b)) ∧ Below w.heap.size w w' := by
  have hk64 := (kw_le n).2
  have hk1 := (kw_le n).1
  go_enter Try.func48, Try.ntmps48
  go_wp2_with fail
  refine (width_n _ _).mono ?_
  rintro e w' ⟨rfl, rfl⟩
  go_wp2_with fail
  refine (row_n _ _ (kw n) rfl hk64 _).mono ?_
  rintro e w1 ⟨rfl, hb1, hB1, hs1⟩
  go_wp2_with fail
  refine (width_n _ _).mono ?_
  rintro e w' ⟨rfl, rfl⟩
  go_wp2_with fail
  refine (row_n _ _ (kw n) rfl hk64 _).mono ?_
  rintro e w2 ⟨rfl, hb2, hB2, hs2⟩
  have hT : Two w w2 w.heap.size w1.heap.size (bitsL a (kw n)) (bitsL b (kw n)) (kw n) :=
    ⟨bitsL_length _ _, bitsL_length _ _, bit_bits _ _, bit_bits _ _, hb1.below hB2 hb1.lt, hb2, hB1.trans (hB2.mono hB1.size), Nat.le_refl _, hB1.size, by omega⟩
  clear hb1 hb2 hB1 hB2
  have hne : w.heap.size ≠ w1.heap.size := by omega
  clear hs1 hs2
  go_wp2_with fail
  go_loopw [11] (fun i wr => ∃ j m : Nat, j ≤ kw n ∧ i = .int .i64 j ∧ wr = w2.drewN m ∧ ∀ l, l < j → a / 2 ^ l % 2 + b / 2 ^ l % 2 ≠ 2) (fun i _ => (kw n - intOf i).toNat)
  case atStart => exact ⟨0, 0, Nat.zero_le _, rfl, rfl, fun l hl => by omega⟩
  case round =>
    obtain ⟨j, m, hj, rfl, rfl, hl⟩ := hrel
    have HL := Lib.hid hl
    clear hl
    by_cases hlt : j < kw n
    · have hA := hT.ha.cell j (by rw [bitsL_length]; exact hlt)
      have hA1 := hT.hb.cell j (by rw [bitsL_length]; exact hlt)
      rw [bitsL_get _ _ _ hlt] at hA hA1
      have rA := Int.emod_two_eq (a / 2 ^ j)
      have rB := Int.emod_two_eq (b / 2 ^ j)
      have HJ := Lib.hid (fun h => jset_true (kw n) a b j hlt h)
      have HN := Lib.hid (fun (h : a / 2 ^ j % 2 + b / 2 ^ j % 2 ≠ 2) l (hl : l < j + 1) => show a / 2 ^ l % 2 + b / 2 ^ l % 2 ≠ 2 from
        if e : l = j then e ▸ h else HL.out l (by omega))
      simp only [Option.getD_some] at hA hA1
      generalize a / 2 ^ j % 2 = x at *
      generalize b / 2 ^ j % 2 = y at *
      have hx0 : 0 ≤ x ∧ x ≤ 1 := by omega
      have hy0 : 0 ≤ y ∧ y ≤ 1 := by omega
      clear rA rB
      by_cases hxy : x + y = 2
      · have t : (x + y == 2) = true := by simp [hxy]
        have HV := Lib.hid (HJ.out hxy)
        clear HJ HN hxy
        go_wp2_with fail
        go_quiet (fail)
        go_wp2_with fail
        go_ret
        exact ⟨by rw [HV.out]; rfl, below_drewN (below_drewN hT.hB _) _⟩
      · have t : (x + y == 2) = false := by rw [beq_eq_false_iff_ne]; exact hxy
        have HV := Lib.hid (HN.out hxy)
        clear HJ HN hxy
        go_wp2_with fail
        go_quiet (fail)
        go_wp2_with fail
        go_roundw
        case rel => exact ⟨j + 1, _, by omega, by go_num, rfl, HV.out⟩
        case measure => simp [intOf]; omega
    · have HV := Lib.hid (jset_false (kw n) a b (fun i hi => HL.out i (by omega)))
      go_wp2_with fail
      go_ret
      exact ⟨by rw [HV.out]; rfl, below_drewN hT.hB _⟩

set_option maxHeartbeats 2000000 in
theorem rh_no (op : Int) (n : Bool) (a b : Int) (hop : op < 27 ∨ 37 < op) (w : World) :
    Calls Try.prog 48 #[.int .i64 op, .bool n, .int .i64 a, .int .i64 b] w fun e w' => e = .returned (.bool false) ∧ Below w.heap.size w w' := by
  have hk64 := (kw_le n).2
  have hk1 := (kw_le n).1
  have t27 : (op == 27) = false := by rw [beq_eq_false_iff_ne]; omega
  have t28 : (op == 28) = false := by rw [beq_eq_false_iff_ne]; omega
  have t29 : (op == 29) = false := by rw [beq_eq_false_iff_ne]; omega
  have t30 : (op == 30) = false := by rw [beq_eq_false_iff_ne]; omega
  have t31 : (op == 31) = false := by rw [beq_eq_false_iff_ne]; omega
  have t32 : (op == 32) = false := by rw [beq_eq_false_iff_ne]; omega
  have t33 : (op == 33) = false := by rw [beq_eq_false_iff_ne]; omega
  have t34 : (op == 34) = false := by rw [beq_eq_false_iff_ne]; omega
  have t35 : (op == 35) = false := by rw [beq_eq_false_iff_ne]; omega
  have t36 : (op == 36) = false := by rw [beq_eq_false_iff_ne]; omega
  have t37 : (op == 37) = false := by rw [beq_eq_false_iff_ne]; omega
  rcases hop with hop | hop
  all_goals
    go_enter Try.func48, Try.ntmps48
    go_wp2_with fail
    refine (width_n _ _).mono ?_
    rintro e w' ⟨rfl, rfl⟩
    go_wp2_with fail
    refine (row_n _ _ (kw n) rfl hk64 _).mono ?_
    rintro e w1 ⟨rfl, hb1, hB1, hs1⟩
    go_wp2_with fail
    refine (width_n _ _).mono ?_
    rintro e w' ⟨rfl, rfl⟩
    go_wp2_with fail
    refine (row_n _ _ (kw n) rfl hk64 _).mono ?_
    rintro e w2 ⟨rfl, hb2, hB2, hs2⟩
    have hT : Two w w2 w.heap.size w1.heap.size (bitsL a (kw n)) (bitsL b (kw n)) (kw n) :=
      ⟨bitsL_length _ _, bitsL_length _ _, bit_bits _ _, bit_bits _ _, hb1.below hB2 hb1.lt, hb2, hB1.trans (hB2.mono hB1.size), Nat.le_refl _, hB1.size, by omega⟩
    clear hb1 hb2 hB1 hB2
    have hne : w.heap.size ≠ w1.heap.size := by omega
    clear hs1 hs2
    go_wp2_with fail
    go_ret
    exact ⟨rfl, hT.hB⟩
end Go.Proofs.Ytmoecflmdfkgdaa
