/- Alu: what it answers, for every operation, two words, wide and narrow. -/
import Derived.Test.YtjhgjplhhhgfcaaGreatFind
namespace Go.Proofs.YtjhgjplhhhgfcaaGreat
open Go.ChangeShapes Go.WideShapes Go.ChangeAt Go.RowKit
open Bits
set_option linter.unusedVariables false

/-- an operation of two words -/
def wv (op x y : Int) : Int :=
  if op = 1 then IntKind.u64.wrap (x + y) else
  if op = 2 then IntKind.u64.wrap (x - y) else
  if op = 3 then IntKind.u64.wrap (x * y) else
  if op = 4 then x / y else
  if op = 5 then x % y else
  if op = 6 then IntKind.u64.wrap (wrap64 ((wrap64 x).tdiv (wrap64 y))) else
  if op = 7 then IntKind.u64.wrap ((wrap64 x).tmod (wrap64 y)) else
  if op = 8 then bits BinOp.or IntKind.u64 x y else
  if op = 9 then bits BinOp.and IntKind.u64 x y else
  if op = 10 then bits BinOp.xor IntKind.u64 x y else
  if op = 11 then IntKind.u64.wrap (x * 2 ^ (y % 64).toNat) else
  if op = 12 then x / 2 ^ (y % 64).toNat else
  if op = 13 then IntKind.u64.wrap (wrap64 x / 2 ^ (y % 64).toNat) else
  if op = 14 then IntKind.u64.wrap (-x) else
  if op = 15 then y else
  0
/-- the halves on which an operation is done -/
def hv1 (op x : Int) : Int := if op = 13 ∨ op = 6 ∨ op = 7 then sg x else x % 4294967296
def hv2 (op y : Int) : Int := if op = 11 ∨ op = 12 ∨ op = 13 then y % 32 else if op = 6 ∨ op = 7 then sg y else y % 4294967296
def aluV (op : Int) (n : Bool) (a b : Int) : Int :=
  if n = true then wv op (hv1 op (IntKind.u64.wrap a)) (hv2 op (IntKind.u64.wrap b)) % 4294967296 else wrap64 (wv op (IntKind.u64.wrap a) (IntKind.u64.wrap b))
/-- the second operand of a division -/
def dv (op : Int) (n : Bool) (b : Int) : Int := if n = true then hv2 op (IntKind.u64.wrap b) else IntKind.u64.wrap b
def aluE (op : Int) (n : Bool) (b : Int) : Int :=
  if op < 1 ∨ 15 < op then 1 else if (4 ≤ op ∧ op ≤ 7) ∧ dv op n b = 0 then 84 else 0
def aluR (op : Int) (n : Bool) (a b : Int) : Int := if aluE op n b = 0 then aluV op n a b else 0

theorem sg_rng (x : Int) : 0 ≤ sg x ∧ sg x < 18446744073709551616 := by unfold sg; rw [IntKind.wrap_u64]; omega
theorem un_rng (x : Int) : 0 ≤ IntKind.u64.wrap x ∧ IntKind.u64.wrap x < 18446744073709551616 := by rw [IntKind.wrap_u64]; omega
theorem m32_rng (x : Int) : 0 ≤ x % 4294967296 ∧ x % 4294967296 < 18446744073709551616 := by omega
theorem m5_rng (x : Int) : 0 ≤ x % 32 ∧ x % 32 < 18446744073709551616 := by omega
theorem bits_rng (op : BinOp) (x y : Int) : 0 ≤ bits op IntKind.u64 x y ∧ bits op IntKind.u64 x y < 18446744073709551616 := by
  unfold bits; exact un_rng _
theorem w64_zero {y : Int} (hy : 0 ≤ y ∧ y < 18446744073709551616) (h : 1 ≤ y) : ¬ wrap64 y = 0 := by unfold wrap64; omega

theorem shr_rng {x : Int} (h : 0 ≤ x ∧ x < 18446744073709551616) (k : Nat) : 0 ≤ x / 2 ^ k ∧ x / 2 ^ k < 18446744073709551616 := by
  have hp := pow_pos' k
  exact ⟨Int.ediv_nonneg h.1 (Int.le_of_lt hp), Int.lt_of_le_of_lt (Int.ediv_le_self _ h.1) h.2⟩
theorem div_rng {x y : Int} (h : 0 ≤ x ∧ x < 18446744073709551616) (hy : 1 ≤ y) : 0 ≤ x / y ∧ x / y < 18446744073709551616 :=
  ⟨Int.ediv_nonneg h.1 (by omega), Int.lt_of_le_of_lt (Int.ediv_le_self _ h.1) h.2⟩
theorem mod_rng {x y : Int} (h : 0 ≤ x ∧ x < 18446744073709551616) (hy : 1 ≤ y) : 0 ≤ x % y ∧ x % y < 18446744073709551616 :=
  ⟨Int.emod_nonneg _ (by omega), by have h1 := Int.emod_nonneg x (show y ≠ 0 by omega); have h2 := Int.ediv_nonneg h.1 (show 0 ≤ y by omega); have h3 := Int.mul_nonneg (show 0 ≤ y by omega) h2; have h4 := Int.emod_def x y; omega⟩

theorem wv_1 (x y : Int) : wv 1 x y = IntKind.u64.wrap (x + y) := by unfold wv; rw [if_pos rfl]
theorem hv1_1 (x : Int) : hv1 1 x = x % 4294967296 := by unfold hv1; rw [if_neg (by decide)]
theorem hv2_1 (y : Int) : hv2 1 y = y % 4294967296 := by unfold hv2; rw [if_neg (by decide), if_neg (by decide)]
theorem wv_2 (x y : Int) : wv 2 x y = IntKind.u64.wrap (x - y) := by unfold wv; rw [if_neg (by decide), if_pos rfl]
theorem hv1_2 (x : Int) : hv1 2 x = x % 4294967296 := by unfold hv1; rw [if_neg (by decide)]
theorem hv2_2 (y : Int) : hv2 2 y = y % 4294967296 := by unfold hv2; rw [if_neg (by decide), if_neg (by decide)]
theorem wv_3 (x y : Int) : wv 3 x y = IntKind.u64.wrap (x * y) := by unfold wv; rw [if_neg (by decide), if_neg (by decide), if_pos rfl]
theorem hv1_3 (x : Int) : hv1 3 x = x % 4294967296 := by unfold hv1; rw [if_neg (by decide)]
theorem hv2_3 (y : Int) : hv2 3 y = y % 4294967296 := by unfold hv2; rw [if_neg (by decide), if_neg (by decide)]
theorem wv_4 (x y : Int) : wv 4 x y = x / y := by unfold wv; rw [if_neg (by decide), if_neg (by decide), if_neg (by decide), if_pos rfl]
theorem hv1_4 (x : Int) : hv1 4 x = x % 4294967296 := by unfold hv1; rw [if_neg (by decide)]
theorem hv2_4 (y : Int) : hv2 4 y = y % 4294967296 := by unfold hv2; rw [if_neg (by decide), if_neg (by decide)]
theorem wv_5 (x y : Int) : wv 5 x y = x % y := by unfold wv; rw [if_neg (by decide), if_neg (by decide), if_neg (by decide), if_neg (by decide), if_pos rfl]
theorem hv1_5 (x : Int) : hv1 5 x = x % 4294967296 := by unfold hv1; rw [if_neg (by decide)]
theorem hv2_5 (y : Int) : hv2 5 y = y % 4294967296 := by unfold hv2; rw [if_neg (by decide), if_neg (by decide)]
theorem wv_6 (x y : Int) : wv 6 x y = IntKind.u64.wrap (wrap64 ((wrap64 x).tdiv (wrap64 y))) := by unfold wv; rw [if_neg (by decide), if_neg (by decide), if_neg (by decide), if_neg (by decide), if_neg (by decide), if_pos rfl]
theorem hv1_6 (x : Int) : hv1 6 x = sg x := by unfold hv1; rw [if_pos (by decide)]
theorem hv2_6 (y : Int) : hv2 6 y = sg y := by unfold hv2; rw [if_neg (by decide), if_pos (by decide)]
theorem wv_7 (x y : Int) : wv 7 x y = IntKind.u64.wrap ((wrap64 x).tmod (wrap64 y)) := by unfold wv; rw [if_neg (by decide), if_neg (by decide), if_neg (by decide), if_neg (by decide), if_neg (by decide), if_neg (by decide), if_pos rfl]
theorem hv1_7 (x : Int) : hv1 7 x = sg x := by unfold hv1; rw [if_pos (by decide)]
theorem hv2_7 (y : Int) : hv2 7 y = sg y := by unfold hv2; rw [if_neg (by decide), if_pos (by decide)]
theorem wv_8 (x y : Int) : wv 8 x y = bits BinOp.or IntKind.u64 x y := by unfold wv; rw [if_neg (by decide), if_neg (by decide), if_neg (by decide), if_neg (by decide), if_neg (by decide), if_neg (by decide), if_neg (by decide), if_pos rfl]
theorem hv1_8 (x : Int) : hv1 8 x = x % 4294967296 := by unfold hv1; rw [if_neg (by decide)]
theorem hv2_8 (y : Int) : hv2 8 y = y % 4294967296 := by unfold hv2; rw [if_neg (by decide), if_neg (by decide)]
theorem wv_9 (x y : Int) : wv 9 x y = bits BinOp.and IntKind.u64 x y := by unfold wv; rw [if_neg (by decide), if_neg (by decide), if_neg (by decide), if_neg (by decide), if_neg (by decide), if_neg (by decide), if_neg (by decide), if_neg (by decide), if_pos rfl]
theorem hv1_9 (x : Int) : hv1 9 x = x % 4294967296 := by unfold hv1; rw [if_neg (by decide)]
theorem hv2_9 (y : Int) : hv2 9 y = y % 4294967296 := by unfold hv2; rw [if_neg (by decide), if_neg (by decide)]
theorem wv_10 (x y : Int) : wv 10 x y = bits BinOp.xor IntKind.u64 x y := by unfold wv; rw [if_neg (by decide), if_neg (by decide), if_neg (by decide), if_neg (by decide), if_neg (by decide), if_neg (by decide), if_neg (by decide), if_neg (by decide), if_neg (by decide), if_pos rfl]
theorem hv1_10 (x : Int) : hv1 10 x = x % 4294967296 := by unfold hv1; rw [if_neg (by decide)]
theorem hv2_10 (y : Int) : hv2 10 y = y % 4294967296 := by unfold hv2; rw [if_neg (by decide), if_neg (by decide)]
theorem wv_11 (x y : Int) : wv 11 x y = IntKind.u64.wrap (x * 2 ^ (y % 64).toNat) := by unfold wv; rw [if_neg (by decide), if_neg (by decide), if_neg (by decide), if_neg (by decide), if_neg (by decide), if_neg (by decide), if_neg (by decide), if_neg (by decide), if_neg (by decide), if_neg (by decide), if_pos rfl]
theorem hv1_11 (x : Int) : hv1 11 x = x % 4294967296 := by unfold hv1; rw [if_neg (by decide)]
theorem hv2_11 (y : Int) : hv2 11 y = y % 32 := by unfold hv2; rw [if_pos (by decide)]
theorem wv_12 (x y : Int) : wv 12 x y = x / 2 ^ (y % 64).toNat := by unfold wv; rw [if_neg (by decide), if_neg (by decide), if_neg (by decide), if_neg (by decide), if_neg (by decide), if_neg (by decide), if_neg (by decide), if_neg (by decide), if_neg (by decide), if_neg (by decide), if_neg (by decide), if_pos rfl]
theorem hv1_12 (x : Int) : hv1 12 x = x % 4294967296 := by unfold hv1; rw [if_neg (by decide)]
theorem hv2_12 (y : Int) : hv2 12 y = y % 32 := by unfold hv2; rw [if_pos (by decide)]
theorem wv_13 (x y : Int) : wv 13 x y = IntKind.u64.wrap (wrap64 x / 2 ^ (y % 64).toNat) := by unfold wv; rw [if_neg (by decide), if_neg (by decide), if_neg (by decide), if_neg (by decide), if_neg (by decide), if_neg (by decide), if_neg (by decide), if_neg (by decide), if_neg (by decide), if_neg (by decide), if_neg (by decide), if_neg (by decide), if_pos rfl]
theorem hv1_13 (x : Int) : hv1 13 x = sg x := by unfold hv1; rw [if_pos (by decide)]
theorem hv2_13 (y : Int) : hv2 13 y = y % 32 := by unfold hv2; rw [if_pos (by decide)]
theorem wv_14 (x y : Int) : wv 14 x y = IntKind.u64.wrap (-x) := by unfold wv; rw [if_neg (by decide), if_neg (by decide), if_neg (by decide), if_neg (by decide), if_neg (by decide), if_neg (by decide), if_neg (by decide), if_neg (by decide), if_neg (by decide), if_neg (by decide), if_neg (by decide), if_neg (by decide), if_neg (by decide), if_pos rfl]
theorem hv1_14 (x : Int) : hv1 14 x = x % 4294967296 := by unfold hv1; rw [if_neg (by decide)]
theorem hv2_14 (y : Int) : hv2 14 y = y % 4294967296 := by unfold hv2; rw [if_neg (by decide), if_neg (by decide)]
theorem wv_15 (x y : Int) : wv 15 x y = y := by unfold wv; rw [if_neg (by decide), if_neg (by decide), if_neg (by decide), if_neg (by decide), if_neg (by decide), if_neg (by decide), if_neg (by decide), if_neg (by decide), if_neg (by decide), if_neg (by decide), if_neg (by decide), if_neg (by decide), if_neg (by decide), if_neg (by decide), if_pos rfl]
theorem hv1_15 (x : Int) : hv1 15 x = x % 4294967296 := by unfold hv1; rw [if_neg (by decide)]
theorem hv2_15 (y : Int) : hv2 15 y = y % 4294967296 := by unfold hv2; rw [if_neg (by decide), if_neg (by decide)]
theorem hit_1 : Hits plainEs 1 102 := ⟨0, rfl⟩
theorem hit_2 : Hits plainEs 2 103 := ⟨1, rfl⟩
theorem hit_3 : Hits plainEs 3 104 := ⟨2, rfl⟩
theorem hit_8 : Hits plainEs 8 105 := ⟨3, rfl⟩
theorem hit_9 : Hits plainEs 9 106 := ⟨4, rfl⟩
theorem hit_10 : Hits plainEs 10 107 := ⟨5, rfl⟩
theorem hit_14 : Hits plainEs 14 108 := ⟨6, rfl⟩
theorem hit_15 : Hits plainEs 15 109 := ⟨7, rfl⟩
theorem hit_11 : Hits shiftsEs 11 110 := ⟨0, rfl⟩
theorem missP_11 : Misses plainEs 11 := rfl
theorem hit_12 : Hits shiftsEs 12 111 := ⟨1, rfl⟩
theorem missP_12 : Misses plainEs 12 := rfl
theorem hit_13 : Hits shiftsEs 13 112 := ⟨2, rfl⟩
theorem missP_13 : Misses plainEs 13 := rfl
theorem hit_4 : Hits divisionsEs 4 113 := ⟨0, rfl⟩
theorem missP_4 : Misses plainEs 4 := rfl
theorem missS_4 : Misses shiftsEs 4 := rfl
theorem hit_5 : Hits divisionsEs 5 114 := ⟨1, rfl⟩
theorem missP_5 : Misses plainEs 5 := rfl
theorem missS_5 : Misses shiftsEs 5 := rfl
theorem hit_6 : Hits divisionsEs 6 115 := ⟨2, rfl⟩
theorem missP_6 : Misses plainEs 6 := rfl
theorem missS_6 : Misses shiftsEs 6 := rfl
theorem hit_7 : Hits divisionsEs 7 116 := ⟨3, rfl⟩
theorem missP_7 : Misses plainEs 7 := rfl
theorem missS_7 : Misses shiftsEs 7 := rfl
theorem wv_1n (x y : Int) : wv 1 (x % 4294967296) (y % 4294967296) = x % 4294967296 + y % 4294967296 := by rw [wv_1]; exact IntWalk.u64_in _ (by omega)
theorem dv_f (op b : Int) : dv op false b = IntKind.u64.wrap b := by unfold dv; rw [if_neg Bool.false_ne_true]
theorem dv_t (op b : Int) : dv op true b = hv2 op (IntKind.u64.wrap b) := by unfold dv; rw [if_pos rfl]
theorem aluV_f (op a b : Int) : aluV op false a b = wrap64 (wv op (IntKind.u64.wrap a) (IntKind.u64.wrap b)) := by unfold aluV; rw [if_neg Bool.false_ne_true]
theorem aluV_t (op a b : Int) : aluV op true a b = wv op (hv1 op (IntKind.u64.wrap a)) (hv2 op (IntKind.u64.wrap b)) % 4294967296 := by unfold aluV; rw [if_pos rfl]

set_option maxHeartbeats 1000000 in
theorem alu_add (n : Bool) (a b : Int) (w : World) :
    Calls Tryz.prog 39 #[.int .i64 1, .bool n, .int .i64 a, .int .i64 b] w fun e w' => e = .returned (.tuple #[.int .i64 (aluV 1 n a b), .int .i64 0]) ∧ Below w.heap.size w w' := by
  cases n
  · have HV := Lib.hid (show wrap64 (IntKind.u64.wrap ((IntKind.u64.wrap a) + (IntKind.u64.wrap b))) = aluV 1 false a b by rw [aluV_f, wv_1])
    go_enter Tryz.func39, Tryz.ntmps39
    go_wp2_with fail
    refine (find_1 1 _ 102 hit_1 _).mono ?_
    rintro e w1 ⟨rfl, hB1⟩
    go_wp2_with fail
    refine (add_w _ _ (un_rng a) (un_rng b) _).mono ?_
    rintro e w' ⟨rfl, rfl⟩
    go_wp2_with fail
    go_ret2
    refine ⟨?_, hB1⟩
    rw [← HV.out]
    rfl
  · have HV := Lib.hid (show (IntKind.u64.wrap a + IntKind.u64.wrap b) % 4294967296 = aluV 1 true a b by rw [aluV_t, hv1_1, hv2_1, wv_1n, Int.emod_add_emod, Int.add_emod_emod])
    go_enter Tryz.func39, Tryz.ntmps39
    go_wp2_with fail
    refine (halves_o _ _ _ (un_rng a) (un_rng b) rfl rfl rfl rfl rfl _).mono ?_
    rintro e w' ⟨rfl, rfl⟩
    go_wp2_with fail
    refine (find_1 1 _ 102 hit_1 _).mono ?_
    rintro e w1 ⟨rfl, hB1⟩
    go_wp2_with fail
    refine (add_w _ _ (m32_rng _) (m32_rng _) _).mono ?_
    rintro e w' ⟨rfl, rfl⟩
    go_wp2_with fail
    refine (low_any _ 32 (by omega) (by omega) _).mono ?_
    rintro e w' ⟨rfl, rfl⟩
    go_wp2_with fail
    go_ret2
    refine ⟨?_, hB1⟩
    rw [← HV.out]
    rfl

set_option maxHeartbeats 1000000 in
theorem alu_sub (n : Bool) (a b : Int) (w : World) :
    Calls Tryz.prog 39 #[.int .i64 2, .bool n, .int .i64 a, .int .i64 b] w fun e w' => e = .returned (.tuple #[.int .i64 (aluV 2 n a b), .int .i64 0]) ∧ Below w.heap.size w w' := by
  cases n
  · have HV := Lib.hid (show wrap64 (IntKind.u64.wrap ((IntKind.u64.wrap a) - (IntKind.u64.wrap b))) = aluV 2 false a b by rw [aluV_f, wv_2])
    go_enter Tryz.func39, Tryz.ntmps39
    go_wp2_with fail
    refine (find_1 2 _ 103 hit_2 _).mono ?_
    rintro e w1 ⟨rfl, hB1⟩
    go_wp2_with fail
    refine (sub_w _ _ (un_rng a) (un_rng b) _).mono ?_
    rintro e w' ⟨rfl, rfl⟩
    go_wp2_with fail
    go_ret2
    refine ⟨?_, hB1⟩
    rw [← HV.out]
    rfl
  · have HV := Lib.hid (show (IntKind.u64.wrap ((IntKind.u64.wrap a % 4294967296) - (IntKind.u64.wrap b % 4294967296))) % 4294967296 = aluV 2 true a b by rw [aluV_t, wv_2, hv1_2, hv2_2])
    go_enter Tryz.func39, Tryz.ntmps39
    go_wp2_with fail
    refine (halves_o _ _ _ (un_rng a) (un_rng b) rfl rfl rfl rfl rfl _).mono ?_
    rintro e w' ⟨rfl, rfl⟩
    go_wp2_with fail
    refine (find_1 2 _ 103 hit_2 _).mono ?_
    rintro e w1 ⟨rfl, hB1⟩
    go_wp2_with fail
    refine (sub_w _ _ (m32_rng _) (m32_rng _) _).mono ?_
    rintro e w' ⟨rfl, rfl⟩
    go_wp2_with fail
    refine (low_any _ 32 (by omega) (un_rng _) _).mono ?_
    rintro e w' ⟨rfl, rfl⟩
    go_wp2_with fail
    go_ret2
    refine ⟨?_, hB1⟩
    rw [← HV.out]
    rfl

set_option maxHeartbeats 1000000 in
theorem alu_mul (n : Bool) (a b : Int) (w : World) :
    Calls Tryz.prog 39 #[.int .i64 3, .bool n, .int .i64 a, .int .i64 b] w fun e w' => e = .returned (.tuple #[.int .i64 (aluV 3 n a b), .int .i64 0]) ∧ Below w.heap.size w w' := by
  cases n
  · have HV := Lib.hid (show wrap64 (IntKind.u64.wrap ((IntKind.u64.wrap a) * (IntKind.u64.wrap b))) = aluV 3 false a b by rw [aluV_f, wv_3])
    go_enter Tryz.func39, Tryz.ntmps39
    go_wp2_with fail
    refine (find_1 3 _ 104 hit_3 _).mono ?_
    rintro e w1 ⟨rfl, hB1⟩
    go_wp2_with fail
    refine (mul_w _ _ (un_rng a) (un_rng b) _).mono ?_
    rintro e w' ⟨rfl, rfl⟩
    go_wp2_with fail
    go_ret2
    refine ⟨?_, hB1⟩
    rw [← HV.out]
    rfl
  · have HV := Lib.hid (show (IntKind.u64.wrap ((IntKind.u64.wrap a % 4294967296) * (IntKind.u64.wrap b % 4294967296))) % 4294967296 = aluV 3 true a b by rw [aluV_t, wv_3, hv1_3, hv2_3])
    go_enter Tryz.func39, Tryz.ntmps39
    go_wp2_with fail
    refine (halves_o _ _ _ (un_rng a) (un_rng b) rfl rfl rfl rfl rfl _).mono ?_
    rintro e w' ⟨rfl, rfl⟩
    go_wp2_with fail
    refine (find_1 3 _ 104 hit_3 _).mono ?_
    rintro e w1 ⟨rfl, hB1⟩
    go_wp2_with fail
    refine (mul_w _ _ (m32_rng _) (m32_rng _) _).mono ?_
    rintro e w' ⟨rfl, rfl⟩
    go_wp2_with fail
    refine (low_any _ 32 (by omega) (un_rng _) _).mono ?_
    rintro e w' ⟨rfl, rfl⟩
    go_wp2_with fail
    go_ret2
    refine ⟨?_, hB1⟩
    rw [← HV.out]
    rfl

set_option maxHeartbeats 1000000 in
theorem alu_div (n : Bool) (a b : Int) (h0 : 1 ≤ dv 4 n b) (w : World) :
    Calls Tryz.prog 39 #[.int .i64 4, .bool n, .int .i64 a, .int .i64 b] w fun e w' => e = .returned (.tuple #[.int .i64 (aluV 4 n a b), .int .i64 0]) ∧ Below w.heap.size w w' := by
  cases n
  · have HV := Lib.hid (show wrap64 ((IntKind.u64.wrap a) / (IntKind.u64.wrap b)) = aluV 4 false a b by rw [aluV_f, wv_4])
    rw [dv_f] at h0
    have HNZ := Lib.hid (show (IntKind.u64.wrap b == 0) = false by rw [beq_eq_false_iff_ne]; omega)
    go_enter Tryz.func39, Tryz.ntmps39
    go_wp2_with fail
    refine (find_3 4 _ HNZ.out 113 missP_4 missS_4 hit_4 _).mono ?_
    rintro e w1 ⟨rfl, hB1⟩
    go_wp2_with fail
    refine (div_w _ _ (un_rng a) (un_rng b) h0 _).mono ?_
    rintro e w' ⟨rfl, rfl⟩
    go_wp2_with fail
    go_ret2
    refine ⟨?_, hB1⟩
    rw [← HV.out]
    rfl
  · have HV := Lib.hid (show ((IntKind.u64.wrap a % 4294967296) / (IntKind.u64.wrap b % 4294967296)) % 4294967296 = aluV 4 true a b by rw [aluV_t, wv_4, hv1_4, hv2_4])
    rw [dv_t, hv2_4] at h0
    have HNZ := Lib.hid (show (IntKind.u64.wrap b % 4294967296 == 0) = false by rw [beq_eq_false_iff_ne]; omega)
    go_enter Tryz.func39, Tryz.ntmps39
    go_wp2_with fail
    refine (halves_o _ _ _ (un_rng a) (un_rng b) rfl rfl rfl rfl rfl _).mono ?_
    rintro e w' ⟨rfl, rfl⟩
    go_wp2_with fail
    refine (find_3 4 _ HNZ.out 113 missP_4 missS_4 hit_4 _).mono ?_
    rintro e w1 ⟨rfl, hB1⟩
    go_wp2_with fail
    refine (div_w _ _ (m32_rng _) (m32_rng _) h0 _).mono ?_
    rintro e w' ⟨rfl, rfl⟩
    go_wp2_with fail
    refine (low_any _ 32 (by omega) (div_rng (m32_rng _) h0) _).mono ?_
    rintro e w' ⟨rfl, rfl⟩
    go_wp2_with fail
    go_ret2
    refine ⟨?_, hB1⟩
    rw [← HV.out]
    rfl

set_option maxHeartbeats 1000000 in
theorem alu_mod (n : Bool) (a b : Int) (h0 : 1 ≤ dv 5 n b) (w : World) :
    Calls Tryz.prog 39 #[.int .i64 5, .bool n, .int .i64 a, .int .i64 b] w fun e w' => e = .returned (.tuple #[.int .i64 (aluV 5 n a b), .int .i64 0]) ∧ Below w.heap.size w w' := by
  cases n
  · have HV := Lib.hid (show wrap64 ((IntKind.u64.wrap a) % (IntKind.u64.wrap b)) = aluV 5 false a b by rw [aluV_f, wv_5])
    rw [dv_f] at h0
    have HNZ := Lib.hid (show (IntKind.u64.wrap b == 0) = false by rw [beq_eq_false_iff_ne]; omega)
    go_enter Tryz.func39, Tryz.ntmps39
    go_wp2_with fail
    refine (find_3 5 _ HNZ.out 114 missP_5 missS_5 hit_5 _).mono ?_
    rintro e w1 ⟨rfl, hB1⟩
    go_wp2_with fail
    refine (mod_w _ _ (un_rng a) (un_rng b) h0 _).mono ?_
    rintro e w' ⟨rfl, rfl⟩
    go_wp2_with fail
    go_ret2
    refine ⟨?_, hB1⟩
    rw [← HV.out]
    rfl
  · have HV := Lib.hid (show ((IntKind.u64.wrap a % 4294967296) % (IntKind.u64.wrap b % 4294967296)) % 4294967296 = aluV 5 true a b by rw [aluV_t, wv_5, hv1_5, hv2_5])
    rw [dv_t, hv2_5] at h0
    have HNZ := Lib.hid (show (IntKind.u64.wrap b % 4294967296 == 0) = false by rw [beq_eq_false_iff_ne]; omega)
    go_enter Tryz.func39, Tryz.ntmps39
    go_wp2_with fail
    refine (halves_o _ _ _ (un_rng a) (un_rng b) rfl rfl rfl rfl rfl _).mono ?_
    rintro e w' ⟨rfl, rfl⟩
    go_wp2_with fail
    refine (find_3 5 _ HNZ.out 114 missP_5 missS_5 hit_5 _).mono ?_
    rintro e w1 ⟨rfl, hB1⟩
    go_wp2_with fail
    refine (mod_w _ _ (m32_rng _) (m32_rng _) h0 _).mono ?_
    rintro e w' ⟨rfl, rfl⟩
    go_wp2_with fail
    refine (low_any _ 32 (by omega) (mod_rng (m32_rng _) h0) _).mono ?_
    rintro e w' ⟨rfl, rfl⟩
    go_wp2_with fail
    go_ret2
    refine ⟨?_, hB1⟩
    rw [← HV.out]
    rfl

set_option maxHeartbeats 1000000 in
theorem alu_sdiv (n : Bool) (a b : Int) (h0 : 1 ≤ dv 6 n b) (w : World) :
    Calls Tryz.prog 39 #[.int .i64 6, .bool n, .int .i64 a, .int .i64 b] w fun e w' => e = .returned (.tuple #[.int .i64 (aluV 6 n a b), .int .i64 0]) ∧ Below w.heap.size w w' := by
  cases n
  · have HV := Lib.hid (show wrap64 (IntKind.u64.wrap (wrap64 ((wrap64 (IntKind.u64.wrap a)).tdiv (wrap64 (IntKind.u64.wrap b))))) = aluV 6 false a b by rw [aluV_f, wv_6])
    rw [dv_f] at h0
    have HNZ := Lib.hid (show (IntKind.u64.wrap b == 0) = false by rw [beq_eq_false_iff_ne]; omega)
    go_enter Tryz.func39, Tryz.ntmps39
    go_wp2_with fail
    refine (find_3 6 _ HNZ.out 115 missP_6 missS_6 hit_6 _).mono ?_
    rintro e w1 ⟨rfl, hB1⟩
    go_wp2_with fail
    refine (sdiv_w _ _ (un_rng a) (un_rng b) (w64_zero (un_rng b) h0) _).mono ?_
    rintro e w' ⟨rfl, rfl⟩
    go_wp2_with fail
    go_ret2
    refine ⟨?_, hB1⟩
    rw [← HV.out]
    rfl
  · have HV := Lib.hid (show (IntKind.u64.wrap (wrap64 ((wrap64 (sg (IntKind.u64.wrap a))).tdiv (wrap64 (sg (IntKind.u64.wrap b)))))) % 4294967296 = aluV 6 true a b by rw [aluV_t, wv_6, hv1_6, hv2_6])
    rw [dv_t, hv2_6] at h0
    have HNZ := Lib.hid (show (sg (IntKind.u64.wrap b) == 0) = false by rw [beq_eq_false_iff_ne]; omega)
    go_enter Tryz.func39, Tryz.ntmps39
    go_wp2_with fail
    refine (halves_s _ _ _ (un_rng a) (un_rng b) rfl rfl rfl (by decide) _).mono ?_
    rintro e w' ⟨rfl, rfl⟩
    go_wp2_with fail
    refine (find_3 6 _ HNZ.out 115 missP_6 missS_6 hit_6 _).mono ?_
    rintro e w1 ⟨rfl, hB1⟩
    go_wp2_with fail
    refine (sdiv_w _ _ (sg_rng _) (sg_rng _) (w64_zero (sg_rng _) h0) _).mono ?_
    rintro e w' ⟨rfl, rfl⟩
    go_wp2_with fail
    refine (low_any _ 32 (by omega) (un_rng _) _).mono ?_
    rintro e w' ⟨rfl, rfl⟩
    go_wp2_with fail
    go_ret2
    refine ⟨?_, hB1⟩
    rw [← HV.out]
    rfl

set_option maxHeartbeats 1000000 in
theorem alu_smod (n : Bool) (a b : Int) (h0 : 1 ≤ dv 7 n b) (w : World) :
    Calls Tryz.prog 39 #[.int .i64 7, .bool n, .int .i64 a, .int .i64 b] w fun e w' => e = .returned (.tuple #[.int .i64 (aluV 7 n a b), .int .i64 0]) ∧ Below w.heap.size w w' := by
  cases n
  · have HV := Lib.hid (show wrap64 (IntKind.u64.wrap ((wrap64 (IntKind.u64.wrap a)).tmod (wrap64 (IntKind.u64.wrap b)))) = aluV 7 false a b by rw [aluV_f, wv_7])
    rw [dv_f] at h0
    have HNZ := Lib.hid (show (IntKind.u64.wrap b == 0) = false by rw [beq_eq_false_iff_ne]; omega)
    go_enter Tryz.func39, Tryz.ntmps39
    go_wp2_with fail
    refine (find_3 7 _ HNZ.out 116 missP_7 missS_7 hit_7 _).mono ?_
    rintro e w1 ⟨rfl, hB1⟩
    go_wp2_with fail
    refine (smod_w _ _ (un_rng a) (un_rng b) (w64_zero (un_rng b) h0) _).mono ?_
    rintro e w' ⟨rfl, rfl⟩
    go_wp2_with fail
    go_ret2
    refine ⟨?_, hB1⟩
    rw [← HV.out]
    rfl
  · have HV := Lib.hid (show (IntKind.u64.wrap ((wrap64 (sg (IntKind.u64.wrap a))).tmod (wrap64 (sg (IntKind.u64.wrap b))))) % 4294967296 = aluV 7 true a b by rw [aluV_t, wv_7, hv1_7, hv2_7])
    rw [dv_t, hv2_7] at h0
    have HNZ := Lib.hid (show (sg (IntKind.u64.wrap b) == 0) = false by rw [beq_eq_false_iff_ne]; omega)
    go_enter Tryz.func39, Tryz.ntmps39
    go_wp2_with fail
    refine (halves_s _ _ _ (un_rng a) (un_rng b) rfl rfl rfl (by decide) _).mono ?_
    rintro e w' ⟨rfl, rfl⟩
    go_wp2_with fail
    refine (find_3 7 _ HNZ.out 116 missP_7 missS_7 hit_7 _).mono ?_
    rintro e w1 ⟨rfl, hB1⟩
    go_wp2_with fail
    refine (smod_w _ _ (sg_rng _) (sg_rng _) (w64_zero (sg_rng _) h0) _).mono ?_
    rintro e w' ⟨rfl, rfl⟩
    go_wp2_with fail
    refine (low_any _ 32 (by omega) (un_rng _) _).mono ?_
    rintro e w' ⟨rfl, rfl⟩
    go_wp2_with fail
    go_ret2
    refine ⟨?_, hB1⟩
    rw [← HV.out]
    rfl

set_option maxHeartbeats 1000000 in
theorem alu_or (n : Bool) (a b : Int) (w : World) :
    Calls Tryz.prog 39 #[.int .i64 8, .bool n, .int .i64 a, .int .i64 b] w fun e w' => e = .returned (.tuple #[.int .i64 (aluV 8 n a b), .int .i64 0]) ∧ Below w.heap.size w w' := by
  cases n
  · have HV := Lib.hid (show wrap64 (bits BinOp.or IntKind.u64 (IntKind.u64.wrap a) (IntKind.u64.wrap b)) = aluV 8 false a b by rw [aluV_f, wv_8])
    go_enter Tryz.func39, Tryz.ntmps39
    go_wp2_with fail
    refine (find_1 8 _ 105 hit_8 _).mono ?_
    rintro e w1 ⟨rfl, hB1⟩
    go_wp2_with fail
    refine (or_w _ _ (un_rng a) (un_rng b) _).mono ?_
    rintro e w' ⟨rfl, rfl⟩
    go_wp2_with fail
    go_ret2
    refine ⟨?_, hB1⟩
    rw [← HV.out]
    rfl
  · have HV := Lib.hid (show (bits BinOp.or IntKind.u64 (IntKind.u64.wrap a % 4294967296) (IntKind.u64.wrap b % 4294967296)) % 4294967296 = aluV 8 true a b by rw [aluV_t, wv_8, hv1_8, hv2_8])
    go_enter Tryz.func39, Tryz.ntmps39
    go_wp2_with fail
    refine (halves_o _ _ _ (un_rng a) (un_rng b) rfl rfl rfl rfl rfl _).mono ?_
    rintro e w' ⟨rfl, rfl⟩
    go_wp2_with fail
    refine (find_1 8 _ 105 hit_8 _).mono ?_
    rintro e w1 ⟨rfl, hB1⟩
    go_wp2_with fail
    refine (or_w _ _ (m32_rng _) (m32_rng _) _).mono ?_
    rintro e w' ⟨rfl, rfl⟩
    go_wp2_with fail
    refine (low_any _ 32 (by omega) (bits_rng _ _ _) _).mono ?_
    rintro e w' ⟨rfl, rfl⟩
    go_wp2_with fail
    go_ret2
    refine ⟨?_, hB1⟩
    rw [← HV.out]
    rfl

set_option maxHeartbeats 1000000 in
theorem alu_and (n : Bool) (a b : Int) (w : World) :
    Calls Tryz.prog 39 #[.int .i64 9, .bool n, .int .i64 a, .int .i64 b] w fun e w' => e = .returned (.tuple #[.int .i64 (aluV 9 n a b), .int .i64 0]) ∧ Below w.heap.size w w' := by
  cases n
  · have HV := Lib.hid (show wrap64 (bits BinOp.and IntKind.u64 (IntKind.u64.wrap a) (IntKind.u64.wrap b)) = aluV 9 false a b by rw [aluV_f, wv_9])
    go_enter Tryz.func39, Tryz.ntmps39
    go_wp2_with fail
    refine (find_1 9 _ 106 hit_9 _).mono ?_
    rintro e w1 ⟨rfl, hB1⟩
    go_wp2_with fail
    refine (and_w _ _ (un_rng a) (un_rng b) _).mono ?_
    rintro e w' ⟨rfl, rfl⟩
    go_wp2_with fail
    go_ret2
    refine ⟨?_, hB1⟩
    rw [← HV.out]
    rfl
  · have HV := Lib.hid (show (bits BinOp.and IntKind.u64 (IntKind.u64.wrap a % 4294967296) (IntKind.u64.wrap b % 4294967296)) % 4294967296 = aluV 9 true a b by rw [aluV_t, wv_9, hv1_9, hv2_9])
    go_enter Tryz.func39, Tryz.ntmps39
    go_wp2_with fail
    refine (halves_o _ _ _ (un_rng a) (un_rng b) rfl rfl rfl rfl rfl _).mono ?_
    rintro e w' ⟨rfl, rfl⟩
    go_wp2_with fail
    refine (find_1 9 _ 106 hit_9 _).mono ?_
    rintro e w1 ⟨rfl, hB1⟩
    go_wp2_with fail
    refine (and_w _ _ (m32_rng _) (m32_rng _) _).mono ?_
    rintro e w' ⟨rfl, rfl⟩
    go_wp2_with fail
    refine (low_any _ 32 (by omega) (bits_rng _ _ _) _).mono ?_
    rintro e w' ⟨rfl, rfl⟩
    go_wp2_with fail
    go_ret2
    refine ⟨?_, hB1⟩
    rw [← HV.out]
    rfl

set_option maxHeartbeats 1000000 in
theorem alu_xor (n : Bool) (a b : Int) (w : World) :
    Calls Tryz.prog 39 #[.int .i64 10, .bool n, .int .i64 a, .int .i64 b] w fun e w' => e = .returned (.tuple #[.int .i64 (aluV 10 n a b), .int .i64 0]) ∧ Below w.heap.size w w' := by
  cases n
  · have HV := Lib.hid (show wrap64 (bits BinOp.xor IntKind.u64 (IntKind.u64.wrap a) (IntKind.u64.wrap b)) = aluV 10 false a b by rw [aluV_f, wv_10])
    go_enter Tryz.func39, Tryz.ntmps39
    go_wp2_with fail
    refine (find_1 10 _ 107 hit_10 _).mono ?_
    rintro e w1 ⟨rfl, hB1⟩
    go_wp2_with fail
    refine (xor_w _ _ (un_rng a) (un_rng b) _).mono ?_
    rintro e w' ⟨rfl, rfl⟩
    go_wp2_with fail
    go_ret2
    refine ⟨?_, hB1⟩
    rw [← HV.out]
    rfl
  · have HV := Lib.hid (show (bits BinOp.xor IntKind.u64 (IntKind.u64.wrap a % 4294967296) (IntKind.u64.wrap b % 4294967296)) % 4294967296 = aluV 10 true a b by rw [aluV_t, wv_10, hv1_10, hv2_10])
    go_enter Tryz.func39, Tryz.ntmps39
    go_wp2_with fail
    refine (halves_o _ _ _ (un_rng a) (un_rng b) rfl rfl rfl rfl rfl _).mono ?_
    rintro e w' ⟨rfl, rfl⟩
    go_wp2_with fail
    refine (find_1 10 _ 107 hit_10 _).mono ?_
    rintro e w1 ⟨rfl, hB1⟩
    go_wp2_with fail
    refine (xor_w _ _ (m32_rng _) (m32_rng _) _).mono ?_
    rintro e w' ⟨rfl, rfl⟩
    go_wp2_with fail
    refine (low_any _ 32 (by omega) (bits_rng _ _ _) _).mono ?_
    rintro e w' ⟨rfl, rfl⟩
    go_wp2_with fail
    go_ret2
    refine ⟨?_, hB1⟩
    rw [← HV.out]
    rfl

set_option maxHeartbeats 1000000 in
theorem alu_lsh (n : Bool) (a b : Int) (w : World) :
    Calls Tryz.prog 39 #[.int .i64 11, .bool n, .int .i64 a, .int .i64 b] w fun e w' => e = .returned (.tuple #[.int .i64 (aluV 11 n a b), .int .i64 0]) ∧ Below w.heap.size w w' := by
  cases n
  · have HV := Lib.hid (show wrap64 (IntKind.u64.wrap ((IntKind.u64.wrap a) * 2 ^ ((IntKind.u64.wrap b) % 64).toNat)) = aluV 11 false a b by rw [aluV_f, wv_11])
    go_enter Tryz.func39, Tryz.ntmps39
    go_wp2_with fail
    refine (find_2 11 _ 110 missP_11 hit_11 _).mono ?_
    rintro e w1 ⟨rfl, hB1⟩
    go_wp2_with fail
    refine (lsh_w _ _ (un_rng a) (un_rng b) _).mono ?_
    rintro e w' ⟨rfl, rfl⟩
    go_wp2_with fail
    go_ret2
    refine ⟨?_, hB1⟩
    rw [← HV.out]
    rfl
  · have HV := Lib.hid (show (IntKind.u64.wrap ((IntKind.u64.wrap a % 4294967296) * 2 ^ ((IntKind.u64.wrap b % 32) % 64).toNat)) % 4294967296 = aluV 11 true a b by rw [aluV_t, wv_11, hv1_11, hv2_11])
    go_enter Tryz.func39, Tryz.ntmps39
    go_wp2_with fail
    refine (halves_l _ _ _ (un_rng a) (un_rng b) (by decide) _).mono ?_
    rintro e w' ⟨rfl, rfl⟩
    go_wp2_with fail
    refine (find_2 11 _ 110 missP_11 hit_11 _).mono ?_
    rintro e w1 ⟨rfl, hB1⟩
    go_wp2_with fail
    refine (lsh_w _ _ (m32_rng _) (m5_rng _) _).mono ?_
    rintro e w' ⟨rfl, rfl⟩
    go_wp2_with fail
    refine (low_any _ 32 (by omega) (un_rng _) _).mono ?_
    rintro e w' ⟨rfl, rfl⟩
    go_wp2_with fail
    go_ret2
    refine ⟨?_, hB1⟩
    rw [← HV.out]
    rfl

set_option maxHeartbeats 1000000 in
theorem alu_rsh (n : Bool) (a b : Int) (w : World) :
    Calls Tryz.prog 39 #[.int .i64 12, .bool n, .int .i64 a, .int .i64 b] w fun e w' => e = .returned (.tuple #[.int .i64 (aluV 12 n a b), .int .i64 0]) ∧ Below w.heap.size w w' := by
  cases n
  · have HV := Lib.hid (show wrap64 ((IntKind.u64.wrap a) / 2 ^ ((IntKind.u64.wrap b) % 64).toNat) = aluV 12 false a b by rw [aluV_f, wv_12])
    go_enter Tryz.func39, Tryz.ntmps39
    go_wp2_with fail
    refine (find_2 12 _ 111 missP_12 hit_12 _).mono ?_
    rintro e w1 ⟨rfl, hB1⟩
    go_wp2_with fail
    refine (rsh_w _ _ (un_rng a) (un_rng b) _).mono ?_
    rintro e w' ⟨rfl, rfl⟩
    go_wp2_with fail
    go_ret2
    refine ⟨?_, hB1⟩
    rw [← HV.out]
    rfl
  · have HV := Lib.hid (show ((IntKind.u64.wrap a % 4294967296) / 2 ^ ((IntKind.u64.wrap b % 32) % 64).toNat) % 4294967296 = aluV 12 true a b by rw [aluV_t, wv_12, hv1_12, hv2_12])
    go_enter Tryz.func39, Tryz.ntmps39
    go_wp2_with fail
    refine (halves_l _ _ _ (un_rng a) (un_rng b) (by decide) _).mono ?_
    rintro e w' ⟨rfl, rfl⟩
    go_wp2_with fail
    refine (find_2 12 _ 111 missP_12 hit_12 _).mono ?_
    rintro e w1 ⟨rfl, hB1⟩
    go_wp2_with fail
    refine (rsh_w _ _ (m32_rng _) (m5_rng _) _).mono ?_
    rintro e w' ⟨rfl, rfl⟩
    go_wp2_with fail
    refine (low_any _ 32 (by omega) (shr_rng (m32_rng _) _) _).mono ?_
    rintro e w' ⟨rfl, rfl⟩
    go_wp2_with fail
    go_ret2
    refine ⟨?_, hB1⟩
    rw [← HV.out]
    rfl

set_option maxHeartbeats 1000000 in
theorem alu_arsh (n : Bool) (a b : Int) (w : World) :
    Calls Tryz.prog 39 #[.int .i64 13, .bool n, .int .i64 a, .int .i64 b] w fun e w' => e = .returned (.tuple #[.int .i64 (aluV 13 n a b), .int .i64 0]) ∧ Below w.heap.size w w' := by
  cases n
  · have HV := Lib.hid (show wrap64 (IntKind.u64.wrap (wrap64 (IntKind.u64.wrap a) / 2 ^ ((IntKind.u64.wrap b) % 64).toNat)) = aluV 13 false a b by rw [aluV_f, wv_13])
    go_enter Tryz.func39, Tryz.ntmps39
    go_wp2_with fail
    refine (find_2 13 _ 112 missP_13 hit_13 _).mono ?_
    rintro e w1 ⟨rfl, hB1⟩
    go_wp2_with fail
    refine (arsh_w _ _ (un_rng a) (un_rng b) _).mono ?_
    rintro e w' ⟨rfl, rfl⟩
    go_wp2_with fail
    go_ret2
    refine ⟨?_, hB1⟩
    rw [← HV.out]
    rfl
  · have HV := Lib.hid (show (IntKind.u64.wrap (wrap64 (sg (IntKind.u64.wrap a)) / 2 ^ ((IntKind.u64.wrap b % 32) % 64).toNat)) % 4294967296 = aluV 13 true a b by rw [aluV_t, wv_13, hv1_13, hv2_13])
    go_enter Tryz.func39, Tryz.ntmps39
    go_wp2_with fail
    refine (halves_a _ _ _ (un_rng a) (un_rng b) rfl rfl rfl _).mono ?_
    rintro e w' ⟨rfl, rfl⟩
    go_wp2_with fail
    refine (find_2 13 _ 112 missP_13 hit_13 _).mono ?_
    rintro e w1 ⟨rfl, hB1⟩
    go_wp2_with fail
    refine (arsh_w _ _ (sg_rng _) (m5_rng _) _).mono ?_
    rintro e w' ⟨rfl, rfl⟩
    go_wp2_with fail
    refine (low_any _ 32 (by omega) (un_rng _) _).mono ?_
    rintro e w' ⟨rfl, rfl⟩
    go_wp2_with fail
    go_ret2
    refine ⟨?_, hB1⟩
    rw [← HV.out]
    rfl

set_option maxHeartbeats 1000000 in
theorem alu_neg (n : Bool) (a b : Int) (w : World) :
    Calls Tryz.prog 39 #[.int .i64 14, .bool n, .int .i64 a, .int .i64 b] w fun e w' => e = .returned (.tuple #[.int .i64 (aluV 14 n a b), .int .i64 0]) ∧ Below w.heap.size w w' := by
  cases n
  · have HV := Lib.hid (show wrap64 (IntKind.u64.wrap (-(IntKind.u64.wrap a))) = aluV 14 false a b by rw [aluV_f, wv_14])
    go_enter Tryz.func39, Tryz.ntmps39
    go_wp2_with fail
    refine (find_1 14 _ 108 hit_14 _).mono ?_
    rintro e w1 ⟨rfl, hB1⟩
    go_wp2_with fail
    refine (neg_w _ _ (un_rng a) (un_rng b) _).mono ?_
    rintro e w' ⟨rfl, rfl⟩
    go_wp2_with fail
    go_ret2
    refine ⟨?_, hB1⟩
    rw [← HV.out]
    rfl
  · have HV := Lib.hid (show (IntKind.u64.wrap (-(IntKind.u64.wrap a % 4294967296))) % 4294967296 = aluV 14 true a b by rw [aluV_t, wv_14, hv1_14])
    go_enter Tryz.func39, Tryz.ntmps39
    go_wp2_with fail
    refine (halves_o _ _ _ (un_rng a) (un_rng b) rfl rfl rfl rfl rfl _).mono ?_
    rintro e w' ⟨rfl, rfl⟩
    go_wp2_with fail
    refine (find_1 14 _ 108 hit_14 _).mono ?_
    rintro e w1 ⟨rfl, hB1⟩
    go_wp2_with fail
    refine (neg_w _ _ (m32_rng _) (m32_rng _) _).mono ?_
    rintro e w' ⟨rfl, rfl⟩
    go_wp2_with fail
    refine (low_any _ 32 (by omega) (un_rng _) _).mono ?_
    rintro e w' ⟨rfl, rfl⟩
    go_wp2_with fail
    go_ret2
    refine ⟨?_, hB1⟩
    rw [← HV.out]
    rfl

set_option maxHeartbeats 1000000 in
theorem alu_mov (n : Bool) (a b : Int) (w : World) :
    Calls Tryz.prog 39 #[.int .i64 15, .bool n, .int .i64 a, .int .i64 b] w fun e w' => e = .returned (.tuple #[.int .i64 (aluV 15 n a b), .int .i64 0]) ∧ Below w.heap.size w w' := by
  cases n
  · have HV := Lib.hid (show wrap64 ((IntKind.u64.wrap b)) = aluV 15 false a b by rw [aluV_f, wv_15])
    go_enter Tryz.func39, Tryz.ntmps39
    go_wp2_with fail
    refine (find_1 15 _ 109 hit_15 _).mono ?_
    rintro e w1 ⟨rfl, hB1⟩
    go_wp2_with fail
    refine (mov_w _ _ (un_rng a) (un_rng b) _).mono ?_
    rintro e w' ⟨rfl, rfl⟩
    go_wp2_with fail
    go_ret2
    refine ⟨?_, hB1⟩
    rw [← HV.out]
    rfl
  · have HV := Lib.hid (show IntKind.u64.wrap b % 4294967296 = aluV 15 true a b by rw [aluV_t, wv_15, hv2_15, Int.emod_emod])
    go_enter Tryz.func39, Tryz.ntmps39
    go_wp2_with fail
    refine (halves_o _ _ _ (un_rng a) (un_rng b) rfl rfl rfl rfl rfl _).mono ?_
    rintro e w' ⟨rfl, rfl⟩
    go_wp2_with fail
    refine (find_1 15 _ 109 hit_15 _).mono ?_
    rintro e w1 ⟨rfl, hB1⟩
    go_wp2_with fail
    refine (mov_w _ _ (m32_rng _) (m32_rng _) _).mono ?_
    rintro e w' ⟨rfl, rfl⟩
    go_wp2_with fail
    refine (low_any _ 32 (by omega) (m32_rng _) _).mono ?_
    rintro e w' ⟨rfl, rfl⟩
    go_wp2_with fail
    go_ret2
    refine ⟨?_, hB1⟩
    rw [← HV.out]
    rfl

end Go.Proofs.YtjhgjplhhhgfcaaGreat
