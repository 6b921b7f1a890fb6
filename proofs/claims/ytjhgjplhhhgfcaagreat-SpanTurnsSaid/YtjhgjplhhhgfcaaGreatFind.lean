/- find: which operation a number names; halves: the low halves of two words. -/
import Derived.Test.YtjhgjplhhhgfcaaGreatJoin
namespace Go.Proofs.YtjhgjplhhhgfcaaGreat
open Go.ChangeShapes Go.WideShapes Go.ChangeAt Go.RowKit
open Bits
set_option linter.unusedVariables false

def Hits (es : Array MapEntry) (k : Int) (f : FuncId) : Prop := ∃ i, Instr.findNow (.int .i64) (.int .i64 k) es.toList 0 = some (some (i, .func (.func f) #[] #[]))
def Misses (es : Array MapEntry) (k : Int) : Prop := Instr.findNow (.int .i64) (.int .i64 k) es.toList 0 = some none

set_option maxHeartbeats 1000000 in
theorem find_1 (op : Int) (y : Int) (f : FuncId) (hf : Hits plainEs op f) (w : World) :
    Calls Tryz.prog 67 #[.int .i64 op, .int .u64 y] w fun e w' => e = .returned (.tuple #[.func (.func f) #[] #[], .int .i64 0]) ∧ Below w.heap.size w w' := by
  obtain ⟨i, hf⟩ := hf
  go_enter Tryz.func67, Tryz.ntmps67
  go_wp2_with fail
  refine (plain_any' _).mono ?_
  rintro e w1 ⟨rfl, hm1, hB1⟩
  have hl1 := run_look _ _ _ _ hm1 op i _ hf
  have hC1 : Below w.heap.size w w1 := hB1
  clear hm1 hB1
  go_wp2_with fail
  go_ret2
  exact ⟨rfl, hC1⟩

set_option maxHeartbeats 1000000 in
theorem find_2 (op : Int) (y : Int) (f : FuncId) (h1 : Misses plainEs op) (hf : Hits shiftsEs op f) (w : World) :
    Calls Tryz.prog 67 #[.int .i64 op, .int .u64 y] w fun e w' => e = .returned (.tuple #[.func (.func f) #[] #[], .int .i64 0]) ∧ Below w.heap.size w w' := by
  obtain ⟨i, hf⟩ := hf
  go_enter Tryz.func67, Tryz.ntmps67
  go_wp2_with fail
  refine (plain_any' _).mono ?_
  rintro e w1 ⟨rfl, hm1, hB1⟩
  have hl1 := run_look_none _ _ _ _ hm1 op h1
  have hC1 : Below w.heap.size w w1 := hB1
  clear hm1 hB1
  go_wp2_with fail
  refine (shifts_any' _).mono ?_
  rintro e w2 ⟨rfl, hm2, hB2⟩
  have hl2 := run_look _ _ _ _ hm2 op i _ hf
  have hC2 : Below w.heap.size w w2 := hC1.trans (hB2.mono hC1.size)
  clear hm2 hB2
  go_wp2_with fail
  go_ret2
  exact ⟨rfl, hC2⟩

set_option maxHeartbeats 1000000 in
theorem find_3 (op : Int) (y : Int) (hy : (y == 0) = false) (f : FuncId) (h1 : Misses plainEs op) (h2 : Misses shiftsEs op) (hf : Hits divisionsEs op f) (w : World) :
    Calls Tryz.prog 67 #[.int .i64 op, .int .u64 y] w fun e w' => e = .returned (.tuple #[.func (.func f) #[] #[], .int .i64 0]) ∧ Below w.heap.size w w' := by
  obtain ⟨i, hf⟩ := hf
  go_enter Tryz.func67, Tryz.ntmps67
  go_wp2_with fail
  refine (plain_any' _).mono ?_
  rintro e w1 ⟨rfl, hm1, hB1⟩
  have hl1 := run_look_none _ _ _ _ hm1 op h1
  have hC1 : Below w.heap.size w w1 := hB1
  clear hm1 hB1
  go_wp2_with fail
  refine (shifts_any' _).mono ?_
  rintro e w2 ⟨rfl, hm2, hB2⟩
  have hl2 := run_look_none _ _ _ _ hm2 op h2
  have hC2 : Below w.heap.size w w2 := hC1.trans (hB2.mono hC1.size)
  clear hm2 hB2
  go_wp2_with fail
  refine (divisions_any' _).mono ?_
  rintro e w3 ⟨rfl, hm3, hB3⟩
  have hl3 := run_look _ _ _ _ hm3 op i _ hf
  have hC3 : Below w.heap.size w w3 := hC2.trans (hB3.mono hC2.size)
  clear hm3 hB3
  go_wp2_with fail
  go_ret2
  exact ⟨rfl, hC3⟩

set_option maxHeartbeats 1000000 in
theorem find_zero (op : Int) (y : Int) (hy : (y == 0) = true) (f : FuncId) (h1 : Misses plainEs op) (h2 : Misses shiftsEs op) (hf : Hits divisionsEs op f) (w : World) :
    Calls Tryz.prog 67 #[.int .i64 op, .int .u64 y] w fun e w' => e = .returned (.tuple #[.nilFunc, .int .i64 84]) ∧ Below w.heap.size w w' := by
  obtain ⟨i, hf⟩ := hf
  go_enter Tryz.func67, Tryz.ntmps67
  go_wp2_with fail
  refine (plain_any' _).mono ?_
  rintro e w1 ⟨rfl, hm1, hB1⟩
  have hl1 := run_look_none _ _ _ _ hm1 op h1
  have hC1 : Below w.heap.size w w1 := hB1
  clear hm1 hB1
  go_wp2_with fail
  refine (shifts_any' _).mono ?_
  rintro e w2 ⟨rfl, hm2, hB2⟩
  have hl2 := run_look_none _ _ _ _ hm2 op h2
  have hC2 : Below w.heap.size w w2 := hC1.trans (hB2.mono hC1.size)
  clear hm2 hB2
  go_wp2_with fail
  refine (divisions_any' _).mono ?_
  rintro e w3 ⟨rfl, hm3, hB3⟩
  have hl3 := run_look _ _ _ _ hm3 op i _ hf
  have hC3 : Below w.heap.size w w3 := hC2.trans (hB3.mono hC2.size)
  clear hm3 hB3
  go_wp2_with fail
  go_ret2
  exact ⟨rfl, hC3⟩

set_option maxHeartbeats 1000000 in
theorem find_none (op : Int) (y : Int) (h1 : Misses plainEs op) (h2 : Misses shiftsEs op) (h3 : Misses divisionsEs op) (w : World) :
    Calls Tryz.prog 67 #[.int .i64 op, .int .u64 y] w fun e w' => e = .returned (.tuple #[.nilFunc, .int .i64 1]) ∧ Below w.heap.size w w' := by
  go_enter Tryz.func67, Tryz.ntmps67
  go_wp2_with fail
  refine (plain_any' _).mono ?_
  rintro e w1 ⟨rfl, hm1, hB1⟩
  have hl1 := run_look_none _ _ _ _ hm1 op h1
  have hC1 : Below w.heap.size w w1 := hB1
  clear hm1 hB1
  go_wp2_with fail
  refine (shifts_any' _).mono ?_
  rintro e w2 ⟨rfl, hm2, hB2⟩
  have hl2 := run_look_none _ _ _ _ hm2 op h2
  have hC2 : Below w.heap.size w w2 := hC1.trans (hB2.mono hC1.size)
  clear hm2 hB2
  go_wp2_with fail
  refine (divisions_any' _).mono ?_
  rintro e w3 ⟨rfl, hm3, hB3⟩
  have hl3 := run_look_none _ _ _ _ hm3 op h3
  have hC3 : Below w.heap.size w w3 := hC2.trans (hB3.mono hC2.size)
  clear hm3 hB3
  go_wp2_with fail
  go_ret2
  exact ⟨rfl, hC3⟩


/-- the low half with its sign, as a word -/
def sg (x : Int) : Int := IntKind.u64.wrap (sx 32 x)

set_option maxHeartbeats 1000000 in
theorem halves_l (op x y : Int) (hx : 0 ≤ x ∧ x < 18446744073709551616) (hy : 0 ≤ y ∧ y < 18446744073709551616) (t : (op == 11) = true ∨ (op == 11) = false ∧ (op == 12) = true) (w : World) :
    Calls Tryz.prog 66 #[.int .i64 op, .int .u64 x, .int .u64 y] w fun e w' => e = .returned (.tuple #[.int .u64 (x % 4294967296), .int .u64 (y % 32)]) ∧ w = w' := by
  have L32 := fun (x : Int) (hx : 0 ≤ x ∧ x < 18446744073709551616) (w : World) => low_any x 32 (by omega) hx w
  have L5 := fun (x : Int) (hx : 0 ≤ x ∧ x < 18446744073709551616) (w : World) => low_any x 5 (by omega) hx w
  have S32 := fun (x : Int) (w : World) => signed_w x 32 (by omega) (by omega) w
  have HL := Lib.hid L32
  have H5 := Lib.hid L5
  have HS := Lib.hid S32
  clear L32 L5 S32
  rcases t with t | ⟨t, t'⟩
  all_goals
    go_enter Tryz.func66, Tryz.ntmps66
    go_wp2_with fail
    refine (HL.out _ hx _).mono ?_
    rintro e w' ⟨rfl, rfl⟩
    go_wp2_with fail
    refine (H5.out _ hy _).mono ?_
    rintro e w' ⟨rfl, rfl⟩
    go_wp2_with fail
    go_ret2
    exact ⟨rfl, rfl⟩

set_option maxHeartbeats 1000000 in
theorem halves_a (op x y : Int) (hx : 0 ≤ x ∧ x < 18446744073709551616) (hy : 0 ≤ y ∧ y < 18446744073709551616) (t1 : (op == 11) = false) (t2 : (op == 12) = false) (t3 : (op == 13) = true) (w : World) :
    Calls Tryz.prog 66 #[.int .i64 op, .int .u64 x, .int .u64 y] w fun e w' => e = .returned (.tuple #[.int .u64 (sg x), .int .u64 (y % 32)]) ∧ w = w' := by
  have L32 := fun (x : Int) (hx : 0 ≤ x ∧ x < 18446744073709551616) (w : World) => low_any x 32 (by omega) hx w
  have L5 := fun (x : Int) (hx : 0 ≤ x ∧ x < 18446744073709551616) (w : World) => low_any x 5 (by omega) hx w
  have S32 := fun (x : Int) (w : World) => signed_w x 32 (by omega) (by omega) w
  have HL := Lib.hid L32
  have H5 := Lib.hid L5
  have HS := Lib.hid S32
  clear L32 L5 S32
  go_enter Tryz.func66, Tryz.ntmps66

  go_wp2_with fail
  refine (HS.out _ _).mono ?_
  rintro e w' ⟨rfl, rfl⟩
  go_wp2_with fail
  refine (H5.out _ hy _).mono ?_
  rintro e w' ⟨rfl, rfl⟩
  go_wp2_with fail
  go_ret2
  exact ⟨rfl, rfl⟩

set_option maxHeartbeats 1000000 in
theorem halves_s (op x y : Int) (hx : 0 ≤ x ∧ x < 18446744073709551616) (hy : 0 ≤ y ∧ y < 18446744073709551616) (t1 : (op == 11) = false) (t2 : (op == 12) = false) (t3 : (op == 13) = false) (t : (op == 6) = true ∨ (op == 6) = false ∧ (op == 7) = true) (w : World) :
    Calls Tryz.prog 66 #[.int .i64 op, .int .u64 x, .int .u64 y] w fun e w' => e = .returned (.tuple #[.int .u64 (sg x), .int .u64 (sg y)]) ∧ w = w' := by
  have L32 := fun (x : Int) (hx : 0 ≤ x ∧ x < 18446744073709551616) (w : World) => low_any x 32 (by omega) hx w
  have L5 := fun (x : Int) (hx : 0 ≤ x ∧ x < 18446744073709551616) (w : World) => low_any x 5 (by omega) hx w
  have S32 := fun (x : Int) (w : World) => signed_w x 32 (by omega) (by omega) w
  have HL := Lib.hid L32
  have H5 := Lib.hid L5
  have HS := Lib.hid S32
  clear L32 L5 S32
  rcases t with t | ⟨t, t'⟩
  all_goals
    go_enter Tryz.func66, Tryz.ntmps66
    go_wp2_with fail
    refine (HS.out _ _).mono ?_
    rintro e w' ⟨rfl, rfl⟩
    go_wp2_with fail
    refine (HS.out _ _).mono ?_
    rintro e w' ⟨rfl, rfl⟩
    go_wp2_with fail
    go_ret2
    exact ⟨rfl, rfl⟩

set_option maxHeartbeats 1000000 in
theorem halves_o (op x y : Int) (hx : 0 ≤ x ∧ x < 18446744073709551616) (hy : 0 ≤ y ∧ y < 18446744073709551616) (t1 : (op == 11) = false) (t2 : (op == 12) = false) (t3 : (op == 13) = false) (t4 : (op == 6) = false) (t5 : (op == 7) = false) (w : World) :
    Calls Tryz.prog 66 #[.int .i64 op, .int .u64 x, .int .u64 y] w fun e w' => e = .returned (.tuple #[.int .u64 (x % 4294967296), .int .u64 (y % 4294967296)]) ∧ w = w' := by
  have L32 := fun (x : Int) (hx : 0 ≤ x ∧ x < 18446744073709551616) (w : World) => low_any x 32 (by omega) hx w
  have L5 := fun (x : Int) (hx : 0 ≤ x ∧ x < 18446744073709551616) (w : World) => low_any x 5 (by omega) hx w
  have S32 := fun (x : Int) (w : World) => signed_w x 32 (by omega) (by omega) w
  have HL := Lib.hid L32
  have H5 := Lib.hid L5
  have HS := Lib.hid S32
  clear L32 L5 S32
  go_enter Tryz.func66, Tryz.ntmps66

  go_wp2_with fail
  refine (HL.out _ hx _).mono ?_
  rintro e w' ⟨rfl, rfl⟩
  go_wp2_with fail
  refine (HL.out _ hy _).mono ?_
  rintro e w' ⟨rfl, rfl⟩
  go_wp2_with fail
  go_ret2
  exact ⟨rfl, rfl⟩

end Go.Proofs.YtjhgjplhhhgfcaaGreat
