/- SpanNames: its walk. (Written by gen_spnames.py.) -/
import Derived.Test.YtjhgjplhhhgfcaaSpV
import Derived.Test.YtjhgjplhhhgfcaaSpY
import Derived.Test.YtjhgjplhhhgfcaaSpF
import Derived.Deep.RegionHeld3
import Derived.KernelRfl
namespace Go.Proofs.Ytjhgjplhhhgfcaa
open Go.ChangeShapes Go.WideShapes Go.ChangeAt Go.RowKit
open Spn Spc
set_option linter.unusedVariables false
set_option maxRecDepth 100000
theorem has_0 (w : World) : Calls Try.prog 13 #[.agg #[.int .i64 3, .int .i64 1, .bool false, .bool false], .int .i64 9] w (RetB w true) := by
  have h := has_any 3 1 false false 9 (-9223372036854775808) 9223372036854775807 (by kernel_rfl) w
  rwa [show withinB ⟨9, 9⟩ ⟨(-9223372036854775808), 9223372036854775807⟩ = true by kernel_rfl] at h

theorem has_1 (w : World) : Calls Try.prog 13 #[.agg #[.int .i64 0, .int .i64 3, .bool true, .bool false], .int .i64 (-9223372036854775808)] w (RetB w true) := by
  have h := has_any 0 3 true false (-9223372036854775808) (-9223372036854775808) 3 (by kernel_rfl) w
  rwa [show withinB ⟨(-9223372036854775808), (-9223372036854775808)⟩ ⟨(-9223372036854775808), 3⟩ = true by kernel_rfl] at h

theorem has_2 (w : World) : Calls Try.prog 13 #[.agg #[.int .i64 1, .int .i64 3, .bool false, .bool false], .int .i64 4] w (RetB w false) := by
  have h := has_any 1 3 false false 4 1 3 (by kernel_rfl) w
  rwa [show withinB ⟨4, 4⟩ ⟨1, 3⟩ = false by kernel_rfl] at h

theorem nz_3 (w : World) : Calls Try.prog 15 #[.bool false, .agg #[.int .i64 1, .int .i64 9, .bool false, .bool false]] w (RetB w true) := by
  have h := notzero_any false 1 9 false false w
  rwa [show nzX false (rd ⟨1, 9, false, false⟩) = true by kernel_rfl] at h

theorem nz_4 (w : World) : Calls Try.prog 15 #[.bool true, .agg #[.int .i64 4294967296, .int .i64 4294967297, .bool false, .bool false]] w (RetB w false) := by
  have h := notzero_any true 4294967296 4294967297 false false w
  rwa [show nzX true (rd ⟨4294967296, 4294967297, false, false⟩) = false by kernel_rfl] at h

theorem nz_5 (w : World) : Calls Try.prog 15 #[.bool true, .agg #[.int .i64 (-9), .int .i64 (-1), .bool false, .bool false]] w (RetB w true) := by
  have h := notzero_any true (-9) (-1) false false w
  rwa [show nzX true (rd ⟨(-9), (-1), false, false⟩) = true by kernel_rfl] at h

/-- the law's memory: its full span -/
def NamW (w0 w : World) : Prop := Blk w w0.heap.size 23 #[.int .i64 0, .int .i64 0, .bool true, .bool true] ∧ Below w0.heap.size w0 w
theorem NamW.up {w0 w w' : World} (h : NamW w0 w) (hb : Below w.heap.size w w') : NamW w0 w' := ⟨h.1.up hb, nx h.2 hb⟩
theorem NamW.drew {w0 w : World} (h : NamW w0 w) : NamW w0 w.drew := ⟨h.1.drew, h.2.drew⟩
theorem namS {w0 w : World} (h : NamW w0 w) : w.cell? ⟨w0.heap.size, 0, none⟩ = some (.int .i64 0) ∧ w.cell? ⟨w0.heap.size, 1, none⟩ = some (.int .i64 0) ∧ w.cell? ⟨w0.heap.size, 2, none⟩ = some (.bool true) ∧ w.cell? ⟨w0.heap.size, 3, none⟩ = some (.bool true) ∧ NamW w0 w := by
  obtain ⟨⟨a0, a1, a2, a3⟩, -, -⟩ := cells4 h.1
  exact ⟨a0, a1, a2, a3, h⟩
set_option maxHeartbeats 8000000 in
theorem spanNames_walk (w : World) : Calls Try.prog 3 #[] w fun e w' => e = .returned (.bool true) ∧ Below w.heap.size w w' := by
  have H0 := Lib.hid (fun w => awake_any w)
  have H1 := Lib.hid (fun w => full_any w)
  have H2 := Lib.hid (fun w => of_any 1 5 1 5 false false (by kernel_rfl) w)
  have H3 := Lib.hid (fun w => of_any 5 1 0 0 true true (by kernel_rfl) w)
  have H4 := Lib.hid (fun w => of_any (-4611686018427387904) 3 0 3 true false (by kernel_rfl) w)
  have H5 := Lib.hid (fun w => of_any 4611686018427387904 4611686018427387904 1152921504606846976 0 false true (by kernel_rfl) w)
  have H6 := Lib.hid (fun w => has_0 w)
  have H7 := Lib.hid (fun w => has_1 w)
  have H8 := Lib.hid (fun w => has_2 w)
  have H9 := Lib.hid (fun w => Low_any (-3) (-1) false false 4294967293 4294967295 false false (by kernel_rfl) w)
  have H10 := Lib.hid (fun w => Low_any (-1) 1 false false 0 4294967295 false false (by kernel_rfl) w)
  have H11 := Lib.hid (fun w => nz_3 w)
  have H12 := Lib.hid (fun w => nz_4 w)
  have H13 := Lib.hid (fun w => nz_5 w)
  have H14 := Lib.hid (fun w => Alu_any 1 0 5 true false 3 3 false false false 0 8 true false (by kernel_rfl) w)
  have H15 := Lib.hid (fun w => Alu_any 5 0 0 true true 1 8 false false false 0 7 false false (by kernel_rfl) w)
  have H16 := Lib.hid (fun w => Alu_any 13 (-8) 8 false false 1 2 false false false (-4) 4 false false (by kernel_rfl) w)
  have H17 := Lib.hid (fun w => Alu_any 2 0 2 false false 1 1 false false true 0 4294967295 false false (by kernel_rfl) w)
  have H18 := Lib.hid (fun w => bytes_any 2 false 0 65535 false false (by kernel_rfl) w)
  have H19 := Lib.hid (fun w => bytes_any 3 false 0 0 true true (by kernel_rfl) w)
  have H20 := Lib.hid (fun w => Swap_any 16 true 1 1 false false 256 256 false false (by kernel_rfl) w)
  have H21 := Lib.hid (fun w => Extend_any 8 true (-2) (-1) false false 4294967294 4294967295 false false (by kernel_rfl) w)
  have W0 := Lib.hid (show NamW w (w.alloc (.cells #[.int .i64 0, .int .i64 0, .bool true, .bool true] 23)) from ⟨Blk.new w _ _, below_box' w _⟩)
  go_enter Try.func3, Try.ntmps3
  go_wp2_with fail
  have W0d := Lib.hid W0.out.drew
  clear W0
  go_region_held3 (fun w' => w'.cell? ⟨w.heap.size, 0, none⟩ = some (.int .i64 0) ∧ w'.cell? ⟨w.heap.size, 1, none⟩ = some (.int .i64 0) ∧ w'.cell? ⟨w.heap.size, 2, none⟩ = some (.bool true) ∧ w'.cell? ⟨w.heap.size, 3, none⟩ = some (.bool true) ∧ NamW w w')
    (first | with_reducible exact namS W0d.out | with_reducible exact namS W1.out | with_reducible exact namS W2.out | with_reducible exact namS W3.out | with_reducible exact namS W4.out | with_reducible exact namS W5.out | with_reducible exact namS W6.out)
    (first | (go_at_call 10; (with_reducible refine (H0.out _).mono ?_); rintro e w1 ⟨rfl, hB⟩; have W1 := Lib.hid (W0d.out.up hB); clear hB)
           | (go_at_call 11; (with_reducible refine (H1.out _).mono ?_); rintro e w2 ⟨rfl, hB⟩; have W2 := Lib.hid (W1.out.up hB); clear hB)
           | (go_at_call 12; (with_reducible refine (H2.out _).mono ?_); rintro e w3 ⟨rfl, hB⟩; have W3 := Lib.hid (W2.out.up hB); clear hB)
           | (go_at_call 12; (with_reducible refine (H3.out _).mono ?_); rintro e w4 ⟨rfl, hB⟩; have W4 := Lib.hid (W3.out.up hB); clear hB)
           | (go_at_call 12; (with_reducible refine (H4.out _).mono ?_); rintro e w5 ⟨rfl, hB⟩; have W5 := Lib.hid (W4.out.up hB); clear hB)
           | (go_at_call 12; (with_reducible refine (H5.out _).mono ?_); rintro e w6 ⟨rfl, hB⟩; have W6 := Lib.hid (W5.out.up hB); clear hB))
  rename_i hh
  obtain ⟨-, -, -, -, hW⟩ := hh
  have V6 := Lib.hid hW
  clear hW
  go_wp2_with fail
  refine (H6.out _).mono ?_
  rintro e w7 ⟨rfl, hB⟩
  have W7 := Lib.hid (V6.out.up hB)
  clear hB
  go_wp2_with fail
  refine (H7.out _).mono ?_
  rintro e w8 ⟨rfl, hB⟩
  have W8 := Lib.hid (W7.out.up hB)
  clear hB
  go_wp2_with fail
  refine (H8.out _).mono ?_
  rintro e w9 ⟨rfl, hB⟩
  have W9 := Lib.hid (W8.out.up hB)
  clear hB
  go_wp2_with fail
  refine (H9.out _).mono ?_
  rintro e w10 ⟨rfl, hB⟩
  have W10 := Lib.hid (W9.out.up hB)
  clear hB
  go_wp2_with fail
  refine (H10.out _).mono ?_
  rintro e w11 ⟨rfl, hB⟩
  have W11 := Lib.hid (W10.out.up hB)
  clear hB
  go_wp2_with fail
  refine (H11.out _).mono ?_
  rintro e w12 ⟨rfl, hB⟩
  have W12 := Lib.hid (W11.out.up hB)
  clear hB
  go_wp2_with fail
  refine (H12.out _).mono ?_
  rintro e w13 ⟨rfl, hB⟩
  have W13 := Lib.hid (W12.out.up hB)
  clear hB
  go_wp2_with fail
  refine (H13.out _).mono ?_
  rintro e w14 ⟨rfl, hB⟩
  have W14 := Lib.hid (W13.out.up hB)
  clear hB
  go_wp2_with fail
  refine (H14.out _).mono ?_
  rintro e w15 ⟨rfl, hB⟩
  have W15 := Lib.hid (W14.out.up hB)
  clear hB
  obtain ⟨a0, a1, a2, a3, -⟩ := namS W15.out
  go_wp2_with fail
  refine (H15.out _).mono ?_
  rintro e w16 ⟨rfl, hB⟩
  have W16 := Lib.hid (W15.out.up hB)
  clear hB a0 a1 a2 a3
  go_wp2_with fail
  refine (H16.out _).mono ?_
  rintro e w17 ⟨rfl, hB⟩
  have W17 := Lib.hid (W16.out.up hB)
  clear hB
  go_wp2_with fail
  have W17d := Lib.hid W17.out.drew
  go_region_held3 (fun w' => w'.cell? ⟨w.heap.size, 0, none⟩ = some (.int .i64 0) ∧ w'.cell? ⟨w.heap.size, 1, none⟩ = some (.int .i64 0) ∧ w'.cell? ⟨w.heap.size, 2, none⟩ = some (.bool true) ∧ w'.cell? ⟨w.heap.size, 3, none⟩ = some (.bool true) ∧ NamW w w')
    (first | with_reducible exact namS W17d.out | with_reducible exact namS W18.out | with_reducible exact namS W19.out | with_reducible exact namS W20.out)
    (first | (go_at_call 16; (with_reducible refine (H17.out _).mono ?_); rintro e w18 ⟨rfl, hB⟩; have W18 := Lib.hid (W17d.out.up hB); clear hB)
           | (go_at_call 17; (with_reducible refine (H18.out _).mono ?_); rintro e w19 ⟨rfl, hB⟩; have W19 := Lib.hid (W18.out.up hB); clear hB)
           | (go_at_call 17; (with_reducible refine (H19.out _).mono ?_); rintro e w20 ⟨rfl, hB⟩; have W20 := Lib.hid (W19.out.up hB); clear hB))
  rename_i hh
  obtain ⟨-, -, -, -, hW⟩ := hh
  have V20 := Lib.hid hW
  clear hW
  go_wp2_with fail
  refine (H20.out _).mono ?_
  rintro e w21 ⟨rfl, hB⟩
  have W21 := Lib.hid (V20.out.up hB)
  clear hB
  go_wp2_with fail
  refine (H21.out _).mono ?_
  rintro e w22 ⟨rfl, hB⟩
  have W22 := Lib.hid (W21.out.up hB)
  clear hB
  go_wp2_with fail
  go_ret
  exact ⟨rfl, W22.out.2⟩
end Go.Proofs.Ytjhgjplhhhgfcaa
