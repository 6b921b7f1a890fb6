/- SpanMakes: its walk. (Written by gen_spmakes.py.) -/
import Derived.Test.YtjhgjplhhhgfcaaSpWi
namespace Go.Proofs.Ytjhgjplhhhgfcaa
open Go.ChangeShapes Go.WideShapes Go.ChangeAt Go.RowKit
open Spn Spc
set_option linter.unusedVariables false
set_option maxRecDepth 100000
/-- the law's memory: its span -/
def MkW (w0 : World) (lo hi : Int) (nl nh : Bool) (w : World) : Prop := Blk w w0.heap.size 23 #[.int .i64 lo, .int .i64 hi, .bool nl, .bool nh] ∧ Below w0.heap.size w0 w
theorem MkW.up {w0 w w' : World} {lo hi : Int} {nl nh : Bool} (f : MkW w0 lo hi nl nh w) (hb : Below w.heap.size w w') : MkW w0 lo hi nl nh w' := ⟨f.1.up hb, nx f.2 hb⟩
theorem MkW.drew {w0 w : World} {lo hi : Int} {nl nh : Bool} (f : MkW w0 lo hi nl nh w) : MkW w0 lo hi nl nh w.drew := ⟨f.1.drew, f.2.drew⟩
theorem mkS {w0 w : World} {lo hi : Int} {nl nh : Bool} (f : MkW w0 lo hi nl nh w) : w.cell? ⟨w0.heap.size, 0, none⟩ = some (.int .i64 lo) ∧ w.cell? ⟨w0.heap.size, 1, none⟩ = some (.int .i64 hi) ∧ w.cell? ⟨w0.heap.size, 2, none⟩ = some (.bool nl) ∧ w.cell? ⟨w0.heap.size, 3, none⟩ = some (.bool nh) ∧ MkW w0 lo hi nl nh w := by
  obtain ⟨⟨a0, a1, a2, a3⟩, -, -⟩ := cells4 f.1
  exact ⟨a0, a1, a2, a3, f⟩
set_option maxHeartbeats 8000000 in
theorem spanMakes_walk (w : World) (x : Int) (hx : -9223372036854775808 ≤ x ∧ x ≤ 9223372036854775807) (y : Int) (hy : -9223372036854775808 ≤ y ∧ y ≤ 9223372036854775807) (lo hi : Int) (nl nh : Bool) (k : Int) (hk : -9223372036854775808 ≤ k ∧ k ≤ 9223372036854775807) (g : Bool) :
    Calls Try.prog 4 #[.int .i64 x, .int .i64 y, .agg #[.int .i64 lo, .int .i64 hi, .bool nl, .bool nh], .int .i64 k, .bool g] w fun e w' => e = .returned (.bool true) ∧ Below w.heap.size w w' := by
  have W0 := Lib.hid (show MkW w lo hi nl nh (w.alloc (.cells #[.int .i64 lo, .int .i64 hi, .bool nl, .bool nh] 23)).drew from ⟨(Blk.new w _ _).drew, (below_box' w _).drew⟩)
  rcases eo : ofX x y with ⟨oa, ob, op_, oq⟩
  rcases er : rd ⟨lo, hi, nl, nh⟩ with ⟨rl, rh⟩
  rcases el : sp (lowE (rd ⟨lo, hi, nl, nh⟩)) with ⟨la, lb, ln, lm⟩
  rcases eb : bytesX k g with ⟨ba, bb, bn, bm⟩
  have H0 := Lib.hid (fun w => full_any w)
  have H1 := Lib.hid (fun w => refFull_any w)
  have H2 := Lib.hid (fun w => of_any x y oa ob op_ oq eo w)
  have H3 := Lib.hid (fun w => refOf_any x y hx hy oa ob op_ oq eo w)
  have H4 := Lib.hid (fun w => has_any lo hi nl nh x rl rh er w)
  have H5 := Lib.hid (fun w => refHas_any lo hi nl nh x rl rh er w)
  have H6 := Lib.hid (fun w => Low_any lo hi nl nh la lb ln lm el w)
  have H7 := Lib.hid (fun w => refLow_any lo hi nl nh la lb ln lm el w)
  have H8 := Lib.hid (fun w => notzero_any g lo hi nl nh w)
  have H9 := Lib.hid (fun w => refNotZero_any g lo hi nl nh w)
  have H10 := Lib.hid (fun w => bytes_any k g ba bb bn bm eb w)
  have H11 := Lib.hid (fun w => refBytes_any k g ba bb bn bm eb w)
  clear eo er el eb hx hy hk
  generalize withinB ⟨x, x⟩ ⟨rl, rh⟩ = B1 at *
  generalize nzX g (rd ⟨lo, hi, nl, nh⟩) = B2 at *
  go_enter Try.func4, Try.ntmps4
  go_wp2_with fail
  go_region_held3 (fun w' => w'.cell? ⟨w.heap.size, 0, none⟩ = some (.int .i64 lo) ∧ w'.cell? ⟨w.heap.size, 1, none⟩ = some (.int .i64 hi) ∧ w'.cell? ⟨w.heap.size, 2, none⟩ = some (.bool nl) ∧ w'.cell? ⟨w.heap.size, 3, none⟩ = some (.bool nh) ∧ MkW w lo hi nl nh w')
    (first | with_reducible exact mkS W0.out | with_reducible exact mkS W1.out | with_reducible exact mkS W2.out | with_reducible exact mkS W3.out | with_reducible exact mkS W4.out | with_reducible exact mkS W5.out | with_reducible exact mkS W6.out)
    (first | (go_at_call 11; (with_reducible refine (H0.out _).mono ?_); rintro e w1 ⟨rfl, hB⟩; have W1 := Lib.hid (W0.out.up hB); clear hB)
                         | (go_at_call 20; (with_reducible refine (H1.out _).mono ?_); rintro e w2 ⟨rfl, hB⟩; have W2 := Lib.hid (W1.out.up hB); clear hB)
                         | (go_at_call 12; (with_reducible refine (H2.out _).mono ?_); rintro e w3 ⟨rfl, hB⟩; have W3 := Lib.hid (W2.out.up hB); clear hB)
                         | (go_at_call 21; (with_reducible refine (H3.out _).mono ?_); rintro e w4 ⟨rfl, hB⟩; have W4 := Lib.hid (W3.out.up hB); clear hB)
                         | (go_at_call 13; (with_reducible refine (H4.out _).mono ?_); rintro e w5 ⟨rfl, hB⟩; have W5 := Lib.hid (W4.out.up hB); clear hB)
                         | (go_at_call 22; (with_reducible refine (H5.out _).mono ?_); rintro e w6 ⟨rfl, hB⟩; have W6 := Lib.hid (W5.out.up hB); clear hB))
  rename_i hq
  obtain ⟨-, -, -, -, hW⟩ := hq
  have V6 := Lib.hid hW
  clear hW
  go_wp2_with fail
  have W6d := Lib.hid V6.out.drew
  go_region_held3 (fun w' => w'.cell? ⟨w.heap.size, 0, none⟩ = some (.int .i64 lo) ∧ w'.cell? ⟨w.heap.size, 1, none⟩ = some (.int .i64 hi) ∧ w'.cell? ⟨w.heap.size, 2, none⟩ = some (.bool nl) ∧ w'.cell? ⟨w.heap.size, 3, none⟩ = some (.bool nh) ∧ MkW w lo hi nl nh w')
    (first | with_reducible exact mkS W6d.out | with_reducible exact mkS W7.out | with_reducible exact mkS W8.out | with_reducible exact mkS W9.out | with_reducible exact mkS W10.out | with_reducible exact mkS W11.out | with_reducible exact mkS W12.out)
    (first | (go_at_call 14; (with_reducible refine (H6.out _).mono ?_); rintro e w7 ⟨rfl, hB⟩; have W7 := Lib.hid (W6d.out.up hB); clear hB)
                         | (go_at_call 23; (with_reducible refine (H7.out _).mono ?_); rintro e w8 ⟨rfl, hB⟩; have W8 := Lib.hid (W7.out.up hB); clear hB)
                         | (go_at_call 15; (with_reducible refine (H8.out _).mono ?_); rintro e w9 ⟨rfl, hB⟩; have W9 := Lib.hid (W8.out.up hB); clear hB)
                         | (go_at_call 24; (with_reducible refine (H9.out _).mono ?_); rintro e w10 ⟨rfl, hB⟩; have W10 := Lib.hid (W9.out.up hB); clear hB)
                         | (go_at_call 17; (with_reducible refine (H10.out _).mono ?_); rintro e w11 ⟨rfl, hB⟩; have W11 := Lib.hid (W10.out.up hB); clear hB)
                         | (go_at_call 25; (with_reducible refine (H11.out _).mono ?_); rintro e w12 ⟨rfl, hB⟩; have W12 := Lib.hid (W11.out.up hB); clear hB))
  rename_i hq
  obtain ⟨-, -, -, -, hW⟩ := hq
  have V12 := Lib.hid hW
  clear hW
  go_wp2_with fail
  go_ret
  exact ⟨rfl, V12.out.2⟩
end Go.Proofs.Ytjhgjplhhhgfcaa
