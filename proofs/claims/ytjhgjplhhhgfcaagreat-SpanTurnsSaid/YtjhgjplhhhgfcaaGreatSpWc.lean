/- The document's wide numbers, as far as they are numbers of 64 bits: least, most, number. -/
import Derived.Test.YtjhgjplhhhgfcaaGreatSpWb
namespace Go.Proofs.YtjhgjplhhhgfcaaGreat
open Go.ChangeShapes Go.WideShapes Go.ChangeAt Go.RowKit
open Spn
namespace Spc
set_option linter.unusedVariables false
set_option maxRecDepth 100000
theorem set5 {w : World} {g : Nat} {t : TypeId} {a0 b0 c0 e0 f0 : Value} (h : Blk w g t #[a0, b0, c0, e0, f0]) (a b c d e : Value) :
    Blk (((((w.setCell ⟨g, 0, none⟩ a).setCell ⟨g, 1, none⟩ b).setCell ⟨g, 2, none⟩ c).setCell ⟨g, 3, none⟩ d).setCell ⟨g, 4, none⟩ e) g t #[a, b, c, d, e] := ((((h.set_ 0 a).set_ 1 b).set_ 2 c).set_ 3 d).set_ 4 e
theorem Below.set5 {B g : Nat} {w0 w : World} (h : Below B w0 w) (hg : B ≤ g) (a b c d e : Value) : Below B w0 (((((w.setCell ⟨g, 0, none⟩ a).setCell ⟨g, 1, none⟩ b).setCell ⟨g, 2, none⟩ c).setCell ⟨g, 3, none⟩ d).setCell ⟨g, 4, none⟩ e) :=
  ((((h.setCell (p := ⟨g, 0, none⟩) hg a).setCell (p := ⟨g, 1, none⟩) hg b).setCell (p := ⟨g, 2, none⟩) hg c).setCell (p := ⟨g, 3, none⟩) hg d).setCell (p := ⟨g, 4, none⟩) hg e
theorem froz5 {w : World} {g : Nat} {t : TypeId} {a b c d e : Value} (h : Blk w g t #[a, b, c, d, e]) : w.frozen? ⟨g, 0, none⟩ = false ∧ w.frozen? ⟨g, 1, none⟩ = false ∧ w.frozen? ⟨g, 2, none⟩ = false ∧ w.frozen? ⟨g, 3, none⟩ = false ∧ w.frozen? ⟨g, 4, none⟩ = false ∧ g < w.heap.size :=
  ⟨h.frozen 0, h.frozen 1, h.frozen 2, h.frozen 3, h.frozen 4, h.lt⟩
set_option maxHeartbeats 2000000 in
theorem least_W (u v : Int) (w : World) : Calls Tryz.prog 75 #[vW u, vW v] w fun e w' => e = .returned (vW (if v < u then v else u)) ∧ Below w.heap.size w w' := by
  have W0 := Lib.hid ((SzW.start w (decide (u < 0)) (decide (v < 0)) (d0 u) (d1 u) (d0 v) (d1 v)).up (below_box' _ (.cells #[.bool false, .int .u32 0, .int .u32 0, .int .u32 0, .int .u32 0] 67)))
  have T0 := Lib.hid (new3 w (.cells (cW (decide (u < 0)) (d0 u) (d1 u)) 67) (.cells (cW (decide (v < 0)) (d0 v) (d1 v)) 67) 67 #[.bool false, .int .u32 0, .int .u32 0, .int .u32 0, .int .u32 0])
  have HC := Lib.hid (fun w => cmp_W v u w)
  rcases (by omega : v < u ∨ u < v ∨ v = u) with h | h | h
  · rw [if_pos h]
    rw [sg_lt h] at HC
    go_enter Tryz.func75, Tryz.ntmps75
    obtain ⟨x0, x1, x2, x3, x4, y0, y1, y2, y3, y4, -⟩ := szS W0.out
    go_wp2_with fail
    refine (HC.out _).mono ?_
    rintro e w1 ⟨rfl, hB⟩
    have W1 := Lib.hid (W0.out.up hB)
    have T1 := Lib.hid (T0.out.up hB)
    clear hB x0 x1 x2 x3 x4 y0 y1 y2 y3 y4
    obtain ⟨x0, x1, x2, x3, x4, y0, y1, y2, y3, y4, -⟩ := szS W1.out
    obtain ⟨z0, z1, z2, z3, z4, z5⟩ := froz5 T1.out
    obtain ⟨t0, t1, t2, t3, t4⟩ := cells5 T1.out
    go_wp2_with fail
    exact bodyPost_ret (v := .agg #[.bool _, .int .u32 _, .int .u32 _, .int .u32 _, .int .u32 _]) (results_cell_row Tryz.results75 _ _ (w.heap.size + 2) 67 #[.bool _, .int .u32 _, .int .u32 _, .int .u32 _, .int .u32 _] (0, 0) _ rfl (set5 T1.out _ _ _ _ _) Tryz.underlying67 rfl (by kernel_rfl)) rfl ⟨rfl, Below.set5 W1.out.2.2 (by omega) _ _ _ _ _⟩
  · rw [if_neg (by omega)]
    rw [sg_gt h] at HC
    go_enter Tryz.func75, Tryz.ntmps75
    obtain ⟨x0, x1, x2, x3, x4, y0, y1, y2, y3, y4, -⟩ := szS W0.out
    go_wp2_with fail
    refine (HC.out _).mono ?_
    rintro e w1 ⟨rfl, hB⟩
    have W1 := Lib.hid (W0.out.up hB)
    have T1 := Lib.hid (T0.out.up hB)
    clear hB x0 x1 x2 x3 x4 y0 y1 y2 y3 y4
    obtain ⟨x0, x1, x2, x3, x4, y0, y1, y2, y3, y4, -⟩ := szS W1.out
    obtain ⟨z0, z1, z2, z3, z4, z5⟩ := froz5 T1.out
    obtain ⟨t0, t1, t2, t3, t4⟩ := cells5 T1.out
    go_wp2_with fail
    exact bodyPost_ret (v := .agg #[.bool _, .int .u32 _, .int .u32 _, .int .u32 _, .int .u32 _]) (results_cell_row Tryz.results75 _ _ (w.heap.size + 2) 67 #[.bool _, .int .u32 _, .int .u32 _, .int .u32 _, .int .u32 _] (0, 0) _ rfl (set5 T1.out _ _ _ _ _) Tryz.underlying67 rfl (by kernel_rfl)) rfl ⟨rfl, Below.set5 W1.out.2.2 (by omega) _ _ _ _ _⟩
  · rw [if_neg (by omega)]
    rw [sg_eq0 h] at HC
    clear h
    go_enter Tryz.func75, Tryz.ntmps75
    obtain ⟨x0, x1, x2, x3, x4, y0, y1, y2, y3, y4, -⟩ := szS W0.out
    go_wp2_with fail
    refine (HC.out _).mono ?_
    rintro e w1 ⟨rfl, hB⟩
    have W1 := Lib.hid (W0.out.up hB)
    have T1 := Lib.hid (T0.out.up hB)
    clear hB x0 x1 x2 x3 x4 y0 y1 y2 y3 y4
    obtain ⟨x0, x1, x2, x3, x4, y0, y1, y2, y3, y4, -⟩ := szS W1.out
    obtain ⟨z0, z1, z2, z3, z4, z5⟩ := froz5 T1.out
    obtain ⟨t0, t1, t2, t3, t4⟩ := cells5 T1.out
    go_wp2_with fail
    exact bodyPost_ret (v := .agg #[.bool _, .int .u32 _, .int .u32 _, .int .u32 _, .int .u32 _]) (results_cell_row Tryz.results75 _ _ (w.heap.size + 2) 67 #[.bool _, .int .u32 _, .int .u32 _, .int .u32 _, .int .u32 _] (0, 0) _ rfl (set5 T1.out _ _ _ _ _) Tryz.underlying67 rfl (by kernel_rfl)) rfl ⟨rfl, Below.set5 W1.out.2.2 (by omega) _ _ _ _ _⟩
set_option maxHeartbeats 2000000 in
theorem most_W (u v : Int) (w : World) : Calls Tryz.prog 76 #[vW u, vW v] w fun e w' => e = .returned (vW (if u < v then v else u)) ∧ Below w.heap.size w w' := by
  have W0 := Lib.hid ((SzW.start w (decide (u < 0)) (decide (v < 0)) (d0 u) (d1 u) (d0 v) (d1 v)).up (below_box' _ (.cells #[.bool false, .int .u32 0, .int .u32 0, .int .u32 0, .int .u32 0] 67)))
  have T0 := Lib.hid (new3 w (.cells (cW (decide (u < 0)) (d0 u) (d1 u)) 67) (.cells (cW (decide (v < 0)) (d0 v) (d1 v)) 67) 67 #[.bool false, .int .u32 0, .int .u32 0, .int .u32 0, .int .u32 0])
  have HC := Lib.hid (fun w => cmp_W v u w)
  rcases (by omega : v < u ∨ u < v ∨ v = u) with h | h | h
  · rw [if_neg (by omega)]
    rw [sg_lt h] at HC
    go_enter Tryz.func76, Tryz.ntmps76
    obtain ⟨x0, x1, x2, x3, x4, y0, y1, y2, y3, y4, -⟩ := szS W0.out
    go_wp2_with fail
    refine (HC.out _).mono ?_
    rintro e w1 ⟨rfl, hB⟩
    have W1 := Lib.hid (W0.out.up hB)
    have T1 := Lib.hid (T0.out.up hB)
    clear hB x0 x1 x2 x3 x4 y0 y1 y2 y3 y4
    obtain ⟨x0, x1, x2, x3, x4, y0, y1, y2, y3, y4, -⟩ := szS W1.out
    obtain ⟨z0, z1, z2, z3, z4, z5⟩ := froz5 T1.out
    obtain ⟨t0, t1, t2, t3, t4⟩ := cells5 T1.out
    go_wp2_with fail
    exact bodyPost_ret (v := .agg #[.bool _, .int .u32 _, .int .u32 _, .int .u32 _, .int .u32 _]) (results_cell_row Tryz.results76 _ _ (w.heap.size + 2) 67 #[.bool _, .int .u32 _, .int .u32 _, .int .u32 _, .int .u32 _] (0, 0) _ rfl (set5 T1.out _ _ _ _ _) Tryz.underlying67 rfl (by kernel_rfl)) rfl ⟨rfl, Below.set5 W1.out.2.2 (by omega) _ _ _ _ _⟩
  · rw [if_pos h]
    rw [sg_gt h] at HC
    go_enter Tryz.func76, Tryz.ntmps76
    obtain ⟨x0, x1, x2, x3, x4, y0, y1, y2, y3, y4, -⟩ := szS W0.out
    go_wp2_with fail
    refine (HC.out _).mono ?_
    rintro e w1 ⟨rfl, hB⟩
    have W1 := Lib.hid (W0.out.up hB)
    have T1 := Lib.hid (T0.out.up hB)
    clear hB x0 x1 x2 x3 x4 y0 y1 y2 y3 y4
    obtain ⟨x0, x1, x2, x3, x4, y0, y1, y2, y3, y4, -⟩ := szS W1.out
    obtain ⟨z0, z1, z2, z3, z4, z5⟩ := froz5 T1.out
    obtain ⟨t0, t1, t2, t3, t4⟩ := cells5 T1.out
    go_wp2_with fail
    exact bodyPost_ret (v := .agg #[.bool _, .int .u32 _, .int .u32 _, .int .u32 _, .int .u32 _]) (results_cell_row Tryz.results76 _ _ (w.heap.size + 2) 67 #[.bool _, .int .u32 _, .int .u32 _, .int .u32 _, .int .u32 _] (0, 0) _ rfl (set5 T1.out _ _ _ _ _) Tryz.underlying67 rfl (by kernel_rfl)) rfl ⟨rfl, Below.set5 W1.out.2.2 (by omega) _ _ _ _ _⟩
  · rw [if_neg (by omega)]
    rw [sg_eq0 h] at HC
    clear h
    go_enter Tryz.func76, Tryz.ntmps76
    obtain ⟨x0, x1, x2, x3, x4, y0, y1, y2, y3, y4, -⟩ := szS W0.out
    go_wp2_with fail
    refine (HC.out _).mono ?_
    rintro e w1 ⟨rfl, hB⟩
    have W1 := Lib.hid (W0.out.up hB)
    have T1 := Lib.hid (T0.out.up hB)
    clear hB x0 x1 x2 x3 x4 y0 y1 y2 y3 y4
    obtain ⟨x0, x1, x2, x3, x4, y0, y1, y2, y3, y4, -⟩ := szS W1.out
    obtain ⟨z0, z1, z2, z3, z4, z5⟩ := froz5 T1.out
    obtain ⟨t0, t1, t2, t3, t4⟩ := cells5 T1.out
    go_wp2_with fail
    exact bodyPost_ret (v := .agg #[.bool _, .int .u32 _, .int .u32 _, .int .u32 _, .int .u32 _]) (results_cell_row Tryz.results76 _ _ (w.heap.size + 2) 67 #[.bool _, .int .u32 _, .int .u32 _, .int .u32 _, .int .u32 _] (0, 0) _ rfl (set5 T1.out _ _ _ _ _) Tryz.underlying67 rfl (by kernel_rfl)) rfl ⟨rfl, Below.set5 W1.out.2.2 (by omega) _ _ _ _ _⟩
end Spc
end Go.Proofs.YtjhgjplhhhgfcaaGreat
