/- The document's span of two wide numbers that are numbers of 64 bits: from. (Written by gen_spfrom.py.) -/
import Derived.Test.YtjhgjplhhhgfcaaGreatSpWd
namespace Go.Proofs.YtjhgjplhhhgfcaaGreat
open Go.ChangeShapes Go.WideShapes Go.ChangeAt Go.RowKit
open Spn
namespace Spc
set_option linter.unusedVariables false
set_option maxRecDepth 100000
set_option maxHeartbeats 1000000 in
theorem refFull_any (w : World) : Calls Tryz.prog 27 #[] w (RetS w 0 0 true true) := by
  go_enter Tryz.func27, Tryz.ntmps27
  go_wp2_with fail
  exact bodyPost_ret (v := .agg #[.int .i64 _, .int .i64 _, .bool _, .bool _]) (results_cell_row Tryz.results27 _ _ w.heap.size 23 #[.int .i64 _, .int .i64 _, .bool _, .bool _] (0, 0) _ rfl (Blk.new w _ _) Tryz.underlying23 rfl (by kernel_rfl)) rfl ⟨rfl, below_box' w _⟩
/-- the memory of from: its two numbers, its result, its span -/
def FrW (w0 : World) (l h : Int) (gs : Nat) (sl sh : Int) (sn sm : Bool) (w : World) : Prop := SzW w0 (decide (l < 0)) (decide (h < 0)) (d0 l) (d1 l) (d0 h) (d1 h) w ∧ Blk w (w0.heap.size + 2) 23 zS ∧ w0.heap.size + 2 < gs ∧ Blk w gs 23 #[.int .i64 sl, .int .i64 sh, .bool sn, .bool sm]
theorem FrW.up {w0 w w' : World} {l h : Int} {gs : Nat} {sl sh : Int} {sn sm : Bool} (f : FrW w0 l h gs sl sh sn sm w) (hb : Below w.heap.size w w') : FrW w0 l h gs sl sh sn sm w' := ⟨f.1.up hb, f.2.1.up hb, f.2.2.1, f.2.2.2.up hb⟩
theorem FrW.drew {w0 w : World} {l h : Int} {gs : Nat} {sl sh : Int} {sn sm : Bool} (f : FrW w0 l h gs sl sh sn sm w) : FrW w0 l h gs sl sh sn sm w.drew := ⟨f.1.drew, f.2.1.drew, f.2.2.1, f.2.2.2.drew⟩
theorem SzW.far1 {w0 w : World} {ba bb : Bool} {a0 a1 b0 b1 : Int} (h : SzW w0 ba bb a0 a1 b0 b1 w) {g : Nat} (hg : w0.heap.size + 2 < g) (k : Nat) (v : Value) : SzW w0 ba bb a0 a1 b0 b1 (w.setCell ⟨g, k, none⟩ v) := ⟨h.1.far (p := ⟨g, k, none⟩) (by show w0.heap.size ≠ g; omega) v, h.2.1.far (p := ⟨g, k, none⟩) (by show w0.heap.size + 1 ≠ g; omega) v, h.2.2.setCell (p := ⟨g, k, none⟩) (by show w0.heap.size ≤ g; omega) v⟩
theorem FrW.set0 {w0 w : World} {l h : Int} {gs : Nat} {sl sh : Int} {sn sm : Bool} (f : FrW w0 l h gs sl sh sn sm w) (v : Int) : FrW w0 l h gs v sh sn sm (w.setCell ⟨gs, 0, none⟩ (.int .i64 v)) := ⟨f.1.far1 f.2.2.1 _ _, f.2.1.far (p := ⟨gs, 0, none⟩) (by have := f.2.2.1; show w0.heap.size + 2 ≠ gs; omega) _, f.2.2.1, f.2.2.2.set_ 0 _⟩
theorem FrW.set1 {w0 w : World} {l h : Int} {gs : Nat} {sl sh : Int} {sn sm : Bool} (f : FrW w0 l h gs sl sh sn sm w) (v : Int) : FrW w0 l h gs sl v sn sm (w.setCell ⟨gs, 1, none⟩ (.int .i64 v)) := ⟨f.1.far1 f.2.2.1 _ _, f.2.1.far (p := ⟨gs, 1, none⟩) (by have := f.2.2.1; show w0.heap.size + 2 ≠ gs; omega) _, f.2.2.1, f.2.2.2.set_ 1 _⟩
theorem FrW.set2 {w0 w : World} {l h : Int} {gs : Nat} {sl sh : Int} {sn sm : Bool} (f : FrW w0 l h gs sl sh sn sm w) (v : Bool) : FrW w0 l h gs sl sh v sm (w.setCell ⟨gs, 2, none⟩ (.bool v)) := ⟨f.1.far1 f.2.2.1 _ _, f.2.1.far (p := ⟨gs, 2, none⟩) (by have := f.2.2.1; show w0.heap.size + 2 ≠ gs; omega) _, f.2.2.1, f.2.2.2.set_ 2 _⟩
theorem FrW.set3 {w0 w : World} {l h : Int} {gs : Nat} {sl sh : Int} {sn sm : Bool} (f : FrW w0 l h gs sl sh sn sm w) (v : Bool) : FrW w0 l h gs sl sh sn v (w.setCell ⟨gs, 3, none⟩ (.bool v)) := ⟨f.1.far1 f.2.2.1 _ _, f.2.1.far (p := ⟨gs, 3, none⟩) (by have := f.2.2.1; show w0.heap.size + 2 ≠ gs; omega) _, f.2.2.1, f.2.2.2.set_ 3 _⟩
theorem frS {w w' : World} {l h : Int} {gs : Nat} {x y : Int} {p q : Bool} (f : FrW w l h gs x y p q w') : w'.cell? ⟨w.heap.size, 0, none⟩ = some (.bool (decide (l < 0))) ∧ w'.cell? ⟨w.heap.size, 1, none⟩ = some (.int .u32 (d0 l)) ∧ w'.cell? ⟨w.heap.size, 2, none⟩ = some (.int .u32 (d1 l)) ∧ w'.cell? ⟨w.heap.size, 3, none⟩ = some (.int .u32 0) ∧ w'.cell? ⟨w.heap.size, 4, none⟩ = some (.int .u32 0) ∧ w'.cell? ⟨w.heap.size + 1, 0, none⟩ = some (.bool (decide (h < 0))) ∧ w'.cell? ⟨w.heap.size + 1, 1, none⟩ = some (.int .u32 (d0 h)) ∧ w'.cell? ⟨w.heap.size + 1, 2, none⟩ = some (.int .u32 (d1 h)) ∧ w'.cell? ⟨w.heap.size + 1, 3, none⟩ = some (.int .u32 0) ∧ w'.cell? ⟨w.heap.size + 1, 4, none⟩ = some (.int .u32 0) ∧ (w'.frozen? ⟨gs, 0, none⟩ = false ∧ w'.frozen? ⟨gs, 1, none⟩ = false ∧ gs < w'.heap.size) ∧ ∃ x y p q, FrW w l h gs x y p q w' := by
  obtain ⟨x0, x1, x2, x3, x4, y0, y1, y2, y3, y4, -⟩ := szS f.1
  exact ⟨x0, x1, x2, x3, x4, y0, y1, y2, y3, y4, ⟨f.2.2.2.frozen 0, f.2.2.2.frozen 1, f.2.2.2.lt⟩, _, _, _, _, f⟩
theorem mx_64 : I64 1152921504606846976 := by unfold I64 LEAST TOP; decide
theorem nmx_64 : I64 (-1152921504606846976) := by unfold I64 LEAST TOP; decide
theorem if_64 {u v : Int} {c : Prop} [Decidable c] (hu : I64 u) (hv : I64 v) : I64 (if c then v else u) := by split <;> assumption
set_option maxHeartbeats 16000000 in
theorem from1 (l h : Int) (hl : I64 l) (hh : I64 h) (r1 r2 : Int) (k1 : sgC l (-1152921504606846976) = r1) (k2 : sgC h 1152921504606846976 = r2) (h1 : r1 = -1 ∨ r1 = 0 ∨ r1 = 1) (h2 : r2 = -1 ∨ r2 = 0 ∨ r2 = 1) (w : World) : Calls Tryz.prog 47 #[vW l, vW h] w (RetS w (if r1 < 0 then 0 else (if 1152921504606846976 < l then 1152921504606846976 else l)) (if 0 < r2 then 0 else (if h < -1152921504606846976 then -1152921504606846976 else h)) (decide (r1 < 0)) (decide (0 < r2))) := by
  have HF := Lib.hid (fun w => refFull_any w)
  have HWM := Lib.hid (fun w => wide_W 1152921504606846976 mx_64 w)
  have HWN := Lib.hid (fun w => wide_W (-1152921504606846976) nmx_64 w)
  have HC1 := Lib.hid (fun w => cmp_W l (-1152921504606846976) w)
  have HC2 := Lib.hid (fun w => cmp_W h 1152921504606846976 w)
  rw [k1] at HC1
  rw [k2] at HC2
  have HL := Lib.hid (fun w => least_W l 1152921504606846976 w)
  have HM := Lib.hid (fun w => most_W h (-1152921504606846976) w)
  have HN1 := Lib.hid (fun w => number_W (if 1152921504606846976 < l then 1152921504606846976 else l) (if_64 hl mx_64) w)
  have HN2 := Lib.hid (fun w => number_W (if h < -1152921504606846976 then -1152921504606846976 else h) (if_64 hh nmx_64) w)
  generalize (if (1152921504606846976 : Int) < l then (1152921504606846976 : Int) else l) = A at *
  generalize (if h < (-1152921504606846976 : Int) then (-1152921504606846976 : Int) else h) = B at *
  have Z0 := Lib.hid ((SzW.start w (decide (l < 0)) (decide (h < 0)) (d0 l) (d1 l) (d0 h) (d1 h)).up (below_box' _ (.cells zS 23)))
  have T0 := Lib.hid (new3 w (.cells (cW (decide (l < 0)) (d0 l) (d1 l)) 67) (.cells (cW (decide (h < 0)) (d0 h) (d1 h)) 67) 23 zS)
  clear k1 k2 hl hh
  rcases h1 with rfl | rfl | rfl <;> rcases h2 with rfl | rfl | rfl
  · rw [if_pos (show  (-1 : Int) < 0 by decide), show decide ((-1 : Int) < 0) = true from rfl]
    rw [if_neg (show ¬ 0 < (-1 : Int) by decide)]; try rw [show decide (0 < (-1 : Int)) = false from rfl]
    go_enter Tryz.func47, Tryz.ntmps47
    go_wp2_with fail
    refine (HF.out _).mono ?_
    rintro e w1 ⟨rfl, hB⟩
    have F0 := Lib.hid (show FrW w l h w1.heap.size 0 0 true true (w1.alloc (.cells #[.int .i64 0, .int .i64 0, .bool true, .bool true] 23)) from ⟨(Z0.out.up hB).up (below_box' w1 _), (T0.out.up hB).up (below_box' w1 _), (T0.out.up hB).lt, Blk.new w1 _ _⟩)
    clear hB Z0 T0
    go_wp2_with fail
    go_region_held3 (fun w' => w'.cell? ⟨w.heap.size, 0, none⟩ = some (.bool (decide (l < 0))) ∧ w'.cell? ⟨w.heap.size, 1, none⟩ = some (.int .u32 (d0 l)) ∧ w'.cell? ⟨w.heap.size, 2, none⟩ = some (.int .u32 (d1 l)) ∧ w'.cell? ⟨w.heap.size, 3, none⟩ = some (.int .u32 0) ∧ w'.cell? ⟨w.heap.size, 4, none⟩ = some (.int .u32 0) ∧ w'.cell? ⟨w.heap.size + 1, 0, none⟩ = some (.bool (decide (h < 0))) ∧ w'.cell? ⟨w.heap.size + 1, 1, none⟩ = some (.int .u32 (d0 h)) ∧ w'.cell? ⟨w.heap.size + 1, 2, none⟩ = some (.int .u32 (d1 h)) ∧ w'.cell? ⟨w.heap.size + 1, 3, none⟩ = some (.int .u32 0) ∧ w'.cell? ⟨w.heap.size + 1, 4, none⟩ = some (.int .u32 0) ∧ (w'.frozen? ⟨w1.heap.size, 0, none⟩ = false ∧ w'.frozen? ⟨w1.heap.size, 1, none⟩ = false ∧ w1.heap.size < w'.heap.size) ∧ ∃ x y p q, FrW w l h w1.heap.size x y p q w')
      (first | with_reducible exact frS F0.out.drew | with_reducible exact frS F1.out | with_reducible exact frS F2.out)
      (first | (go_at_call 46; (with_reducible refine (HWN.out _).mono ?_); rintro e v1 ⟨rfl, hB⟩; have F1 := Lib.hid (FrW.up F0.out.drew hB); clear hB)
                         | (go_at_call 73; (with_reducible refine (HC1.out _).mono ?_); rintro e v2 ⟨rfl, hB⟩; have F2 := Lib.hid (FrW.up F1.out hB); clear hB))
    rename_i hq
    clear hq
    have F3 := Lib.hid (F2.out)
    obtain ⟨⟨c0, c1, c2, c3⟩, ⟨c4, c5, c6, c7⟩, c8⟩ := cells4 F3.out.2.2.2
    go_wp2_with fail
    clear c0 c1 c2 c3 c4 c5 c6 c7 c8
    go_region_held3 (fun w' => w'.cell? ⟨w.heap.size, 0, none⟩ = some (.bool (decide (l < 0))) ∧ w'.cell? ⟨w.heap.size, 1, none⟩ = some (.int .u32 (d0 l)) ∧ w'.cell? ⟨w.heap.size, 2, none⟩ = some (.int .u32 (d1 l)) ∧ w'.cell? ⟨w.heap.size, 3, none⟩ = some (.int .u32 0) ∧ w'.cell? ⟨w.heap.size, 4, none⟩ = some (.int .u32 0) ∧ w'.cell? ⟨w.heap.size + 1, 0, none⟩ = some (.bool (decide (h < 0))) ∧ w'.cell? ⟨w.heap.size + 1, 1, none⟩ = some (.int .u32 (d0 h)) ∧ w'.cell? ⟨w.heap.size + 1, 2, none⟩ = some (.int .u32 (d1 h)) ∧ w'.cell? ⟨w.heap.size + 1, 3, none⟩ = some (.int .u32 0) ∧ w'.cell? ⟨w.heap.size + 1, 4, none⟩ = some (.int .u32 0) ∧ (w'.frozen? ⟨w1.heap.size, 0, none⟩ = false ∧ w'.frozen? ⟨w1.heap.size, 1, none⟩ = false ∧ w1.heap.size < w'.heap.size) ∧ ∃ x y p q, FrW w l h w1.heap.size x y p q w')
      (first | with_reducible exact frS F3.out.drew | with_reducible exact frS F4.out | with_reducible exact frS F5.out)
      (first | (go_at_call 46; (with_reducible refine (HWM.out _).mono ?_); rintro e v4 ⟨rfl, hB⟩; have F4 := Lib.hid (FrW.up F3.out.drew hB); clear hB)
                         | (go_at_call 73; (with_reducible refine (HC2.out _).mono ?_); rintro e v5 ⟨rfl, hB⟩; have F5 := Lib.hid (FrW.up F4.out hB); clear hB))
    rename_i hq
    clear hq
    have F6 := Lib.hid (F5.out)
    obtain ⟨⟨c0, c1, c2, c3⟩, ⟨c4, c5, c6, c7⟩, c8⟩ := cells4 F6.out.2.2.2
    have F7 := Lib.hid (FrW.set3 F6.out false)
    go_wp2_with fail
    clear c0 c1 c2 c3 c4 c5 c6 c7 c8
    obtain ⟨⟨c0, c1, c2, c3⟩, ⟨c4, c5, c6, c7⟩, c8⟩ := cells4 F7.out.2.2.2
    go_region_held3 (fun w' => w'.cell? ⟨w.heap.size, 0, none⟩ = some (.bool (decide (l < 0))) ∧ w'.cell? ⟨w.heap.size, 1, none⟩ = some (.int .u32 (d0 l)) ∧ w'.cell? ⟨w.heap.size, 2, none⟩ = some (.int .u32 (d1 l)) ∧ w'.cell? ⟨w.heap.size, 3, none⟩ = some (.int .u32 0) ∧ w'.cell? ⟨w.heap.size, 4, none⟩ = some (.int .u32 0) ∧ w'.cell? ⟨w.heap.size + 1, 0, none⟩ = some (.bool (decide (h < 0))) ∧ w'.cell? ⟨w.heap.size + 1, 1, none⟩ = some (.int .u32 (d0 h)) ∧ w'.cell? ⟨w.heap.size + 1, 2, none⟩ = some (.int .u32 (d1 h)) ∧ w'.cell? ⟨w.heap.size + 1, 3, none⟩ = some (.int .u32 0) ∧ w'.cell? ⟨w.heap.size + 1, 4, none⟩ = some (.int .u32 0) ∧ (w'.frozen? ⟨w1.heap.size, 0, none⟩ = false ∧ w'.frozen? ⟨w1.heap.size, 1, none⟩ = false ∧ w1.heap.size < w'.heap.size) ∧ ∃ x y p q, FrW w l h w1.heap.size x y p q w')
      (first | with_reducible exact frS F7.out.drew | with_reducible exact frS F8.out | with_reducible exact frS F9.out | with_reducible exact frS F10.out | with_reducible exact frS (FrW.set1 F10.out B))
      (first | (go_at_call 46; (with_reducible refine (HWN.out _).mono ?_); rintro e v8 ⟨rfl, hB⟩; have F8 := Lib.hid (FrW.up F7.out.drew hB); clear hB)
                         | (go_at_call 76; (with_reducible refine (HM.out _).mono ?_); rintro e v9 ⟨rfl, hB⟩; have F9 := Lib.hid (FrW.up F8.out hB); clear hB)
                         | (go_at_call 74; (with_reducible refine (HN2.out _).mono ?_); rintro e v10 ⟨rfl, hB⟩; have F10 := Lib.hid (FrW.up F9.out hB); clear hB; obtain ⟨⟨g0, g1, g2, g3⟩, ⟨g4, g5, g6, g7⟩, g8⟩ := cells4 F10.out.2.2.2))
    rename_i hq
    clear hq
    clear g0 g1 g2 g3 g4 g5 g6 g7 g8
    have F11 := Lib.hid (FrW.set1 F10.out B)
    clear c0 c1 c2 c3 c4 c5 c6 c7 c8
    obtain ⟨⟨c0, c1, c2, c3⟩, ⟨c4, c5, c6, c7⟩, c8⟩ := cells4 F11.out.2.2.2
    obtain ⟨⟨e0, e1, e2, e3⟩, ⟨e4, e5, e6, e7⟩, e8⟩ := cells4 F11.out.2.1
    go_wp2_with fail
    exact bodyPost_ret (v := .agg #[.int .i64 _, .int .i64 _, .bool _, .bool _]) (results_cell_row Tryz.results47 _ _ (w.heap.size + 2) 23 #[.int .i64 _, .int .i64 _, .bool _, .bool _] (0, 0) _ rfl (set4 F11.out.2.1 _ _ _ _) Tryz.underlying23 rfl (by kernel_rfl)) rfl ⟨rfl, Below.set4 F11.out.1.2.2 (by omega) _ _ _ _⟩
  · rw [if_pos (show  (-1 : Int) < 0 by decide), show decide ((-1 : Int) < 0) = true from rfl]
    rw [if_neg (show ¬ 0 < (0 : Int) by decide)]; try rw [show decide (0 < (0 : Int)) = false from rfl]
    go_enter Tryz.func47, Tryz.ntmps47
    go_wp2_with fail
    refine (HF.out _).mono ?_
    rintro e w1 ⟨rfl, hB⟩
    have F0 := Lib.hid (show FrW w l h w1.heap.size 0 0 true true (w1.alloc (.cells #[.int .i64 0, .int .i64 0, .bool true, .bool true] 23)) from ⟨(Z0.out.up hB).up (below_box' w1 _), (T0.out.up hB).up (below_box' w1 _), (T0.out.up hB).lt, Blk.new w1 _ _⟩)
    clear hB Z0 T0
    go_wp2_with fail
    go_region_held3 (fun w' => w'.cell? ⟨w.heap.size, 0, none⟩ = some (.bool (decide (l < 0))) ∧ w'.cell? ⟨w.heap.size, 1, none⟩ = some (.int .u32 (d0 l)) ∧ w'.cell? ⟨w.heap.size, 2, none⟩ = some (.int .u32 (d1 l)) ∧ w'.cell? ⟨w.heap.size, 3, none⟩ = some (.int .u32 0) ∧ w'.cell? ⟨w.heap.size, 4, none⟩ = some (.int .u32 0) ∧ w'.cell? ⟨w.heap.size + 1, 0, none⟩ = some (.bool (decide (h < 0))) ∧ w'.cell? ⟨w.heap.size + 1, 1, none⟩ = some (.int .u32 (d0 h)) ∧ w'.cell? ⟨w.heap.size + 1, 2, none⟩ = some (.int .u32 (d1 h)) ∧ w'.cell? ⟨w.heap.size + 1, 3, none⟩ = some (.int .u32 0) ∧ w'.cell? ⟨w.heap.size + 1, 4, none⟩ = some (.int .u32 0) ∧ (w'.frozen? ⟨w1.heap.size, 0, none⟩ = false ∧ w'.frozen? ⟨w1.heap.size, 1, none⟩ = false ∧ w1.heap.size < w'.heap.size) ∧ ∃ x y p q, FrW w l h w1.heap.size x y p q w')
      (first | with_reducible exact frS F0.out.drew | with_reducible exact frS F1.out | with_reducible exact frS F2.out)
      (first | (go_at_call 46; (with_reducible refine (HWN.out _).mono ?_); rintro e v1 ⟨rfl, hB⟩; have F1 := Lib.hid (FrW.up F0.out.drew hB); clear hB)
                         | (go_at_call 73; (with_reducible refine (HC1.out _).mono ?_); rintro e v2 ⟨rfl, hB⟩; have F2 := Lib.hid (FrW.up F1.out hB); clear hB))
    rename_i hq
    clear hq
    have F3 := Lib.hid (F2.out)
    obtain ⟨⟨c0, c1, c2, c3⟩, ⟨c4, c5, c6, c7⟩, c8⟩ := cells4 F3.out.2.2.2
    go_wp2_with fail
    clear c0 c1 c2 c3 c4 c5 c6 c7 c8
    go_region_held3 (fun w' => w'.cell? ⟨w.heap.size, 0, none⟩ = some (.bool (decide (l < 0))) ∧ w'.cell? ⟨w.heap.size, 1, none⟩ = some (.int .u32 (d0 l)) ∧ w'.cell? ⟨w.heap.size, 2, none⟩ = some (.int .u32 (d1 l)) ∧ w'.cell? ⟨w.heap.size, 3, none⟩ = some (.int .u32 0) ∧ w'.cell? ⟨w.heap.size, 4, none⟩ = some (.int .u32 0) ∧ w'.cell? ⟨w.heap.size + 1, 0, none⟩ = some (.bool (decide (h < 0))) ∧ w'.cell? ⟨w.heap.size + 1, 1, none⟩ = some (.int .u32 (d0 h)) ∧ w'.cell? ⟨w.heap.size + 1, 2, none⟩ = some (.int .u32 (d1 h)) ∧ w'.cell? ⟨w.heap.size + 1, 3, none⟩ = some (.int .u32 0) ∧ w'.cell? ⟨w.heap.size + 1, 4, none⟩ = some (.int .u32 0) ∧ (w'.frozen? ⟨w1.heap.size, 0, none⟩ = false ∧ w'.frozen? ⟨w1.heap.size, 1, none⟩ = false ∧ w1.heap.size < w'.heap.size) ∧ ∃ x y p q, FrW w l h w1.heap.size x y p q w')
      (first | with_reducible exact frS F3.out.drew | with_reducible exact frS F4.out | with_reducible exact frS F5.out)
      (first | (go_at_call 46; (with_reducible refine (HWM.out _).mono ?_); rintro e v4 ⟨rfl, hB⟩; have F4 := Lib.hid (FrW.up F3.out.drew hB); clear hB)
                         | (go_at_call 73; (with_reducible refine (HC2.out _).mono ?_); rintro e v5 ⟨rfl, hB⟩; have F5 := Lib.hid (FrW.up F4.out hB); clear hB))
    rename_i hq
    clear hq
    have F6 := Lib.hid (F5.out)
    obtain ⟨⟨c0, c1, c2, c3⟩, ⟨c4, c5, c6, c7⟩, c8⟩ := cells4 F6.out.2.2.2
    have F7 := Lib.hid (FrW.set3 F6.out false)
    go_wp2_with fail
    clear c0 c1 c2 c3 c4 c5 c6 c7 c8
    obtain ⟨⟨c0, c1, c2, c3⟩, ⟨c4, c5, c6, c7⟩, c8⟩ := cells4 F7.out.2.2.2
    go_region_held3 (fun w' => w'.cell? ⟨w.heap.size, 0, none⟩ = some (.bool (decide (l < 0))) ∧ w'.cell? ⟨w.heap.size, 1, none⟩ = some (.int .u32 (d0 l)) ∧ w'.cell? ⟨w.heap.size, 2, none⟩ = some (.int .u32 (d1 l)) ∧ w'.cell? ⟨w.heap.size, 3, none⟩ = some (.int .u32 0) ∧ w'.cell? ⟨w.heap.size, 4, none⟩ = some (.int .u32 0) ∧ w'.cell? ⟨w.heap.size + 1, 0, none⟩ = some (.bool (decide (h < 0))) ∧ w'.cell? ⟨w.heap.size + 1, 1, none⟩ = some (.int .u32 (d0 h)) ∧ w'.cell? ⟨w.heap.size + 1, 2, none⟩ = some (.int .u32 (d1 h)) ∧ w'.cell? ⟨w.heap.size + 1, 3, none⟩ = some (.int .u32 0) ∧ w'.cell? ⟨w.heap.size + 1, 4, none⟩ = some (.int .u32 0) ∧ (w'.frozen? ⟨w1.heap.size, 0, none⟩ = false ∧ w'.frozen? ⟨w1.heap.size, 1, none⟩ = false ∧ w1.heap.size < w'.heap.size) ∧ ∃ x y p q, FrW w l h w1.heap.size x y p q w')
      (first | with_reducible exact frS F7.out.drew | with_reducible exact frS F8.out | with_reducible exact frS F9.out | with_reducible exact frS F10.out | with_reducible exact frS (FrW.set1 F10.out B))
      (first | (go_at_call 46; (with_reducible refine (HWN.out _).mono ?_); rintro e v8 ⟨rfl, hB⟩; have F8 := Lib.hid (FrW.up F7.out.drew hB); clear hB)
                         | (go_at_call 76; (with_reducible refine (HM.out _).mono ?_); rintro e v9 ⟨rfl, hB⟩; have F9 := Lib.hid (FrW.up F8.out hB); clear hB)
                         | (go_at_call 74; (with_reducible refine (HN2.out _).mono ?_); rintro e v10 ⟨rfl, hB⟩; have F10 := Lib.hid (FrW.up F9.out hB); clear hB; obtain ⟨⟨g0, g1, g2, g3⟩, ⟨g4, g5, g6, g7⟩, g8⟩ := cells4 F10.out.2.2.2))
    rename_i hq
    clear hq
    clear g0 g1 g2 g3 g4 g5 g6 g7 g8
    have F11 := Lib.hid (FrW.set1 F10.out B)
    clear c0 c1 c2 c3 c4 c5 c6 c7 c8
    obtain ⟨⟨c0, c1, c2, c3⟩, ⟨c4, c5, c6, c7⟩, c8⟩ := cells4 F11.out.2.2.2
    obtain ⟨⟨e0, e1, e2, e3⟩, ⟨e4, e5, e6, e7⟩, e8⟩ := cells4 F11.out.2.1
    go_wp2_with fail
    exact bodyPost_ret (v := .agg #[.int .i64 _, .int .i64 _, .bool _, .bool _]) (results_cell_row Tryz.results47 _ _ (w.heap.size + 2) 23 #[.int .i64 _, .int .i64 _, .bool _, .bool _] (0, 0) _ rfl (set4 F11.out.2.1 _ _ _ _) Tryz.underlying23 rfl (by kernel_rfl)) rfl ⟨rfl, Below.set4 F11.out.1.2.2 (by omega) _ _ _ _⟩
  · rw [if_pos (show  (-1 : Int) < 0 by decide), show decide ((-1 : Int) < 0) = true from rfl]
    rw [if_pos (show  0 < (1 : Int) by decide)]; try rw [show decide (0 < (1 : Int)) = true from rfl]
    go_enter Tryz.func47, Tryz.ntmps47
    go_wp2_with fail
    refine (HF.out _).mono ?_
    rintro e w1 ⟨rfl, hB⟩
    have F0 := Lib.hid (show FrW w l h w1.heap.size 0 0 true true (w1.alloc (.cells #[.int .i64 0, .int .i64 0, .bool true, .bool true] 23)) from ⟨(Z0.out.up hB).up (below_box' w1 _), (T0.out.up hB).up (below_box' w1 _), (T0.out.up hB).lt, Blk.new w1 _ _⟩)
    clear hB Z0 T0
    go_wp2_with fail
    go_region_held3 (fun w' => w'.cell? ⟨w.heap.size, 0, none⟩ = some (.bool (decide (l < 0))) ∧ w'.cell? ⟨w.heap.size, 1, none⟩ = some (.int .u32 (d0 l)) ∧ w'.cell? ⟨w.heap.size, 2, none⟩ = some (.int .u32 (d1 l)) ∧ w'.cell? ⟨w.heap.size, 3, none⟩ = some (.int .u32 0) ∧ w'.cell? ⟨w.heap.size, 4, none⟩ = some (.int .u32 0) ∧ w'.cell? ⟨w.heap.size + 1, 0, none⟩ = some (.bool (decide (h < 0))) ∧ w'.cell? ⟨w.heap.size + 1, 1, none⟩ = some (.int .u32 (d0 h)) ∧ w'.cell? ⟨w.heap.size + 1, 2, none⟩ = some (.int .u32 (d1 h)) ∧ w'.cell? ⟨w.heap.size + 1, 3, none⟩ = some (.int .u32 0) ∧ w'.cell? ⟨w.heap.size + 1, 4, none⟩ = some (.int .u32 0) ∧ (w'.frozen? ⟨w1.heap.size, 0, none⟩ = false ∧ w'.frozen? ⟨w1.heap.size, 1, none⟩ = false ∧ w1.heap.size < w'.heap.size) ∧ ∃ x y p q, FrW w l h w1.heap.size x y p q w')
      (first | with_reducible exact frS F0.out.drew | with_reducible exact frS F1.out | with_reducible exact frS F2.out)
      (first | (go_at_call 46; (with_reducible refine (HWN.out _).mono ?_); rintro e v1 ⟨rfl, hB⟩; have F1 := Lib.hid (FrW.up F0.out.drew hB); clear hB)
                         | (go_at_call 73; (with_reducible refine (HC1.out _).mono ?_); rintro e v2 ⟨rfl, hB⟩; have F2 := Lib.hid (FrW.up F1.out hB); clear hB))
    rename_i hq
    clear hq
    have F3 := Lib.hid (F2.out)
    obtain ⟨⟨c0, c1, c2, c3⟩, ⟨c4, c5, c6, c7⟩, c8⟩ := cells4 F3.out.2.2.2
    go_wp2_with fail
    clear c0 c1 c2 c3 c4 c5 c6 c7 c8
    go_region_held3 (fun w' => w'.cell? ⟨w.heap.size, 0, none⟩ = some (.bool (decide (l < 0))) ∧ w'.cell? ⟨w.heap.size, 1, none⟩ = some (.int .u32 (d0 l)) ∧ w'.cell? ⟨w.heap.size, 2, none⟩ = some (.int .u32 (d1 l)) ∧ w'.cell? ⟨w.heap.size, 3, none⟩ = some (.int .u32 0) ∧ w'.cell? ⟨w.heap.size, 4, none⟩ = some (.int .u32 0) ∧ w'.cell? ⟨w.heap.size + 1, 0, none⟩ = some (.bool (decide (h < 0))) ∧ w'.cell? ⟨w.heap.size + 1, 1, none⟩ = some (.int .u32 (d0 h)) ∧ w'.cell? ⟨w.heap.size + 1, 2, none⟩ = some (.int .u32 (d1 h)) ∧ w'.cell? ⟨w.heap.size + 1, 3, none⟩ = some (.int .u32 0) ∧ w'.cell? ⟨w.heap.size + 1, 4, none⟩ = some (.int .u32 0) ∧ (w'.frozen? ⟨w1.heap.size, 0, none⟩ = false ∧ w'.frozen? ⟨w1.heap.size, 1, none⟩ = false ∧ w1.heap.size < w'.heap.size) ∧ ∃ x y p q, FrW w l h w1.heap.size x y p q w')
      (first | with_reducible exact frS F3.out.drew | with_reducible exact frS F4.out | with_reducible exact frS F5.out)
      (first | (go_at_call 46; (with_reducible refine (HWM.out _).mono ?_); rintro e v4 ⟨rfl, hB⟩; have F4 := Lib.hid (FrW.up F3.out.drew hB); clear hB)
                         | (go_at_call 73; (with_reducible refine (HC2.out _).mono ?_); rintro e v5 ⟨rfl, hB⟩; have F5 := Lib.hid (FrW.up F4.out hB); clear hB))
    rename_i hq
    clear hq
    have F6 := Lib.hid (F5.out)
    obtain ⟨⟨c0, c1, c2, c3⟩, ⟨c4, c5, c6, c7⟩, c8⟩ := cells4 F6.out.2.2.2
    obtain ⟨⟨e0, e1, e2, e3⟩, ⟨e4, e5, e6, e7⟩, e8⟩ := cells4 F6.out.2.1
    go_wp2_with fail
    exact bodyPost_ret (v := .agg #[.int .i64 _, .int .i64 _, .bool _, .bool _]) (results_cell_row Tryz.results47 _ _ (w.heap.size + 2) 23 #[.int .i64 _, .int .i64 _, .bool _, .bool _] (0, 0) _ rfl (set4 F6.out.2.1 _ _ _ _) Tryz.underlying23 rfl (by kernel_rfl)) rfl ⟨rfl, Below.set4 F6.out.1.2.2 (by omega) _ _ _ _⟩
  · rw [if_neg (show ¬ (0 : Int) < 0 by decide), show decide ((0 : Int) < 0) = false from rfl]
    rw [if_neg (show ¬ 0 < (-1 : Int) by decide)]; try rw [show decide (0 < (-1 : Int)) = false from rfl]
    go_enter Tryz.func47, Tryz.ntmps47
    go_wp2_with fail
    refine (HF.out _).mono ?_
    rintro e w1 ⟨rfl, hB⟩
    have F0 := Lib.hid (show FrW w l h w1.heap.size 0 0 true true (w1.alloc (.cells #[.int .i64 0, .int .i64 0, .bool true, .bool true] 23)) from ⟨(Z0.out.up hB).up (below_box' w1 _), (T0.out.up hB).up (below_box' w1 _), (T0.out.up hB).lt, Blk.new w1 _ _⟩)
    clear hB Z0 T0
    go_wp2_with fail
    go_region_held3 (fun w' => w'.cell? ⟨w.heap.size, 0, none⟩ = some (.bool (decide (l < 0))) ∧ w'.cell? ⟨w.heap.size, 1, none⟩ = some (.int .u32 (d0 l)) ∧ w'.cell? ⟨w.heap.size, 2, none⟩ = some (.int .u32 (d1 l)) ∧ w'.cell? ⟨w.heap.size, 3, none⟩ = some (.int .u32 0) ∧ w'.cell? ⟨w.heap.size, 4, none⟩ = some (.int .u32 0) ∧ w'.cell? ⟨w.heap.size + 1, 0, none⟩ = some (.bool (decide (h < 0))) ∧ w'.cell? ⟨w.heap.size + 1, 1, none⟩ = some (.int .u32 (d0 h)) ∧ w'.cell? ⟨w.heap.size + 1, 2, none⟩ = some (.int .u32 (d1 h)) ∧ w'.cell? ⟨w.heap.size + 1, 3, none⟩ = some (.int .u32 0) ∧ w'.cell? ⟨w.heap.size + 1, 4, none⟩ = some (.int .u32 0) ∧ (w'.frozen? ⟨w1.heap.size, 0, none⟩ = false ∧ w'.frozen? ⟨w1.heap.size, 1, none⟩ = false ∧ w1.heap.size < w'.heap.size) ∧ ∃ x y p q, FrW w l h w1.heap.size x y p q w')
      (first | with_reducible exact frS F0.out.drew | with_reducible exact frS F1.out | with_reducible exact frS F2.out)
      (first | (go_at_call 46; (with_reducible refine (HWN.out _).mono ?_); rintro e v1 ⟨rfl, hB⟩; have F1 := Lib.hid (FrW.up F0.out.drew hB); clear hB)
                         | (go_at_call 73; (with_reducible refine (HC1.out _).mono ?_); rintro e v2 ⟨rfl, hB⟩; have F2 := Lib.hid (FrW.up F1.out hB); clear hB))
    rename_i hq
    clear hq
    have F3 := Lib.hid (F2.out)
    obtain ⟨⟨c0, c1, c2, c3⟩, ⟨c4, c5, c6, c7⟩, c8⟩ := cells4 F3.out.2.2.2
    have F4 := Lib.hid (FrW.set2 F3.out false)
    go_wp2_with fail
    clear c0 c1 c2 c3 c4 c5 c6 c7 c8
    obtain ⟨⟨c0, c1, c2, c3⟩, ⟨c4, c5, c6, c7⟩, c8⟩ := cells4 F4.out.2.2.2
    go_region_held3 (fun w' => w'.cell? ⟨w.heap.size, 0, none⟩ = some (.bool (decide (l < 0))) ∧ w'.cell? ⟨w.heap.size, 1, none⟩ = some (.int .u32 (d0 l)) ∧ w'.cell? ⟨w.heap.size, 2, none⟩ = some (.int .u32 (d1 l)) ∧ w'.cell? ⟨w.heap.size, 3, none⟩ = some (.int .u32 0) ∧ w'.cell? ⟨w.heap.size, 4, none⟩ = some (.int .u32 0) ∧ w'.cell? ⟨w.heap.size + 1, 0, none⟩ = some (.bool (decide (h < 0))) ∧ w'.cell? ⟨w.heap.size + 1, 1, none⟩ = some (.int .u32 (d0 h)) ∧ w'.cell? ⟨w.heap.size + 1, 2, none⟩ = some (.int .u32 (d1 h)) ∧ w'.cell? ⟨w.heap.size + 1, 3, none⟩ = some (.int .u32 0) ∧ w'.cell? ⟨w.heap.size + 1, 4, none⟩ = some (.int .u32 0) ∧ (w'.frozen? ⟨w1.heap.size, 0, none⟩ = false ∧ w'.frozen? ⟨w1.heap.size, 1, none⟩ = false ∧ w1.heap.size < w'.heap.size) ∧ ∃ x y p q, FrW w l h w1.heap.size x y p q w')
      (first | with_reducible exact frS F4.out.drew | with_reducible exact frS F5.out | with_reducible exact frS F6.out | with_reducible exact frS F7.out | with_reducible exact frS (FrW.set0 F7.out A))
      (first | (go_at_call 46; (with_reducible refine (HWM.out _).mono ?_); rintro e v5 ⟨rfl, hB⟩; have F5 := Lib.hid (FrW.up F4.out.drew hB); clear hB)
                         | (go_at_call 75; (with_reducible refine (HL.out _).mono ?_); rintro e v6 ⟨rfl, hB⟩; have F6 := Lib.hid (FrW.up F5.out hB); clear hB)
                         | (go_at_call 74; (with_reducible refine (HN1.out _).mono ?_); rintro e v7 ⟨rfl, hB⟩; have F7 := Lib.hid (FrW.up F6.out hB); clear hB; obtain ⟨⟨g0, g1, g2, g3⟩, ⟨g4, g5, g6, g7⟩, g8⟩ := cells4 F7.out.2.2.2))
    rename_i hq
    clear hq
    clear g0 g1 g2 g3 g4 g5 g6 g7 g8
    have F8 := Lib.hid (FrW.set0 F7.out A)
    clear c0 c1 c2 c3 c4 c5 c6 c7 c8
    obtain ⟨⟨c0, c1, c2, c3⟩, ⟨c4, c5, c6, c7⟩, c8⟩ := cells4 F8.out.2.2.2
    go_wp2_with fail
    clear c0 c1 c2 c3 c4 c5 c6 c7 c8
    go_region_held3 (fun w' => w'.cell? ⟨w.heap.size, 0, none⟩ = some (.bool (decide (l < 0))) ∧ w'.cell? ⟨w.heap.size, 1, none⟩ = some (.int .u32 (d0 l)) ∧ w'.cell? ⟨w.heap.size, 2, none⟩ = some (.int .u32 (d1 l)) ∧ w'.cell? ⟨w.heap.size, 3, none⟩ = some (.int .u32 0) ∧ w'.cell? ⟨w.heap.size, 4, none⟩ = some (.int .u32 0) ∧ w'.cell? ⟨w.heap.size + 1, 0, none⟩ = some (.bool (decide (h < 0))) ∧ w'.cell? ⟨w.heap.size + 1, 1, none⟩ = some (.int .u32 (d0 h)) ∧ w'.cell? ⟨w.heap.size + 1, 2, none⟩ = some (.int .u32 (d1 h)) ∧ w'.cell? ⟨w.heap.size + 1, 3, none⟩ = some (.int .u32 0) ∧ w'.cell? ⟨w.heap.size + 1, 4, none⟩ = some (.int .u32 0) ∧ (w'.frozen? ⟨w1.heap.size, 0, none⟩ = false ∧ w'.frozen? ⟨w1.heap.size, 1, none⟩ = false ∧ w1.heap.size < w'.heap.size) ∧ ∃ x y p q, FrW w l h w1.heap.size x y p q w')
      (first | with_reducible exact frS F8.out.drew | with_reducible exact frS F9.out | with_reducible exact frS F10.out)
      (first | (go_at_call 46; (with_reducible refine (HWM.out _).mono ?_); rintro e v9 ⟨rfl, hB⟩; have F9 := Lib.hid (FrW.up F8.out.drew hB); clear hB)
                         | (go_at_call 73; (with_reducible refine (HC2.out _).mono ?_); rintro e v10 ⟨rfl, hB⟩; have F10 := Lib.hid (FrW.up F9.out hB); clear hB))
    rename_i hq
    clear hq
    have F11 := Lib.hid (F10.out)
    obtain ⟨⟨c0, c1, c2, c3⟩, ⟨c4, c5, c6, c7⟩, c8⟩ := cells4 F11.out.2.2.2
    have F12 := Lib.hid (FrW.set3 F11.out false)
    go_wp2_with fail
    clear c0 c1 c2 c3 c4 c5 c6 c7 c8
    obtain ⟨⟨c0, c1, c2, c3⟩, ⟨c4, c5, c6, c7⟩, c8⟩ := cells4 F12.out.2.2.2
    go_region_held3 (fun w' => w'.cell? ⟨w.heap.size, 0, none⟩ = some (.bool (decide (l < 0))) ∧ w'.cell? ⟨w.heap.size, 1, none⟩ = some (.int .u32 (d0 l)) ∧ w'.cell? ⟨w.heap.size, 2, none⟩ = some (.int .u32 (d1 l)) ∧ w'.cell? ⟨w.heap.size, 3, none⟩ = some (.int .u32 0) ∧ w'.cell? ⟨w.heap.size, 4, none⟩ = some (.int .u32 0) ∧ w'.cell? ⟨w.heap.size + 1, 0, none⟩ = some (.bool (decide (h < 0))) ∧ w'.cell? ⟨w.heap.size + 1, 1, none⟩ = some (.int .u32 (d0 h)) ∧ w'.cell? ⟨w.heap.size + 1, 2, none⟩ = some (.int .u32 (d1 h)) ∧ w'.cell? ⟨w.heap.size + 1, 3, none⟩ = some (.int .u32 0) ∧ w'.cell? ⟨w.heap.size + 1, 4, none⟩ = some (.int .u32 0) ∧ (w'.frozen? ⟨w1.heap.size, 0, none⟩ = false ∧ w'.frozen? ⟨w1.heap.size, 1, none⟩ = false ∧ w1.heap.size < w'.heap.size) ∧ ∃ x y p q, FrW w l h w1.heap.size x y p q w')
      (first | with_reducible exact frS F12.out.drew | with_reducible exact frS F13.out | with_reducible exact frS F14.out | with_reducible exact frS F15.out | with_reducible exact frS (FrW.set1 F15.out B))
      (first | (go_at_call 46; (with_reducible refine (HWN.out _).mono ?_); rintro e v13 ⟨rfl, hB⟩; have F13 := Lib.hid (FrW.up F12.out.drew hB); clear hB)
                         | (go_at_call 76; (with_reducible refine (HM.out _).mono ?_); rintro e v14 ⟨rfl, hB⟩; have F14 := Lib.hid (FrW.up F13.out hB); clear hB)
                         | (go_at_call 74; (with_reducible refine (HN2.out _).mono ?_); rintro e v15 ⟨rfl, hB⟩; have F15 := Lib.hid (FrW.up F14.out hB); clear hB; obtain ⟨⟨g0, g1, g2, g3⟩, ⟨g4, g5, g6, g7⟩, g8⟩ := cells4 F15.out.2.2.2))
    rename_i hq
    clear hq
    clear g0 g1 g2 g3 g4 g5 g6 g7 g8
    have F16 := Lib.hid (FrW.set1 F15.out B)
    clear c0 c1 c2 c3 c4 c5 c6 c7 c8
    obtain ⟨⟨c0, c1, c2, c3⟩, ⟨c4, c5, c6, c7⟩, c8⟩ := cells4 F16.out.2.2.2
    obtain ⟨⟨e0, e1, e2, e3⟩, ⟨e4, e5, e6, e7⟩, e8⟩ := cells4 F16.out.2.1
    go_wp2_with fail
    exact bodyPost_ret (v := .agg #[.int .i64 _, .int .i64 _, .bool _, .bool _]) (results_cell_row Tryz.results47 _ _ (w.heap.size + 2) 23 #[.int .i64 _, .int .i64 _, .bool _, .bool _] (0, 0) _ rfl (set4 F16.out.2.1 _ _ _ _) Tryz.underlying23 rfl (by kernel_rfl)) rfl ⟨rfl, Below.set4 F16.out.1.2.2 (by omega) _ _ _ _⟩
  · rw [if_neg (show ¬ (0 : Int) < 0 by decide), show decide ((0 : Int) < 0) = false from rfl]
    rw [if_neg (show ¬ 0 < (0 : Int) by decide)]; try rw [show decide (0 < (0 : Int)) = false from rfl]
    go_enter Tryz.func47, Tryz.ntmps47
    go_wp2_with fail
    refine (HF.out _).mono ?_
    rintro e w1 ⟨rfl, hB⟩
    have F0 := Lib.hid (show FrW w l h w1.heap.size 0 0 true true (w1.alloc (.cells #[.int .i64 0, .int .i64 0, .bool true, .bool true] 23)) from ⟨(Z0.out.up hB).up (below_box' w1 _), (T0.out.up hB).up (below_box' w1 _), (T0.out.up hB).lt, Blk.new w1 _ _⟩)
    clear hB Z0 T0
    go_wp2_with fail
    go_region_held3 (fun w' => w'.cell? ⟨w.heap.size, 0, none⟩ = some (.bool (decide (l < 0))) ∧ w'.cell? ⟨w.heap.size, 1, none⟩ = some (.int .u32 (d0 l)) ∧ w'.cell? ⟨w.heap.size, 2, none⟩ = some (.int .u32 (d1 l)) ∧ w'.cell? ⟨w.heap.size, 3, none⟩ = some (.int .u32 0) ∧ w'.cell? ⟨w.heap.size, 4, none⟩ = some (.int .u32 0) ∧ w'.cell? ⟨w.heap.size + 1, 0, none⟩ = some (.bool (decide (h < 0))) ∧ w'.cell? ⟨w.heap.size + 1, 1, none⟩ = some (.int .u32 (d0 h)) ∧ w'.cell? ⟨w.heap.size + 1, 2, none⟩ = some (.int .u32 (d1 h)) ∧ w'.cell? ⟨w.heap.size + 1, 3, none⟩ = some (.int .u32 0) ∧ w'.cell? ⟨w.heap.size + 1, 4, none⟩ = some (.int .u32 0) ∧ (w'.frozen? ⟨w1.heap.size, 0, none⟩ = false ∧ w'.frozen? ⟨w1.heap.size, 1, none⟩ = false ∧ w1.heap.size < w'.heap.size) ∧ ∃ x y p q, FrW w l h w1.heap.size x y p q w')
      (first | with_reducible exact frS F0.out.drew | with_reducible exact frS F1.out | with_reducible exact frS F2.out)
      (first | (go_at_call 46; (with_reducible refine (HWN.out _).mono ?_); rintro e v1 ⟨rfl, hB⟩; have F1 := Lib.hid (FrW.up F0.out.drew hB); clear hB)
                         | (go_at_call 73; (with_reducible refine (HC1.out _).mono ?_); rintro e v2 ⟨rfl, hB⟩; have F2 := Lib.hid (FrW.up F1.out hB); clear hB))
    rename_i hq
    clear hq
    have F3 := Lib.hid (F2.out)
    obtain ⟨⟨c0, c1, c2, c3⟩, ⟨c4, c5, c6, c7⟩, c8⟩ := cells4 F3.out.2.2.2
    have F4 := Lib.hid (FrW.set2 F3.out false)
    go_wp2_with fail
    clear c0 c1 c2 c3 c4 c5 c6 c7 c8
    obtain ⟨⟨c0, c1, c2, c3⟩, ⟨c4, c5, c6, c7⟩, c8⟩ := cells4 F4.out.2.2.2
    go_region_held3 (fun w' => w'.cell? ⟨w.heap.size, 0, none⟩ = some (.bool (decide (l < 0))) ∧ w'.cell? ⟨w.heap.size, 1, none⟩ = some (.int .u32 (d0 l)) ∧ w'.cell? ⟨w.heap.size, 2, none⟩ = some (.int .u32 (d1 l)) ∧ w'.cell? ⟨w.heap.size, 3, none⟩ = some (.int .u32 0) ∧ w'.cell? ⟨w.heap.size, 4, none⟩ = some (.int .u32 0) ∧ w'.cell? ⟨w.heap.size + 1, 0, none⟩ = some (.bool (decide (h < 0))) ∧ w'.cell? ⟨w.heap.size + 1, 1, none⟩ = some (.int .u32 (d0 h)) ∧ w'.cell? ⟨w.heap.size + 1, 2, none⟩ = some (.int .u32 (d1 h)) ∧ w'.cell? ⟨w.heap.size + 1, 3, none⟩ = some (.int .u32 0) ∧ w'.cell? ⟨w.heap.size + 1, 4, none⟩ = some (.int .u32 0) ∧ (w'.frozen? ⟨w1.heap.size, 0, none⟩ = false ∧ w'.frozen? ⟨w1.heap.size, 1, none⟩ = false ∧ w1.heap.size < w'.heap.size) ∧ ∃ x y p q, FrW w l h w1.heap.size x y p q w')
      (first | with_reducible exact frS F4.out.drew | with_reducible exact frS F5.out | with_reducible exact frS F6.out | with_reducible exact frS F7.out | with_reducible exact frS (FrW.set0 F7.out A))
      (first | (go_at_call 46; (with_reducible refine (HWM.out _).mono ?_); rintro e v5 ⟨rfl, hB⟩; have F5 := Lib.hid (FrW.up F4.out.drew hB); clear hB)
                         | (go_at_call 75; (with_reducible refine (HL.out _).mono ?_); rintro e v6 ⟨rfl, hB⟩; have F6 := Lib.hid (FrW.up F5.out hB); clear hB)
                         | (go_at_call 74; (with_reducible refine (HN1.out _).mono ?_); rintro e v7 ⟨rfl, hB⟩; have F7 := Lib.hid (FrW.up F6.out hB); clear hB; obtain ⟨⟨g0, g1, g2, g3⟩, ⟨g4, g5, g6, g7⟩, g8⟩ := cells4 F7.out.2.2.2))
    rename_i hq
    clear hq
    clear g0 g1 g2 g3 g4 g5 g6 g7 g8
    have F8 := Lib.hid (FrW.set0 F7.out A)
    clear c0 c1 c2 c3 c4 c5 c6 c7 c8
    obtain ⟨⟨c0, c1, c2, c3⟩, ⟨c4, c5, c6, c7⟩, c8⟩ := cells4 F8.out.2.2.2
    go_wp2_with fail
    clear c0 c1 c2 c3 c4 c5 c6 c7 c8
    go_region_held3 (fun w' => w'.cell? ⟨w.heap.size, 0, none⟩ = some (.bool (decide (l < 0))) ∧ w'.cell? ⟨w.heap.size, 1, none⟩ = some (.int .u32 (d0 l)) ∧ w'.cell? ⟨w.heap.size, 2, none⟩ = some (.int .u32 (d1 l)) ∧ w'.cell? ⟨w.heap.size, 3, none⟩ = some (.int .u32 0) ∧ w'.cell? ⟨w.heap.size, 4, none⟩ = some (.int .u32 0) ∧ w'.cell? ⟨w.heap.size + 1, 0, none⟩ = some (.bool (decide (h < 0))) ∧ w'.cell? ⟨w.heap.size + 1, 1, none⟩ = some (.int .u32 (d0 h)) ∧ w'.cell? ⟨w.heap.size + 1, 2, none⟩ = some (.int .u32 (d1 h)) ∧ w'.cell? ⟨w.heap.size + 1, 3, none⟩ = some (.int .u32 0) ∧ w'.cell? ⟨w.heap.size + 1, 4, none⟩ = some (.int .u32 0) ∧ (w'.frozen? ⟨w1.heap.size, 0, none⟩ = false ∧ w'.frozen? ⟨w1.heap.size, 1, none⟩ = false ∧ w1.heap.size < w'.heap.size) ∧ ∃ x y p q, FrW w l h w1.heap.size x y p q w')
      (first | with_reducible exact frS F8.out.drew | with_reducible exact frS F9.out | with_reducible exact frS F10.out)
      (first | (go_at_call 46; (with_reducible refine (HWM.out _).mono ?_); rintro e v9 ⟨rfl, hB⟩; have F9 := Lib.hid (FrW.up F8.out.drew hB); clear hB)
                         | (go_at_call 73; (with_reducible refine (HC2.out _).mono ?_); rintro e v10 ⟨rfl, hB⟩; have F10 := Lib.hid (FrW.up F9.out hB); clear hB))
    rename_i hq
    clear hq
    have F11 := Lib.hid (F10.out)
    obtain ⟨⟨c0, c1, c2, c3⟩, ⟨c4, c5, c6, c7⟩, c8⟩ := cells4 F11.out.2.2.2
    have F12 := Lib.hid (FrW.set3 F11.out false)
    go_wp2_with fail
    clear c0 c1 c2 c3 c4 c5 c6 c7 c8
    obtain ⟨⟨c0, c1, c2, c3⟩, ⟨c4, c5, c6, c7⟩, c8⟩ := cells4 F12.out.2.2.2
    go_region_held3 (fun w' => w'.cell? ⟨w.heap.size, 0, none⟩ = some (.bool (decide (l < 0))) ∧ w'.cell? ⟨w.heap.size, 1, none⟩ = some (.int .u32 (d0 l)) ∧ w'.cell? ⟨w.heap.size, 2, none⟩ = some (.int .u32 (d1 l)) ∧ w'.cell? ⟨w.heap.size, 3, none⟩ = some (.int .u32 0) ∧ w'.cell? ⟨w.heap.size, 4, none⟩ = some (.int .u32 0) ∧ w'.cell? ⟨w.heap.size + 1, 0, none⟩ = some (.bool (decide (h < 0))) ∧ w'.cell? ⟨w.heap.size + 1, 1, none⟩ = some (.int .u32 (d0 h)) ∧ w'.cell? ⟨w.heap.size + 1, 2, none⟩ = some (.int .u32 (d1 h)) ∧ w'.cell? ⟨w.heap.size + 1, 3, none⟩ = some (.int .u32 0) ∧ w'.cell? ⟨w.heap.size + 1, 4, none⟩ = some (.int .u32 0) ∧ (w'.frozen? ⟨w1.heap.size, 0, none⟩ = false ∧ w'.frozen? ⟨w1.heap.size, 1, none⟩ = false ∧ w1.heap.size < w'.heap.size) ∧ ∃ x y p q, FrW w l h w1.heap.size x y p q w')
      (first | with_reducible exact frS F12.out.drew | with_reducible exact frS F13.out | with_reducible exact frS F14.out | with_reducible exact frS F15.out | with_reducible exact frS (FrW.set1 F15.out B))
      (first | (go_at_call 46; (with_reducible refine (HWN.out _).mono ?_); rintro e v13 ⟨rfl, hB⟩; have F13 := Lib.hid (FrW.up F12.out.drew hB); clear hB)
                         | (go_at_call 76; (with_reducible refine (HM.out _).mono ?_); rintro e v14 ⟨rfl, hB⟩; have F14 := Lib.hid (FrW.up F13.out hB); clear hB)
                         | (go_at_call 74; (with_reducible refine (HN2.out _).mono ?_); rintro e v15 ⟨rfl, hB⟩; have F15 := Lib.hid (FrW.up F14.out hB); clear hB; obtain ⟨⟨g0, g1, g2, g3⟩, ⟨g4, g5, g6, g7⟩, g8⟩ := cells4 F15.out.2.2.2))
    rename_i hq
    clear hq
    clear g0 g1 g2 g3 g4 g5 g6 g7 g8
    have F16 := Lib.hid (FrW.set1 F15.out B)
    clear c0 c1 c2 c3 c4 c5 c6 c7 c8
    obtain ⟨⟨c0, c1, c2, c3⟩, ⟨c4, c5, c6, c7⟩, c8⟩ := cells4 F16.out.2.2.2
    obtain ⟨⟨e0, e1, e2, e3⟩, ⟨e4, e5, e6, e7⟩, e8⟩ := cells4 F16.out.2.1
    go_wp2_with fail
    exact bodyPost_ret (v := .agg #[.int .i64 _, .int .i64 _, .bool _, .bool _]) (results_cell_row Tryz.results47 _ _ (w.heap.size + 2) 23 #[.int .i64 _, .int .i64 _, .bool _, .bool _] (0, 0) _ rfl (set4 F16.out.2.1 _ _ _ _) Tryz.underlying23 rfl (by kernel_rfl)) rfl ⟨rfl, Below.set4 F16.out.1.2.2 (by omega) _ _ _ _⟩
  · rw [if_neg (show ¬ (0 : Int) < 0 by decide), show decide ((0 : Int) < 0) = false from rfl]
    rw [if_pos (show  0 < (1 : Int) by decide)]; try rw [show decide (0 < (1 : Int)) = true from rfl]
    go_enter Tryz.func47, Tryz.ntmps47
    go_wp2_with fail
    refine (HF.out _).mono ?_
    rintro e w1 ⟨rfl, hB⟩
    have F0 := Lib.hid (show FrW w l h w1.heap.size 0 0 true true (w1.alloc (.cells #[.int .i64 0, .int .i64 0, .bool true, .bool true] 23)) from ⟨(Z0.out.up hB).up (below_box' w1 _), (T0.out.up hB).up (below_box' w1 _), (T0.out.up hB).lt, Blk.new w1 _ _⟩)
    clear hB Z0 T0
    go_wp2_with fail
    go_region_held3 (fun w' => w'.cell? ⟨w.heap.size, 0, none⟩ = some (.bool (decide (l < 0))) ∧ w'.cell? ⟨w.heap.size, 1, none⟩ = some (.int .u32 (d0 l)) ∧ w'.cell? ⟨w.heap.size, 2, none⟩ = some (.int .u32 (d1 l)) ∧ w'.cell? ⟨w.heap.size, 3, none⟩ = some (.int .u32 0) ∧ w'.cell? ⟨w.heap.size, 4, none⟩ = some (.int .u32 0) ∧ w'.cell? ⟨w.heap.size + 1, 0, none⟩ = some (.bool (decide (h < 0))) ∧ w'.cell? ⟨w.heap.size + 1, 1, none⟩ = some (.int .u32 (d0 h)) ∧ w'.cell? ⟨w.heap.size + 1, 2, none⟩ = some (.int .u32 (d1 h)) ∧ w'.cell? ⟨w.heap.size + 1, 3, none⟩ = some (.int .u32 0) ∧ w'.cell? ⟨w.heap.size + 1, 4, none⟩ = some (.int .u32 0) ∧ (w'.frozen? ⟨w1.heap.size, 0, none⟩ = false ∧ w'.frozen? ⟨w1.heap.size, 1, none⟩ = false ∧ w1.heap.size < w'.heap.size) ∧ ∃ x y p q, FrW w l h w1.heap.size x y p q w')
      (first | with_reducible exact frS F0.out.drew | with_reducible exact frS F1.out | with_reducible exact frS F2.out)
      (first | (go_at_call 46; (with_reducible refine (HWN.out _).mono ?_); rintro e v1 ⟨rfl, hB⟩; have F1 := Lib.hid (FrW.up F0.out.drew hB); clear hB)
                         | (go_at_call 73; (with_reducible refine (HC1.out _).mono ?_); rintro e v2 ⟨rfl, hB⟩; have F2 := Lib.hid (FrW.up F1.out hB); clear hB))
    rename_i hq
    clear hq
    have F3 := Lib.hid (F2.out)
    obtain ⟨⟨c0, c1, c2, c3⟩, ⟨c4, c5, c6, c7⟩, c8⟩ := cells4 F3.out.2.2.2
    have F4 := Lib.hid (FrW.set2 F3.out false)
    go_wp2_with fail
    clear c0 c1 c2 c3 c4 c5 c6 c7 c8
    obtain ⟨⟨c0, c1, c2, c3⟩, ⟨c4, c5, c6, c7⟩, c8⟩ := cells4 F4.out.2.2.2
    go_region_held3 (fun w' => w'.cell? ⟨w.heap.size, 0, none⟩ = some (.bool (decide (l < 0))) ∧ w'.cell? ⟨w.heap.size, 1, none⟩ = some (.int .u32 (d0 l)) ∧ w'.cell? ⟨w.heap.size, 2, none⟩ = some (.int .u32 (d1 l)) ∧ w'.cell? ⟨w.heap.size, 3, none⟩ = some (.int .u32 0) ∧ w'.cell? ⟨w.heap.size, 4, none⟩ = some (.int .u32 0) ∧ w'.cell? ⟨w.heap.size + 1, 0, none⟩ = some (.bool (decide (h < 0))) ∧ w'.cell? ⟨w.heap.size + 1, 1, none⟩ = some (.int .u32 (d0 h)) ∧ w'.cell? ⟨w.heap.size + 1, 2, none⟩ = some (.int .u32 (d1 h)) ∧ w'.cell? ⟨w.heap.size + 1, 3, none⟩ = some (.int .u32 0) ∧ w'.cell? ⟨w.heap.size + 1, 4, none⟩ = some (.int .u32 0) ∧ (w'.frozen? ⟨w1.heap.size, 0, none⟩ = false ∧ w'.frozen? ⟨w1.heap.size, 1, none⟩ = false ∧ w1.heap.size < w'.heap.size) ∧ ∃ x y p q, FrW w l h w1.heap.size x y p q w')
      (first | with_reducible exact frS F4.out.drew | with_reducible exact frS F5.out | with_reducible exact frS F6.out | with_reducible exact frS F7.out | with_reducible exact frS (FrW.set0 F7.out A))
      (first | (go_at_call 46; (with_reducible refine (HWM.out _).mono ?_); rintro e v5 ⟨rfl, hB⟩; have F5 := Lib.hid (FrW.up F4.out.drew hB); clear hB)
                         | (go_at_call 75; (with_reducible refine (HL.out _).mono ?_); rintro e v6 ⟨rfl, hB⟩; have F6 := Lib.hid (FrW.up F5.out hB); clear hB)
                         | (go_at_call 74; (with_reducible refine (HN1.out _).mono ?_); rintro e v7 ⟨rfl, hB⟩; have F7 := Lib.hid (FrW.up F6.out hB); clear hB; obtain ⟨⟨g0, g1, g2, g3⟩, ⟨g4, g5, g6, g7⟩, g8⟩ := cells4 F7.out.2.2.2))
    rename_i hq
    clear hq
    clear g0 g1 g2 g3 g4 g5 g6 g7 g8
    have F8 := Lib.hid (FrW.set0 F7.out A)
    clear c0 c1 c2 c3 c4 c5 c6 c7 c8
    obtain ⟨⟨c0, c1, c2, c3⟩, ⟨c4, c5, c6, c7⟩, c8⟩ := cells4 F8.out.2.2.2
    go_wp2_with fail
    clear c0 c1 c2 c3 c4 c5 c6 c7 c8
    go_region_held3 (fun w' => w'.cell? ⟨w.heap.size, 0, none⟩ = some (.bool (decide (l < 0))) ∧ w'.cell? ⟨w.heap.size, 1, none⟩ = some (.int .u32 (d0 l)) ∧ w'.cell? ⟨w.heap.size, 2, none⟩ = some (.int .u32 (d1 l)) ∧ w'.cell? ⟨w.heap.size, 3, none⟩ = some (.int .u32 0) ∧ w'.cell? ⟨w.heap.size, 4, none⟩ = some (.int .u32 0) ∧ w'.cell? ⟨w.heap.size + 1, 0, none⟩ = some (.bool (decide (h < 0))) ∧ w'.cell? ⟨w.heap.size + 1, 1, none⟩ = some (.int .u32 (d0 h)) ∧ w'.cell? ⟨w.heap.size + 1, 2, none⟩ = some (.int .u32 (d1 h)) ∧ w'.cell? ⟨w.heap.size + 1, 3, none⟩ = some (.int .u32 0) ∧ w'.cell? ⟨w.heap.size + 1, 4, none⟩ = some (.int .u32 0) ∧ (w'.frozen? ⟨w1.heap.size, 0, none⟩ = false ∧ w'.frozen? ⟨w1.heap.size, 1, none⟩ = false ∧ w1.heap.size < w'.heap.size) ∧ ∃ x y p q, FrW w l h w1.heap.size x y p q w')
      (first | with_reducible exact frS F8.out.drew | with_reducible exact frS F9.out | with_reducible exact frS F10.out)
      (first | (go_at_call 46; (with_reducible refine (HWM.out _).mono ?_); rintro e v9 ⟨rfl, hB⟩; have F9 := Lib.hid (FrW.up F8.out.drew hB); clear hB)
                         | (go_at_call 73; (with_reducible refine (HC2.out _).mono ?_); rintro e v10 ⟨rfl, hB⟩; have F10 := Lib.hid (FrW.up F9.out hB); clear hB))
    rename_i hq
    clear hq
    have F11 := Lib.hid (F10.out)
    obtain ⟨⟨c0, c1, c2, c3⟩, ⟨c4, c5, c6, c7⟩, c8⟩ := cells4 F11.out.2.2.2
    obtain ⟨⟨e0, e1, e2, e3⟩, ⟨e4, e5, e6, e7⟩, e8⟩ := cells4 F11.out.2.1
    go_wp2_with fail
    exact bodyPost_ret (v := .agg #[.int .i64 _, .int .i64 _, .bool _, .bool _]) (results_cell_row Tryz.results47 _ _ (w.heap.size + 2) 23 #[.int .i64 _, .int .i64 _, .bool _, .bool _] (0, 0) _ rfl (set4 F11.out.2.1 _ _ _ _) Tryz.underlying23 rfl (by kernel_rfl)) rfl ⟨rfl, Below.set4 F11.out.1.2.2 (by omega) _ _ _ _⟩
  · rw [if_neg (show ¬ (1 : Int) < 0 by decide), show decide ((1 : Int) < 0) = false from rfl]
    rw [if_neg (show ¬ 0 < (-1 : Int) by decide)]; try rw [show decide (0 < (-1 : Int)) = false from rfl]
    go_enter Tryz.func47, Tryz.ntmps47
    go_wp2_with fail
    refine (HF.out _).mono ?_
    rintro e w1 ⟨rfl, hB⟩
    have F0 := Lib.hid (show FrW w l h w1.heap.size 0 0 true true (w1.alloc (.cells #[.int .i64 0, .int .i64 0, .bool true, .bool true] 23)) from ⟨(Z0.out.up hB).up (below_box' w1 _), (T0.out.up hB).up (below_box' w1 _), (T0.out.up hB).lt, Blk.new w1 _ _⟩)
    clear hB Z0 T0
    go_wp2_with fail
    go_region_held3 (fun w' => w'.cell? ⟨w.heap.size, 0, none⟩ = some (.bool (decide (l < 0))) ∧ w'.cell? ⟨w.heap.size, 1, none⟩ = some (.int .u32 (d0 l)) ∧ w'.cell? ⟨w.heap.size, 2, none⟩ = some (.int .u32 (d1 l)) ∧ w'.cell? ⟨w.heap.size, 3, none⟩ = some (.int .u32 0) ∧ w'.cell? ⟨w.heap.size, 4, none⟩ = some (.int .u32 0) ∧ w'.cell? ⟨w.heap.size + 1, 0, none⟩ = some (.bool (decide (h < 0))) ∧ w'.cell? ⟨w.heap.size + 1, 1, none⟩ = some (.int .u32 (d0 h)) ∧ w'.cell? ⟨w.heap.size + 1, 2, none⟩ = some (.int .u32 (d1 h)) ∧ w'.cell? ⟨w.heap.size + 1, 3, none⟩ = some (.int .u32 0) ∧ w'.cell? ⟨w.heap.size + 1, 4, none⟩ = some (.int .u32 0) ∧ (w'.frozen? ⟨w1.heap.size, 0, none⟩ = false ∧ w'.frozen? ⟨w1.heap.size, 1, none⟩ = false ∧ w1.heap.size < w'.heap.size) ∧ ∃ x y p q, FrW w l h w1.heap.size x y p q w')
      (first | with_reducible exact frS F0.out.drew | with_reducible exact frS F1.out | with_reducible exact frS F2.out)
      (first | (go_at_call 46; (with_reducible refine (HWN.out _).mono ?_); rintro e v1 ⟨rfl, hB⟩; have F1 := Lib.hid (FrW.up F0.out.drew hB); clear hB)
                         | (go_at_call 73; (with_reducible refine (HC1.out _).mono ?_); rintro e v2 ⟨rfl, hB⟩; have F2 := Lib.hid (FrW.up F1.out hB); clear hB))
    rename_i hq
    clear hq
    have F3 := Lib.hid (F2.out)
    obtain ⟨⟨c0, c1, c2, c3⟩, ⟨c4, c5, c6, c7⟩, c8⟩ := cells4 F3.out.2.2.2
    have F4 := Lib.hid (FrW.set2 F3.out false)
    go_wp2_with fail
    clear c0 c1 c2 c3 c4 c5 c6 c7 c8
    obtain ⟨⟨c0, c1, c2, c3⟩, ⟨c4, c5, c6, c7⟩, c8⟩ := cells4 F4.out.2.2.2
    go_region_held3 (fun w' => w'.cell? ⟨w.heap.size, 0, none⟩ = some (.bool (decide (l < 0))) ∧ w'.cell? ⟨w.heap.size, 1, none⟩ = some (.int .u32 (d0 l)) ∧ w'.cell? ⟨w.heap.size, 2, none⟩ = some (.int .u32 (d1 l)) ∧ w'.cell? ⟨w.heap.size, 3, none⟩ = some (.int .u32 0) ∧ w'.cell? ⟨w.heap.size, 4, none⟩ = some (.int .u32 0) ∧ w'.cell? ⟨w.heap.size + 1, 0, none⟩ = some (.bool (decide (h < 0))) ∧ w'.cell? ⟨w.heap.size + 1, 1, none⟩ = some (.int .u32 (d0 h)) ∧ w'.cell? ⟨w.heap.size + 1, 2, none⟩ = some (.int .u32 (d1 h)) ∧ w'.cell? ⟨w.heap.size + 1, 3, none⟩ = some (.int .u32 0) ∧ w'.cell? ⟨w.heap.size + 1, 4, none⟩ = some (.int .u32 0) ∧ (w'.frozen? ⟨w1.heap.size, 0, none⟩ = false ∧ w'.frozen? ⟨w1.heap.size, 1, none⟩ = false ∧ w1.heap.size < w'.heap.size) ∧ ∃ x y p q, FrW w l h w1.heap.size x y p q w')
      (first | with_reducible exact frS F4.out.drew | with_reducible exact frS F5.out | with_reducible exact frS F6.out | with_reducible exact frS F7.out | with_reducible exact frS (FrW.set0 F7.out A))
      (first | (go_at_call 46; (with_reducible refine (HWM.out _).mono ?_); rintro e v5 ⟨rfl, hB⟩; have F5 := Lib.hid (FrW.up F4.out.drew hB); clear hB)
                         | (go_at_call 75; (with_reducible refine (HL.out _).mono ?_); rintro e v6 ⟨rfl, hB⟩; have F6 := Lib.hid (FrW.up F5.out hB); clear hB)
                         | (go_at_call 74; (with_reducible refine (HN1.out _).mono ?_); rintro e v7 ⟨rfl, hB⟩; have F7 := Lib.hid (FrW.up F6.out hB); clear hB; obtain ⟨⟨g0, g1, g2, g3⟩, ⟨g4, g5, g6, g7⟩, g8⟩ := cells4 F7.out.2.2.2))
    rename_i hq
    clear hq
    clear g0 g1 g2 g3 g4 g5 g6 g7 g8
    have F8 := Lib.hid (FrW.set0 F7.out A)
    clear c0 c1 c2 c3 c4 c5 c6 c7 c8
    obtain ⟨⟨c0, c1, c2, c3⟩, ⟨c4, c5, c6, c7⟩, c8⟩ := cells4 F8.out.2.2.2
    go_wp2_with fail
    clear c0 c1 c2 c3 c4 c5 c6 c7 c8
    go_region_held3 (fun w' => w'.cell? ⟨w.heap.size, 0, none⟩ = some (.bool (decide (l < 0))) ∧ w'.cell? ⟨w.heap.size, 1, none⟩ = some (.int .u32 (d0 l)) ∧ w'.cell? ⟨w.heap.size, 2, none⟩ = some (.int .u32 (d1 l)) ∧ w'.cell? ⟨w.heap.size, 3, none⟩ = some (.int .u32 0) ∧ w'.cell? ⟨w.heap.size, 4, none⟩ = some (.int .u32 0) ∧ w'.cell? ⟨w.heap.size + 1, 0, none⟩ = some (.bool (decide (h < 0))) ∧ w'.cell? ⟨w.heap.size + 1, 1, none⟩ = some (.int .u32 (d0 h)) ∧ w'.cell? ⟨w.heap.size + 1, 2, none⟩ = some (.int .u32 (d1 h)) ∧ w'.cell? ⟨w.heap.size + 1, 3, none⟩ = some (.int .u32 0) ∧ w'.cell? ⟨w.heap.size + 1, 4, none⟩ = some (.int .u32 0) ∧ (w'.frozen? ⟨w1.heap.size, 0, none⟩ = false ∧ w'.frozen? ⟨w1.heap.size, 1, none⟩ = false ∧ w1.heap.size < w'.heap.size) ∧ ∃ x y p q, FrW w l h w1.heap.size x y p q w')
      (first | with_reducible exact frS F8.out.drew | with_reducible exact frS F9.out | with_reducible exact frS F10.out)
      (first | (go_at_call 46; (with_reducible refine (HWM.out _).mono ?_); rintro e v9 ⟨rfl, hB⟩; have F9 := Lib.hid (FrW.up F8.out.drew hB); clear hB)
                         | (go_at_call 73; (with_reducible refine (HC2.out _).mono ?_); rintro e v10 ⟨rfl, hB⟩; have F10 := Lib.hid (FrW.up F9.out hB); clear hB))
    rename_i hq
    clear hq
    have F11 := Lib.hid (F10.out)
    obtain ⟨⟨c0, c1, c2, c3⟩, ⟨c4, c5, c6, c7⟩, c8⟩ := cells4 F11.out.2.2.2
    have F12 := Lib.hid (FrW.set3 F11.out false)
    go_wp2_with fail
    clear c0 c1 c2 c3 c4 c5 c6 c7 c8
    obtain ⟨⟨c0, c1, c2, c3⟩, ⟨c4, c5, c6, c7⟩, c8⟩ := cells4 F12.out.2.2.2
    go_region_held3 (fun w' => w'.cell? ⟨w.heap.size, 0, none⟩ = some (.bool (decide (l < 0))) ∧ w'.cell? ⟨w.heap.size, 1, none⟩ = some (.int .u32 (d0 l)) ∧ w'.cell? ⟨w.heap.size, 2, none⟩ = some (.int .u32 (d1 l)) ∧ w'.cell? ⟨w.heap.size, 3, none⟩ = some (.int .u32 0) ∧ w'.cell? ⟨w.heap.size, 4, none⟩ = some (.int .u32 0) ∧ w'.cell? ⟨w.heap.size + 1, 0, none⟩ = some (.bool (decide (h < 0))) ∧ w'.cell? ⟨w.heap.size + 1, 1, none⟩ = some (.int .u32 (d0 h)) ∧ w'.cell? ⟨w.heap.size + 1, 2, none⟩ = some (.int .u32 (d1 h)) ∧ w'.cell? ⟨w.heap.size + 1, 3, none⟩ = some (.int .u32 0) ∧ w'.cell? ⟨w.heap.size + 1, 4, none⟩ = some (.int .u32 0) ∧ (w'.frozen? ⟨w1.heap.size, 0, none⟩ = false ∧ w'.frozen? ⟨w1.heap.size, 1, none⟩ = false ∧ w1.heap.size < w'.heap.size) ∧ ∃ x y p q, FrW w l h w1.heap.size x y p q w')
      (first | with_reducible exact frS F12.out.drew | with_reducible exact frS F13.out | with_reducible exact frS F14.out | with_reducible exact frS F15.out | with_reducible exact frS (FrW.set1 F15.out B))
      (first | (go_at_call 46; (with_reducible refine (HWN.out _).mono ?_); rintro e v13 ⟨rfl, hB⟩; have F13 := Lib.hid (FrW.up F12.out.drew hB); clear hB)
                         | (go_at_call 76; (with_reducible refine (HM.out _).mono ?_); rintro e v14 ⟨rfl, hB⟩; have F14 := Lib.hid (FrW.up F13.out hB); clear hB)
                         | (go_at_call 74; (with_reducible refine (HN2.out _).mono ?_); rintro e v15 ⟨rfl, hB⟩; have F15 := Lib.hid (FrW.up F14.out hB); clear hB; obtain ⟨⟨g0, g1, g2, g3⟩, ⟨g4, g5, g6, g7⟩, g8⟩ := cells4 F15.out.2.2.2))
    rename_i hq
    clear hq
    clear g0 g1 g2 g3 g4 g5 g6 g7 g8
    have F16 := Lib.hid (FrW.set1 F15.out B)
    clear c0 c1 c2 c3 c4 c5 c6 c7 c8
    obtain ⟨⟨c0, c1, c2, c3⟩, ⟨c4, c5, c6, c7⟩, c8⟩ := cells4 F16.out.2.2.2
    obtain ⟨⟨e0, e1, e2, e3⟩, ⟨e4, e5, e6, e7⟩, e8⟩ := cells4 F16.out.2.1
    go_wp2_with fail
    exact bodyPost_ret (v := .agg #[.int .i64 _, .int .i64 _, .bool _, .bool _]) (results_cell_row Tryz.results47 _ _ (w.heap.size + 2) 23 #[.int .i64 _, .int .i64 _, .bool _, .bool _] (0, 0) _ rfl (set4 F16.out.2.1 _ _ _ _) Tryz.underlying23 rfl (by kernel_rfl)) rfl ⟨rfl, Below.set4 F16.out.1.2.2 (by omega) _ _ _ _⟩
  · rw [if_neg (show ¬ (1 : Int) < 0 by decide), show decide ((1 : Int) < 0) = false from rfl]
    rw [if_neg (show ¬ 0 < (0 : Int) by decide)]; try rw [show decide (0 < (0 : Int)) = false from rfl]
    go_enter Tryz.func47, Tryz.ntmps47
    go_wp2_with fail
    refine (HF.out _).mono ?_
    rintro e w1 ⟨rfl, hB⟩
    have F0 := Lib.hid (show FrW w l h w1.heap.size 0 0 true true (w1.alloc (.cells #[.int .i64 0, .int .i64 0, .bool true, .bool true] 23)) from ⟨(Z0.out.up hB).up (below_box' w1 _), (T0.out.up hB).up (below_box' w1 _), (T0.out.up hB).lt, Blk.new w1 _ _⟩)
    clear hB Z0 T0
    go_wp2_with fail
    go_region_held3 (fun w' => w'.cell? ⟨w.heap.size, 0, none⟩ = some (.bool (decide (l < 0))) ∧ w'.cell? ⟨w.heap.size, 1, none⟩ = some (.int .u32 (d0 l)) ∧ w'.cell? ⟨w.heap.size, 2, none⟩ = some (.int .u32 (d1 l)) ∧ w'.cell? ⟨w.heap.size, 3, none⟩ = some (.int .u32 0) ∧ w'.cell? ⟨w.heap.size, 4, none⟩ = some (.int .u32 0) ∧ w'.cell? ⟨w.heap.size + 1, 0, none⟩ = some (.bool (decide (h < 0))) ∧ w'.cell? ⟨w.heap.size + 1, 1, none⟩ = some (.int .u32 (d0 h)) ∧ w'.cell? ⟨w.heap.size + 1, 2, none⟩ = some (.int .u32 (d1 h)) ∧ w'.cell? ⟨w.heap.size + 1, 3, none⟩ = some (.int .u32 0) ∧ w'.cell? ⟨w.heap.size + 1, 4, none⟩ = some (.int .u32 0) ∧ (w'.frozen? ⟨w1.heap.size, 0, none⟩ = false ∧ w'.frozen? ⟨w1.heap.size, 1, none⟩ = false ∧ w1.heap.size < w'.heap.size) ∧ ∃ x y p q, FrW w l h w1.heap.size x y p q w')
      (first | with_reducible exact frS F0.out.drew | with_reducible exact frS F1.out | with_reducible exact frS F2.out)
      (first | (go_at_call 46; (with_reducible refine (HWN.out _).mono ?_); rintro e v1 ⟨rfl, hB⟩; have F1 := Lib.hid (FrW.up F0.out.drew hB); clear hB)
                         | (go_at_call 73; (with_reducible refine (HC1.out _).mono ?_); rintro e v2 ⟨rfl, hB⟩; have F2 := Lib.hid (FrW.up F1.out hB); clear hB))
    rename_i hq
    clear hq
    have F3 := Lib.hid (F2.out)
    obtain ⟨⟨c0, c1, c2, c3⟩, ⟨c4, c5, c6, c7⟩, c8⟩ := cells4 F3.out.2.2.2
    have F4 := Lib.hid (FrW.set2 F3.out false)
    go_wp2_with fail
    clear c0 c1 c2 c3 c4 c5 c6 c7 c8
    obtain ⟨⟨c0, c1, c2, c3⟩, ⟨c4, c5, c6, c7⟩, c8⟩ := cells4 F4.out.2.2.2
    go_region_held3 (fun w' => w'.cell? ⟨w.heap.size, 0, none⟩ = some (.bool (decide (l < 0))) ∧ w'.cell? ⟨w.heap.size, 1, none⟩ = some (.int .u32 (d0 l)) ∧ w'.cell? ⟨w.heap.size, 2, none⟩ = some (.int .u32 (d1 l)) ∧ w'.cell? ⟨w.heap.size, 3, none⟩ = some (.int .u32 0) ∧ w'.cell? ⟨w.heap.size, 4, none⟩ = some (.int .u32 0) ∧ w'.cell? ⟨w.heap.size + 1, 0, none⟩ = some (.bool (decide (h < 0))) ∧ w'.cell? ⟨w.heap.size + 1, 1, none⟩ = some (.int .u32 (d0 h)) ∧ w'.cell? ⟨w.heap.size + 1, 2, none⟩ = some (.int .u32 (d1 h)) ∧ w'.cell? ⟨w.heap.size + 1, 3, none⟩ = some (.int .u32 0) ∧ w'.cell? ⟨w.heap.size + 1, 4, none⟩ = some (.int .u32 0) ∧ (w'.frozen? ⟨w1.heap.size, 0, none⟩ = false ∧ w'.frozen? ⟨w1.heap.size, 1, none⟩ = false ∧ w1.heap.size < w'.heap.size) ∧ ∃ x y p q, FrW w l h w1.heap.size x y p q w')
      (first | with_reducible exact frS F4.out.drew | with_reducible exact frS F5.out | with_reducible exact frS F6.out | with_reducible exact frS F7.out | with_reducible exact frS (FrW.set0 F7.out A))
      (first | (go_at_call 46; (with_reducible refine (HWM.out _).mono ?_); rintro e v5 ⟨rfl, hB⟩; have F5 := Lib.hid (FrW.up F4.out.drew hB); clear hB)
                         | (go_at_call 75; (with_reducible refine (HL.out _).mono ?_); rintro e v6 ⟨rfl, hB⟩; have F6 := Lib.hid (FrW.up F5.out hB); clear hB)
                         | (go_at_call 74; (with_reducible refine (HN1.out _).mono ?_); rintro e v7 ⟨rfl, hB⟩; have F7 := Lib.hid (FrW.up F6.out hB); clear hB; obtain ⟨⟨g0, g1, g2, g3⟩, ⟨g4, g5, g6, g7⟩, g8⟩ := cells4 F7.out.2.2.2))
    rename_i hq
    clear hq
    clear g0 g1 g2 g3 g4 g5 g6 g7 g8
    have F8 := Lib.hid (FrW.set0 F7.out A)
    clear c0 c1 c2 c3 c4 c5 c6 c7 c8
    obtain ⟨⟨c0, c1, c2, c3⟩, ⟨c4, c5, c6, c7⟩, c8⟩ := cells4 F8.out.2.2.2
    go_wp2_with fail
    clear c0 c1 c2 c3 c4 c5 c6 c7 c8
    go_region_held3 (fun w' => w'.cell? ⟨w.heap.size, 0, none⟩ = some (.bool (decide (l < 0))) ∧ w'.cell? ⟨w.heap.size, 1, none⟩ = some (.int .u32 (d0 l)) ∧ w'.cell? ⟨w.heap.size, 2, none⟩ = some (.int .u32 (d1 l)) ∧ w'.cell? ⟨w.heap.size, 3, none⟩ = some (.int .u32 0) ∧ w'.cell? ⟨w.heap.size, 4, none⟩ = some (.int .u32 0) ∧ w'.cell? ⟨w.heap.size + 1, 0, none⟩ = some (.bool (decide (h < 0))) ∧ w'.cell? ⟨w.heap.size + 1, 1, none⟩ = some (.int .u32 (d0 h)) ∧ w'.cell? ⟨w.heap.size + 1, 2, none⟩ = some (.int .u32 (d1 h)) ∧ w'.cell? ⟨w.heap.size + 1, 3, none⟩ = some (.int .u32 0) ∧ w'.cell? ⟨w.heap.size + 1, 4, none⟩ = some (.int .u32 0) ∧ (w'.frozen? ⟨w1.heap.size, 0, none⟩ = false ∧ w'.frozen? ⟨w1.heap.size, 1, none⟩ = false ∧ w1.heap.size < w'.heap.size) ∧ ∃ x y p q, FrW w l h w1.heap.size x y p q w')
      (first | with_reducible exact frS F8.out.drew | with_reducible exact frS F9.out | with_reducible exact frS F10.out)
      (first | (go_at_call 46; (with_reducible refine (HWM.out _).mono ?_); rintro e v9 ⟨rfl, hB⟩; have F9 := Lib.hid (FrW.up F8.out.drew hB); clear hB)
                         | (go_at_call 73; (with_reducible refine (HC2.out _).mono ?_); rintro e v10 ⟨rfl, hB⟩; have F10 := Lib.hid (FrW.up F9.out hB); clear hB))
    rename_i hq
    clear hq
    have F11 := Lib.hid (F10.out)
    obtain ⟨⟨c0, c1, c2, c3⟩, ⟨c4, c5, c6, c7⟩, c8⟩ := cells4 F11.out.2.2.2
    have F12 := Lib.hid (FrW.set3 F11.out false)
    go_wp2_with fail
    clear c0 c1 c2 c3 c4 c5 c6 c7 c8
    obtain ⟨⟨c0, c1, c2, c3⟩, ⟨c4, c5, c6, c7⟩, c8⟩ := cells4 F12.out.2.2.2
    go_region_held3 (fun w' => w'.cell? ⟨w.heap.size, 0, none⟩ = some (.bool (decide (l < 0))) ∧ w'.cell? ⟨w.heap.size, 1, none⟩ = some (.int .u32 (d0 l)) ∧ w'.cell? ⟨w.heap.size, 2, none⟩ = some (.int .u32 (d1 l)) ∧ w'.cell? ⟨w.heap.size, 3, none⟩ = some (.int .u32 0) ∧ w'.cell? ⟨w.heap.size, 4, none⟩ = some (.int .u32 0) ∧ w'.cell? ⟨w.heap.size + 1, 0, none⟩ = some (.bool (decide (h < 0))) ∧ w'.cell? ⟨w.heap.size + 1, 1, none⟩ = some (.int .u32 (d0 h)) ∧ w'.cell? ⟨w.heap.size + 1, 2, none⟩ = some (.int .u32 (d1 h)) ∧ w'.cell? ⟨w.heap.size + 1, 3, none⟩ = some (.int .u32 0) ∧ w'.cell? ⟨w.heap.size + 1, 4, none⟩ = some (.int .u32 0) ∧ (w'.frozen? ⟨w1.heap.size, 0, none⟩ = false ∧ w'.frozen? ⟨w1.heap.size, 1, none⟩ = false ∧ w1.heap.size < w'.heap.size) ∧ ∃ x y p q, FrW w l h w1.heap.size x y p q w')
      (first | with_reducible exact frS F12.out.drew | with_reducible exact frS F13.out | with_reducible exact frS F14.out | with_reducible exact frS F15.out | with_reducible exact frS (FrW.set1 F15.out B))
      (first | (go_at_call 46; (with_reducible refine (HWN.out _).mono ?_); rintro e v13 ⟨rfl, hB⟩; have F13 := Lib.hid (FrW.up F12.out.drew hB); clear hB)
                         | (go_at_call 76; (with_reducible refine (HM.out _).mono ?_); rintro e v14 ⟨rfl, hB⟩; have F14 := Lib.hid (FrW.up F13.out hB); clear hB)
                         | (go_at_call 74; (with_reducible refine (HN2.out _).mono ?_); rintro e v15 ⟨rfl, hB⟩; have F15 := Lib.hid (FrW.up F14.out hB); clear hB; obtain ⟨⟨g0, g1, g2, g3⟩, ⟨g4, g5, g6, g7⟩, g8⟩ := cells4 F15.out.2.2.2))
    rename_i hq
    clear hq
    clear g0 g1 g2 g3 g4 g5 g6 g7 g8
    have F16 := Lib.hid (FrW.set1 F15.out B)
    clear c0 c1 c2 c3 c4 c5 c6 c7 c8
    obtain ⟨⟨c0, c1, c2, c3⟩, ⟨c4, c5, c6, c7⟩, c8⟩ := cells4 F16.out.2.2.2
    obtain ⟨⟨e0, e1, e2, e3⟩, ⟨e4, e5, e6, e7⟩, e8⟩ := cells4 F16.out.2.1
    go_wp2_with fail
    exact bodyPost_ret (v := .agg #[.int .i64 _, .int .i64 _, .bool _, .bool _]) (results_cell_row Tryz.results47 _ _ (w.heap.size + 2) 23 #[.int .i64 _, .int .i64 _, .bool _, .bool _] (0, 0) _ rfl (set4 F16.out.2.1 _ _ _ _) Tryz.underlying23 rfl (by kernel_rfl)) rfl ⟨rfl, Below.set4 F16.out.1.2.2 (by omega) _ _ _ _⟩
  · rw [if_neg (show ¬ (1 : Int) < 0 by decide), show decide ((1 : Int) < 0) = false from rfl]
    rw [if_pos (show  0 < (1 : Int) by decide)]; try rw [show decide (0 < (1 : Int)) = true from rfl]
    go_enter Tryz.func47, Tryz.ntmps47
    go_wp2_with fail
    refine (HF.out _).mono ?_
    rintro e w1 ⟨rfl, hB⟩
    have F0 := Lib.hid (show FrW w l h w1.heap.size 0 0 true true (w1.alloc (.cells #[.int .i64 0, .int .i64 0, .bool true, .bool true] 23)) from ⟨(Z0.out.up hB).up (below_box' w1 _), (T0.out.up hB).up (below_box' w1 _), (T0.out.up hB).lt, Blk.new w1 _ _⟩)
    clear hB Z0 T0
    go_wp2_with fail
    go_region_held3 (fun w' => w'.cell? ⟨w.heap.size, 0, none⟩ = some (.bool (decide (l < 0))) ∧ w'.cell? ⟨w.heap.size, 1, none⟩ = some (.int .u32 (d0 l)) ∧ w'.cell? ⟨w.heap.size, 2, none⟩ = some (.int .u32 (d1 l)) ∧ w'.cell? ⟨w.heap.size, 3, none⟩ = some (.int .u32 0) ∧ w'.cell? ⟨w.heap.size, 4, none⟩ = some (.int .u32 0) ∧ w'.cell? ⟨w.heap.size + 1, 0, none⟩ = some (.bool (decide (h < 0))) ∧ w'.cell? ⟨w.heap.size + 1, 1, none⟩ = some (.int .u32 (d0 h)) ∧ w'.cell? ⟨w.heap.size + 1, 2, none⟩ = some (.int .u32 (d1 h)) ∧ w'.cell? ⟨w.heap.size + 1, 3, none⟩ = some (.int .u32 0) ∧ w'.cell? ⟨w.heap.size + 1, 4, none⟩ = some (.int .u32 0) ∧ (w'.frozen? ⟨w1.heap.size, 0, none⟩ = false ∧ w'.frozen? ⟨w1.heap.size, 1, none⟩ = false ∧ w1.heap.size < w'.heap.size) ∧ ∃ x y p q, FrW w l h w1.heap.size x y p q w')
      (first | with_reducible exact frS F0.out.drew | with_reducible exact frS F1.out | with_reducible exact frS F2.out)
      (first | (go_at_call 46; (with_reducible refine (HWN.out _).mono ?_); rintro e v1 ⟨rfl, hB⟩; have F1 := Lib.hid (FrW.up F0.out.drew hB); clear hB)
                         | (go_at_call 73; (with_reducible refine (HC1.out _).mono ?_); rintro e v2 ⟨rfl, hB⟩; have F2 := Lib.hid (FrW.up F1.out hB); clear hB))
    rename_i hq
    clear hq
    have F3 := Lib.hid (F2.out)
    obtain ⟨⟨c0, c1, c2, c3⟩, ⟨c4, c5, c6, c7⟩, c8⟩ := cells4 F3.out.2.2.2
    have F4 := Lib.hid (FrW.set2 F3.out false)
    go_wp2_with fail
    clear c0 c1 c2 c3 c4 c5 c6 c7 c8
    obtain ⟨⟨c0, c1, c2, c3⟩, ⟨c4, c5, c6, c7⟩, c8⟩ := cells4 F4.out.2.2.2
    go_region_held3 (fun w' => w'.cell? ⟨w.heap.size, 0, none⟩ = some (.bool (decide (l < 0))) ∧ w'.cell? ⟨w.heap.size, 1, none⟩ = some (.int .u32 (d0 l)) ∧ w'.cell? ⟨w.heap.size, 2, none⟩ = some (.int .u32 (d1 l)) ∧ w'.cell? ⟨w.heap.size, 3, none⟩ = some (.int .u32 0) ∧ w'.cell? ⟨w.heap.size, 4, none⟩ = some (.int .u32 0) ∧ w'.cell? ⟨w.heap.size + 1, 0, none⟩ = some (.bool (decide (h < 0))) ∧ w'.cell? ⟨w.heap.size + 1, 1, none⟩ = some (.int .u32 (d0 h)) ∧ w'.cell? ⟨w.heap.size + 1, 2, none⟩ = some (.int .u32 (d1 h)) ∧ w'.cell? ⟨w.heap.size + 1, 3, none⟩ = some (.int .u32 0) ∧ w'.cell? ⟨w.heap.size + 1, 4, none⟩ = some (.int .u32 0) ∧ (w'.frozen? ⟨w1.heap.size, 0, none⟩ = false ∧ w'.frozen? ⟨w1.heap.size, 1, none⟩ = false ∧ w1.heap.size < w'.heap.size) ∧ ∃ x y p q, FrW w l h w1.heap.size x y p q w')
      (first | with_reducible exact frS F4.out.drew | with_reducible exact frS F5.out | with_reducible exact frS F6.out | with_reducible exact frS F7.out | with_reducible exact frS (FrW.set0 F7.out A))
      (first | (go_at_call 46; (with_reducible refine (HWM.out _).mono ?_); rintro e v5 ⟨rfl, hB⟩; have F5 := Lib.hid (FrW.up F4.out.drew hB); clear hB)
                         | (go_at_call 75; (with_reducible refine (HL.out _).mono ?_); rintro e v6 ⟨rfl, hB⟩; have F6 := Lib.hid (FrW.up F5.out hB); clear hB)
                         | (go_at_call 74; (with_reducible refine (HN1.out _).mono ?_); rintro e v7 ⟨rfl, hB⟩; have F7 := Lib.hid (FrW.up F6.out hB); clear hB; obtain ⟨⟨g0, g1, g2, g3⟩, ⟨g4, g5, g6, g7⟩, g8⟩ := cells4 F7.out.2.2.2))
    rename_i hq
    clear hq
    clear g0 g1 g2 g3 g4 g5 g6 g7 g8
    have F8 := Lib.hid (FrW.set0 F7.out A)
    clear c0 c1 c2 c3 c4 c5 c6 c7 c8
    obtain ⟨⟨c0, c1, c2, c3⟩, ⟨c4, c5, c6, c7⟩, c8⟩ := cells4 F8.out.2.2.2
    go_wp2_with fail
    clear c0 c1 c2 c3 c4 c5 c6 c7 c8
    go_region_held3 (fun w' => w'.cell? ⟨w.heap.size, 0, none⟩ = some (.bool (decide (l < 0))) ∧ w'.cell? ⟨w.heap.size, 1, none⟩ = some (.int .u32 (d0 l)) ∧ w'.cell? ⟨w.heap.size, 2, none⟩ = some (.int .u32 (d1 l)) ∧ w'.cell? ⟨w.heap.size, 3, none⟩ = some (.int .u32 0) ∧ w'.cell? ⟨w.heap.size, 4, none⟩ = some (.int .u32 0) ∧ w'.cell? ⟨w.heap.size + 1, 0, none⟩ = some (.bool (decide (h < 0))) ∧ w'.cell? ⟨w.heap.size + 1, 1, none⟩ = some (.int .u32 (d0 h)) ∧ w'.cell? ⟨w.heap.size + 1, 2, none⟩ = some (.int .u32 (d1 h)) ∧ w'.cell? ⟨w.heap.size + 1, 3, none⟩ = some (.int .u32 0) ∧ w'.cell? ⟨w.heap.size + 1, 4, none⟩ = some (.int .u32 0) ∧ (w'.frozen? ⟨w1.heap.size, 0, none⟩ = false ∧ w'.frozen? ⟨w1.heap.size, 1, none⟩ = false ∧ w1.heap.size < w'.heap.size) ∧ ∃ x y p q, FrW w l h w1.heap.size x y p q w')
      (first | with_reducible exact frS F8.out.drew | with_reducible exact frS F9.out | with_reducible exact frS F10.out)
      (first | (go_at_call 46; (with_reducible refine (HWM.out _).mono ?_); rintro e v9 ⟨rfl, hB⟩; have F9 := Lib.hid (FrW.up F8.out.drew hB); clear hB)
                         | (go_at_call 73; (with_reducible refine (HC2.out _).mono ?_); rintro e v10 ⟨rfl, hB⟩; have F10 := Lib.hid (FrW.up F9.out hB); clear hB))
    rename_i hq
    clear hq
    have F11 := Lib.hid (F10.out)
    obtain ⟨⟨c0, c1, c2, c3⟩, ⟨c4, c5, c6, c7⟩, c8⟩ := cells4 F11.out.2.2.2
    obtain ⟨⟨e0, e1, e2, e3⟩, ⟨e4, e5, e6, e7⟩, e8⟩ := cells4 F11.out.2.1
    go_wp2_with fail
    exact bodyPost_ret (v := .agg #[.int .i64 _, .int .i64 _, .bool _, .bool _]) (results_cell_row Tryz.results47 _ _ (w.heap.size + 2) 23 #[.int .i64 _, .int .i64 _, .bool _, .bool _] (0, 0) _ rfl (set4 F11.out.2.1 _ _ _ _) Tryz.underlying23 rfl (by kernel_rfl)) rfl ⟨rfl, Below.set4 F11.out.1.2.2 (by omega) _ _ _ _⟩
end Spc
end Go.Proofs.YtjhgjplhhhgfcaaGreat
