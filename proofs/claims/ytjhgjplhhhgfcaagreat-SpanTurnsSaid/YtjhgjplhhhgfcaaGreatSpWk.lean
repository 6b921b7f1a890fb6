/- The document's own Extend. (Written by gen_spturns.py.) -/
import Derived.Test.YtjhgjplhhhgfcaaGreatSpWj
import Derived.Test.YtjhgjplhhhgfcaaGreatSpF
namespace Go.Proofs.YtjhgjplhhhgfcaaGreat
open Go.ChangeShapes Go.WideShapes Go.ChangeAt Go.RowKit
open Spn
namespace Spc
set_option linter.unusedVariables false
set_option maxRecDepth 100000
theorem ext_in {k : Int} {n : Bool} {l h : Int} (hs : ¬ l = h) (hw : withinB ⟨l, h⟩ (roomE k) = true) : extE k n ⟨l, h⟩ = if n then lowE ⟨l, h⟩ else ⟨l, h⟩ := by
  unfold extE
  rw [if_neg hs]
  dsimp only
  rw [hw]
  rfl
theorem ext_out {k : Int} {n : Bool} {l h : Int} (hs : ¬ l = h) (hw : withinB ⟨l, h⟩ (roomE k) = false) : extE k n ⟨l, h⟩ = if n then lowE (roomE k) else roomE k := by
  unfold extE
  rw [if_neg hs]
  dsimp only
  rw [hw]
  rfl
theorem low_neg {l h : Int} (h0 : -2147483648 ≤ l) (h1 : l < 0) (h2 : h < 0) (h3 : l ≤ h) : lowE ⟨l, h⟩ = ⟨l + 4294967296, h + 4294967296⟩ := by
  unfold lowE
  dsimp only
  rw [if_pos (by omega), show l % 4294967296 = l + 4294967296 by omega, show h % 4294967296 = h + 4294967296 by omega]
theorem low_mix {l h : Int} (h0 : -2147483648 ≤ l) (h1 : l < 0) (h2 : 0 ≤ h) (h3 : h ≤ 2147483647) : lowE ⟨l, h⟩ = ⟨0, 4294967295⟩ := by
  unfold lowE
  dsimp only
  rw [if_neg (by omega)]
theorem up_w {l : Int} (h0 : -2147483648 ≤ l) (h1 : l < 0) : wrap64 (wrap64 (l + 4294967295) + 1) = l + 4294967296 := by
  rw [IntWalk.wrap64_in (l + 4294967295) (by omega), IntWalk.wrap64_in _ (by omega)]
  omega
theorem up_64 {l : Int} (h0 : -2147483648 ≤ l) (h1 : l < 0) : I64 (l + 4294967296) := by unfold I64 LEAST TOP; omega
theorem extI_i (k : Int) (n : Bool) (v : Int) : I64 (extI k n v) := by
  unfold extI
  split
  · rename_i hk
    have h1 : 1 ≤ k.toNat ∧ k.toNat ≤ 64 := by omega
    have h2 := sx_rng64 k.toNat h1.1 h1.2 v
    unfold extV
    generalize sx k.toNat v = z at *
    unfold I64 LEAST TOP
    split <;> omega
  · unfold I64 LEAST TOP; omega
set_option maxHeartbeats 2000000 in
theorem re_no (k : Int) (n : Bool) (lo hi : Int) (nl nh : Bool) (h8 : k ≠ 8) (h16 : k ≠ 16) (h32 : k ≠ 32) (w : World) : Calls Tryz.prog 11 #[.int .i64 k, .bool n, .agg #[.int .i64 lo, .int .i64 hi, .bool nl, .bool nh]] w (RetS w 0 0 true true) := by
  have b1 := Lib.hid ((Blk.new w 23 #[.int .i64 lo, .int .i64 hi, .bool nl, .bool nh]).alloc (.cells zS 23))
  have b2 := Lib.hid (new2 w (.cells #[.int .i64 lo, .int .i64 hi, .bool nl, .bool nh] 23) 23 zS)
  have H2 := Lib.hid (box2 w (.cells #[.int .i64 lo, .int .i64 hi, .bool nl, .bool nh] 23) (.cells zS 23))
  have t1 : (k != 8) = true := by simpa using h8
  have t2 : (k != 16) = true := by simpa using h16
  have t3 : (k != 32) = true := by simpa using h32
  clear h8 h16 h32
  have HF := Lib.hid (fun w => refFull_any w)
  go_enter Tryz.func11, Tryz.ntmps11
  go_wp2_with fail
  refine (HF.out _).mono ?_
  rintro e w1 ⟨rfl, hB⟩
  have X1 := Lib.hid (b2.out.up hB)
  have B1 := Lib.hid (nx H2.out hB)
  clear hB
  obtain ⟨⟨c0, c1, c2, c3⟩, ⟨c4, c5, c6, c7⟩, c8⟩ := cells4 X1.out
  go_wp2_with fail
  exact bodyPost_ret (v := .agg #[.int .i64 _, .int .i64 _, .bool _, .bool _]) (results_cell_row Tryz.results11 _ _ (w.heap.size + 1) 23 #[.int .i64 _, .int .i64 _, .bool _, .bool _] (0, 0) _ rfl (set4 X1.out _ _ _ _) Tryz.underlying23 rfl (by kernel_rfl)) rfl ⟨rfl, Below.set4 B1.out (by omega) _ _ _ _⟩
set_option maxHeartbeats 2000000 in
theorem re_32t (lo hi : Int) (nl nh : Bool) (w : World) : Calls Tryz.prog 11 #[.int .i64 32, .bool true, .agg #[.int .i64 lo, .int .i64 hi, .bool nl, .bool nh]] w (RetS w 0 0 true true) := by
  have b1 := Lib.hid ((Blk.new w 23 #[.int .i64 lo, .int .i64 hi, .bool nl, .bool nh]).alloc (.cells zS 23))
  have b2 := Lib.hid (new2 w (.cells #[.int .i64 lo, .int .i64 hi, .bool nl, .bool nh] 23) 23 zS)
  have H2 := Lib.hid (box2 w (.cells #[.int .i64 lo, .int .i64 hi, .bool nl, .bool nh] 23) (.cells zS 23))
  have HF := Lib.hid (fun w => refFull_any w)
  go_enter Tryz.func11, Tryz.ntmps11
  go_wp2_with fail
  refine (HF.out _).mono ?_
  rintro e w1 ⟨rfl, hB⟩
  have X1 := Lib.hid (b2.out.up hB)
  have B1 := Lib.hid (nx H2.out hB)
  clear hB
  obtain ⟨⟨c0, c1, c2, c3⟩, ⟨c4, c5, c6, c7⟩, c8⟩ := cells4 X1.out
  go_wp2_with fail
  exact bodyPost_ret (v := .agg #[.int .i64 _, .int .i64 _, .bool _, .bool _]) (results_cell_row Tryz.results11 _ _ (w.heap.size + 1) 23 #[.int .i64 _, .int .i64 _, .bool _, .bool _] (0, 0) _ rfl (set4 X1.out _ _ _ _) Tryz.underlying23 rfl (by kernel_rfl)) rfl ⟨rfl, Below.set4 B1.out (by omega) _ _ _ _⟩
set_option maxHeartbeats 4000000 in
theorem re_one_8false (lo hi : Int) (nl nh : Bool) (a b : Int) (p q : Bool) (l h : Int) (er : rd ⟨lo, hi, nl, nh⟩ = ⟨l, h⟩) (hs : l = h) (hr : sp ⟨extI 8 false l, extI 8 false l⟩ = ⟨a, b, p, q⟩) (w : World) : Calls Tryz.prog 11 #[.int .i64 8, .bool false, .agg #[.int .i64 lo, .int .i64 hi, .bool nl, .bool nh]] w (RetS w a b p q) := by
  have b1 := Lib.hid ((Blk.new w 23 #[.int .i64 lo, .int .i64 hi, .bool nl, .bool nh]).alloc (.cells zS 23))
  have b2 := Lib.hid (new2 w (.cells #[.int .i64 lo, .int .i64 hi, .bool nl, .bool nh] 23) 23 zS)
  have H2 := Lib.hid (box2 w (.cells #[.int .i64 lo, .int .i64 hi, .bool nl, .bool nh] 23) (.cells zS 23))
  have HE := Lib.hid (fun w => refEnds_any lo hi nl nh l h er w)
  have HO := Lib.hid (fun w => single_W lo hi nl nh l h er w)
  rw [show (l == h) = true from by rw [hs]; exact beq_self_eq_true _] at HO
  have HQ := Lib.hid (fun w => refExtend_any 8 false l w)
  have HL := Lib.hid (fun w => Span_any (extI 8 false l) (extI 8 false l) (extI_i 8 false l) (extI_i 8 false l) a b p q hr w)
  generalize extI 8 false l = z at *
  clear hr er hs
  go_enter Tryz.func11, Tryz.ntmps11
  obtain ⟨⟨c0, c1, c2, c3⟩, -, c8⟩ := cells4 b1.out
  go_wp2_with fail
  refine (HE.out _).mono ?_
  rintro e w1 ⟨rfl, hB⟩
  have hb := nx hB (below_box' w1 (.cells #[.int .i64 l, .int .i64 h] 43))
  have W1 := Lib.hid (show LoW w lo hi nl nh w1.heap.size l h (w1.alloc (.cells #[.int .i64 l, .int .i64 h] 43)) from ⟨b1.out.up hb, b2.out.up hb, Blk.new w1 _ _, nx H2.out hb⟩)
  clear hB hb c0 c1 c2 c3 c8
  obtain ⟨⟨c0, c1, c2, c3⟩, -, c8⟩ := cells4 W1.out.1
  go_wp2_with fail
  refine (HO.out _).mono ?_
  rintro e w2 ⟨rfl, hB⟩
  have W2 := Lib.hid (W1.out.up hB)
  clear hB c0 c1 c2 c3 c8
  obtain ⟨⟨c0, c1, c2, c3⟩, -, c8⟩ := cells4 W2.out.1
  obtain ⟨a0, a1, -⟩ := cells2 W2.out.2.2.1
  go_wp2_with fail
  refine (HQ.out _).mono ?_
  rintro e w3 ⟨rfl, hB⟩
  have W3 := Lib.hid (W2.out.up hB)
  clear hB
  go_wp2_with fail
  refine (HL.out _).mono ?_
  rintro e w4 ⟨rfl, hB⟩
  have WR := Lib.hid (W3.out.up hB)
  clear hB c0 c1 c2 c3 c8 a0 a1
  obtain ⟨⟨c0, c1, c2, c3⟩, ⟨c4, c5, c6, c7⟩, c8⟩ := cells4 WR.out.2.1
  go_wp2_with fail
  exact bodyPost_ret (v := .agg #[.int .i64 _, .int .i64 _, .bool _, .bool _]) (results_cell_row Tryz.results11 _ _ (w.heap.size + 1) 23 #[.int .i64 _, .int .i64 _, .bool _, .bool _] (0, 0) _ rfl (set4 WR.out.2.1 _ _ _ _) Tryz.underlying23 rfl (by kernel_rfl)) rfl ⟨rfl, Below.set4 WR.out.2.2.2 (by omega) _ _ _ _⟩
set_option maxHeartbeats 4000000 in
theorem re_one_8true (lo hi : Int) (nl nh : Bool) (a b : Int) (p q : Bool) (l h : Int) (er : rd ⟨lo, hi, nl, nh⟩ = ⟨l, h⟩) (hs : l = h) (hr : sp ⟨extI 8 true l, extI 8 true l⟩ = ⟨a, b, p, q⟩) (w : World) : Calls Tryz.prog 11 #[.int .i64 8, .bool true, .agg #[.int .i64 lo, .int .i64 hi, .bool nl, .bool nh]] w (RetS w a b p q) := by
  have b1 := Lib.hid ((Blk.new w 23 #[.int .i64 lo, .int .i64 hi, .bool nl, .bool nh]).alloc (.cells zS 23))
  have b2 := Lib.hid (new2 w (.cells #[.int .i64 lo, .int .i64 hi, .bool nl, .bool nh] 23) 23 zS)
  have H2 := Lib.hid (box2 w (.cells #[.int .i64 lo, .int .i64 hi, .bool nl, .bool nh] 23) (.cells zS 23))
  have HE := Lib.hid (fun w => refEnds_any lo hi nl nh l h er w)
  have HO := Lib.hid (fun w => single_W lo hi nl nh l h er w)
  rw [show (l == h) = true from by rw [hs]; exact beq_self_eq_true _] at HO
  have HQ := Lib.hid (fun w => refExtend_any 8 true l w)
  have HL := Lib.hid (fun w => Span_any (extI 8 true l) (extI 8 true l) (extI_i 8 true l) (extI_i 8 true l) a b p q hr w)
  generalize extI 8 true l = z at *
  clear hr er hs
  go_enter Tryz.func11, Tryz.ntmps11
  obtain ⟨⟨c0, c1, c2, c3⟩, -, c8⟩ := cells4 b1.out
  go_wp2_with fail
  refine (HE.out _).mono ?_
  rintro e w1 ⟨rfl, hB⟩
  have hb := nx hB (below_box' w1 (.cells #[.int .i64 l, .int .i64 h] 43))
  have W1 := Lib.hid (show LoW w lo hi nl nh w1.heap.size l h (w1.alloc (.cells #[.int .i64 l, .int .i64 h] 43)) from ⟨b1.out.up hb, b2.out.up hb, Blk.new w1 _ _, nx H2.out hb⟩)
  clear hB hb c0 c1 c2 c3 c8
  obtain ⟨⟨c0, c1, c2, c3⟩, -, c8⟩ := cells4 W1.out.1
  go_wp2_with fail
  refine (HO.out _).mono ?_
  rintro e w2 ⟨rfl, hB⟩
  have W2 := Lib.hid (W1.out.up hB)
  clear hB c0 c1 c2 c3 c8
  obtain ⟨⟨c0, c1, c2, c3⟩, -, c8⟩ := cells4 W2.out.1
  obtain ⟨a0, a1, -⟩ := cells2 W2.out.2.2.1
  go_wp2_with fail
  refine (HQ.out _).mono ?_
  rintro e w3 ⟨rfl, hB⟩
  have W3 := Lib.hid (W2.out.up hB)
  clear hB
  go_wp2_with fail
  refine (HL.out _).mono ?_
  rintro e w4 ⟨rfl, hB⟩
  have WR := Lib.hid (W3.out.up hB)
  clear hB c0 c1 c2 c3 c8 a0 a1
  obtain ⟨⟨c0, c1, c2, c3⟩, ⟨c4, c5, c6, c7⟩, c8⟩ := cells4 WR.out.2.1
  go_wp2_with fail
  exact bodyPost_ret (v := .agg #[.int .i64 _, .int .i64 _, .bool _, .bool _]) (results_cell_row Tryz.results11 _ _ (w.heap.size + 1) 23 #[.int .i64 _, .int .i64 _, .bool _, .bool _] (0, 0) _ rfl (set4 WR.out.2.1 _ _ _ _) Tryz.underlying23 rfl (by kernel_rfl)) rfl ⟨rfl, Below.set4 WR.out.2.2.2 (by omega) _ _ _ _⟩
set_option maxHeartbeats 4000000 in
theorem re_one_16false (lo hi : Int) (nl nh : Bool) (a b : Int) (p q : Bool) (l h : Int) (er : rd ⟨lo, hi, nl, nh⟩ = ⟨l, h⟩) (hs : l = h) (hr : sp ⟨extI 16 false l, extI 16 false l⟩ = ⟨a, b, p, q⟩) (w : World) : Calls Tryz.prog 11 #[.int .i64 16, .bool false, .agg #[.int .i64 lo, .int .i64 hi, .bool nl, .bool nh]] w (RetS w a b p q) := by
  have b1 := Lib.hid ((Blk.new w 23 #[.int .i64 lo, .int .i64 hi, .bool nl, .bool nh]).alloc (.cells zS 23))
  have b2 := Lib.hid (new2 w (.cells #[.int .i64 lo, .int .i64 hi, .bool nl, .bool nh] 23) 23 zS)
  have H2 := Lib.hid (box2 w (.cells #[.int .i64 lo, .int .i64 hi, .bool nl, .bool nh] 23) (.cells zS 23))
  have HE := Lib.hid (fun w => refEnds_any lo hi nl nh l h er w)
  have HO := Lib.hid (fun w => single_W lo hi nl nh l h er w)
  rw [show (l == h) = true from by rw [hs]; exact beq_self_eq_true _] at HO
  have HQ := Lib.hid (fun w => refExtend_any 16 false l w)
  have HL := Lib.hid (fun w => Span_any (extI 16 false l) (extI 16 false l) (extI_i 16 false l) (extI_i 16 false l) a b p q hr w)
  generalize extI 16 false l = z at *
  clear hr er hs
  go_enter Tryz.func11, Tryz.ntmps11
  obtain ⟨⟨c0, c1, c2, c3⟩, -, c8⟩ := cells4 b1.out
  go_wp2_with fail
  refine (HE.out _).mono ?_
  rintro e w1 ⟨rfl, hB⟩
  have hb := nx hB (below_box' w1 (.cells #[.int .i64 l, .int .i64 h] 43))
  have W1 := Lib.hid (show LoW w lo hi nl nh w1.heap.size l h (w1.alloc (.cells #[.int .i64 l, .int .i64 h] 43)) from ⟨b1.out.up hb, b2.out.up hb, Blk.new w1 _ _, nx H2.out hb⟩)
  clear hB hb c0 c1 c2 c3 c8
  obtain ⟨⟨c0, c1, c2, c3⟩, -, c8⟩ := cells4 W1.out.1
  go_wp2_with fail
  refine (HO.out _).mono ?_
  rintro e w2 ⟨rfl, hB⟩
  have W2 := Lib.hid (W1.out.up hB)
  clear hB c0 c1 c2 c3 c8
  obtain ⟨⟨c0, c1, c2, c3⟩, -, c8⟩ := cells4 W2.out.1
  obtain ⟨a0, a1, -⟩ := cells2 W2.out.2.2.1
  go_wp2_with fail
  refine (HQ.out _).mono ?_
  rintro e w3 ⟨rfl, hB⟩
  have W3 := Lib.hid (W2.out.up hB)
  clear hB
  go_wp2_with fail
  refine (HL.out _).mono ?_
  rintro e w4 ⟨rfl, hB⟩
  have WR := Lib.hid (W3.out.up hB)
  clear hB c0 c1 c2 c3 c8 a0 a1
  obtain ⟨⟨c0, c1, c2, c3⟩, ⟨c4, c5, c6, c7⟩, c8⟩ := cells4 WR.out.2.1
  go_wp2_with fail
  exact bodyPost_ret (v := .agg #[.int .i64 _, .int .i64 _, .bool _, .bool _]) (results_cell_row Tryz.results11 _ _ (w.heap.size + 1) 23 #[.int .i64 _, .int .i64 _, .bool _, .bool _] (0, 0) _ rfl (set4 WR.out.2.1 _ _ _ _) Tryz.underlying23 rfl (by kernel_rfl)) rfl ⟨rfl, Below.set4 WR.out.2.2.2 (by omega) _ _ _ _⟩
set_option maxHeartbeats 4000000 in
theorem re_one_16true (lo hi : Int) (nl nh : Bool) (a b : Int) (p q : Bool) (l h : Int) (er : rd ⟨lo, hi, nl, nh⟩ = ⟨l, h⟩) (hs : l = h) (hr : sp ⟨extI 16 true l, extI 16 true l⟩ = ⟨a, b, p, q⟩) (w : World) : Calls Tryz.prog 11 #[.int .i64 16, .bool true, .agg #[.int .i64 lo, .int .i64 hi, .bool nl, .bool nh]] w (RetS w a b p q) := by
  have b1 := Lib.hid ((Blk.new w 23 #[.int .i64 lo, .int .i64 hi, .bool nl, .bool nh]).alloc (.cells zS 23))
  have b2 := Lib.hid (new2 w (.cells #[.int .i64 lo, .int .i64 hi, .bool nl, .bool nh] 23) 23 zS)
  have H2 := Lib.hid (box2 w (.cells #[.int .i64 lo, .int .i64 hi, .bool nl, .bool nh] 23) (.cells zS 23))
  have HE := Lib.hid (fun w => refEnds_any lo hi nl nh l h er w)
  have HO := Lib.hid (fun w => single_W lo hi nl nh l h er w)
  rw [show (l == h) = true from by rw [hs]; exact beq_self_eq_true _] at HO
  have HQ := Lib.hid (fun w => refExtend_any 16 true l w)
  have HL := Lib.hid (fun w => Span_any (extI 16 true l) (extI 16 true l) (extI_i 16 true l) (extI_i 16 true l) a b p q hr w)
  generalize extI 16 true l = z at *
  clear hr er hs
  go_enter Tryz.func11, Tryz.ntmps11
  obtain ⟨⟨c0, c1, c2, c3⟩, -, c8⟩ := cells4 b1.out
  go_wp2_with fail
  refine (HE.out _).mono ?_
  rintro e w1 ⟨rfl, hB⟩
  have hb := nx hB (below_box' w1 (.cells #[.int .i64 l, .int .i64 h] 43))
  have W1 := Lib.hid (show LoW w lo hi nl nh w1.heap.size l h (w1.alloc (.cells #[.int .i64 l, .int .i64 h] 43)) from ⟨b1.out.up hb, b2.out.up hb, Blk.new w1 _ _, nx H2.out hb⟩)
  clear hB hb c0 c1 c2 c3 c8
  obtain ⟨⟨c0, c1, c2, c3⟩, -, c8⟩ := cells4 W1.out.1
  go_wp2_with fail
  refine (HO.out _).mono ?_
  rintro e w2 ⟨rfl, hB⟩
  have W2 := Lib.hid (W1.out.up hB)
  clear hB c0 c1 c2 c3 c8
  obtain ⟨⟨c0, c1, c2, c3⟩, -, c8⟩ := cells4 W2.out.1
  obtain ⟨a0, a1, -⟩ := cells2 W2.out.2.2.1
  go_wp2_with fail
  refine (HQ.out _).mono ?_
  rintro e w3 ⟨rfl, hB⟩
  have W3 := Lib.hid (W2.out.up hB)
  clear hB
  go_wp2_with fail
  refine (HL.out _).mono ?_
  rintro e w4 ⟨rfl, hB⟩
  have WR := Lib.hid (W3.out.up hB)
  clear hB c0 c1 c2 c3 c8 a0 a1
  obtain ⟨⟨c0, c1, c2, c3⟩, ⟨c4, c5, c6, c7⟩, c8⟩ := cells4 WR.out.2.1
  go_wp2_with fail
  exact bodyPost_ret (v := .agg #[.int .i64 _, .int .i64 _, .bool _, .bool _]) (results_cell_row Tryz.results11 _ _ (w.heap.size + 1) 23 #[.int .i64 _, .int .i64 _, .bool _, .bool _] (0, 0) _ rfl (set4 WR.out.2.1 _ _ _ _) Tryz.underlying23 rfl (by kernel_rfl)) rfl ⟨rfl, Below.set4 WR.out.2.2.2 (by omega) _ _ _ _⟩
set_option maxHeartbeats 4000000 in
theorem re_one_32false (lo hi : Int) (nl nh : Bool) (a b : Int) (p q : Bool) (l h : Int) (er : rd ⟨lo, hi, nl, nh⟩ = ⟨l, h⟩) (hs : l = h) (hr : sp ⟨extI 32 false l, extI 32 false l⟩ = ⟨a, b, p, q⟩) (w : World) : Calls Tryz.prog 11 #[.int .i64 32, .bool false, .agg #[.int .i64 lo, .int .i64 hi, .bool nl, .bool nh]] w (RetS w a b p q) := by
  have b1 := Lib.hid ((Blk.new w 23 #[.int .i64 lo, .int .i64 hi, .bool nl, .bool nh]).alloc (.cells zS 23))
  have b2 := Lib.hid (new2 w (.cells #[.int .i64 lo, .int .i64 hi, .bool nl, .bool nh] 23) 23 zS)
  have H2 := Lib.hid (box2 w (.cells #[.int .i64 lo, .int .i64 hi, .bool nl, .bool nh] 23) (.cells zS 23))
  have HE := Lib.hid (fun w => refEnds_any lo hi nl nh l h er w)
  have HO := Lib.hid (fun w => single_W lo hi nl nh l h er w)
  rw [show (l == h) = true from by rw [hs]; exact beq_self_eq_true _] at HO
  have HQ := Lib.hid (fun w => refExtend_any 32 false l w)
  have HL := Lib.hid (fun w => Span_any (extI 32 false l) (extI 32 false l) (extI_i 32 false l) (extI_i 32 false l) a b p q hr w)
  generalize extI 32 false l = z at *
  clear hr er hs
  go_enter Tryz.func11, Tryz.ntmps11
  obtain ⟨⟨c0, c1, c2, c3⟩, -, c8⟩ := cells4 b1.out
  go_wp2_with fail
  refine (HE.out _).mono ?_
  rintro e w1 ⟨rfl, hB⟩
  have hb := nx hB (below_box' w1 (.cells #[.int .i64 l, .int .i64 h] 43))
  have W1 := Lib.hid (show LoW w lo hi nl nh w1.heap.size l h (w1.alloc (.cells #[.int .i64 l, .int .i64 h] 43)) from ⟨b1.out.up hb, b2.out.up hb, Blk.new w1 _ _, nx H2.out hb⟩)
  clear hB hb c0 c1 c2 c3 c8
  obtain ⟨⟨c0, c1, c2, c3⟩, -, c8⟩ := cells4 W1.out.1
  go_wp2_with fail
  refine (HO.out _).mono ?_
  rintro e w2 ⟨rfl, hB⟩
  have W2 := Lib.hid (W1.out.up hB)
  clear hB c0 c1 c2 c3 c8
  obtain ⟨⟨c0, c1, c2, c3⟩, -, c8⟩ := cells4 W2.out.1
  obtain ⟨a0, a1, -⟩ := cells2 W2.out.2.2.1
  go_wp2_with fail
  refine (HQ.out _).mono ?_
  rintro e w3 ⟨rfl, hB⟩
  have W3 := Lib.hid (W2.out.up hB)
  clear hB
  go_wp2_with fail
  refine (HL.out _).mono ?_
  rintro e w4 ⟨rfl, hB⟩
  have WR := Lib.hid (W3.out.up hB)
  clear hB c0 c1 c2 c3 c8 a0 a1
  obtain ⟨⟨c0, c1, c2, c3⟩, ⟨c4, c5, c6, c7⟩, c8⟩ := cells4 WR.out.2.1
  go_wp2_with fail
  exact bodyPost_ret (v := .agg #[.int .i64 _, .int .i64 _, .bool _, .bool _]) (results_cell_row Tryz.results11 _ _ (w.heap.size + 1) 23 #[.int .i64 _, .int .i64 _, .bool _, .bool _] (0, 0) _ rfl (set4 WR.out.2.1 _ _ _ _) Tryz.underlying23 rfl (by kernel_rfl)) rfl ⟨rfl, Below.set4 WR.out.2.2.2 (by omega) _ _ _ _⟩
set_option maxHeartbeats 4000000 in
theorem re_8false_in (lo hi : Int) (nl nh : Bool) (a b : Int) (p q : Bool) (l h : Int) (er : rd ⟨lo, hi, nl, nh⟩ = ⟨l, h⟩) (hs : ¬ l = h) (hm : -128 ≤ l) (hM : h ≤ 127) (hr : sp (extE 8 false ⟨l, h⟩) = ⟨a, b, p, q⟩) (w : World) : Calls Tryz.prog 11 #[.int .i64 8, .bool false, .agg #[.int .i64 lo, .int .i64 hi, .bool nl, .bool nh]] w (RetS w a b p q) := by
  have b1 := Lib.hid ((Blk.new w 23 #[.int .i64 lo, .int .i64 hi, .bool nl, .bool nh]).alloc (.cells zS 23))
  have b2 := Lib.hid (new2 w (.cells #[.int .i64 lo, .int .i64 hi, .bool nl, .bool nh] 23) 23 zS)
  have H2 := Lib.hid (box2 w (.cells #[.int .i64 lo, .int .i64 hi, .bool nl, .bool nh] 23) (.cells zS 23))
  have HE := Lib.hid (fun w => refEnds_any lo hi nl nh l h er w)
  have HO := Lib.hid (fun w => single_W lo hi nl nh l h er w)
  rw [show (l == h) = false from beq_eq_false_iff_ne.2 hs] at HO
  have hok : l ≤ h := by have := (rd_ok ⟨lo, hi, nl, nh⟩).1; rw [er] at this; exact this
  have es : extE 8 false ⟨l, h⟩ = ⟨l, h⟩ := by rw [ext_in hs (by show (decide (-128 ≤ l) && decide (h ≤ 127)) = true; rw [decide_eq_true hm, decide_eq_true hM]; rfl)]; rfl
  rw [es] at hr
  have HL := Lib.hid (fun w => refRead_any lo hi nl nh a b p q (by rw [← sp_read, er]; exact hr) w)
  clear hr er hs es hok
  go_enter Tryz.func11, Tryz.ntmps11
  obtain ⟨⟨c0, c1, c2, c3⟩, -, c8⟩ := cells4 b1.out
  go_wp2_with fail
  refine (HE.out _).mono ?_
  rintro e w1 ⟨rfl, hB⟩
  have hb := nx hB (below_box' w1 (.cells #[.int .i64 l, .int .i64 h] 43))
  have W1 := Lib.hid (show LoW w lo hi nl nh w1.heap.size l h (w1.alloc (.cells #[.int .i64 l, .int .i64 h] 43)) from ⟨b1.out.up hb, b2.out.up hb, Blk.new w1 _ _, nx H2.out hb⟩)
  clear hB hb c0 c1 c2 c3 c8
  obtain ⟨⟨c0, c1, c2, c3⟩, -, c8⟩ := cells4 W1.out.1
  go_wp2_with fail
  refine (HO.out _).mono ?_
  rintro e w2 ⟨rfl, hB⟩
  have W2 := Lib.hid (W1.out.up hB)
  clear hB c0 c1 c2 c3 c8
  obtain ⟨⟨c0, c1, c2, c3⟩, -, c8⟩ := cells4 W2.out.1
  obtain ⟨a0, a1, -⟩ := cells2 W2.out.2.2.1
  go_wp2_with fail
  refine (HL.out _).mono ?_
  rintro e w4 ⟨rfl, hB⟩
  have WR := Lib.hid (W2.out.up hB)
  clear hB c0 c1 c2 c3 c8 a0 a1
  obtain ⟨⟨c0, c1, c2, c3⟩, ⟨c4, c5, c6, c7⟩, c8⟩ := cells4 WR.out.2.1
  go_wp2_with fail
  exact bodyPost_ret (v := .agg #[.int .i64 _, .int .i64 _, .bool _, .bool _]) (results_cell_row Tryz.results11 _ _ (w.heap.size + 1) 23 #[.int .i64 _, .int .i64 _, .bool _, .bool _] (0, 0) _ rfl (set4 WR.out.2.1 _ _ _ _) Tryz.underlying23 rfl (by kernel_rfl)) rfl ⟨rfl, Below.set4 WR.out.2.2.2 (by omega) _ _ _ _⟩
set_option maxHeartbeats 4000000 in
theorem re_8false_lo (lo hi : Int) (nl nh : Bool) (a b : Int) (p q : Bool) (l h : Int) (er : rd ⟨lo, hi, nl, nh⟩ = ⟨l, h⟩) (hs : ¬ l = h) (h0 : l < -128) (hr : sp (extE 8 false ⟨l, h⟩) = ⟨a, b, p, q⟩) (w : World) : Calls Tryz.prog 11 #[.int .i64 8, .bool false, .agg #[.int .i64 lo, .int .i64 hi, .bool nl, .bool nh]] w (RetS w a b p q) := by
  have b1 := Lib.hid ((Blk.new w 23 #[.int .i64 lo, .int .i64 hi, .bool nl, .bool nh]).alloc (.cells zS 23))
  have b2 := Lib.hid (new2 w (.cells #[.int .i64 lo, .int .i64 hi, .bool nl, .bool nh] 23) 23 zS)
  have H2 := Lib.hid (box2 w (.cells #[.int .i64 lo, .int .i64 hi, .bool nl, .bool nh] 23) (.cells zS 23))
  have HE := Lib.hid (fun w => refEnds_any lo hi nl nh l h er w)
  have HO := Lib.hid (fun w => single_W lo hi nl nh l h er w)
  rw [show (l == h) = false from beq_eq_false_iff_ne.2 hs] at HO
  have hok : l ≤ h := by have := (rd_ok ⟨lo, hi, nl, nh⟩).1; rw [er] at this; exact this
  have es : extE 8 false ⟨l, h⟩ = ⟨(-128), 127⟩ := by rw [ext_out hs (by show (decide (-128 ≤ l) && decide (h ≤ 127)) = false; rw [decide_eq_false (show ¬ -128 ≤ l by omega)]; rfl)]; rfl
  rw [es] at hr
  have HL := Lib.hid (fun w => Span_any (-128) 127 (by unfold I64 LEAST TOP; decide) (by unfold I64 LEAST TOP; decide) a b p q hr w)
  clear hr er hs es hok
  go_enter Tryz.func11, Tryz.ntmps11
  obtain ⟨⟨c0, c1, c2, c3⟩, -, c8⟩ := cells4 b1.out
  go_wp2_with fail
  refine (HE.out _).mono ?_
  rintro e w1 ⟨rfl, hB⟩
  have hb := nx hB (below_box' w1 (.cells #[.int .i64 l, .int .i64 h] 43))
  have W1 := Lib.hid (show LoW w lo hi nl nh w1.heap.size l h (w1.alloc (.cells #[.int .i64 l, .int .i64 h] 43)) from ⟨b1.out.up hb, b2.out.up hb, Blk.new w1 _ _, nx H2.out hb⟩)
  clear hB hb c0 c1 c2 c3 c8
  obtain ⟨⟨c0, c1, c2, c3⟩, -, c8⟩ := cells4 W1.out.1
  go_wp2_with fail
  refine (HO.out _).mono ?_
  rintro e w2 ⟨rfl, hB⟩
  have W2 := Lib.hid (W1.out.up hB)
  clear hB c0 c1 c2 c3 c8
  obtain ⟨⟨c0, c1, c2, c3⟩, -, c8⟩ := cells4 W2.out.1
  obtain ⟨a0, a1, -⟩ := cells2 W2.out.2.2.1
  go_wp2_with fail
  refine (HL.out _).mono ?_
  rintro e w4 ⟨rfl, hB⟩
  have WR := Lib.hid (W2.out.up hB)
  clear hB c0 c1 c2 c3 c8 a0 a1
  obtain ⟨⟨c0, c1, c2, c3⟩, ⟨c4, c5, c6, c7⟩, c8⟩ := cells4 WR.out.2.1
  go_wp2_with fail
  exact bodyPost_ret (v := .agg #[.int .i64 _, .int .i64 _, .bool _, .bool _]) (results_cell_row Tryz.results11 _ _ (w.heap.size + 1) 23 #[.int .i64 _, .int .i64 _, .bool _, .bool _] (0, 0) _ rfl (set4 WR.out.2.1 _ _ _ _) Tryz.underlying23 rfl (by kernel_rfl)) rfl ⟨rfl, Below.set4 WR.out.2.2.2 (by omega) _ _ _ _⟩
set_option maxHeartbeats 4000000 in
theorem re_8false_hi (lo hi : Int) (nl nh : Bool) (a b : Int) (p q : Bool) (l h : Int) (er : rd ⟨lo, hi, nl, nh⟩ = ⟨l, h⟩) (hs : ¬ l = h) (hm : -128 ≤ l) (h1 : 127 < h) (hr : sp (extE 8 false ⟨l, h⟩) = ⟨a, b, p, q⟩) (w : World) : Calls Tryz.prog 11 #[.int .i64 8, .bool false, .agg #[.int .i64 lo, .int .i64 hi, .bool nl, .bool nh]] w (RetS w a b p q) := by
  have b1 := Lib.hid ((Blk.new w 23 #[.int .i64 lo, .int .i64 hi, .bool nl, .bool nh]).alloc (.cells zS 23))
  have b2 := Lib.hid (new2 w (.cells #[.int .i64 lo, .int .i64 hi, .bool nl, .bool nh] 23) 23 zS)
  have H2 := Lib.hid (box2 w (.cells #[.int .i64 lo, .int .i64 hi, .bool nl, .bool nh] 23) (.cells zS 23))
  have HE := Lib.hid (fun w => refEnds_any lo hi nl nh l h er w)
  have HO := Lib.hid (fun w => single_W lo hi nl nh l h er w)
  rw [show (l == h) = false from beq_eq_false_iff_ne.2 hs] at HO
  have hok : l ≤ h := by have := (rd_ok ⟨lo, hi, nl, nh⟩).1; rw [er] at this; exact this
  have es : extE 8 false ⟨l, h⟩ = ⟨(-128), 127⟩ := by rw [ext_out hs (by show (decide (-128 ≤ l) && decide (h ≤ 127)) = false; rw [decide_eq_true hm, decide_eq_false (show ¬ h ≤ 127 by omega)]; rfl)]; rfl
  rw [es] at hr
  have HL := Lib.hid (fun w => Span_any (-128) 127 (by unfold I64 LEAST TOP; decide) (by unfold I64 LEAST TOP; decide) a b p q hr w)
  clear hr er hs es hok
  go_enter Tryz.func11, Tryz.ntmps11
  obtain ⟨⟨c0, c1, c2, c3⟩, -, c8⟩ := cells4 b1.out
  go_wp2_with fail
  refine (HE.out _).mono ?_
  rintro e w1 ⟨rfl, hB⟩
  have hb := nx hB (below_box' w1 (.cells #[.int .i64 l, .int .i64 h] 43))
  have W1 := Lib.hid (show LoW w lo hi nl nh w1.heap.size l h (w1.alloc (.cells #[.int .i64 l, .int .i64 h] 43)) from ⟨b1.out.up hb, b2.out.up hb, Blk.new w1 _ _, nx H2.out hb⟩)
  clear hB hb c0 c1 c2 c3 c8
  obtain ⟨⟨c0, c1, c2, c3⟩, -, c8⟩ := cells4 W1.out.1
  go_wp2_with fail
  refine (HO.out _).mono ?_
  rintro e w2 ⟨rfl, hB⟩
  have W2 := Lib.hid (W1.out.up hB)
  clear hB c0 c1 c2 c3 c8
  obtain ⟨⟨c0, c1, c2, c3⟩, -, c8⟩ := cells4 W2.out.1
  obtain ⟨a0, a1, -⟩ := cells2 W2.out.2.2.1
  go_wp2_with fail
  refine (HL.out _).mono ?_
  rintro e w4 ⟨rfl, hB⟩
  have WR := Lib.hid (W2.out.up hB)
  clear hB c0 c1 c2 c3 c8 a0 a1
  obtain ⟨⟨c0, c1, c2, c3⟩, ⟨c4, c5, c6, c7⟩, c8⟩ := cells4 WR.out.2.1
  go_wp2_with fail
  exact bodyPost_ret (v := .agg #[.int .i64 _, .int .i64 _, .bool _, .bool _]) (results_cell_row Tryz.results11 _ _ (w.heap.size + 1) 23 #[.int .i64 _, .int .i64 _, .bool _, .bool _] (0, 0) _ rfl (set4 WR.out.2.1 _ _ _ _) Tryz.underlying23 rfl (by kernel_rfl)) rfl ⟨rfl, Below.set4 WR.out.2.2.2 (by omega) _ _ _ _⟩
set_option maxHeartbeats 4000000 in
theorem re_8true_in (lo hi : Int) (nl nh : Bool) (a b : Int) (p q : Bool) (l h : Int) (er : rd ⟨lo, hi, nl, nh⟩ = ⟨l, h⟩) (hs : ¬ l = h) (hm : -128 ≤ l) (hM : h ≤ 127) (h0 : 0 ≤ l) (hr : sp (extE 8 true ⟨l, h⟩) = ⟨a, b, p, q⟩) (w : World) : Calls Tryz.prog 11 #[.int .i64 8, .bool true, .agg #[.int .i64 lo, .int .i64 hi, .bool nl, .bool nh]] w (RetS w a b p q) := by
  have b1 := Lib.hid ((Blk.new w 23 #[.int .i64 lo, .int .i64 hi, .bool nl, .bool nh]).alloc (.cells zS 23))
  have b2 := Lib.hid (new2 w (.cells #[.int .i64 lo, .int .i64 hi, .bool nl, .bool nh] 23) 23 zS)
  have H2 := Lib.hid (box2 w (.cells #[.int .i64 lo, .int .i64 hi, .bool nl, .bool nh] 23) (.cells zS 23))
  have HE := Lib.hid (fun w => refEnds_any lo hi nl nh l h er w)
  have HO := Lib.hid (fun w => single_W lo hi nl nh l h er w)
  rw [show (l == h) = false from beq_eq_false_iff_ne.2 hs] at HO
  have hok : l ≤ h := by have := (rd_ok ⟨lo, hi, nl, nh⟩).1; rw [er] at this; exact this
  have es : extE 8 true ⟨l, h⟩ = ⟨l, h⟩ := by rw [ext_in hs (by show (decide (-128 ≤ l) && decide (h ≤ 127)) = true; rw [decide_eq_true hm, decide_eq_true hM]; rfl)]; exact low_lit h0 hok (by omega)
  rw [es] at hr
  have HL := Lib.hid (fun w => refRead_any lo hi nl nh a b p q (by rw [← sp_read, er]; exact hr) w)
  clear hr er hs es hok
  go_enter Tryz.func11, Tryz.ntmps11
  obtain ⟨⟨c0, c1, c2, c3⟩, -, c8⟩ := cells4 b1.out
  go_wp2_with fail
  refine (HE.out _).mono ?_
  rintro e w1 ⟨rfl, hB⟩
  have hb := nx hB (below_box' w1 (.cells #[.int .i64 l, .int .i64 h] 43))
  have W1 := Lib.hid (show LoW w lo hi nl nh w1.heap.size l h (w1.alloc (.cells #[.int .i64 l, .int .i64 h] 43)) from ⟨b1.out.up hb, b2.out.up hb, Blk.new w1 _ _, nx H2.out hb⟩)
  clear hB hb c0 c1 c2 c3 c8
  obtain ⟨⟨c0, c1, c2, c3⟩, -, c8⟩ := cells4 W1.out.1
  go_wp2_with fail
  refine (HO.out _).mono ?_
  rintro e w2 ⟨rfl, hB⟩
  have W2 := Lib.hid (W1.out.up hB)
  clear hB c0 c1 c2 c3 c8
  obtain ⟨⟨c0, c1, c2, c3⟩, -, c8⟩ := cells4 W2.out.1
  obtain ⟨a0, a1, -⟩ := cells2 W2.out.2.2.1
  go_wp2_with fail
  refine (HL.out _).mono ?_
  rintro e w4 ⟨rfl, hB⟩
  have WR := Lib.hid (W2.out.up hB)
  clear hB c0 c1 c2 c3 c8 a0 a1
  obtain ⟨⟨c0, c1, c2, c3⟩, ⟨c4, c5, c6, c7⟩, c8⟩ := cells4 WR.out.2.1
  go_wp2_with fail
  exact bodyPost_ret (v := .agg #[.int .i64 _, .int .i64 _, .bool _, .bool _]) (results_cell_row Tryz.results11 _ _ (w.heap.size + 1) 23 #[.int .i64 _, .int .i64 _, .bool _, .bool _] (0, 0) _ rfl (set4 WR.out.2.1 _ _ _ _) Tryz.underlying23 rfl (by kernel_rfl)) rfl ⟨rfl, Below.set4 WR.out.2.2.2 (by omega) _ _ _ _⟩
set_option maxHeartbeats 4000000 in
theorem re_8true_neg (lo hi : Int) (nl nh : Bool) (a b : Int) (p q : Bool) (l h : Int) (er : rd ⟨lo, hi, nl, nh⟩ = ⟨l, h⟩) (hs : ¬ l = h) (hm : -128 ≤ l) (hM : h ≤ 127) (h0 : l < 0) (h1 : h < 0) (hr : sp (extE 8 true ⟨l, h⟩) = ⟨a, b, p, q⟩) (w : World) : Calls Tryz.prog 11 #[.int .i64 8, .bool true, .agg #[.int .i64 lo, .int .i64 hi, .bool nl, .bool nh]] w (RetS w a b p q) := by
  have b1 := Lib.hid ((Blk.new w 23 #[.int .i64 lo, .int .i64 hi, .bool nl, .bool nh]).alloc (.cells zS 23))
  have b2 := Lib.hid (new2 w (.cells #[.int .i64 lo, .int .i64 hi, .bool nl, .bool nh] 23) 23 zS)
  have H2 := Lib.hid (box2 w (.cells #[.int .i64 lo, .int .i64 hi, .bool nl, .bool nh] 23) (.cells zS 23))
  have HE := Lib.hid (fun w => refEnds_any lo hi nl nh l h er w)
  have HO := Lib.hid (fun w => single_W lo hi nl nh l h er w)
  rw [show (l == h) = false from beq_eq_false_iff_ne.2 hs] at HO
  have hok : l ≤ h := by have := (rd_ok ⟨lo, hi, nl, nh⟩).1; rw [er] at this; exact this
  have es : extE 8 true ⟨l, h⟩ = ⟨l + 4294967296, h + 4294967296⟩ := by rw [ext_in hs (by show (decide (-128 ≤ l) && decide (h ≤ 127)) = true; rw [decide_eq_true hm, decide_eq_true hM]; rfl)]; exact low_neg (by omega) h0 h1 hok
  rw [es] at hr
  have HL0 := fun w => Span_any (l + 4294967296) (h + 4294967296) (up_64 (by omega) h0) (up_64 (by omega) h1) a b p q hr w
  rw [show l + 4294967296 = l + 4294967295 + 1 by omega, ← up_w (l := h) (by omega) h1] at HL0
  have HL := Lib.hid HL0
  clear HL0
  clear hr er hs es hok
  go_enter Tryz.func11, Tryz.ntmps11
  obtain ⟨⟨c0, c1, c2, c3⟩, -, c8⟩ := cells4 b1.out
  go_wp2_with fail
  refine (HE.out _).mono ?_
  rintro e w1 ⟨rfl, hB⟩
  have hb := nx hB (below_box' w1 (.cells #[.int .i64 l, .int .i64 h] 43))
  have W1 := Lib.hid (show LoW w lo hi nl nh w1.heap.size l h (w1.alloc (.cells #[.int .i64 l, .int .i64 h] 43)) from ⟨b1.out.up hb, b2.out.up hb, Blk.new w1 _ _, nx H2.out hb⟩)
  clear hB hb c0 c1 c2 c3 c8
  obtain ⟨⟨c0, c1, c2, c3⟩, -, c8⟩ := cells4 W1.out.1
  go_wp2_with fail
  refine (HO.out _).mono ?_
  rintro e w2 ⟨rfl, hB⟩
  have W2 := Lib.hid (W1.out.up hB)
  clear hB c0 c1 c2 c3 c8
  obtain ⟨⟨c0, c1, c2, c3⟩, -, c8⟩ := cells4 W2.out.1
  obtain ⟨a0, a1, -⟩ := cells2 W2.out.2.2.1
  go_wp2_with fail
  refine (HL.out _).mono ?_
  rintro e w4 ⟨rfl, hB⟩
  have WR := Lib.hid (W2.out.up hB)
  clear hB c0 c1 c2 c3 c8 a0 a1
  obtain ⟨⟨c0, c1, c2, c3⟩, ⟨c4, c5, c6, c7⟩, c8⟩ := cells4 WR.out.2.1
  go_wp2_with fail
  exact bodyPost_ret (v := .agg #[.int .i64 _, .int .i64 _, .bool _, .bool _]) (results_cell_row Tryz.results11 _ _ (w.heap.size + 1) 23 #[.int .i64 _, .int .i64 _, .bool _, .bool _] (0, 0) _ rfl (set4 WR.out.2.1 _ _ _ _) Tryz.underlying23 rfl (by kernel_rfl)) rfl ⟨rfl, Below.set4 WR.out.2.2.2 (by omega) _ _ _ _⟩
set_option maxHeartbeats 4000000 in
theorem re_8true_mix (lo hi : Int) (nl nh : Bool) (a b : Int) (p q : Bool) (l h : Int) (er : rd ⟨lo, hi, nl, nh⟩ = ⟨l, h⟩) (hs : ¬ l = h) (hm : -128 ≤ l) (hM : h ≤ 127) (h0 : l < 0) (h1 : 0 ≤ h) (hr : sp (extE 8 true ⟨l, h⟩) = ⟨a, b, p, q⟩) (w : World) : Calls Tryz.prog 11 #[.int .i64 8, .bool true, .agg #[.int .i64 lo, .int .i64 hi, .bool nl, .bool nh]] w (RetS w a b p q) := by
  have b1 := Lib.hid ((Blk.new w 23 #[.int .i64 lo, .int .i64 hi, .bool nl, .bool nh]).alloc (.cells zS 23))
  have b2 := Lib.hid (new2 w (.cells #[.int .i64 lo, .int .i64 hi, .bool nl, .bool nh] 23) 23 zS)
  have H2 := Lib.hid (box2 w (.cells #[.int .i64 lo, .int .i64 hi, .bool nl, .bool nh] 23) (.cells zS 23))
  have HE := Lib.hid (fun w => refEnds_any lo hi nl nh l h er w)
  have HO := Lib.hid (fun w => single_W lo hi nl nh l h er w)
  rw [show (l == h) = false from beq_eq_false_iff_ne.2 hs] at HO
  have hok : l ≤ h := by have := (rd_ok ⟨lo, hi, nl, nh⟩).1; rw [er] at this; exact this
  have es : extE 8 true ⟨l, h⟩ = ⟨0, 4294967295⟩ := by rw [ext_in hs (by show (decide (-128 ≤ l) && decide (h ≤ 127)) = true; rw [decide_eq_true hm, decide_eq_true hM]; rfl)]; exact low_mix (by omega) h0 h1 (by omega)
  rw [es] at hr
  have HL := Lib.hid (fun w => Span_any 0 4294967295 (by unfold I64 LEAST TOP; decide) (by unfold I64 LEAST TOP; decide) a b p q hr w)
  clear hr er hs es hok
  go_enter Tryz.func11, Tryz.ntmps11
  obtain ⟨⟨c0, c1, c2, c3⟩, -, c8⟩ := cells4 b1.out
  go_wp2_with fail
  refine (HE.out _).mono ?_
  rintro e w1 ⟨rfl, hB⟩
  have hb := nx hB (below_box' w1 (.cells #[.int .i64 l, .int .i64 h] 43))
  have W1 := Lib.hid (show LoW w lo hi nl nh w1.heap.size l h (w1.alloc (.cells #[.int .i64 l, .int .i64 h] 43)) from ⟨b1.out.up hb, b2.out.up hb, Blk.new w1 _ _, nx H2.out hb⟩)
  clear hB hb c0 c1 c2 c3 c8
  obtain ⟨⟨c0, c1, c2, c3⟩, -, c8⟩ := cells4 W1.out.1
  go_wp2_with fail
  refine (HO.out _).mono ?_
  rintro e w2 ⟨rfl, hB⟩
  have W2 := Lib.hid (W1.out.up hB)
  clear hB c0 c1 c2 c3 c8
  obtain ⟨⟨c0, c1, c2, c3⟩, -, c8⟩ := cells4 W2.out.1
  obtain ⟨a0, a1, -⟩ := cells2 W2.out.2.2.1
  go_wp2_with fail
  refine (HL.out _).mono ?_
  rintro e w4 ⟨rfl, hB⟩
  have WR := Lib.hid (W2.out.up hB)
  clear hB c0 c1 c2 c3 c8 a0 a1
  obtain ⟨⟨c0, c1, c2, c3⟩, ⟨c4, c5, c6, c7⟩, c8⟩ := cells4 WR.out.2.1
  go_wp2_with fail
  exact bodyPost_ret (v := .agg #[.int .i64 _, .int .i64 _, .bool _, .bool _]) (results_cell_row Tryz.results11 _ _ (w.heap.size + 1) 23 #[.int .i64 _, .int .i64 _, .bool _, .bool _] (0, 0) _ rfl (set4 WR.out.2.1 _ _ _ _) Tryz.underlying23 rfl (by kernel_rfl)) rfl ⟨rfl, Below.set4 WR.out.2.2.2 (by omega) _ _ _ _⟩
set_option maxHeartbeats 4000000 in
theorem re_8true_lo (lo hi : Int) (nl nh : Bool) (a b : Int) (p q : Bool) (l h : Int) (er : rd ⟨lo, hi, nl, nh⟩ = ⟨l, h⟩) (hs : ¬ l = h) (h0 : l < -128) (hr : sp (extE 8 true ⟨l, h⟩) = ⟨a, b, p, q⟩) (w : World) : Calls Tryz.prog 11 #[.int .i64 8, .bool true, .agg #[.int .i64 lo, .int .i64 hi, .bool nl, .bool nh]] w (RetS w a b p q) := by
  have b1 := Lib.hid ((Blk.new w 23 #[.int .i64 lo, .int .i64 hi, .bool nl, .bool nh]).alloc (.cells zS 23))
  have b2 := Lib.hid (new2 w (.cells #[.int .i64 lo, .int .i64 hi, .bool nl, .bool nh] 23) 23 zS)
  have H2 := Lib.hid (box2 w (.cells #[.int .i64 lo, .int .i64 hi, .bool nl, .bool nh] 23) (.cells zS 23))
  have HE := Lib.hid (fun w => refEnds_any lo hi nl nh l h er w)
  have HO := Lib.hid (fun w => single_W lo hi nl nh l h er w)
  rw [show (l == h) = false from beq_eq_false_iff_ne.2 hs] at HO
  have hok : l ≤ h := by have := (rd_ok ⟨lo, hi, nl, nh⟩).1; rw [er] at this; exact this
  have es : extE 8 true ⟨l, h⟩ = ⟨0, 4294967295⟩ := by rw [ext_out hs (by show (decide (-128 ≤ l) && decide (h ≤ 127)) = false; rw [decide_eq_false (show ¬ -128 ≤ l by omega)]; rfl)]; rfl
  rw [es] at hr
  have HL := Lib.hid (fun w => Span_any 0 4294967295 (by unfold I64 LEAST TOP; decide) (by unfold I64 LEAST TOP; decide) a b p q hr w)
  clear hr er hs es hok
  go_enter Tryz.func11, Tryz.ntmps11
  obtain ⟨⟨c0, c1, c2, c3⟩, -, c8⟩ := cells4 b1.out
  go_wp2_with fail
  refine (HE.out _).mono ?_
  rintro e w1 ⟨rfl, hB⟩
  have hb := nx hB (below_box' w1 (.cells #[.int .i64 l, .int .i64 h] 43))
  have W1 := Lib.hid (show LoW w lo hi nl nh w1.heap.size l h (w1.alloc (.cells #[.int .i64 l, .int .i64 h] 43)) from ⟨b1.out.up hb, b2.out.up hb, Blk.new w1 _ _, nx H2.out hb⟩)
  clear hB hb c0 c1 c2 c3 c8
  obtain ⟨⟨c0, c1, c2, c3⟩, -, c8⟩ := cells4 W1.out.1
  go_wp2_with fail
  refine (HO.out _).mono ?_
  rintro e w2 ⟨rfl, hB⟩
  have W2 := Lib.hid (W1.out.up hB)
  clear hB c0 c1 c2 c3 c8
  obtain ⟨⟨c0, c1, c2, c3⟩, -, c8⟩ := cells4 W2.out.1
  obtain ⟨a0, a1, -⟩ := cells2 W2.out.2.2.1
  go_wp2_with fail
  refine (HL.out _).mono ?_
  rintro e w4 ⟨rfl, hB⟩
  have WR := Lib.hid (W2.out.up hB)
  clear hB c0 c1 c2 c3 c8 a0 a1
  obtain ⟨⟨c0, c1, c2, c3⟩, ⟨c4, c5, c6, c7⟩, c8⟩ := cells4 WR.out.2.1
  go_wp2_with fail
  exact bodyPost_ret (v := .agg #[.int .i64 _, .int .i64 _, .bool _, .bool _]) (results_cell_row Tryz.results11 _ _ (w.heap.size + 1) 23 #[.int .i64 _, .int .i64 _, .bool _, .bool _] (0, 0) _ rfl (set4 WR.out.2.1 _ _ _ _) Tryz.underlying23 rfl (by kernel_rfl)) rfl ⟨rfl, Below.set4 WR.out.2.2.2 (by omega) _ _ _ _⟩
set_option maxHeartbeats 4000000 in
theorem re_8true_hi (lo hi : Int) (nl nh : Bool) (a b : Int) (p q : Bool) (l h : Int) (er : rd ⟨lo, hi, nl, nh⟩ = ⟨l, h⟩) (hs : ¬ l = h) (hm : -128 ≤ l) (h1 : 127 < h) (hr : sp (extE 8 true ⟨l, h⟩) = ⟨a, b, p, q⟩) (w : World) : Calls Tryz.prog 11 #[.int .i64 8, .bool true, .agg #[.int .i64 lo, .int .i64 hi, .bool nl, .bool nh]] w (RetS w a b p q) := by
  have b1 := Lib.hid ((Blk.new w 23 #[.int .i64 lo, .int .i64 hi, .bool nl, .bool nh]).alloc (.cells zS 23))
  have b2 := Lib.hid (new2 w (.cells #[.int .i64 lo, .int .i64 hi, .bool nl, .bool nh] 23) 23 zS)
  have H2 := Lib.hid (box2 w (.cells #[.int .i64 lo, .int .i64 hi, .bool nl, .bool nh] 23) (.cells zS 23))
  have HE := Lib.hid (fun w => refEnds_any lo hi nl nh l h er w)
  have HO := Lib.hid (fun w => single_W lo hi nl nh l h er w)
  rw [show (l == h) = false from beq_eq_false_iff_ne.2 hs] at HO
  have hok : l ≤ h := by have := (rd_ok ⟨lo, hi, nl, nh⟩).1; rw [er] at this; exact this
  have es : extE 8 true ⟨l, h⟩ = ⟨0, 4294967295⟩ := by rw [ext_out hs (by show (decide (-128 ≤ l) && decide (h ≤ 127)) = false; rw [decide_eq_true hm, decide_eq_false (show ¬ h ≤ 127 by omega)]; rfl)]; rfl
  rw [es] at hr
  have HL := Lib.hid (fun w => Span_any 0 4294967295 (by unfold I64 LEAST TOP; decide) (by unfold I64 LEAST TOP; decide) a b p q hr w)
  clear hr er hs es hok
  go_enter Tryz.func11, Tryz.ntmps11
  obtain ⟨⟨c0, c1, c2, c3⟩, -, c8⟩ := cells4 b1.out
  go_wp2_with fail
  refine (HE.out _).mono ?_
  rintro e w1 ⟨rfl, hB⟩
  have hb := nx hB (below_box' w1 (.cells #[.int .i64 l, .int .i64 h] 43))
  have W1 := Lib.hid (show LoW w lo hi nl nh w1.heap.size l h (w1.alloc (.cells #[.int .i64 l, .int .i64 h] 43)) from ⟨b1.out.up hb, b2.out.up hb, Blk.new w1 _ _, nx H2.out hb⟩)
  clear hB hb c0 c1 c2 c3 c8
  obtain ⟨⟨c0, c1, c2, c3⟩, -, c8⟩ := cells4 W1.out.1
  go_wp2_with fail
  refine (HO.out _).mono ?_
  rintro e w2 ⟨rfl, hB⟩
  have W2 := Lib.hid (W1.out.up hB)
  clear hB c0 c1 c2 c3 c8
  obtain ⟨⟨c0, c1, c2, c3⟩, -, c8⟩ := cells4 W2.out.1
  obtain ⟨a0, a1, -⟩ := cells2 W2.out.2.2.1
  go_wp2_with fail
  refine (HL.out _).mono ?_
  rintro e w4 ⟨rfl, hB⟩
  have WR := Lib.hid (W2.out.up hB)
  clear hB c0 c1 c2 c3 c8 a0 a1
  obtain ⟨⟨c0, c1, c2, c3⟩, ⟨c4, c5, c6, c7⟩, c8⟩ := cells4 WR.out.2.1
  go_wp2_with fail
  exact bodyPost_ret (v := .agg #[.int .i64 _, .int .i64 _, .bool _, .bool _]) (results_cell_row Tryz.results11 _ _ (w.heap.size + 1) 23 #[.int .i64 _, .int .i64 _, .bool _, .bool _] (0, 0) _ rfl (set4 WR.out.2.1 _ _ _ _) Tryz.underlying23 rfl (by kernel_rfl)) rfl ⟨rfl, Below.set4 WR.out.2.2.2 (by omega) _ _ _ _⟩
set_option maxHeartbeats 4000000 in
theorem re_16false_in (lo hi : Int) (nl nh : Bool) (a b : Int) (p q : Bool) (l h : Int) (er : rd ⟨lo, hi, nl, nh⟩ = ⟨l, h⟩) (hs : ¬ l = h) (hm : -32768 ≤ l) (hM : h ≤ 32767) (hr : sp (extE 16 false ⟨l, h⟩) = ⟨a, b, p, q⟩) (w : World) : Calls Tryz.prog 11 #[.int .i64 16, .bool false, .agg #[.int .i64 lo, .int .i64 hi, .bool nl, .bool nh]] w (RetS w a b p q) := by
  have b1 := Lib.hid ((Blk.new w 23 #[.int .i64 lo, .int .i64 hi, .bool nl, .bool nh]).alloc (.cells zS 23))
  have b2 := Lib.hid (new2 w (.cells #[.int .i64 lo, .int .i64 hi, .bool nl, .bool nh] 23) 23 zS)
  have H2 := Lib.hid (box2 w (.cells #[.int .i64 lo, .int .i64 hi, .bool nl, .bool nh] 23) (.cells zS 23))
  have HE := Lib.hid (fun w => refEnds_any lo hi nl nh l h er w)
  have HO := Lib.hid (fun w => single_W lo hi nl nh l h er w)
  rw [show (l == h) = false from beq_eq_false_iff_ne.2 hs] at HO
  have hok : l ≤ h := by have := (rd_ok ⟨lo, hi, nl, nh⟩).1; rw [er] at this; exact this
  have es : extE 16 false ⟨l, h⟩ = ⟨l, h⟩ := by rw [ext_in hs (by show (decide (-32768 ≤ l) && decide (h ≤ 32767)) = true; rw [decide_eq_true hm, decide_eq_true hM]; rfl)]; rfl
  rw [es] at hr
  have HL := Lib.hid (fun w => refRead_any lo hi nl nh a b p q (by rw [← sp_read, er]; exact hr) w)
  clear hr er hs es hok
  go_enter Tryz.func11, Tryz.ntmps11
  obtain ⟨⟨c0, c1, c2, c3⟩, -, c8⟩ := cells4 b1.out
  go_wp2_with fail
  refine (HE.out _).mono ?_
  rintro e w1 ⟨rfl, hB⟩
  have hb := nx hB (below_box' w1 (.cells #[.int .i64 l, .int .i64 h] 43))
  have W1 := Lib.hid (show LoW w lo hi nl nh w1.heap.size l h (w1.alloc (.cells #[.int .i64 l, .int .i64 h] 43)) from ⟨b1.out.up hb, b2.out.up hb, Blk.new w1 _ _, nx H2.out hb⟩)
  clear hB hb c0 c1 c2 c3 c8
  obtain ⟨⟨c0, c1, c2, c3⟩, -, c8⟩ := cells4 W1.out.1
  go_wp2_with fail
  refine (HO.out _).mono ?_
  rintro e w2 ⟨rfl, hB⟩
  have W2 := Lib.hid (W1.out.up hB)
  clear hB c0 c1 c2 c3 c8
  obtain ⟨⟨c0, c1, c2, c3⟩, -, c8⟩ := cells4 W2.out.1
  obtain ⟨a0, a1, -⟩ := cells2 W2.out.2.2.1
  go_wp2_with fail
  refine (HL.out _).mono ?_
  rintro e w4 ⟨rfl, hB⟩
  have WR := Lib.hid (W2.out.up hB)
  clear hB c0 c1 c2 c3 c8 a0 a1
  obtain ⟨⟨c0, c1, c2, c3⟩, ⟨c4, c5, c6, c7⟩, c8⟩ := cells4 WR.out.2.1
  go_wp2_with fail
  exact bodyPost_ret (v := .agg #[.int .i64 _, .int .i64 _, .bool _, .bool _]) (results_cell_row Tryz.results11 _ _ (w.heap.size + 1) 23 #[.int .i64 _, .int .i64 _, .bool _, .bool _] (0, 0) _ rfl (set4 WR.out.2.1 _ _ _ _) Tryz.underlying23 rfl (by kernel_rfl)) rfl ⟨rfl, Below.set4 WR.out.2.2.2 (by omega) _ _ _ _⟩
set_option maxHeartbeats 4000000 in
theorem re_16false_lo (lo hi : Int) (nl nh : Bool) (a b : Int) (p q : Bool) (l h : Int) (er : rd ⟨lo, hi, nl, nh⟩ = ⟨l, h⟩) (hs : ¬ l = h) (h0 : l < -32768) (hr : sp (extE 16 false ⟨l, h⟩) = ⟨a, b, p, q⟩) (w : World) : Calls Tryz.prog 11 #[.int .i64 16, .bool false, .agg #[.int .i64 lo, .int .i64 hi, .bool nl, .bool nh]] w (RetS w a b p q) := by
  have b1 := Lib.hid ((Blk.new w 23 #[.int .i64 lo, .int .i64 hi, .bool nl, .bool nh]).alloc (.cells zS 23))
  have b2 := Lib.hid (new2 w (.cells #[.int .i64 lo, .int .i64 hi, .bool nl, .bool nh] 23) 23 zS)
  have H2 := Lib.hid (box2 w (.cells #[.int .i64 lo, .int .i64 hi, .bool nl, .bool nh] 23) (.cells zS 23))
  have HE := Lib.hid (fun w => refEnds_any lo hi nl nh l h er w)
  have HO := Lib.hid (fun w => single_W lo hi nl nh l h er w)
  rw [show (l == h) = false from beq_eq_false_iff_ne.2 hs] at HO
  have hok : l ≤ h := by have := (rd_ok ⟨lo, hi, nl, nh⟩).1; rw [er] at this; exact this
  have es : extE 16 false ⟨l, h⟩ = ⟨(-32768), 32767⟩ := by rw [ext_out hs (by show (decide (-32768 ≤ l) && decide (h ≤ 32767)) = false; rw [decide_eq_false (show ¬ -32768 ≤ l by omega)]; rfl)]; rfl
  rw [es] at hr
  have HL := Lib.hid (fun w => Span_any (-32768) 32767 (by unfold I64 LEAST TOP; decide) (by unfold I64 LEAST TOP; decide) a b p q hr w)
  clear hr er hs es hok
  go_enter Tryz.func11, Tryz.ntmps11
  obtain ⟨⟨c0, c1, c2, c3⟩, -, c8⟩ := cells4 b1.out
  go_wp2_with fail
  refine (HE.out _).mono ?_
  rintro e w1 ⟨rfl, hB⟩
  have hb := nx hB (below_box' w1 (.cells #[.int .i64 l, .int .i64 h] 43))
  have W1 := Lib.hid (show LoW w lo hi nl nh w1.heap.size l h (w1.alloc (.cells #[.int .i64 l, .int .i64 h] 43)) from ⟨b1.out.up hb, b2.out.up hb, Blk.new w1 _ _, nx H2.out hb⟩)
  clear hB hb c0 c1 c2 c3 c8
  obtain ⟨⟨c0, c1, c2, c3⟩, -, c8⟩ := cells4 W1.out.1
  go_wp2_with fail
  refine (HO.out _).mono ?_
  rintro e w2 ⟨rfl, hB⟩
  have W2 := Lib.hid (W1.out.up hB)
  clear hB c0 c1 c2 c3 c8
  obtain ⟨⟨c0, c1, c2, c3⟩, -, c8⟩ := cells4 W2.out.1
  obtain ⟨a0, a1, -⟩ := cells2 W2.out.2.2.1
  go_wp2_with fail
  refine (HL.out _).mono ?_
  rintro e w4 ⟨rfl, hB⟩
  have WR := Lib.hid (W2.out.up hB)
  clear hB c0 c1 c2 c3 c8 a0 a1
  obtain ⟨⟨c0, c1, c2, c3⟩, ⟨c4, c5, c6, c7⟩, c8⟩ := cells4 WR.out.2.1
  go_wp2_with fail
  exact bodyPost_ret (v := .agg #[.int .i64 _, .int .i64 _, .bool _, .bool _]) (results_cell_row Tryz.results11 _ _ (w.heap.size + 1) 23 #[.int .i64 _, .int .i64 _, .bool _, .bool _] (0, 0) _ rfl (set4 WR.out.2.1 _ _ _ _) Tryz.underlying23 rfl (by kernel_rfl)) rfl ⟨rfl, Below.set4 WR.out.2.2.2 (by omega) _ _ _ _⟩
set_option maxHeartbeats 4000000 in
theorem re_16false_hi (lo hi : Int) (nl nh : Bool) (a b : Int) (p q : Bool) (l h : Int) (er : rd ⟨lo, hi, nl, nh⟩ = ⟨l, h⟩) (hs : ¬ l = h) (hm : -32768 ≤ l) (h1 : 32767 < h) (hr : sp (extE 16 false ⟨l, h⟩) = ⟨a, b, p, q⟩) (w : World) : Calls Tryz.prog 11 #[.int .i64 16, .bool false, .agg #[.int .i64 lo, .int .i64 hi, .bool nl, .bool nh]] w (RetS w a b p q) := by
  have b1 := Lib.hid ((Blk.new w 23 #[.int .i64 lo, .int .i64 hi, .bool nl, .bool nh]).alloc (.cells zS 23))
  have b2 := Lib.hid (new2 w (.cells #[.int .i64 lo, .int .i64 hi, .bool nl, .bool nh] 23) 23 zS)
  have H2 := Lib.hid (box2 w (.cells #[.int .i64 lo, .int .i64 hi, .bool nl, .bool nh] 23) (.cells zS 23))
  have HE := Lib.hid (fun w => refEnds_any lo hi nl nh l h er w)
  have HO := Lib.hid (fun w => single_W lo hi nl nh l h er w)
  rw [show (l == h) = false from beq_eq_false_iff_ne.2 hs] at HO
  have hok : l ≤ h := by have := (rd_ok ⟨lo, hi, nl, nh⟩).1; rw [er] at this; exact this
  have es : extE 16 false ⟨l, h⟩ = ⟨(-32768), 32767⟩ := by rw [ext_out hs (by show (decide (-32768 ≤ l) && decide (h ≤ 32767)) = false; rw [decide_eq_true hm, decide_eq_false (show ¬ h ≤ 32767 by omega)]; rfl)]; rfl
  rw [es] at hr
  have HL := Lib.hid (fun w => Span_any (-32768) 32767 (by unfold I64 LEAST TOP; decide) (by unfold I64 LEAST TOP; decide) a b p q hr w)
  clear hr er hs es hok
  go_enter Tryz.func11, Tryz.ntmps11
  obtain ⟨⟨c0, c1, c2, c3⟩, -, c8⟩ := cells4 b1.out
  go_wp2_with fail
  refine (HE.out _).mono ?_
  rintro e w1 ⟨rfl, hB⟩
  have hb := nx hB (below_box' w1 (.cells #[.int .i64 l, .int .i64 h] 43))
  have W1 := Lib.hid (show LoW w lo hi nl nh w1.heap.size l h (w1.alloc (.cells #[.int .i64 l, .int .i64 h] 43)) from ⟨b1.out.up hb, b2.out.up hb, Blk.new w1 _ _, nx H2.out hb⟩)
  clear hB hb c0 c1 c2 c3 c8
  obtain ⟨⟨c0, c1, c2, c3⟩, -, c8⟩ := cells4 W1.out.1
  go_wp2_with fail
  refine (HO.out _).mono ?_
  rintro e w2 ⟨rfl, hB⟩
  have W2 := Lib.hid (W1.out.up hB)
  clear hB c0 c1 c2 c3 c8
  obtain ⟨⟨c0, c1, c2, c3⟩, -, c8⟩ := cells4 W2.out.1
  obtain ⟨a0, a1, -⟩ := cells2 W2.out.2.2.1
  go_wp2_with fail
  refine (HL.out _).mono ?_
  rintro e w4 ⟨rfl, hB⟩
  have WR := Lib.hid (W2.out.up hB)
  clear hB c0 c1 c2 c3 c8 a0 a1
  obtain ⟨⟨c0, c1, c2, c3⟩, ⟨c4, c5, c6, c7⟩, c8⟩ := cells4 WR.out.2.1
  go_wp2_with fail
  exact bodyPost_ret (v := .agg #[.int .i64 _, .int .i64 _, .bool _, .bool _]) (results_cell_row Tryz.results11 _ _ (w.heap.size + 1) 23 #[.int .i64 _, .int .i64 _, .bool _, .bool _] (0, 0) _ rfl (set4 WR.out.2.1 _ _ _ _) Tryz.underlying23 rfl (by kernel_rfl)) rfl ⟨rfl, Below.set4 WR.out.2.2.2 (by omega) _ _ _ _⟩
set_option maxHeartbeats 4000000 in
theorem re_16true_in (lo hi : Int) (nl nh : Bool) (a b : Int) (p q : Bool) (l h : Int) (er : rd ⟨lo, hi, nl, nh⟩ = ⟨l, h⟩) (hs : ¬ l = h) (hm : -32768 ≤ l) (hM : h ≤ 32767) (h0 : 0 ≤ l) (hr : sp (extE 16 true ⟨l, h⟩) = ⟨a, b, p, q⟩) (w : World) : Calls Tryz.prog 11 #[.int .i64 16, .bool true, .agg #[.int .i64 lo, .int .i64 hi, .bool nl, .bool nh]] w (RetS w a b p q) := by
  have b1 := Lib.hid ((Blk.new w 23 #[.int .i64 lo, .int .i64 hi, .bool nl, .bool nh]).alloc (.cells zS 23))
  have b2 := Lib.hid (new2 w (.cells #[.int .i64 lo, .int .i64 hi, .bool nl, .bool nh] 23) 23 zS)
  have H2 := Lib.hid (box2 w (.cells #[.int .i64 lo, .int .i64 hi, .bool nl, .bool nh] 23) (.cells zS 23))
  have HE := Lib.hid (fun w => refEnds_any lo hi nl nh l h er w)
  have HO := Lib.hid (fun w => single_W lo hi nl nh l h er w)
  rw [show (l == h) = false from beq_eq_false_iff_ne.2 hs] at HO
  have hok : l ≤ h := by have := (rd_ok ⟨lo, hi, nl, nh⟩).1; rw [er] at this; exact this
  have es : extE 16 true ⟨l, h⟩ = ⟨l, h⟩ := by rw [ext_in hs (by show (decide (-32768 ≤ l) && decide (h ≤ 32767)) = true; rw [decide_eq_true hm, decide_eq_true hM]; rfl)]; exact low_lit h0 hok (by omega)
  rw [es] at hr
  have HL := Lib.hid (fun w => refRead_any lo hi nl nh a b p q (by rw [← sp_read, er]; exact hr) w)
  clear hr er hs es hok
  go_enter Tryz.func11, Tryz.ntmps11
  obtain ⟨⟨c0, c1, c2, c3⟩, -, c8⟩ := cells4 b1.out
  go_wp2_with fail
  refine (HE.out _).mono ?_
  rintro e w1 ⟨rfl, hB⟩
  have hb := nx hB (below_box' w1 (.cells #[.int .i64 l, .int .i64 h] 43))
  have W1 := Lib.hid (show LoW w lo hi nl nh w1.heap.size l h (w1.alloc (.cells #[.int .i64 l, .int .i64 h] 43)) from ⟨b1.out.up hb, b2.out.up hb, Blk.new w1 _ _, nx H2.out hb⟩)
  clear hB hb c0 c1 c2 c3 c8
  obtain ⟨⟨c0, c1, c2, c3⟩, -, c8⟩ := cells4 W1.out.1
  go_wp2_with fail
  refine (HO.out _).mono ?_
  rintro e w2 ⟨rfl, hB⟩
  have W2 := Lib.hid (W1.out.up hB)
  clear hB c0 c1 c2 c3 c8
  obtain ⟨⟨c0, c1, c2, c3⟩, -, c8⟩ := cells4 W2.out.1
  obtain ⟨a0, a1, -⟩ := cells2 W2.out.2.2.1
  go_wp2_with fail
  refine (HL.out _).mono ?_
  rintro e w4 ⟨rfl, hB⟩
  have WR := Lib.hid (W2.out.up hB)
  clear hB c0 c1 c2 c3 c8 a0 a1
  obtain ⟨⟨c0, c1, c2, c3⟩, ⟨c4, c5, c6, c7⟩, c8⟩ := cells4 WR.out.2.1
  go_wp2_with fail
  exact bodyPost_ret (v := .agg #[.int .i64 _, .int .i64 _, .bool _, .bool _]) (results_cell_row Tryz.results11 _ _ (w.heap.size + 1) 23 #[.int .i64 _, .int .i64 _, .bool _, .bool _] (0, 0) _ rfl (set4 WR.out.2.1 _ _ _ _) Tryz.underlying23 rfl (by kernel_rfl)) rfl ⟨rfl, Below.set4 WR.out.2.2.2 (by omega) _ _ _ _⟩
set_option maxHeartbeats 4000000 in
theorem re_16true_neg (lo hi : Int) (nl nh : Bool) (a b : Int) (p q : Bool) (l h : Int) (er : rd ⟨lo, hi, nl, nh⟩ = ⟨l, h⟩) (hs : ¬ l = h) (hm : -32768 ≤ l) (hM : h ≤ 32767) (h0 : l < 0) (h1 : h < 0) (hr : sp (extE 16 true ⟨l, h⟩) = ⟨a, b, p, q⟩) (w : World) : Calls Tryz.prog 11 #[.int .i64 16, .bool true, .agg #[.int .i64 lo, .int .i64 hi, .bool nl, .bool nh]] w (RetS w a b p q) := by
  have b1 := Lib.hid ((Blk.new w 23 #[.int .i64 lo, .int .i64 hi, .bool nl, .bool nh]).alloc (.cells zS 23))
  have b2 := Lib.hid (new2 w (.cells #[.int .i64 lo, .int .i64 hi, .bool nl, .bool nh] 23) 23 zS)
  have H2 := Lib.hid (box2 w (.cells #[.int .i64 lo, .int .i64 hi, .bool nl, .bool nh] 23) (.cells zS 23))
  have HE := Lib.hid (fun w => refEnds_any lo hi nl nh l h er w)
  have HO := Lib.hid (fun w => single_W lo hi nl nh l h er w)
  rw [show (l == h) = false from beq_eq_false_iff_ne.2 hs] at HO
  have hok : l ≤ h := by have := (rd_ok ⟨lo, hi, nl, nh⟩).1; rw [er] at this; exact this
  have es : extE 16 true ⟨l, h⟩ = ⟨l + 4294967296, h + 4294967296⟩ := by rw [ext_in hs (by show (decide (-32768 ≤ l) && decide (h ≤ 32767)) = true; rw [decide_eq_true hm, decide_eq_true hM]; rfl)]; exact low_neg (by omega) h0 h1 hok
  rw [es] at hr
  have HL0 := fun w => Span_any (l + 4294967296) (h + 4294967296) (up_64 (by omega) h0) (up_64 (by omega) h1) a b p q hr w
  rw [show l + 4294967296 = l + 4294967295 + 1 by omega, ← up_w (l := h) (by omega) h1] at HL0
  have HL := Lib.hid HL0
  clear HL0
  clear hr er hs es hok
  go_enter Tryz.func11, Tryz.ntmps11
  obtain ⟨⟨c0, c1, c2, c3⟩, -, c8⟩ := cells4 b1.out
  go_wp2_with fail
  refine (HE.out _).mono ?_
  rintro e w1 ⟨rfl, hB⟩
  have hb := nx hB (below_box' w1 (.cells #[.int .i64 l, .int .i64 h] 43))
  have W1 := Lib.hid (show LoW w lo hi nl nh w1.heap.size l h (w1.alloc (.cells #[.int .i64 l, .int .i64 h] 43)) from ⟨b1.out.up hb, b2.out.up hb, Blk.new w1 _ _, nx H2.out hb⟩)
  clear hB hb c0 c1 c2 c3 c8
  obtain ⟨⟨c0, c1, c2, c3⟩, -, c8⟩ := cells4 W1.out.1
  go_wp2_with fail
  refine (HO.out _).mono ?_
  rintro e w2 ⟨rfl, hB⟩
  have W2 := Lib.hid (W1.out.up hB)
  clear hB c0 c1 c2 c3 c8
  obtain ⟨⟨c0, c1, c2, c3⟩, -, c8⟩ := cells4 W2.out.1
  obtain ⟨a0, a1, -⟩ := cells2 W2.out.2.2.1
  go_wp2_with fail
  refine (HL.out _).mono ?_
  rintro e w4 ⟨rfl, hB⟩
  have WR := Lib.hid (W2.out.up hB)
  clear hB c0 c1 c2 c3 c8 a0 a1
  obtain ⟨⟨c0, c1, c2, c3⟩, ⟨c4, c5, c6, c7⟩, c8⟩ := cells4 WR.out.2.1
  go_wp2_with fail
  exact bodyPost_ret (v := .agg #[.int .i64 _, .int .i64 _, .bool _, .bool _]) (results_cell_row Tryz.results11 _ _ (w.heap.size + 1) 23 #[.int .i64 _, .int .i64 _, .bool _, .bool _] (0, 0) _ rfl (set4 WR.out.2.1 _ _ _ _) Tryz.underlying23 rfl (by kernel_rfl)) rfl ⟨rfl, Below.set4 WR.out.2.2.2 (by omega) _ _ _ _⟩
set_option maxHeartbeats 4000000 in
theorem re_16true_mix (lo hi : Int) (nl nh : Bool) (a b : Int) (p q : Bool) (l h : Int) (er : rd ⟨lo, hi, nl, nh⟩ = ⟨l, h⟩) (hs : ¬ l = h) (hm : -32768 ≤ l) (hM : h ≤ 32767) (h0 : l < 0) (h1 : 0 ≤ h) (hr : sp (extE 16 true ⟨l, h⟩) = ⟨a, b, p, q⟩) (w : World) : Calls Tryz.prog 11 #[.int .i64 16, .bool true, .agg #[.int .i64 lo, .int .i64 hi, .bool nl, .bool nh]] w (RetS w a b p q) := by
  have b1 := Lib.hid ((Blk.new w 23 #[.int .i64 lo, .int .i64 hi, .bool nl, .bool nh]).alloc (.cells zS 23))
  have b2 := Lib.hid (new2 w (.cells #[.int .i64 lo, .int .i64 hi, .bool nl, .bool nh] 23) 23 zS)
  have H2 := Lib.hid (box2 w (.cells #[.int .i64 lo, .int .i64 hi, .bool nl, .bool nh] 23) (.cells zS 23))
  have HE := Lib.hid (fun w => refEnds_any lo hi nl nh l h er w)
  have HO := Lib.hid (fun w => single_W lo hi nl nh l h er w)
  rw [show (l == h) = false from beq_eq_false_iff_ne.2 hs] at HO
  have hok : l ≤ h := by have := (rd_ok ⟨lo, hi, nl, nh⟩).1; rw [er] at this; exact this
  have es : extE 16 true ⟨l, h⟩ = ⟨0, 4294967295⟩ := by rw [ext_in hs (by show (decide (-32768 ≤ l) && decide (h ≤ 32767)) = true; rw [decide_eq_true hm, decide_eq_true hM]; rfl)]; exact low_mix (by omega) h0 h1 (by omega)
  rw [es] at hr
  have HL := Lib.hid (fun w => Span_any 0 4294967295 (by unfold I64 LEAST TOP; decide) (by unfold I64 LEAST TOP; decide) a b p q hr w)
  clear hr er hs es hok
  go_enter Tryz.func11, Tryz.ntmps11
  obtain ⟨⟨c0, c1, c2, c3⟩, -, c8⟩ := cells4 b1.out
  go_wp2_with fail
  refine (HE.out _).mono ?_
  rintro e w1 ⟨rfl, hB⟩
  have hb := nx hB (below_box' w1 (.cells #[.int .i64 l, .int .i64 h] 43))
  have W1 := Lib.hid (show LoW w lo hi nl nh w1.heap.size l h (w1.alloc (.cells #[.int .i64 l, .int .i64 h] 43)) from ⟨b1.out.up hb, b2.out.up hb, Blk.new w1 _ _, nx H2.out hb⟩)
  clear hB hb c0 c1 c2 c3 c8
  obtain ⟨⟨c0, c1, c2, c3⟩, -, c8⟩ := cells4 W1.out.1
  go_wp2_with fail
  refine (HO.out _).mono ?_
  rintro e w2 ⟨rfl, hB⟩
  have W2 := Lib.hid (W1.out.up hB)
  clear hB c0 c1 c2 c3 c8
  obtain ⟨⟨c0, c1, c2, c3⟩, -, c8⟩ := cells4 W2.out.1
  obtain ⟨a0, a1, -⟩ := cells2 W2.out.2.2.1
  go_wp2_with fail
  refine (HL.out _).mono ?_
  rintro e w4 ⟨rfl, hB⟩
  have WR := Lib.hid (W2.out.up hB)
  clear hB c0 c1 c2 c3 c8 a0 a1
  obtain ⟨⟨c0, c1, c2, c3⟩, ⟨c4, c5, c6, c7⟩, c8⟩ := cells4 WR.out.2.1
  go_wp2_with fail
  exact bodyPost_ret (v := .agg #[.int .i64 _, .int .i64 _, .bool _, .bool _]) (results_cell_row Tryz.results11 _ _ (w.heap.size + 1) 23 #[.int .i64 _, .int .i64 _, .bool _, .bool _] (0, 0) _ rfl (set4 WR.out.2.1 _ _ _ _) Tryz.underlying23 rfl (by kernel_rfl)) rfl ⟨rfl, Below.set4 WR.out.2.2.2 (by omega) _ _ _ _⟩
set_option maxHeartbeats 4000000 in
theorem re_16true_lo (lo hi : Int) (nl nh : Bool) (a b : Int) (p q : Bool) (l h : Int) (er : rd ⟨lo, hi, nl, nh⟩ = ⟨l, h⟩) (hs : ¬ l = h) (h0 : l < -32768) (hr : sp (extE 16 true ⟨l, h⟩) = ⟨a, b, p, q⟩) (w : World) : Calls Tryz.prog 11 #[.int .i64 16, .bool true, .agg #[.int .i64 lo, .int .i64 hi, .bool nl, .bool nh]] w (RetS w a b p q) := by
  have b1 := Lib.hid ((Blk.new w 23 #[.int .i64 lo, .int .i64 hi, .bool nl, .bool nh]).alloc (.cells zS 23))
  have b2 := Lib.hid (new2 w (.cells #[.int .i64 lo, .int .i64 hi, .bool nl, .bool nh] 23) 23 zS)
  have H2 := Lib.hid (box2 w (.cells #[.int .i64 lo, .int .i64 hi, .bool nl, .bool nh] 23) (.cells zS 23))
  have HE := Lib.hid (fun w => refEnds_any lo hi nl nh l h er w)
  have HO := Lib.hid (fun w => single_W lo hi nl nh l h er w)
  rw [show (l == h) = false from beq_eq_false_iff_ne.2 hs] at HO
  have hok : l ≤ h := by have := (rd_ok ⟨lo, hi, nl, nh⟩).1; rw [er] at this; exact this
  have es : extE 16 true ⟨l, h⟩ = ⟨0, 4294967295⟩ := by rw [ext_out hs (by show (decide (-32768 ≤ l) && decide (h ≤ 32767)) = false; rw [decide_eq_false (show ¬ -32768 ≤ l by omega)]; rfl)]; rfl
  rw [es] at hr
  have HL := Lib.hid (fun w => Span_any 0 4294967295 (by unfold I64 LEAST TOP; decide) (by unfold I64 LEAST TOP; decide) a b p q hr w)
  clear hr er hs es hok
  go_enter Tryz.func11, Tryz.ntmps11
  obtain ⟨⟨c0, c1, c2, c3⟩, -, c8⟩ := cells4 b1.out
  go_wp2_with fail
  refine (HE.out _).mono ?_
  rintro e w1 ⟨rfl, hB⟩
  have hb := nx hB (below_box' w1 (.cells #[.int .i64 l, .int .i64 h] 43))
  have W1 := Lib.hid (show LoW w lo hi nl nh w1.heap.size l h (w1.alloc (.cells #[.int .i64 l, .int .i64 h] 43)) from ⟨b1.out.up hb, b2.out.up hb, Blk.new w1 _ _, nx H2.out hb⟩)
  clear hB hb c0 c1 c2 c3 c8
  obtain ⟨⟨c0, c1, c2, c3⟩, -, c8⟩ := cells4 W1.out.1
  go_wp2_with fail
  refine (HO.out _).mono ?_
  rintro e w2 ⟨rfl, hB⟩
  have W2 := Lib.hid (W1.out.up hB)
  clear hB c0 c1 c2 c3 c8
  obtain ⟨⟨c0, c1, c2, c3⟩, -, c8⟩ := cells4 W2.out.1
  obtain ⟨a0, a1, -⟩ := cells2 W2.out.2.2.1
  go_wp2_with fail
  refine (HL.out _).mono ?_
  rintro e w4 ⟨rfl, hB⟩
  have WR := Lib.hid (W2.out.up hB)
  clear hB c0 c1 c2 c3 c8 a0 a1
  obtain ⟨⟨c0, c1, c2, c3⟩, ⟨c4, c5, c6, c7⟩, c8⟩ := cells4 WR.out.2.1
  go_wp2_with fail
  exact bodyPost_ret (v := .agg #[.int .i64 _, .int .i64 _, .bool _, .bool _]) (results_cell_row Tryz.results11 _ _ (w.heap.size + 1) 23 #[.int .i64 _, .int .i64 _, .bool _, .bool _] (0, 0) _ rfl (set4 WR.out.2.1 _ _ _ _) Tryz.underlying23 rfl (by kernel_rfl)) rfl ⟨rfl, Below.set4 WR.out.2.2.2 (by omega) _ _ _ _⟩
set_option maxHeartbeats 4000000 in
theorem re_16true_hi (lo hi : Int) (nl nh : Bool) (a b : Int) (p q : Bool) (l h : Int) (er : rd ⟨lo, hi, nl, nh⟩ = ⟨l, h⟩) (hs : ¬ l = h) (hm : -32768 ≤ l) (h1 : 32767 < h) (hr : sp (extE 16 true ⟨l, h⟩) = ⟨a, b, p, q⟩) (w : World) : Calls Tryz.prog 11 #[.int .i64 16, .bool true, .agg #[.int .i64 lo, .int .i64 hi, .bool nl, .bool nh]] w (RetS w a b p q) := by
  have b1 := Lib.hid ((Blk.new w 23 #[.int .i64 lo, .int .i64 hi, .bool nl, .bool nh]).alloc (.cells zS 23))
  have b2 := Lib.hid (new2 w (.cells #[.int .i64 lo, .int .i64 hi, .bool nl, .bool nh] 23) 23 zS)
  have H2 := Lib.hid (box2 w (.cells #[.int .i64 lo, .int .i64 hi, .bool nl, .bool nh] 23) (.cells zS 23))
  have HE := Lib.hid (fun w => refEnds_any lo hi nl nh l h er w)
  have HO := Lib.hid (fun w => single_W lo hi nl nh l h er w)
  rw [show (l == h) = false from beq_eq_false_iff_ne.2 hs] at HO
  have hok : l ≤ h := by have := (rd_ok ⟨lo, hi, nl, nh⟩).1; rw [er] at this; exact this
  have es : extE 16 true ⟨l, h⟩ = ⟨0, 4294967295⟩ := by rw [ext_out hs (by show (decide (-32768 ≤ l) && decide (h ≤ 32767)) = false; rw [decide_eq_true hm, decide_eq_false (show ¬ h ≤ 32767 by omega)]; rfl)]; rfl
  rw [es] at hr
  have HL := Lib.hid (fun w => Span_any 0 4294967295 (by unfold I64 LEAST TOP; decide) (by unfold I64 LEAST TOP; decide) a b p q hr w)
  clear hr er hs es hok
  go_enter Tryz.func11, Tryz.ntmps11
  obtain ⟨⟨c0, c1, c2, c3⟩, -, c8⟩ := cells4 b1.out
  go_wp2_with fail
  refine (HE.out _).mono ?_
  rintro e w1 ⟨rfl, hB⟩
  have hb := nx hB (below_box' w1 (.cells #[.int .i64 l, .int .i64 h] 43))
  have W1 := Lib.hid (show LoW w lo hi nl nh w1.heap.size l h (w1.alloc (.cells #[.int .i64 l, .int .i64 h] 43)) from ⟨b1.out.up hb, b2.out.up hb, Blk.new w1 _ _, nx H2.out hb⟩)
  clear hB hb c0 c1 c2 c3 c8
  obtain ⟨⟨c0, c1, c2, c3⟩, -, c8⟩ := cells4 W1.out.1
  go_wp2_with fail
  refine (HO.out _).mono ?_
  rintro e w2 ⟨rfl, hB⟩
  have W2 := Lib.hid (W1.out.up hB)
  clear hB c0 c1 c2 c3 c8
  obtain ⟨⟨c0, c1, c2, c3⟩, -, c8⟩ := cells4 W2.out.1
  obtain ⟨a0, a1, -⟩ := cells2 W2.out.2.2.1
  go_wp2_with fail
  refine (HL.out _).mono ?_
  rintro e w4 ⟨rfl, hB⟩
  have WR := Lib.hid (W2.out.up hB)
  clear hB c0 c1 c2 c3 c8 a0 a1
  obtain ⟨⟨c0, c1, c2, c3⟩, ⟨c4, c5, c6, c7⟩, c8⟩ := cells4 WR.out.2.1
  go_wp2_with fail
  exact bodyPost_ret (v := .agg #[.int .i64 _, .int .i64 _, .bool _, .bool _]) (results_cell_row Tryz.results11 _ _ (w.heap.size + 1) 23 #[.int .i64 _, .int .i64 _, .bool _, .bool _] (0, 0) _ rfl (set4 WR.out.2.1 _ _ _ _) Tryz.underlying23 rfl (by kernel_rfl)) rfl ⟨rfl, Below.set4 WR.out.2.2.2 (by omega) _ _ _ _⟩
set_option maxHeartbeats 4000000 in
theorem re_32false_in (lo hi : Int) (nl nh : Bool) (a b : Int) (p q : Bool) (l h : Int) (er : rd ⟨lo, hi, nl, nh⟩ = ⟨l, h⟩) (hs : ¬ l = h) (hm : -2147483648 ≤ l) (hM : h ≤ 2147483647) (hr : sp (extE 32 false ⟨l, h⟩) = ⟨a, b, p, q⟩) (w : World) : Calls Tryz.prog 11 #[.int .i64 32, .bool false, .agg #[.int .i64 lo, .int .i64 hi, .bool nl, .bool nh]] w (RetS w a b p q) := by
  have b1 := Lib.hid ((Blk.new w 23 #[.int .i64 lo, .int .i64 hi, .bool nl, .bool nh]).alloc (.cells zS 23))
  have b2 := Lib.hid (new2 w (.cells #[.int .i64 lo, .int .i64 hi, .bool nl, .bool nh] 23) 23 zS)
  have H2 := Lib.hid (box2 w (.cells #[.int .i64 lo, .int .i64 hi, .bool nl, .bool nh] 23) (.cells zS 23))
  have HE := Lib.hid (fun w => refEnds_any lo hi nl nh l h er w)
  have HO := Lib.hid (fun w => single_W lo hi nl nh l h er w)
  rw [show (l == h) = false from beq_eq_false_iff_ne.2 hs] at HO
  have hok : l ≤ h := by have := (rd_ok ⟨lo, hi, nl, nh⟩).1; rw [er] at this; exact this
  have es : extE 32 false ⟨l, h⟩ = ⟨l, h⟩ := by rw [ext_in hs (by show (decide (-2147483648 ≤ l) && decide (h ≤ 2147483647)) = true; rw [decide_eq_true hm, decide_eq_true hM]; rfl)]; rfl
  rw [es] at hr
  have HL := Lib.hid (fun w => refRead_any lo hi nl nh a b p q (by rw [← sp_read, er]; exact hr) w)
  clear hr er hs es hok
  go_enter Tryz.func11, Tryz.ntmps11
  obtain ⟨⟨c0, c1, c2, c3⟩, -, c8⟩ := cells4 b1.out
  go_wp2_with fail
  refine (HE.out _).mono ?_
  rintro e w1 ⟨rfl, hB⟩
  have hb := nx hB (below_box' w1 (.cells #[.int .i64 l, .int .i64 h] 43))
  have W1 := Lib.hid (show LoW w lo hi nl nh w1.heap.size l h (w1.alloc (.cells #[.int .i64 l, .int .i64 h] 43)) from ⟨b1.out.up hb, b2.out.up hb, Blk.new w1 _ _, nx H2.out hb⟩)
  clear hB hb c0 c1 c2 c3 c8
  obtain ⟨⟨c0, c1, c2, c3⟩, -, c8⟩ := cells4 W1.out.1
  go_wp2_with fail
  refine (HO.out _).mono ?_
  rintro e w2 ⟨rfl, hB⟩
  have W2 := Lib.hid (W1.out.up hB)
  clear hB c0 c1 c2 c3 c8
  obtain ⟨⟨c0, c1, c2, c3⟩, -, c8⟩ := cells4 W2.out.1
  obtain ⟨a0, a1, -⟩ := cells2 W2.out.2.2.1
  go_wp2_with fail
  refine (HL.out _).mono ?_
  rintro e w4 ⟨rfl, hB⟩
  have WR := Lib.hid (W2.out.up hB)
  clear hB c0 c1 c2 c3 c8 a0 a1
  obtain ⟨⟨c0, c1, c2, c3⟩, ⟨c4, c5, c6, c7⟩, c8⟩ := cells4 WR.out.2.1
  go_wp2_with fail
  exact bodyPost_ret (v := .agg #[.int .i64 _, .int .i64 _, .bool _, .bool _]) (results_cell_row Tryz.results11 _ _ (w.heap.size + 1) 23 #[.int .i64 _, .int .i64 _, .bool _, .bool _] (0, 0) _ rfl (set4 WR.out.2.1 _ _ _ _) Tryz.underlying23 rfl (by kernel_rfl)) rfl ⟨rfl, Below.set4 WR.out.2.2.2 (by omega) _ _ _ _⟩
set_option maxHeartbeats 4000000 in
theorem re_32false_lo (lo hi : Int) (nl nh : Bool) (a b : Int) (p q : Bool) (l h : Int) (er : rd ⟨lo, hi, nl, nh⟩ = ⟨l, h⟩) (hs : ¬ l = h) (h0 : l < -2147483648) (hr : sp (extE 32 false ⟨l, h⟩) = ⟨a, b, p, q⟩) (w : World) : Calls Tryz.prog 11 #[.int .i64 32, .bool false, .agg #[.int .i64 lo, .int .i64 hi, .bool nl, .bool nh]] w (RetS w a b p q) := by
  have b1 := Lib.hid ((Blk.new w 23 #[.int .i64 lo, .int .i64 hi, .bool nl, .bool nh]).alloc (.cells zS 23))
  have b2 := Lib.hid (new2 w (.cells #[.int .i64 lo, .int .i64 hi, .bool nl, .bool nh] 23) 23 zS)
  have H2 := Lib.hid (box2 w (.cells #[.int .i64 lo, .int .i64 hi, .bool nl, .bool nh] 23) (.cells zS 23))
  have HE := Lib.hid (fun w => refEnds_any lo hi nl nh l h er w)
  have HO := Lib.hid (fun w => single_W lo hi nl nh l h er w)
  rw [show (l == h) = false from beq_eq_false_iff_ne.2 hs] at HO
  have hok : l ≤ h := by have := (rd_ok ⟨lo, hi, nl, nh⟩).1; rw [er] at this; exact this
  have es : extE 32 false ⟨l, h⟩ = ⟨(-2147483648), 2147483647⟩ := by rw [ext_out hs (by show (decide (-2147483648 ≤ l) && decide (h ≤ 2147483647)) = false; rw [decide_eq_false (show ¬ -2147483648 ≤ l by omega)]; rfl)]; rfl
  rw [es] at hr
  have HL := Lib.hid (fun w => Span_any (-2147483648) 2147483647 (by unfold I64 LEAST TOP; decide) (by unfold I64 LEAST TOP; decide) a b p q hr w)
  clear hr er hs es hok
  go_enter Tryz.func11, Tryz.ntmps11
  obtain ⟨⟨c0, c1, c2, c3⟩, -, c8⟩ := cells4 b1.out
  go_wp2_with fail
  refine (HE.out _).mono ?_
  rintro e w1 ⟨rfl, hB⟩
  have hb := nx hB (below_box' w1 (.cells #[.int .i64 l, .int .i64 h] 43))
  have W1 := Lib.hid (show LoW w lo hi nl nh w1.heap.size l h (w1.alloc (.cells #[.int .i64 l, .int .i64 h] 43)) from ⟨b1.out.up hb, b2.out.up hb, Blk.new w1 _ _, nx H2.out hb⟩)
  clear hB hb c0 c1 c2 c3 c8
  obtain ⟨⟨c0, c1, c2, c3⟩, -, c8⟩ := cells4 W1.out.1
  go_wp2_with fail
  refine (HO.out _).mono ?_
  rintro e w2 ⟨rfl, hB⟩
  have W2 := Lib.hid (W1.out.up hB)
  clear hB c0 c1 c2 c3 c8
  obtain ⟨⟨c0, c1, c2, c3⟩, -, c8⟩ := cells4 W2.out.1
  obtain ⟨a0, a1, -⟩ := cells2 W2.out.2.2.1
  go_wp2_with fail
  refine (HL.out _).mono ?_
  rintro e w4 ⟨rfl, hB⟩
  have WR := Lib.hid (W2.out.up hB)
  clear hB c0 c1 c2 c3 c8 a0 a1
  obtain ⟨⟨c0, c1, c2, c3⟩, ⟨c4, c5, c6, c7⟩, c8⟩ := cells4 WR.out.2.1
  go_wp2_with fail
  exact bodyPost_ret (v := .agg #[.int .i64 _, .int .i64 _, .bool _, .bool _]) (results_cell_row Tryz.results11 _ _ (w.heap.size + 1) 23 #[.int .i64 _, .int .i64 _, .bool _, .bool _] (0, 0) _ rfl (set4 WR.out.2.1 _ _ _ _) Tryz.underlying23 rfl (by kernel_rfl)) rfl ⟨rfl, Below.set4 WR.out.2.2.2 (by omega) _ _ _ _⟩
set_option maxHeartbeats 4000000 in
theorem re_32false_hi (lo hi : Int) (nl nh : Bool) (a b : Int) (p q : Bool) (l h : Int) (er : rd ⟨lo, hi, nl, nh⟩ = ⟨l, h⟩) (hs : ¬ l = h) (hm : -2147483648 ≤ l) (h1 : 2147483647 < h) (hr : sp (extE 32 false ⟨l, h⟩) = ⟨a, b, p, q⟩) (w : World) : Calls Tryz.prog 11 #[.int .i64 32, .bool false, .agg #[.int .i64 lo, .int .i64 hi, .bool nl, .bool nh]] w (RetS w a b p q) := by
  have b1 := Lib.hid ((Blk.new w 23 #[.int .i64 lo, .int .i64 hi, .bool nl, .bool nh]).alloc (.cells zS 23))
  have b2 := Lib.hid (new2 w (.cells #[.int .i64 lo, .int .i64 hi, .bool nl, .bool nh] 23) 23 zS)
  have H2 := Lib.hid (box2 w (.cells #[.int .i64 lo, .int .i64 hi, .bool nl, .bool nh] 23) (.cells zS 23))
  have HE := Lib.hid (fun w => refEnds_any lo hi nl nh l h er w)
  have HO := Lib.hid (fun w => single_W lo hi nl nh l h er w)
  rw [show (l == h) = false from beq_eq_false_iff_ne.2 hs] at HO
  have hok : l ≤ h := by have := (rd_ok ⟨lo, hi, nl, nh⟩).1; rw [er] at this; exact this
  have es : extE 32 false ⟨l, h⟩ = ⟨(-2147483648), 2147483647⟩ := by rw [ext_out hs (by show (decide (-2147483648 ≤ l) && decide (h ≤ 2147483647)) = false; rw [decide_eq_true hm, decide_eq_false (show ¬ h ≤ 2147483647 by omega)]; rfl)]; rfl
  rw [es] at hr
  have HL := Lib.hid (fun w => Span_any (-2147483648) 2147483647 (by unfold I64 LEAST TOP; decide) (by unfold I64 LEAST TOP; decide) a b p q hr w)
  clear hr er hs es hok
  go_enter Tryz.func11, Tryz.ntmps11
  obtain ⟨⟨c0, c1, c2, c3⟩, -, c8⟩ := cells4 b1.out
  go_wp2_with fail
  refine (HE.out _).mono ?_
  rintro e w1 ⟨rfl, hB⟩
  have hb := nx hB (below_box' w1 (.cells #[.int .i64 l, .int .i64 h] 43))
  have W1 := Lib.hid (show LoW w lo hi nl nh w1.heap.size l h (w1.alloc (.cells #[.int .i64 l, .int .i64 h] 43)) from ⟨b1.out.up hb, b2.out.up hb, Blk.new w1 _ _, nx H2.out hb⟩)
  clear hB hb c0 c1 c2 c3 c8
  obtain ⟨⟨c0, c1, c2, c3⟩, -, c8⟩ := cells4 W1.out.1
  go_wp2_with fail
  refine (HO.out _).mono ?_
  rintro e w2 ⟨rfl, hB⟩
  have W2 := Lib.hid (W1.out.up hB)
  clear hB c0 c1 c2 c3 c8
  obtain ⟨⟨c0, c1, c2, c3⟩, -, c8⟩ := cells4 W2.out.1
  obtain ⟨a0, a1, -⟩ := cells2 W2.out.2.2.1
  go_wp2_with fail
  refine (HL.out _).mono ?_
  rintro e w4 ⟨rfl, hB⟩
  have WR := Lib.hid (W2.out.up hB)
  clear hB c0 c1 c2 c3 c8 a0 a1
  obtain ⟨⟨c0, c1, c2, c3⟩, ⟨c4, c5, c6, c7⟩, c8⟩ := cells4 WR.out.2.1
  go_wp2_with fail
  exact bodyPost_ret (v := .agg #[.int .i64 _, .int .i64 _, .bool _, .bool _]) (results_cell_row Tryz.results11 _ _ (w.heap.size + 1) 23 #[.int .i64 _, .int .i64 _, .bool _, .bool _] (0, 0) _ rfl (set4 WR.out.2.1 _ _ _ _) Tryz.underlying23 rfl (by kernel_rfl)) rfl ⟨rfl, Below.set4 WR.out.2.2.2 (by omega) _ _ _ _⟩
theorem refExtend06_any (k : Int) (n : Bool) (lo hi : Int) (nl nh : Bool) (a b : Int) (p q : Bool) (hr : extS k n ⟨lo, hi, nl, nh⟩ = ⟨a, b, p, q⟩) (w : World) : Calls Tryz.prog 11 #[.int .i64 k, .bool n, .agg #[.int .i64 lo, .int .i64 hi, .bool nl, .bool nh]] w (RetS w a b p q) := by
  unfold extS at hr
  by_cases hk : k = 8 ∨ k = 16 ∨ (k = 32 ∧ n = false)
  · rw [if_pos hk] at hr
    rcases er : rd ⟨lo, hi, nl, nh⟩ with ⟨l, h⟩
    rw [er] at hr
    by_cases hs : l = h
    · have e : extE k n ⟨l, h⟩ = ⟨extI k n l, extI k n l⟩ := by unfold extE; exact if_pos hs
      rw [e] at hr
      rcases hk with rfl | rfl | ⟨rfl, rfl⟩
      · cases n
        · exact re_one_8false lo hi nl nh a b p q l h er hs hr w
        · exact re_one_8true lo hi nl nh a b p q l h er hs hr w
      · cases n
        · exact re_one_16false lo hi nl nh a b p q l h er hs hr w
        · exact re_one_16true lo hi nl nh a b p q l h er hs hr w
      · exact re_one_32false lo hi nl nh a b p q l h er hs hr w
    · rcases hk with rfl | rfl | ⟨rfl, rfl⟩
      · cases n
        · rcases (by omega : l < -128 ∨ (-128 ≤ l ∧ h ≤ 127) ∨ (-128 ≤ l ∧ 127 < h)) with h0 | ⟨hm, hM⟩ | ⟨hm, h1⟩
          · exact re_8false_lo lo hi nl nh a b p q l h er hs h0 hr w
          · exact re_8false_in lo hi nl nh a b p q l h er hs hm hM hr w
          · exact re_8false_hi lo hi nl nh a b p q l h er hs hm h1 hr w
        · rcases (by omega : l < -128 ∨ (-128 ≤ l ∧ 127 < h) ∨ (-128 ≤ l ∧ h ≤ 127 ∧ 0 ≤ l) ∨ (-128 ≤ l ∧ h ≤ 127 ∧ l < 0 ∧ h < 0) ∨ (-128 ≤ l ∧ h ≤ 127 ∧ l < 0 ∧ 0 ≤ h)) with h0 | ⟨hm, h1⟩ | ⟨hm, hM, h0⟩ | ⟨hm, hM, h0, h1⟩ | ⟨hm, hM, h0, h1⟩
          · exact re_8true_lo lo hi nl nh a b p q l h er hs h0 hr w
          · exact re_8true_hi lo hi nl nh a b p q l h er hs hm h1 hr w
          · exact re_8true_in lo hi nl nh a b p q l h er hs hm hM h0 hr w
          · exact re_8true_neg lo hi nl nh a b p q l h er hs hm hM h0 h1 hr w
          · exact re_8true_mix lo hi nl nh a b p q l h er hs hm hM h0 h1 hr w
      · cases n
        · rcases (by omega : l < -32768 ∨ (-32768 ≤ l ∧ h ≤ 32767) ∨ (-32768 ≤ l ∧ 32767 < h)) with h0 | ⟨hm, hM⟩ | ⟨hm, h1⟩
          · exact re_16false_lo lo hi nl nh a b p q l h er hs h0 hr w
          · exact re_16false_in lo hi nl nh a b p q l h er hs hm hM hr w
          · exact re_16false_hi lo hi nl nh a b p q l h er hs hm h1 hr w
        · rcases (by omega : l < -32768 ∨ (-32768 ≤ l ∧ 32767 < h) ∨ (-32768 ≤ l ∧ h ≤ 32767 ∧ 0 ≤ l) ∨ (-32768 ≤ l ∧ h ≤ 32767 ∧ l < 0 ∧ h < 0) ∨ (-32768 ≤ l ∧ h ≤ 32767 ∧ l < 0 ∧ 0 ≤ h)) with h0 | ⟨hm, h1⟩ | ⟨hm, hM, h0⟩ | ⟨hm, hM, h0, h1⟩ | ⟨hm, hM, h0, h1⟩
          · exact re_16true_lo lo hi nl nh a b p q l h er hs h0 hr w
          · exact re_16true_hi lo hi nl nh a b p q l h er hs hm h1 hr w
          · exact re_16true_in lo hi nl nh a b p q l h er hs hm hM h0 hr w
          · exact re_16true_neg lo hi nl nh a b p q l h er hs hm hM h0 h1 hr w
          · exact re_16true_mix lo hi nl nh a b p q l h er hs hm hM h0 h1 hr w
      · rcases (by omega : l < -2147483648 ∨ (-2147483648 ≤ l ∧ h ≤ 2147483647) ∨ (-2147483648 ≤ l ∧ 2147483647 < h)) with h0 | ⟨hm, hM⟩ | ⟨hm, h1⟩
        · exact re_32false_lo lo hi nl nh a b p q l h er hs h0 hr w
        · exact re_32false_in lo hi nl nh a b p q l h er hs hm hM hr w
        · exact re_32false_hi lo hi nl nh a b p q l h er hs hm h1 hr w
  · rw [if_neg hk] at hr
    obtain ⟨rfl, rfl, rfl, rfl⟩ := sp_eq (show fullS = _ from hr)
    by_cases h32 : k = 32
    · subst h32
      cases n
      · exact absurd (.inr (.inr ⟨rfl, rfl⟩)) hk
      · exact re_32t lo hi nl nh w
    · exact re_no k n lo hi nl nh (fun e => hk (.inl e)) (fun e => hk (.inr (.inl e))) h32 w
end Spc
end Go.Proofs.YtjhgjplhhhgfcaaGreat
