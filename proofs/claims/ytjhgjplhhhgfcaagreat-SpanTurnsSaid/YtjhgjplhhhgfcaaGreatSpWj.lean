/- The document's own single, Swap. (Written by gen_spturns.py.) -/
import Derived.Test.YtjhgjplhhhgfcaaGreatSpWh
import Derived.Test.YtjhgjplhhhgfcaaGreatSpE
namespace Go.Proofs.YtjhgjplhhhgfcaaGreat
open Go.ChangeShapes Go.WideShapes Go.ChangeAt Go.RowKit
open Spn
namespace Spc
set_option linter.unusedVariables false
set_option maxRecDepth 100000
theorem sp_read (s : Sp) : sp (rd s) = readX s := by
  unfold readX
  cases hs : soundB s with
  | false => rw [rd_no s hs]; rfl
  | true =>
    rw [rd_of s hs]
    obtain ⟨a, b, p, q⟩ := s
    unfold soundB endB at hs
    simp only [Bool.and_eq_true] at hs
    obtain ⟨⟨h1, h2⟩, -⟩ := hs
    show sp ⟨if p then LEAST else a, if q then TOP else b⟩ = ⟨a, b, p, q⟩
    unfold sp
    dsimp only
    have e1 : (if (if p then LEAST else a) < -MX then (0 : Int) else min (if p then LEAST else a) MX) = a ∧ decide ((if p then LEAST else a) < -MX) = p := by
      cases p
      · rw [if_neg Bool.false_ne_true] at h1 ⊢
        simp only [Bool.and_eq_true, decide_eq_true_eq] at h1
        rw [if_neg (by omega), decide_eq_false (by omega)]
        exact ⟨by omega, rfl⟩
      · rw [if_pos rfl] at h1 ⊢
        rw [if_pos (by decide)]
        exact ⟨(eq_of_beq h1).symm, by decide⟩
    have e2 : (if (if q then TOP else b) > MX then (0 : Int) else max (if q then TOP else b) (-MX)) = b ∧ decide ((if q then TOP else b) > MX) = q := by
      cases q
      · rw [if_neg Bool.false_ne_true] at h2 ⊢
        simp only [Bool.and_eq_true, decide_eq_true_eq] at h2
        rw [if_neg (by omega), decide_eq_false (by omega)]
        exact ⟨by omega, rfl⟩
      · rw [if_pos rfl] at h2 ⊢
        rw [if_pos (by decide)]
        exact ⟨(eq_of_beq h2).symm, by decide⟩
    rw [e1.1, e1.2, e2.1, e2.2]
theorem read_sound (s : Sp) : soundB (readX s) = true := by
  unfold readX
  cases h : soundB s with
  | true => exact h
  | false => rfl
theorem single_rd {s : Sp} {a b : Int} {p q : Bool} (hr : readX s = ⟨a, b, p, q⟩) {l h : Int} (e : rd s = ⟨l, h⟩) : (!p && !q && (a == b)) = (l == h) := by
  have hs := read_sound s
  rw [← rd_read, hr] at e
  rw [hr] at hs
  obtain ⟨e1, e2⟩ := e_eq (show (⟨if p then LEAST else a, if q then TOP else b⟩ : E) = _ from e)
  unfold soundB endB at hs
  simp only [Bool.and_eq_true] at hs
  obtain ⟨⟨h1, h2⟩, -⟩ := hs
  subst e1 e2
  cases p <;> cases q
  · rfl
  · rw [if_neg Bool.false_ne_true] at h1 ⊢
    simp only [Bool.and_eq_true, decide_eq_true_eq] at h1
    rw [if_pos rfl]
    exact (beq_eq_false_iff_ne.2 (by unfold TOP MX at *; omega)).symm
  · rw [if_neg Bool.false_ne_true] at h2 ⊢
    simp only [Bool.and_eq_true, decide_eq_true_eq] at h2
    rw [if_pos rfl]
    exact (beq_eq_false_iff_ne.2 (by unfold LEAST MX at *; omega)).symm
  · rfl
set_option maxHeartbeats 2000000 in
theorem single_at (lo hi : Int) (nl nh : Bool) (a b : Int) (p q : Bool) (hr : readX ⟨lo, hi, nl, nh⟩ = ⟨a, b, p, q⟩) (w : World) : Calls Tryz.prog 28 #[.agg #[.int .i64 lo, .int .i64 hi, .bool nl, .bool nh]] w (RetB w (!p && !q && (a == b))) := by
  have b1 := Lib.hid (Blk.new w 23 #[.int .i64 lo, .int .i64 hi, .bool nl, .bool nh])
  have H2 := Lib.hid (below_box' w (.cells #[.int .i64 lo, .int .i64 hi, .bool nl, .bool nh] 23))
  have HR := Lib.hid (fun w => refRead_any lo hi nl nh a b p q hr w)
  clear hr
  cases hz : (a == b) <;> cases p <;> cases q
  all_goals
    go_enter Tryz.func28, Tryz.ntmps28
    obtain ⟨⟨c0, c1, c2, c3⟩, ⟨c4, c5, c6, c7⟩, c8⟩ := cells4 b1.out
    go_wp2_with fail
    refine (HR.out _).mono ?_
    rintro e w1 ⟨rfl, hB⟩
    have X1 := Lib.hid (b1.out.up hB)
    have B1 := Lib.hid (nx H2.out hB)
    clear hB c0 c1 c2 c3 c4 c5 c6 c7 c8
    obtain ⟨⟨c0, c1, c2, c3⟩, ⟨c4, c5, c6, c7⟩, c8⟩ := cells4 X1.out
    go_wp2_with fail
    go_ret
    exact ⟨rfl, Below.set4 B1.out (by omega) _ _ _ _⟩
theorem single_W (lo hi : Int) (nl nh : Bool) (l h : Int) (er : rd ⟨lo, hi, nl, nh⟩ = ⟨l, h⟩) (w : World) : Calls Tryz.prog 28 #[.agg #[.int .i64 lo, .int .i64 hi, .bool nl, .bool nh]] w (RetB w (l == h)) := by
  rcases e : readX ⟨lo, hi, nl, nh⟩ with ⟨a, b, p, q⟩
  have k := single_at lo hi nl nh a b p q e w
  rwa [single_rd e er] at k
set_option maxHeartbeats 2000000 in
theorem rs_no (k : Int) (t : Bool) (lo hi : Int) (nl nh : Bool) (h16 : k ≠ 16) (h32 : k ≠ 32) (h64 : k ≠ 64) (w : World) : Calls Tryz.prog 9 #[.int .i64 k, .bool t, .agg #[.int .i64 lo, .int .i64 hi, .bool nl, .bool nh]] w (RetS w 0 0 true true) := by
  have b1 := Lib.hid ((Blk.new w 23 #[.int .i64 lo, .int .i64 hi, .bool nl, .bool nh]).alloc (.cells zS 23))
  have b2 := Lib.hid (new2 w (.cells #[.int .i64 lo, .int .i64 hi, .bool nl, .bool nh] 23) 23 zS)
  have H2 := Lib.hid (box2 w (.cells #[.int .i64 lo, .int .i64 hi, .bool nl, .bool nh] 23) (.cells zS 23))
  have t1 : (k != 16) = true := by simpa using h16
  have t2 : (k != 32) = true := by simpa using h32
  have t3 : (k != 64) = true := by simpa using h64
  clear h16 h32 h64
  have HF := Lib.hid (fun w => refFull_any w)
  go_enter Tryz.func9, Tryz.ntmps9
  go_wp2_with fail
  refine (HF.out _).mono ?_
  rintro e w1 ⟨rfl, hB⟩
  have X1 := Lib.hid (b2.out.up hB)
  have B1 := Lib.hid (nx H2.out hB)
  clear hB
  obtain ⟨⟨c0, c1, c2, c3⟩, ⟨c4, c5, c6, c7⟩, c8⟩ := cells4 X1.out
  go_wp2_with fail
  exact bodyPost_ret (v := .agg #[.int .i64 _, .int .i64 _, .bool _, .bool _]) (results_cell_row Tryz.results9 _ _ (w.heap.size + 1) 23 #[.int .i64 _, .int .i64 _, .bool _, .bool _] (0, 0) _ rfl (set4 X1.out _ _ _ _) Tryz.underlying23 rfl (by kernel_rfl)) rfl ⟨rfl, Below.set4 B1.out (by omega) _ _ _ _⟩
theorem swapI_i (k : Int) (t : Bool) (v : Int) : I64 (swapI k t v) := by
  unfold swapI
  split
  · unfold swapV; exact w64_in _
  · unfold I64 LEAST TOP; omega
set_option maxHeartbeats 4000000 in
theorem rs_one (k : Int) (t : Bool) (hk : k = 16 ∨ k = 32 ∨ k = 64) (lo hi : Int) (nl nh : Bool) (a b : Int) (p q : Bool) (l h : Int) (er : rd ⟨lo, hi, nl, nh⟩ = ⟨l, h⟩) (hs : l = h) (hr : sp ⟨swapI k t l, swapI k t l⟩ = ⟨a, b, p, q⟩) (w : World) : Calls Tryz.prog 9 #[.int .i64 k, .bool t, .agg #[.int .i64 lo, .int .i64 hi, .bool nl, .bool nh]] w (RetS w a b p q) := by
  have b1 := Lib.hid ((Blk.new w 23 #[.int .i64 lo, .int .i64 hi, .bool nl, .bool nh]).alloc (.cells zS 23))
  have b2 := Lib.hid (new2 w (.cells #[.int .i64 lo, .int .i64 hi, .bool nl, .bool nh] 23) 23 zS)
  have H2 := Lib.hid (box2 w (.cells #[.int .i64 lo, .int .i64 hi, .bool nl, .bool nh] 23) (.cells zS 23))
  have HE := Lib.hid (fun w => refEnds_any lo hi nl nh l h er w)
  have HO := Lib.hid (fun w => single_W lo hi nl nh l h er w)
  rw [show (l == h) = true from by rw [hs]; exact beq_self_eq_true _] at HO
  have HQ := Lib.hid (fun w => refSwap_any k t l w)
  have HL := Lib.hid (fun w => Span_any (swapI k t l) (swapI k t l) (swapI_i k t l) (swapI_i k t l) a b p q hr w)
  generalize swapI k t l = z at *
  clear hr er hs
  rcases hk with rfl | rfl | rfl
  all_goals
    go_enter Tryz.func9, Tryz.ntmps9
    obtain ⟨⟨c0, c1, c2, c3⟩, -, c8⟩ := cells4 b1.out
    go_wp2_with fail
    refine (HE.out _).mono ?_
    rintro e w1 ⟨rfl, hB⟩
    have hb := nx hB (below_box' w1 (.cells #[.int .i64 l, .int .i64 h] 43))
    have W1 := Lib.hid (show LoW w lo hi nl nh w1.heap.size l h (w1.alloc (.cells #[.int .i64 l, .int .i64 h] 43)) from ⟨b1.out.up hb, b2.out.up hb, Blk.new w1 _ _, nx H2.out hb⟩)
    clear hB hb c0 c1 c2 c3 c8
    obtain ⟨⟨c0, c1, c2, c3⟩, -, c8⟩ := cells4 W1.out.1
    go_wp2_with fail
    refine (HO.out _).mono ?_
    rintro e w2 ⟨rfl, hB⟩
    have W2 := Lib.hid (W1.out.up hB)
    clear hB c0 c1 c2 c3 c8
    obtain ⟨⟨c0, c1, c2, c3⟩, -, c8⟩ := cells4 W2.out.1
    obtain ⟨a0, a1, -⟩ := cells2 W2.out.2.2.1
    go_wp2_with fail
    refine (HQ.out _).mono ?_
    rintro e w3 ⟨rfl, hB⟩
    have W3 := Lib.hid (W2.out.up hB)
    clear hB
    go_wp2_with fail
    refine (HL.out _).mono ?_
    rintro e w4 ⟨rfl, hB⟩
    have WR := Lib.hid (W3.out.up hB)
    clear hB c0 c1 c2 c3 c8 a0 a1
    obtain ⟨⟨c0, c1, c2, c3⟩, ⟨c4, c5, c6, c7⟩, c8⟩ := cells4 WR.out.2.1
    go_wp2_with fail
    exact bodyPost_ret (v := .agg #[.int .i64 _, .int .i64 _, .bool _, .bool _]) (results_cell_row Tryz.results9 _ _ (w.heap.size + 1) 23 #[.int .i64 _, .int .i64 _, .bool _, .bool _] (0, 0) _ rfl (set4 WR.out.2.1 _ _ _ _) Tryz.underlying23 rfl (by kernel_rfl)) rfl ⟨rfl, Below.set4 WR.out.2.2.2 (by omega) _ _ _ _⟩
set_option maxHeartbeats 4000000 in
theorem rs_64t (lo hi : Int) (nl nh : Bool) (a b : Int) (p q : Bool) (l h : Int) (er : rd ⟨lo, hi, nl, nh⟩ = ⟨l, h⟩) (hs : ¬ l = h) (hr : sp (swapE 64 true ⟨l, h⟩) = ⟨a, b, p, q⟩) (w : World) : Calls Tryz.prog 9 #[.int .i64 64, .bool true, .agg #[.int .i64 lo, .int .i64 hi, .bool nl, .bool nh]] w (RetS w a b p q) := by
  have b1 := Lib.hid ((Blk.new w 23 #[.int .i64 lo, .int .i64 hi, .bool nl, .bool nh]).alloc (.cells zS 23))
  have b2 := Lib.hid (new2 w (.cells #[.int .i64 lo, .int .i64 hi, .bool nl, .bool nh] 23) 23 zS)
  have H2 := Lib.hid (box2 w (.cells #[.int .i64 lo, .int .i64 hi, .bool nl, .bool nh] 23) (.cells zS 23))
  have HE := Lib.hid (fun w => refEnds_any lo hi nl nh l h er w)
  have HO := Lib.hid (fun w => single_W lo hi nl nh l h er w)
  rw [show (l == h) = false from beq_eq_false_iff_ne.2 hs] at HO
  have es : swapE 64 true ⟨l, h⟩ = ⟨LEAST, TOP⟩ := by unfold swapE; rw [if_neg hs]; rfl
  rw [es] at hr
  obtain ⟨rfl, rfl, rfl, rfl⟩ := sp_eq (show fullS = _ from hr)
  have HL := Lib.hid (fun w => refFull_any w)
  clear hr er hs es
  go_enter Tryz.func9, Tryz.ntmps9
  obtain ⟨⟨c0, c1, c2, c3⟩, -, c8⟩ := cells4 b1.out
  go_wp2_with fail
  refine (HE.out _).mono ?_
  rintro e w1 ⟨rfl, hB⟩
  have hb := nx hB (below_box' w1 (.cells #[.int .i64 l, .int .i64 h] 43))
  have W1 := Lib.hid (show LoW w lo hi nl nh w1.heap.size l h (w1.alloc (.cells #[.int .i64 l, .int .i64 h] 43)) from ⟨b1.out.up hb, b2.out.up hb, Blk.new w1 _ _, nx H2.out hb⟩)
  clear hB hb c0 c1 c2 c3 c8
  obtain ⟨⟨c0, c1, c2, c3⟩, -, c8⟩ := cells4 W1.out.1
  go_wp2_with fail
  refine (HO.out _).mono ?_
  rintro e w2 ⟨rfl, hB⟩
  have W2 := Lib.hid (W1.out.up hB)
  clear hB c0 c1 c2 c3 c8
  obtain ⟨⟨c0, c1, c2, c3⟩, -, c8⟩ := cells4 W2.out.1
  obtain ⟨a0, a1, -⟩ := cells2 W2.out.2.2.1
  go_wp2_with fail
  refine (HL.out _).mono ?_
  rintro e w4 ⟨rfl, hB⟩
  have WR := Lib.hid (W2.out.up hB)
  clear hB c0 c1 c2 c3 c8 a0 a1
  obtain ⟨⟨c0, c1, c2, c3⟩, ⟨c4, c5, c6, c7⟩, c8⟩ := cells4 WR.out.2.1
  go_wp2_with fail
  exact bodyPost_ret (v := .agg #[.int .i64 _, .int .i64 _, .bool _, .bool _]) (results_cell_row Tryz.results9 _ _ (w.heap.size + 1) 23 #[.int .i64 _, .int .i64 _, .bool _, .bool _] (0, 0) _ rfl (set4 WR.out.2.1 _ _ _ _) Tryz.underlying23 rfl (by kernel_rfl)) rfl ⟨rfl, Below.set4 WR.out.2.2.2 (by omega) _ _ _ _⟩
set_option maxHeartbeats 4000000 in
theorem rs_64f (lo hi : Int) (nl nh : Bool) (a b : Int) (p q : Bool) (l h : Int) (er : rd ⟨lo, hi, nl, nh⟩ = ⟨l, h⟩) (hs : ¬ l = h) (hr : sp (swapE 64 false ⟨l, h⟩) = ⟨a, b, p, q⟩) (w : World) : Calls Tryz.prog 9 #[.int .i64 64, .bool false, .agg #[.int .i64 lo, .int .i64 hi, .bool nl, .bool nh]] w (RetS w a b p q) := by
  have b1 := Lib.hid ((Blk.new w 23 #[.int .i64 lo, .int .i64 hi, .bool nl, .bool nh]).alloc (.cells zS 23))
  have b2 := Lib.hid (new2 w (.cells #[.int .i64 lo, .int .i64 hi, .bool nl, .bool nh] 23) 23 zS)
  have H2 := Lib.hid (box2 w (.cells #[.int .i64 lo, .int .i64 hi, .bool nl, .bool nh] 23) (.cells zS 23))
  have HE := Lib.hid (fun w => refEnds_any lo hi nl nh l h er w)
  have HO := Lib.hid (fun w => single_W lo hi nl nh l h er w)
  rw [show (l == h) = false from beq_eq_false_iff_ne.2 hs] at HO
  have es : swapE 64 false ⟨l, h⟩ = ⟨l, h⟩ := by unfold swapE; rw [if_neg hs]; rfl
  rw [es] at hr
  have HL := Lib.hid (fun w => refRead_any lo hi nl nh a b p q (by rw [← sp_read, er]; exact hr) w)
  clear hr er hs es
  go_enter Tryz.func9, Tryz.ntmps9
  obtain ⟨⟨c0, c1, c2, c3⟩, -, c8⟩ := cells4 b1.out
  go_wp2_with fail
  refine (HE.out _).mono ?_
  rintro e w1 ⟨rfl, hB⟩
  have hb := nx hB (below_box' w1 (.cells #[.int .i64 l, .int .i64 h] 43))
  have W1 := Lib.hid (show LoW w lo hi nl nh w1.heap.size l h (w1.alloc (.cells #[.int .i64 l, .int .i64 h] 43)) from ⟨b1.out.up hb, b2.out.up hb, Blk.new w1 _ _, nx H2.out hb⟩)
  clear hB hb c0 c1 c2 c3 c8
  obtain ⟨⟨c0, c1, c2, c3⟩, -, c8⟩ := cells4 W1.out.1
  go_wp2_with fail
  refine (HO.out _).mono ?_
  rintro e w2 ⟨rfl, hB⟩
  have W2 := Lib.hid (W1.out.up hB)
  clear hB c0 c1 c2 c3 c8
  obtain ⟨⟨c0, c1, c2, c3⟩, -, c8⟩ := cells4 W2.out.1
  obtain ⟨a0, a1, -⟩ := cells2 W2.out.2.2.1
  go_wp2_with fail
  refine (HL.out _).mono ?_
  rintro e w4 ⟨rfl, hB⟩
  have WR := Lib.hid (W2.out.up hB)
  clear hB c0 c1 c2 c3 c8 a0 a1
  obtain ⟨⟨c0, c1, c2, c3⟩, ⟨c4, c5, c6, c7⟩, c8⟩ := cells4 WR.out.2.1
  go_wp2_with fail
  exact bodyPost_ret (v := .agg #[.int .i64 _, .int .i64 _, .bool _, .bool _]) (results_cell_row Tryz.results9 _ _ (w.heap.size + 1) 23 #[.int .i64 _, .int .i64 _, .bool _, .bool _] (0, 0) _ rfl (set4 WR.out.2.1 _ _ _ _) Tryz.underlying23 rfl (by kernel_rfl)) rfl ⟨rfl, Below.set4 WR.out.2.2.2 (by omega) _ _ _ _⟩
set_option maxHeartbeats 4000000 in
theorem rs_32f (lo hi : Int) (nl nh : Bool) (a b : Int) (p q : Bool) (l h : Int) (er : rd ⟨lo, hi, nl, nh⟩ = ⟨l, h⟩) (hs : ¬ l = h) (hr : sp (swapE 32 false ⟨l, h⟩) = ⟨a, b, p, q⟩) (w : World) : Calls Tryz.prog 9 #[.int .i64 32, .bool false, .agg #[.int .i64 lo, .int .i64 hi, .bool nl, .bool nh]] w (RetS w a b p q) := by
  have b1 := Lib.hid ((Blk.new w 23 #[.int .i64 lo, .int .i64 hi, .bool nl, .bool nh]).alloc (.cells zS 23))
  have b2 := Lib.hid (new2 w (.cells #[.int .i64 lo, .int .i64 hi, .bool nl, .bool nh] 23) 23 zS)
  have H2 := Lib.hid (box2 w (.cells #[.int .i64 lo, .int .i64 hi, .bool nl, .bool nh] 23) (.cells zS 23))
  have HE := Lib.hid (fun w => refEnds_any lo hi nl nh l h er w)
  have HO := Lib.hid (fun w => single_W lo hi nl nh l h er w)
  rw [show (l == h) = false from beq_eq_false_iff_ne.2 hs] at HO
  have es : swapE 32 false ⟨l, h⟩ = lowE ⟨l, h⟩ := by unfold swapE; rw [if_neg hs]; rfl
  rw [es] at hr
  have HL := Lib.hid (fun w => refLow_any lo hi nl nh a b p q (by rw [er]; exact hr) w)
  clear hr er hs es
  go_enter Tryz.func9, Tryz.ntmps9
  obtain ⟨⟨c0, c1, c2, c3⟩, -, c8⟩ := cells4 b1.out
  go_wp2_with fail
  refine (HE.out _).mono ?_
  rintro e w1 ⟨rfl, hB⟩
  have hb := nx hB (below_box' w1 (.cells #[.int .i64 l, .int .i64 h] 43))
  have W1 := Lib.hid (show LoW w lo hi nl nh w1.heap.size l h (w1.alloc (.cells #[.int .i64 l, .int .i64 h] 43)) from ⟨b1.out.up hb, b2.out.up hb, Blk.new w1 _ _, nx H2.out hb⟩)
  clear hB hb c0 c1 c2 c3 c8
  obtain ⟨⟨c0, c1, c2, c3⟩, -, c8⟩ := cells4 W1.out.1
  go_wp2_with fail
  refine (HO.out _).mono ?_
  rintro e w2 ⟨rfl, hB⟩
  have W2 := Lib.hid (W1.out.up hB)
  clear hB c0 c1 c2 c3 c8
  obtain ⟨⟨c0, c1, c2, c3⟩, -, c8⟩ := cells4 W2.out.1
  obtain ⟨a0, a1, -⟩ := cells2 W2.out.2.2.1
  go_wp2_with fail
  refine (HL.out _).mono ?_
  rintro e w4 ⟨rfl, hB⟩
  have WR := Lib.hid (W2.out.up hB)
  clear hB c0 c1 c2 c3 c8 a0 a1
  obtain ⟨⟨c0, c1, c2, c3⟩, ⟨c4, c5, c6, c7⟩, c8⟩ := cells4 WR.out.2.1
  go_wp2_with fail
  exact bodyPost_ret (v := .agg #[.int .i64 _, .int .i64 _, .bool _, .bool _]) (results_cell_row Tryz.results9 _ _ (w.heap.size + 1) 23 #[.int .i64 _, .int .i64 _, .bool _, .bool _] (0, 0) _ rfl (set4 WR.out.2.1 _ _ _ _) Tryz.underlying23 rfl (by kernel_rfl)) rfl ⟨rfl, Below.set4 WR.out.2.2.2 (by omega) _ _ _ _⟩
set_option maxHeartbeats 4000000 in
theorem rs_32t (lo hi : Int) (nl nh : Bool) (a b : Int) (p q : Bool) (l h : Int) (er : rd ⟨lo, hi, nl, nh⟩ = ⟨l, h⟩) (hs : ¬ l = h) (hr : sp (swapE 32 true ⟨l, h⟩) = ⟨a, b, p, q⟩) (w : World) : Calls Tryz.prog 9 #[.int .i64 32, .bool true, .agg #[.int .i64 lo, .int .i64 hi, .bool nl, .bool nh]] w (RetS w a b p q) := by
  have b1 := Lib.hid ((Blk.new w 23 #[.int .i64 lo, .int .i64 hi, .bool nl, .bool nh]).alloc (.cells zS 23))
  have b2 := Lib.hid (new2 w (.cells #[.int .i64 lo, .int .i64 hi, .bool nl, .bool nh] 23) 23 zS)
  have H2 := Lib.hid (box2 w (.cells #[.int .i64 lo, .int .i64 hi, .bool nl, .bool nh] 23) (.cells zS 23))
  have HE := Lib.hid (fun w => refEnds_any lo hi nl nh l h er w)
  have HO := Lib.hid (fun w => single_W lo hi nl nh l h er w)
  rw [show (l == h) = false from beq_eq_false_iff_ne.2 hs] at HO
  have es : swapE 32 true ⟨l, h⟩ = ⟨0, 4294967295⟩ := by unfold swapE; rw [if_neg hs]; rfl
  rw [es] at hr
  have HL := Lib.hid (fun w => Span_any 0 4294967295 (by unfold I64 LEAST TOP; decide) (by unfold I64 LEAST TOP; decide) a b p q hr w)
  clear hr er hs es
  go_enter Tryz.func9, Tryz.ntmps9
  obtain ⟨⟨c0, c1, c2, c3⟩, -, c8⟩ := cells4 b1.out
  go_wp2_with fail
  refine (HE.out _).mono ?_
  rintro e w1 ⟨rfl, hB⟩
  have hb := nx hB (below_box' w1 (.cells #[.int .i64 l, .int .i64 h] 43))
  have W1 := Lib.hid (show LoW w lo hi nl nh w1.heap.size l h (w1.alloc (.cells #[.int .i64 l, .int .i64 h] 43)) from ⟨b1.out.up hb, b2.out.up hb, Blk.new w1 _ _, nx H2.out hb⟩)
  clear hB hb c0 c1 c2 c3 c8
  obtain ⟨⟨c0, c1, c2, c3⟩, -, c8⟩ := cells4 W1.out.1
  go_wp2_with fail
  refine (HO.out _).mono ?_
  rintro e w2 ⟨rfl, hB⟩
  have W2 := Lib.hid (W1.out.up hB)
  clear hB c0 c1 c2 c3 c8
  obtain ⟨⟨c0, c1, c2, c3⟩, -, c8⟩ := cells4 W2.out.1
  obtain ⟨a0, a1, -⟩ := cells2 W2.out.2.2.1
  go_wp2_with fail
  refine (HL.out _).mono ?_
  rintro e w4 ⟨rfl, hB⟩
  have WR := Lib.hid (W2.out.up hB)
  clear hB c0 c1 c2 c3 c8 a0 a1
  obtain ⟨⟨c0, c1, c2, c3⟩, ⟨c4, c5, c6, c7⟩, c8⟩ := cells4 WR.out.2.1
  go_wp2_with fail
  exact bodyPost_ret (v := .agg #[.int .i64 _, .int .i64 _, .bool _, .bool _]) (results_cell_row Tryz.results9 _ _ (w.heap.size + 1) 23 #[.int .i64 _, .int .i64 _, .bool _, .bool _] (0, 0) _ rfl (set4 WR.out.2.1 _ _ _ _) Tryz.underlying23 rfl (by kernel_rfl)) rfl ⟨rfl, Below.set4 WR.out.2.2.2 (by omega) _ _ _ _⟩
set_option maxHeartbeats 4000000 in
theorem rs_16t (lo hi : Int) (nl nh : Bool) (a b : Int) (p q : Bool) (l h : Int) (er : rd ⟨lo, hi, nl, nh⟩ = ⟨l, h⟩) (hs : ¬ l = h) (hr : sp (swapE 16 true ⟨l, h⟩) = ⟨a, b, p, q⟩) (w : World) : Calls Tryz.prog 9 #[.int .i64 16, .bool true, .agg #[.int .i64 lo, .int .i64 hi, .bool nl, .bool nh]] w (RetS w a b p q) := by
  have b1 := Lib.hid ((Blk.new w 23 #[.int .i64 lo, .int .i64 hi, .bool nl, .bool nh]).alloc (.cells zS 23))
  have b2 := Lib.hid (new2 w (.cells #[.int .i64 lo, .int .i64 hi, .bool nl, .bool nh] 23) 23 zS)
  have H2 := Lib.hid (box2 w (.cells #[.int .i64 lo, .int .i64 hi, .bool nl, .bool nh] 23) (.cells zS 23))
  have HE := Lib.hid (fun w => refEnds_any lo hi nl nh l h er w)
  have HO := Lib.hid (fun w => single_W lo hi nl nh l h er w)
  rw [show (l == h) = false from beq_eq_false_iff_ne.2 hs] at HO
  have es : swapE 16 true ⟨l, h⟩ = ⟨0, 65535⟩ := by unfold swapE; rw [if_neg hs]; rfl
  rw [es] at hr
  have HL := Lib.hid (fun w => Span_any 0 65535 (by unfold I64 LEAST TOP; decide) (by unfold I64 LEAST TOP; decide) a b p q hr w)
  clear hr er hs es
  go_enter Tryz.func9, Tryz.ntmps9
  obtain ⟨⟨c0, c1, c2, c3⟩, -, c8⟩ := cells4 b1.out
  go_wp2_with fail
  refine (HE.out _).mono ?_
  rintro e w1 ⟨rfl, hB⟩
  have hb := nx hB (below_box' w1 (.cells #[.int .i64 l, .int .i64 h] 43))
  have W1 := Lib.hid (show LoW w lo hi nl nh w1.heap.size l h (w1.alloc (.cells #[.int .i64 l, .int .i64 h] 43)) from ⟨b1.out.up hb, b2.out.up hb, Blk.new w1 _ _, nx H2.out hb⟩)
  clear hB hb c0 c1 c2 c3 c8
  obtain ⟨⟨c0, c1, c2, c3⟩, -, c8⟩ := cells4 W1.out.1
  go_wp2_with fail
  refine (HO.out _).mono ?_
  rintro e w2 ⟨rfl, hB⟩
  have W2 := Lib.hid (W1.out.up hB)
  clear hB c0 c1 c2 c3 c8
  obtain ⟨⟨c0, c1, c2, c3⟩, -, c8⟩ := cells4 W2.out.1
  obtain ⟨a0, a1, -⟩ := cells2 W2.out.2.2.1
  go_wp2_with fail
  refine (HL.out _).mono ?_
  rintro e w4 ⟨rfl, hB⟩
  have WR := Lib.hid (W2.out.up hB)
  clear hB c0 c1 c2 c3 c8 a0 a1
  obtain ⟨⟨c0, c1, c2, c3⟩, ⟨c4, c5, c6, c7⟩, c8⟩ := cells4 WR.out.2.1
  go_wp2_with fail
  exact bodyPost_ret (v := .agg #[.int .i64 _, .int .i64 _, .bool _, .bool _]) (results_cell_row Tryz.results9 _ _ (w.heap.size + 1) 23 #[.int .i64 _, .int .i64 _, .bool _, .bool _] (0, 0) _ rfl (set4 WR.out.2.1 _ _ _ _) Tryz.underlying23 rfl (by kernel_rfl)) rfl ⟨rfl, Below.set4 WR.out.2.2.2 (by omega) _ _ _ _⟩
set_option maxHeartbeats 4000000 in
theorem rs_16i (lo hi : Int) (nl nh : Bool) (a b : Int) (p q : Bool) (l h : Int) (er : rd ⟨lo, hi, nl, nh⟩ = ⟨l, h⟩) (hs : ¬ l = h) (h0 : 0 ≤ l) (h1 : h ≤ 65535) (hr : sp (swapE 16 false ⟨l, h⟩) = ⟨a, b, p, q⟩) (w : World) : Calls Tryz.prog 9 #[.int .i64 16, .bool false, .agg #[.int .i64 lo, .int .i64 hi, .bool nl, .bool nh]] w (RetS w a b p q) := by
  have b1 := Lib.hid ((Blk.new w 23 #[.int .i64 lo, .int .i64 hi, .bool nl, .bool nh]).alloc (.cells zS 23))
  have b2 := Lib.hid (new2 w (.cells #[.int .i64 lo, .int .i64 hi, .bool nl, .bool nh] 23) 23 zS)
  have H2 := Lib.hid (box2 w (.cells #[.int .i64 lo, .int .i64 hi, .bool nl, .bool nh] 23) (.cells zS 23))
  have HE := Lib.hid (fun w => refEnds_any lo hi nl nh l h er w)
  have HO := Lib.hid (fun w => single_W lo hi nl nh l h er w)
  rw [show (l == h) = false from beq_eq_false_iff_ne.2 hs] at HO
  have es : swapE 16 false ⟨l, h⟩ = ⟨l, h⟩ := by unfold swapE; rw [if_neg hs]; show r16 l h = _; unfold r16 withinB; dsimp only; rw [decide_eq_true h0, decide_eq_true h1]; rfl
  rw [es] at hr
  have HL := Lib.hid (fun w => refRead_any lo hi nl nh a b p q (by rw [← sp_read, er]; exact hr) w)
  clear hr er hs es
  go_enter Tryz.func9, Tryz.ntmps9
  obtain ⟨⟨c0, c1, c2, c3⟩, -, c8⟩ := cells4 b1.out
  go_wp2_with fail
  refine (HE.out _).mono ?_
  rintro e w1 ⟨rfl, hB⟩
  have hb := nx hB (below_box' w1 (.cells #[.int .i64 l, .int .i64 h] 43))
  have W1 := Lib.hid (show LoW w lo hi nl nh w1.heap.size l h (w1.alloc (.cells #[.int .i64 l, .int .i64 h] 43)) from ⟨b1.out.up hb, b2.out.up hb, Blk.new w1 _ _, nx H2.out hb⟩)
  clear hB hb c0 c1 c2 c3 c8
  obtain ⟨⟨c0, c1, c2, c3⟩, -, c8⟩ := cells4 W1.out.1
  go_wp2_with fail
  refine (HO.out _).mono ?_
  rintro e w2 ⟨rfl, hB⟩
  have W2 := Lib.hid (W1.out.up hB)
  clear hB c0 c1 c2 c3 c8
  obtain ⟨⟨c0, c1, c2, c3⟩, -, c8⟩ := cells4 W2.out.1
  obtain ⟨a0, a1, -⟩ := cells2 W2.out.2.2.1
  go_wp2_with fail
  refine (HL.out _).mono ?_
  rintro e w4 ⟨rfl, hB⟩
  have WR := Lib.hid (W2.out.up hB)
  clear hB c0 c1 c2 c3 c8 a0 a1
  obtain ⟨⟨c0, c1, c2, c3⟩, ⟨c4, c5, c6, c7⟩, c8⟩ := cells4 WR.out.2.1
  go_wp2_with fail
  exact bodyPost_ret (v := .agg #[.int .i64 _, .int .i64 _, .bool _, .bool _]) (results_cell_row Tryz.results9 _ _ (w.heap.size + 1) 23 #[.int .i64 _, .int .i64 _, .bool _, .bool _] (0, 0) _ rfl (set4 WR.out.2.1 _ _ _ _) Tryz.underlying23 rfl (by kernel_rfl)) rfl ⟨rfl, Below.set4 WR.out.2.2.2 (by omega) _ _ _ _⟩
set_option maxHeartbeats 4000000 in
theorem rs_16n (lo hi : Int) (nl nh : Bool) (a b : Int) (p q : Bool) (l h : Int) (er : rd ⟨lo, hi, nl, nh⟩ = ⟨l, h⟩) (hs : ¬ l = h) (h0 : l < 0) (hr : sp (swapE 16 false ⟨l, h⟩) = ⟨a, b, p, q⟩) (w : World) : Calls Tryz.prog 9 #[.int .i64 16, .bool false, .agg #[.int .i64 lo, .int .i64 hi, .bool nl, .bool nh]] w (RetS w a b p q) := by
  have b1 := Lib.hid ((Blk.new w 23 #[.int .i64 lo, .int .i64 hi, .bool nl, .bool nh]).alloc (.cells zS 23))
  have b2 := Lib.hid (new2 w (.cells #[.int .i64 lo, .int .i64 hi, .bool nl, .bool nh] 23) 23 zS)
  have H2 := Lib.hid (box2 w (.cells #[.int .i64 lo, .int .i64 hi, .bool nl, .bool nh] 23) (.cells zS 23))
  have HE := Lib.hid (fun w => refEnds_any lo hi nl nh l h er w)
  have HO := Lib.hid (fun w => single_W lo hi nl nh l h er w)
  rw [show (l == h) = false from beq_eq_false_iff_ne.2 hs] at HO
  have es : swapE 16 false ⟨l, h⟩ = ⟨0, 65535⟩ := by unfold swapE; rw [if_neg hs]; show r16 l h = _; unfold r16 withinB; dsimp only; rw [decide_eq_false (show ¬ 0 ≤ l by omega)]; rfl
  rw [es] at hr
  have HL := Lib.hid (fun w => Span_any 0 65535 (by unfold I64 LEAST TOP; decide) (by unfold I64 LEAST TOP; decide) a b p q hr w)
  clear hr er hs es
  go_enter Tryz.func9, Tryz.ntmps9
  obtain ⟨⟨c0, c1, c2, c3⟩, -, c8⟩ := cells4 b1.out
  go_wp2_with fail
  refine (HE.out _).mono ?_
  rintro e w1 ⟨rfl, hB⟩
  have hb := nx hB (below_box' w1 (.cells #[.int .i64 l, .int .i64 h] 43))
  have W1 := Lib.hid (show LoW w lo hi nl nh w1.heap.size l h (w1.alloc (.cells #[.int .i64 l, .int .i64 h] 43)) from ⟨b1.out.up hb, b2.out.up hb, Blk.new w1 _ _, nx H2.out hb⟩)
  clear hB hb c0 c1 c2 c3 c8
  obtain ⟨⟨c0, c1, c2, c3⟩, -, c8⟩ := cells4 W1.out.1
  go_wp2_with fail
  refine (HO.out _).mono ?_
  rintro e w2 ⟨rfl, hB⟩
  have W2 := Lib.hid (W1.out.up hB)
  clear hB c0 c1 c2 c3 c8
  obtain ⟨⟨c0, c1, c2, c3⟩, -, c8⟩ := cells4 W2.out.1
  obtain ⟨a0, a1, -⟩ := cells2 W2.out.2.2.1
  go_wp2_with fail
  refine (HL.out _).mono ?_
  rintro e w4 ⟨rfl, hB⟩
  have WR := Lib.hid (W2.out.up hB)
  clear hB c0 c1 c2 c3 c8 a0 a1
  obtain ⟨⟨c0, c1, c2, c3⟩, ⟨c4, c5, c6, c7⟩, c8⟩ := cells4 WR.out.2.1
  go_wp2_with fail
  exact bodyPost_ret (v := .agg #[.int .i64 _, .int .i64 _, .bool _, .bool _]) (results_cell_row Tryz.results9 _ _ (w.heap.size + 1) 23 #[.int .i64 _, .int .i64 _, .bool _, .bool _] (0, 0) _ rfl (set4 WR.out.2.1 _ _ _ _) Tryz.underlying23 rfl (by kernel_rfl)) rfl ⟨rfl, Below.set4 WR.out.2.2.2 (by omega) _ _ _ _⟩
set_option maxHeartbeats 4000000 in
theorem rs_16h (lo hi : Int) (nl nh : Bool) (a b : Int) (p q : Bool) (l h : Int) (er : rd ⟨lo, hi, nl, nh⟩ = ⟨l, h⟩) (hs : ¬ l = h) (h0 : 0 ≤ l) (h1 : 65535 < h) (hr : sp (swapE 16 false ⟨l, h⟩) = ⟨a, b, p, q⟩) (w : World) : Calls Tryz.prog 9 #[.int .i64 16, .bool false, .agg #[.int .i64 lo, .int .i64 hi, .bool nl, .bool nh]] w (RetS w a b p q) := by
  have b1 := Lib.hid ((Blk.new w 23 #[.int .i64 lo, .int .i64 hi, .bool nl, .bool nh]).alloc (.cells zS 23))
  have b2 := Lib.hid (new2 w (.cells #[.int .i64 lo, .int .i64 hi, .bool nl, .bool nh] 23) 23 zS)
  have H2 := Lib.hid (box2 w (.cells #[.int .i64 lo, .int .i64 hi, .bool nl, .bool nh] 23) (.cells zS 23))
  have HE := Lib.hid (fun w => refEnds_any lo hi nl nh l h er w)
  have HO := Lib.hid (fun w => single_W lo hi nl nh l h er w)
  rw [show (l == h) = false from beq_eq_false_iff_ne.2 hs] at HO
  have es : swapE 16 false ⟨l, h⟩ = ⟨0, 65535⟩ := by unfold swapE; rw [if_neg hs]; show r16 l h = _; unfold r16 withinB; dsimp only; rw [decide_eq_true h0, decide_eq_false (show ¬ h ≤ 65535 by omega)]; rfl
  rw [es] at hr
  have HL := Lib.hid (fun w => Span_any 0 65535 (by unfold I64 LEAST TOP; decide) (by unfold I64 LEAST TOP; decide) a b p q hr w)
  clear hr er hs es
  go_enter Tryz.func9, Tryz.ntmps9
  obtain ⟨⟨c0, c1, c2, c3⟩, -, c8⟩ := cells4 b1.out
  go_wp2_with fail
  refine (HE.out _).mono ?_
  rintro e w1 ⟨rfl, hB⟩
  have hb := nx hB (below_box' w1 (.cells #[.int .i64 l, .int .i64 h] 43))
  have W1 := Lib.hid (show LoW w lo hi nl nh w1.heap.size l h (w1.alloc (.cells #[.int .i64 l, .int .i64 h] 43)) from ⟨b1.out.up hb, b2.out.up hb, Blk.new w1 _ _, nx H2.out hb⟩)
  clear hB hb c0 c1 c2 c3 c8
  obtain ⟨⟨c0, c1, c2, c3⟩, -, c8⟩ := cells4 W1.out.1
  go_wp2_with fail
  refine (HO.out _).mono ?_
  rintro e w2 ⟨rfl, hB⟩
  have W2 := Lib.hid (W1.out.up hB)
  clear hB c0 c1 c2 c3 c8
  obtain ⟨⟨c0, c1, c2, c3⟩, -, c8⟩ := cells4 W2.out.1
  obtain ⟨a0, a1, -⟩ := cells2 W2.out.2.2.1
  go_wp2_with fail
  refine (HL.out _).mono ?_
  rintro e w4 ⟨rfl, hB⟩
  have WR := Lib.hid (W2.out.up hB)
  clear hB c0 c1 c2 c3 c8 a0 a1
  obtain ⟨⟨c0, c1, c2, c3⟩, ⟨c4, c5, c6, c7⟩, c8⟩ := cells4 WR.out.2.1
  go_wp2_with fail
  exact bodyPost_ret (v := .agg #[.int .i64 _, .int .i64 _, .bool _, .bool _]) (results_cell_row Tryz.results9 _ _ (w.heap.size + 1) 23 #[.int .i64 _, .int .i64 _, .bool _, .bool _] (0, 0) _ rfl (set4 WR.out.2.1 _ _ _ _) Tryz.underlying23 rfl (by kernel_rfl)) rfl ⟨rfl, Below.set4 WR.out.2.2.2 (by omega) _ _ _ _⟩
theorem refSwap06_any (k : Int) (t : Bool) (lo hi : Int) (nl nh : Bool) (a b : Int) (p q : Bool) (hr : swapS k t ⟨lo, hi, nl, nh⟩ = ⟨a, b, p, q⟩) (w : World) : Calls Tryz.prog 9 #[.int .i64 k, .bool t, .agg #[.int .i64 lo, .int .i64 hi, .bool nl, .bool nh]] w (RetS w a b p q) := by
  unfold swapS at hr
  by_cases hk : k = 16 ∨ k = 32 ∨ k = 64
  · rw [if_pos hk] at hr
    rcases er : rd ⟨lo, hi, nl, nh⟩ with ⟨l, h⟩
    rw [er] at hr
    by_cases hs : l = h
    · have e : swapE k t ⟨l, h⟩ = ⟨swapI k t l, swapI k t l⟩ := by unfold swapE; exact if_pos hs
      rw [e] at hr
      exact rs_one k t hk lo hi nl nh a b p q l h er hs hr w
    · rcases hk with rfl | rfl | rfl <;> cases t
      · rcases (by omega : l < 0 ∨ (0 ≤ l ∧ h ≤ 65535) ∨ (0 ≤ l ∧ 65535 < h)) with h0 | ⟨h0, h1⟩ | ⟨h0, h1⟩
        · exact rs_16n lo hi nl nh a b p q l h er hs h0 hr w
        · exact rs_16i lo hi nl nh a b p q l h er hs h0 h1 hr w
        · exact rs_16h lo hi nl nh a b p q l h er hs h0 h1 hr w
      · exact rs_16t lo hi nl nh a b p q l h er hs hr w
      · exact rs_32f lo hi nl nh a b p q l h er hs hr w
      · exact rs_32t lo hi nl nh a b p q l h er hs hr w
      · exact rs_64f lo hi nl nh a b p q l h er hs hr w
      · exact rs_64t lo hi nl nh a b p q l h er hs hr w
  · rw [if_neg hk] at hr
    obtain ⟨rfl, rfl, rfl, rfl⟩ := sp_eq (show fullS = _ from hr)
    exact rs_no k t lo hi nl nh (fun e => hk (.inl e)) (fun e => hk (.inr (.inl e))) (fun e => hk (.inr (.inr e))) w
end Spc
end Go.Proofs.YtjhgjplhhhgfcaaGreat
