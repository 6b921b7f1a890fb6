/- Package mach: decided, branch. Written by gen_mch.py. -/
import Derived.Test.YtpigkppnelnhiaaGreatMcF
namespace Go.Proofs.YtpigkppnelnhiaaGreat
open Go.ChangeShapes Go.WideShapes Go.ChangeAt Go.RowKit
set_option linter.unusedVariables false
set_option linter.unusedSimpArgs false
set_option maxRecDepth 100000
theorem num_fix {v : V} (h : v.isNum = true) : v.isFix = false ∧ (v.k == 5) = false := by
  unfold V.isNum at h
  have := eq_of_beq h
  unfold V.isFix
  rw [this]
  exact ⟨rfl, rfl⟩
theorem fix_five {v : V} (h : v.isFix = true) : (v.k == 5) = false := by
  unfold V.isFix at h
  cases e : (v.k == 5)
  · rfl
  · have := eq_of_beq e
    rw [this] at h
    simp at h

set_option maxHeartbeats 8000000 in
theorem decided_v (op : Int) (nar reg : Bool) (size dst src off imm : Int) (A B : V) (w : World) :
    Calls Tryz.prog 100 #[.agg #[.int .i64 op, .bool nar, .bool reg, .int .i64 size, .int .i64 dst, .int .i64 src, .int .i64 off, .int .i64 imm], .agg #[.int .i64 A.k, .int .i64 A.t, .int .i64 A.r, .int .i64 A.x], .agg #[.int .i64 B.k, .int .i64 B.t, .int .i64 B.r, .int .i64 B.x]] w fun e w' => e = .returned (.tuple #[.bool (decL ⟨op, nar, reg, size, dst, src, off, imm⟩ A B).1, .int .i64 (decL ⟨op, nar, reg, size, dst, src, off, imm⟩ A B).2]) ∧ Below w.heap.size w w' := by
  have hI := ((Blk.new w 57 #[.int .i64 op, .bool nar, .bool reg, .int .i64 size, .int .i64 dst, .int .i64 src, .int .i64 off, .int .i64 imm]).alloc (.cells #[.int .i64 A.k, .int .i64 A.t, .int .i64 A.r, .int .i64 A.x] 43)).alloc (.cells #[.int .i64 B.k, .int .i64 B.t, .int .i64 B.r, .int .i64 B.x] 43)
  have hA := (blk_new2 w (.cells #[.int .i64 op, .bool nar, .bool reg, .int .i64 size, .int .i64 dst, .int .i64 src, .int .i64 off, .int .i64 imm] 57) 43 #[.int .i64 A.k, .int .i64 A.t, .int .i64 A.r, .int .i64 A.x]).alloc (.cells #[.int .i64 B.k, .int .i64 B.t, .int .i64 B.r, .int .i64 B.x] 43)
  have hB : Blk (((w.alloc (.cells #[.int .i64 op, .bool nar, .bool reg, .int .i64 size, .int .i64 dst, .int .i64 src, .int .i64 off, .int .i64 imm] 57)).alloc (.cells #[.int .i64 A.k, .int .i64 A.t, .int .i64 A.r, .int .i64 A.x] 43)).alloc (.cells #[.int .i64 B.k, .int .i64 B.t, .int .i64 B.r, .int .i64 B.x] 43)) (w.heap.size + 1 + 1) 43 #[.int .i64 B.k, .int .i64 B.t, .int .i64 B.r, .int .i64 B.x] := by
    have h := Blk.new ((w.alloc (.cells #[.int .i64 op, .bool nar, .bool reg, .int .i64 size, .int .i64 dst, .int .i64 src, .int .i64 off, .int .i64 imm] 57)).alloc (.cells #[.int .i64 A.k, .int .i64 A.t, .int .i64 A.r, .int .i64 A.x] 43)) 43 #[.int .i64 B.k, .int .i64 B.t, .int .i64 B.r, .int .i64 B.x]
    rw [show ((w.alloc (.cells #[.int .i64 op, .bool nar, .bool reg, .int .i64 size, .int .i64 dst, .int .i64 src, .int .i64 off, .int .i64 imm] 57)).alloc (.cells #[.int .i64 A.k, .int .i64 A.t, .int .i64 A.r, .int .i64 A.x] 43)).heap.size = w.heap.size + 1 + 1 by simp] at h
    exact h
  have hW := (box2 w (.cells #[.int .i64 op, .bool nar, .bool reg, .int .i64 size, .int .i64 dst, .int .i64 src, .int .i64 off, .int .i64 imm] 57) (.cells #[.int .i64 A.k, .int .i64 A.t, .int .i64 A.r, .int .i64 A.x] 43)).alloc (by simp; omega) (.cells #[.int .i64 B.k, .int .i64 B.t, .int .i64 B.r, .int .i64 B.x] 43)
  have HL := Lib.hid (show decL ⟨op, nar, reg, size, dst, src, off, imm⟩ A B = if (A.isNum && B.isNum) = true then (holdsM op nar A.x B.x, 0) else if (nar || op == 37) = true then (false, 80) else if (A.isFix && (A.k == B.k)) = true then (holdsM (sgnOp op) false A.x B.x, 0) else if (A.k == 5 && !reg && imm == 0 && (op == 27 || op == 28)) = true then (op == 28, 0) else (false, 80) from rfl)
  generalize decL ⟨op, nar, reg, size, dst, src, off, imm⟩ A B = D at *

  cases tA : A.isNum
  · cases nar
    · cases tO : (op == 37)
      · cases tF : A.isFix
        · cases t5 : (A.k == 5)
          · rw [tA, tO, tF, t5] at HL
            simp only [Bool.not_false, Bool.not_true, Bool.true_and, Bool.false_and, Bool.and_true, Bool.and_false, Bool.true_or, Bool.false_or, Bool.or_true, Bool.or_false, Bool.false_eq_true, if_false, if_true] at HL
            go_enter Tryz.func100, Tryz.ntmps100
            go_upto_region 1 with (fail)
            generalize (((w.alloc (.cells #[.int .i64 op, .bool false, .bool reg, .int .i64 size, .int .i64 dst, .int .i64 src, .int .i64 off, .int .i64 imm] 57)).alloc (.cells #[.int .i64 A.k, .int .i64 A.t, .int .i64 A.r, .int .i64 A.x] 43)).alloc (.cells #[.int .i64 B.k, .int .i64 B.t, .int .i64 B.r, .int .i64 B.x] 43)) = w1 at *
            have HI0 := Lib.hid hI
            have HP00 := Lib.hid hA
            have HP10 := Lib.hid hB
            have HW0 := Lib.hid hW
            clear hI hA hB hW
            obtain ⟨c0, c1, c2, c3, c4, c5, c6, c7⟩ := HI0.out.eight
            obtain ⟨⟨x00, x01, x02, x03⟩, -⟩ := HP00.out.four
            obtain ⟨⟨x10, x11, x12, x13⟩, -⟩ := HP10.out.four
            go_wp2_with fail
            go_at_call 76
            refine (isNum_u A false tA _).mono ?_
            rintro e y1 ⟨rfl, hB1⟩
            have HI1 := Lib.hid (HI0.out.up hB1)
            have HP01 := Lib.hid (HP00.out.up hB1)
            have HP11 := Lib.hid (HP10.out.up hB1)
            have HW1 := Lib.hid (HW0.out.trans (hB1.mono HW0.out.size))
            clear hB1 c0 c1 c2 c3 c4 c5 c6 c7 x00 x01 x02 x03 x10 x11 x12 x13
            obtain ⟨c0, c1, c2, c3, c4, c5, c6, c7⟩ := HI1.out.eight
            obtain ⟨⟨x00, x01, x02, x03⟩, -⟩ := HP01.out.four
            obtain ⟨⟨x10, x11, x12, x13⟩, -⟩ := HP11.out.four
            go_wp2_with fail
            go_at_call 79
            refine (isFix_u A false tF _).mono ?_
            rintro e y2 ⟨rfl, hB2⟩
            have HI2 := Lib.hid (HI1.out.up hB2)
            have HP02 := Lib.hid (HP01.out.up hB2)
            have HP12 := Lib.hid (HP11.out.up hB2)
            have HW2 := Lib.hid (HW1.out.trans (hB2.mono HW1.out.size))
            clear hB2 c0 c1 c2 c3 c4 c5 c6 c7 x00 x01 x02 x03 x10 x11 x12 x13
            obtain ⟨c0, c1, c2, c3, c4, c5, c6, c7⟩ := HI2.out.eight
            obtain ⟨⟨x00, x01, x02, x03⟩, -⟩ := HP02.out.four
            obtain ⟨⟨x10, x11, x12, x13⟩, -⟩ := HP12.out.four
            go_wp2_with fail
            go_ret2
            rw [HL.out]
            exact ⟨rfl, HW2.out⟩
          · cases reg
            · cases t0 : (imm == 0)
              · rw [tA, tO, tF, t5, t0] at HL
                simp only [Bool.not_false, Bool.not_true, Bool.true_and, Bool.false_and, Bool.and_true, Bool.and_false, Bool.true_or, Bool.false_or, Bool.or_true, Bool.or_false, Bool.false_eq_true, if_false, if_true] at HL
                go_enter Tryz.func100, Tryz.ntmps100
                go_upto_region 1 with (fail)
                generalize (((w.alloc (.cells #[.int .i64 op, .bool false, .bool false, .int .i64 size, .int .i64 dst, .int .i64 src, .int .i64 off, .int .i64 imm] 57)).alloc (.cells #[.int .i64 A.k, .int .i64 A.t, .int .i64 A.r, .int .i64 A.x] 43)).alloc (.cells #[.int .i64 B.k, .int .i64 B.t, .int .i64 B.r, .int .i64 B.x] 43)) = w1 at *
                have HI0 := Lib.hid hI
                have HP00 := Lib.hid hA
                have HP10 := Lib.hid hB
                have HW0 := Lib.hid hW
                clear hI hA hB hW
                obtain ⟨c0, c1, c2, c3, c4, c5, c6, c7⟩ := HI0.out.eight
                obtain ⟨⟨x00, x01, x02, x03⟩, -⟩ := HP00.out.four
                obtain ⟨⟨x10, x11, x12, x13⟩, -⟩ := HP10.out.four
                go_wp2_with fail
                go_at_call 76
                refine (isNum_u A false tA _).mono ?_
                rintro e y1 ⟨rfl, hB1⟩
                have HI1 := Lib.hid (HI0.out.up hB1)
                have HP01 := Lib.hid (HP00.out.up hB1)
                have HP11 := Lib.hid (HP10.out.up hB1)
                have HW1 := Lib.hid (HW0.out.trans (hB1.mono HW0.out.size))
                clear hB1 c0 c1 c2 c3 c4 c5 c6 c7 x00 x01 x02 x03 x10 x11 x12 x13
                obtain ⟨c0, c1, c2, c3, c4, c5, c6, c7⟩ := HI1.out.eight
                obtain ⟨⟨x00, x01, x02, x03⟩, -⟩ := HP01.out.four
                obtain ⟨⟨x10, x11, x12, x13⟩, -⟩ := HP11.out.four
                go_wp2_with fail
                go_at_call 79
                refine (isFix_u A false tF _).mono ?_
                rintro e y2 ⟨rfl, hB2⟩
                have HI2 := Lib.hid (HI1.out.up hB2)
                have HP02 := Lib.hid (HP01.out.up hB2)
                have HP12 := Lib.hid (HP11.out.up hB2)
                have HW2 := Lib.hid (HW1.out.trans (hB2.mono HW1.out.size))
                clear hB2 c0 c1 c2 c3 c4 c5 c6 c7 x00 x01 x02 x03 x10 x11 x12 x13
                obtain ⟨c0, c1, c2, c3, c4, c5, c6, c7⟩ := HI2.out.eight
                obtain ⟨⟨x00, x01, x02, x03⟩, -⟩ := HP02.out.four
                obtain ⟨⟨x10, x11, x12, x13⟩, -⟩ := HP12.out.four
                go_wp2_with fail
                go_ret2
                rw [HL.out]
                exact ⟨rfl, HW2.out⟩
              · cases t27 : (op == 27)
                · cases t28 : (op == 28)
                  · rw [tA, tO, tF, t5, t0, t27, t28] at HL
                    simp only [Bool.not_false, Bool.not_true, Bool.true_and, Bool.false_and, Bool.and_true, Bool.and_false, Bool.true_or, Bool.false_or, Bool.or_true, Bool.or_false, Bool.false_eq_true, if_false, if_true] at HL
                    go_enter Tryz.func100, Tryz.ntmps100
                    go_upto_region 1 with (fail)
                    generalize (((w.alloc (.cells #[.int .i64 op, .bool false, .bool false, .int .i64 size, .int .i64 dst, .int .i64 src, .int .i64 off, .int .i64 imm] 57)).alloc (.cells #[.int .i64 A.k, .int .i64 A.t, .int .i64 A.r, .int .i64 A.x] 43)).alloc (.cells #[.int .i64 B.k, .int .i64 B.t, .int .i64 B.r, .int .i64 B.x] 43)) = w1 at *
                    have HI0 := Lib.hid hI
                    have HP00 := Lib.hid hA
                    have HP10 := Lib.hid hB
                    have HW0 := Lib.hid hW
                    clear hI hA hB hW
                    obtain ⟨c0, c1, c2, c3, c4, c5, c6, c7⟩ := HI0.out.eight
                    obtain ⟨⟨x00, x01, x02, x03⟩, -⟩ := HP00.out.four
                    obtain ⟨⟨x10, x11, x12, x13⟩, -⟩ := HP10.out.four
                    go_wp2_with fail
                    go_at_call 76
                    refine (isNum_u A false tA _).mono ?_
                    rintro e y1 ⟨rfl, hB1⟩
                    have HI1 := Lib.hid (HI0.out.up hB1)
                    have HP01 := Lib.hid (HP00.out.up hB1)
                    have HP11 := Lib.hid (HP10.out.up hB1)
                    have HW1 := Lib.hid (HW0.out.trans (hB1.mono HW0.out.size))
                    clear hB1 c0 c1 c2 c3 c4 c5 c6 c7 x00 x01 x02 x03 x10 x11 x12 x13
                    obtain ⟨c0, c1, c2, c3, c4, c5, c6, c7⟩ := HI1.out.eight
                    obtain ⟨⟨x00, x01, x02, x03⟩, -⟩ := HP01.out.four
                    obtain ⟨⟨x10, x11, x12, x13⟩, -⟩ := HP11.out.four
                    go_wp2_with fail
                    go_at_call 79
                    refine (isFix_u A false tF _).mono ?_
                    rintro e y2 ⟨rfl, hB2⟩
                    have HI2 := Lib.hid (HI1.out.up hB2)
                    have HP02 := Lib.hid (HP01.out.up hB2)
                    have HP12 := Lib.hid (HP11.out.up hB2)
                    have HW2 := Lib.hid (HW1.out.trans (hB2.mono HW1.out.size))
                    clear hB2 c0 c1 c2 c3 c4 c5 c6 c7 x00 x01 x02 x03 x10 x11 x12 x13
                    obtain ⟨c0, c1, c2, c3, c4, c5, c6, c7⟩ := HI2.out.eight
                    obtain ⟨⟨x00, x01, x02, x03⟩, -⟩ := HP02.out.four
                    obtain ⟨⟨x10, x11, x12, x13⟩, -⟩ := HP12.out.four
                    go_wp2_with fail
                    go_ret2
                    rw [HL.out]
                    exact ⟨rfl, HW2.out⟩
                  · rw [tA, tO, tF, t5, t0, t27, t28] at HL
                    simp only [Bool.not_false, Bool.not_true, Bool.true_and, Bool.false_and, Bool.and_true, Bool.and_false, Bool.true_or, Bool.false_or, Bool.or_true, Bool.or_false, Bool.false_eq_true, if_false, if_true] at HL
                    go_enter Tryz.func100, Tryz.ntmps100
                    go_upto_region 1 with (fail)
                    generalize (((w.alloc (.cells #[.int .i64 op, .bool false, .bool false, .int .i64 size, .int .i64 dst, .int .i64 src, .int .i64 off, .int .i64 imm] 57)).alloc (.cells #[.int .i64 A.k, .int .i64 A.t, .int .i64 A.r, .int .i64 A.x] 43)).alloc (.cells #[.int .i64 B.k, .int .i64 B.t, .int .i64 B.r, .int .i64 B.x] 43)) = w1 at *
                    have HI0 := Lib.hid hI
                    have HP00 := Lib.hid hA
                    have HP10 := Lib.hid hB
                    have HW0 := Lib.hid hW
                    clear hI hA hB hW
                    obtain ⟨c0, c1, c2, c3, c4, c5, c6, c7⟩ := HI0.out.eight
                    obtain ⟨⟨x00, x01, x02, x03⟩, -⟩ := HP00.out.four
                    obtain ⟨⟨x10, x11, x12, x13⟩, -⟩ := HP10.out.four
                    go_wp2_with fail
                    go_at_call 76
                    refine (isNum_u A false tA _).mono ?_
                    rintro e y1 ⟨rfl, hB1⟩
                    have HI1 := Lib.hid (HI0.out.up hB1)
                    have HP01 := Lib.hid (HP00.out.up hB1)
                    have HP11 := Lib.hid (HP10.out.up hB1)
                    have HW1 := Lib.hid (HW0.out.trans (hB1.mono HW0.out.size))
                    clear hB1 c0 c1 c2 c3 c4 c5 c6 c7 x00 x01 x02 x03 x10 x11 x12 x13
                    obtain ⟨c0, c1, c2, c3, c4, c5, c6, c7⟩ := HI1.out.eight
                    obtain ⟨⟨x00, x01, x02, x03⟩, -⟩ := HP01.out.four
                    obtain ⟨⟨x10, x11, x12, x13⟩, -⟩ := HP11.out.four
                    go_wp2_with fail
                    go_at_call 79
                    refine (isFix_u A false tF _).mono ?_
                    rintro e y2 ⟨rfl, hB2⟩
                    have HI2 := Lib.hid (HI1.out.up hB2)
                    have HP02 := Lib.hid (HP01.out.up hB2)
                    have HP12 := Lib.hid (HP11.out.up hB2)
                    have HW2 := Lib.hid (HW1.out.trans (hB2.mono HW1.out.size))
                    clear hB2 c0 c1 c2 c3 c4 c5 c6 c7 x00 x01 x02 x03 x10 x11 x12 x13
                    obtain ⟨c0, c1, c2, c3, c4, c5, c6, c7⟩ := HI2.out.eight
                    obtain ⟨⟨x00, x01, x02, x03⟩, -⟩ := HP02.out.four
                    obtain ⟨⟨x10, x11, x12, x13⟩, -⟩ := HP12.out.four
                    go_wp2_with fail
                    go_ret2
                    rw [HL.out]
                    exact ⟨rfl, HW2.out⟩
                · rw [tA, tO, tF, t5, t0, t27] at HL
                  simp only [Bool.not_false, Bool.not_true, Bool.true_and, Bool.false_and, Bool.and_true, Bool.and_false, Bool.true_or, Bool.false_or, Bool.or_true, Bool.or_false, Bool.false_eq_true, if_false, if_true] at HL
                  go_enter Tryz.func100, Tryz.ntmps100
                  go_upto_region 1 with (fail)
                  generalize (((w.alloc (.cells #[.int .i64 op, .bool false, .bool false, .int .i64 size, .int .i64 dst, .int .i64 src, .int .i64 off, .int .i64 imm] 57)).alloc (.cells #[.int .i64 A.k, .int .i64 A.t, .int .i64 A.r, .int .i64 A.x] 43)).alloc (.cells #[.int .i64 B.k, .int .i64 B.t, .int .i64 B.r, .int .i64 B.x] 43)) = w1 at *
                  have HI0 := Lib.hid hI
                  have HP00 := Lib.hid hA
                  have HP10 := Lib.hid hB
                  have HW0 := Lib.hid hW
                  clear hI hA hB hW
                  obtain ⟨c0, c1, c2, c3, c4, c5, c6, c7⟩ := HI0.out.eight
                  obtain ⟨⟨x00, x01, x02, x03⟩, -⟩ := HP00.out.four
                  obtain ⟨⟨x10, x11, x12, x13⟩, -⟩ := HP10.out.four
                  go_wp2_with fail
                  go_at_call 76
                  refine (isNum_u A false tA _).mono ?_
                  rintro e y1 ⟨rfl, hB1⟩
                  have HI1 := Lib.hid (HI0.out.up hB1)
                  have HP01 := Lib.hid (HP00.out.up hB1)
                  have HP11 := Lib.hid (HP10.out.up hB1)
                  have HW1 := Lib.hid (HW0.out.trans (hB1.mono HW0.out.size))
                  clear hB1 c0 c1 c2 c3 c4 c5 c6 c7 x00 x01 x02 x03 x10 x11 x12 x13
                  obtain ⟨c0, c1, c2, c3, c4, c5, c6, c7⟩ := HI1.out.eight
                  obtain ⟨⟨x00, x01, x02, x03⟩, -⟩ := HP01.out.four
                  obtain ⟨⟨x10, x11, x12, x13⟩, -⟩ := HP11.out.four
                  go_wp2_with fail
                  go_at_call 79
                  refine (isFix_u A false tF _).mono ?_
                  rintro e y2 ⟨rfl, hB2⟩
                  have HI2 := Lib.hid (HI1.out.up hB2)
                  have HP02 := Lib.hid (HP01.out.up hB2)
                  have HP12 := Lib.hid (HP11.out.up hB2)
                  have HW2 := Lib.hid (HW1.out.trans (hB2.mono HW1.out.size))
                  clear hB2 c0 c1 c2 c3 c4 c5 c6 c7 x00 x01 x02 x03 x10 x11 x12 x13
                  obtain ⟨c0, c1, c2, c3, c4, c5, c6, c7⟩ := HI2.out.eight
                  obtain ⟨⟨x00, x01, x02, x03⟩, -⟩ := HP02.out.four
                  obtain ⟨⟨x10, x11, x12, x13⟩, -⟩ := HP12.out.four
                  go_wp2_with fail
                  go_ret2
                  rw [HL.out]
                  exact ⟨rfl, HW2.out⟩
            · rw [tA, tO, tF, t5] at HL
              simp only [Bool.not_false, Bool.not_true, Bool.true_and, Bool.false_and, Bool.and_true, Bool.and_false, Bool.true_or, Bool.false_or, Bool.or_true, Bool.or_false, Bool.false_eq_true, if_false, if_true] at HL
              go_enter Tryz.func100, Tryz.ntmps100
              go_upto_region 1 with (fail)
              generalize (((w.alloc (.cells #[.int .i64 op, .bool false, .bool true, .int .i64 size, .int .i64 dst, .int .i64 src, .int .i64 off, .int .i64 imm] 57)).alloc (.cells #[.int .i64 A.k, .int .i64 A.t, .int .i64 A.r, .int .i64 A.x] 43)).alloc (.cells #[.int .i64 B.k, .int .i64 B.t, .int .i64 B.r, .int .i64 B.x] 43)) = w1 at *
              have HI0 := Lib.hid hI
              have HP00 := Lib.hid hA
              have HP10 := Lib.hid hB
              have HW0 := Lib.hid hW
              clear hI hA hB hW
              obtain ⟨c0, c1, c2, c3, c4, c5, c6, c7⟩ := HI0.out.eight
              obtain ⟨⟨x00, x01, x02, x03⟩, -⟩ := HP00.out.four
              obtain ⟨⟨x10, x11, x12, x13⟩, -⟩ := HP10.out.four
              go_wp2_with fail
              go_at_call 76
              refine (isNum_u A false tA _).mono ?_
              rintro e y1 ⟨rfl, hB1⟩
              have HI1 := Lib.hid (HI0.out.up hB1)
              have HP01 := Lib.hid (HP00.out.up hB1)
              have HP11 := Lib.hid (HP10.out.up hB1)
              have HW1 := Lib.hid (HW0.out.trans (hB1.mono HW0.out.size))
              clear hB1 c0 c1 c2 c3 c4 c5 c6 c7 x00 x01 x02 x03 x10 x11 x12 x13
              obtain ⟨c0, c1, c2, c3, c4, c5, c6, c7⟩ := HI1.out.eight
              obtain ⟨⟨x00, x01, x02, x03⟩, -⟩ := HP01.out.four
              obtain ⟨⟨x10, x11, x12, x13⟩, -⟩ := HP11.out.four
              go_wp2_with fail
              go_at_call 79
              refine (isFix_u A false tF _).mono ?_
              rintro e y2 ⟨rfl, hB2⟩
              have HI2 := Lib.hid (HI1.out.up hB2)
              have HP02 := Lib.hid (HP01.out.up hB2)
              have HP12 := Lib.hid (HP11.out.up hB2)
              have HW2 := Lib.hid (HW1.out.trans (hB2.mono HW1.out.size))
              clear hB2 c0 c1 c2 c3 c4 c5 c6 c7 x00 x01 x02 x03 x10 x11 x12 x13
              obtain ⟨c0, c1, c2, c3, c4, c5, c6, c7⟩ := HI2.out.eight
              obtain ⟨⟨x00, x01, x02, x03⟩, -⟩ := HP02.out.four
              obtain ⟨⟨x10, x11, x12, x13⟩, -⟩ := HP12.out.four
              go_wp2_with fail
              go_ret2
              rw [HL.out]
              exact ⟨rfl, HW2.out⟩
        · have t5 := fix_five tF
          cases tK : (A.k == B.k)
          · rw [tA, tO, tF, tK, t5] at HL
            simp only [Bool.not_false, Bool.not_true, Bool.true_and, Bool.false_and, Bool.and_true, Bool.and_false, Bool.true_or, Bool.false_or, Bool.or_true, Bool.or_false, Bool.false_eq_true, if_false, if_true] at HL
            go_enter Tryz.func100, Tryz.ntmps100
            go_upto_region 1 with (fail)
            generalize (((w.alloc (.cells #[.int .i64 op, .bool false, .bool reg, .int .i64 size, .int .i64 dst, .int .i64 src, .int .i64 off, .int .i64 imm] 57)).alloc (.cells #[.int .i64 A.k, .int .i64 A.t, .int .i64 A.r, .int .i64 A.x] 43)).alloc (.cells #[.int .i64 B.k, .int .i64 B.t, .int .i64 B.r, .int .i64 B.x] 43)) = w1 at *
            have HI0 := Lib.hid hI
            have HP00 := Lib.hid hA
            have HP10 := Lib.hid hB
            have HW0 := Lib.hid hW
            clear hI hA hB hW
            obtain ⟨c0, c1, c2, c3, c4, c5, c6, c7⟩ := HI0.out.eight
            obtain ⟨⟨x00, x01, x02, x03⟩, -⟩ := HP00.out.four
            obtain ⟨⟨x10, x11, x12, x13⟩, -⟩ := HP10.out.four
            go_wp2_with fail
            go_at_call 76
            refine (isNum_u A false tA _).mono ?_
            rintro e y1 ⟨rfl, hB1⟩
            have HI1 := Lib.hid (HI0.out.up hB1)
            have HP01 := Lib.hid (HP00.out.up hB1)
            have HP11 := Lib.hid (HP10.out.up hB1)
            have HW1 := Lib.hid (HW0.out.trans (hB1.mono HW0.out.size))
            clear hB1 c0 c1 c2 c3 c4 c5 c6 c7 x00 x01 x02 x03 x10 x11 x12 x13
            obtain ⟨c0, c1, c2, c3, c4, c5, c6, c7⟩ := HI1.out.eight
            obtain ⟨⟨x00, x01, x02, x03⟩, -⟩ := HP01.out.four
            obtain ⟨⟨x10, x11, x12, x13⟩, -⟩ := HP11.out.four
            go_wp2_with fail
            go_at_call 79
            refine (isFix_u A true tF _).mono ?_
            rintro e y2 ⟨rfl, hB2⟩
            have HI2 := Lib.hid (HI1.out.up hB2)
            have HP02 := Lib.hid (HP01.out.up hB2)
            have HP12 := Lib.hid (HP11.out.up hB2)
            have HW2 := Lib.hid (HW1.out.trans (hB2.mono HW1.out.size))
            clear hB2 c0 c1 c2 c3 c4 c5 c6 c7 x00 x01 x02 x03 x10 x11 x12 x13
            obtain ⟨c0, c1, c2, c3, c4, c5, c6, c7⟩ := HI2.out.eight
            obtain ⟨⟨x00, x01, x02, x03⟩, -⟩ := HP02.out.four
            obtain ⟨⟨x10, x11, x12, x13⟩, -⟩ := HP12.out.four
            go_wp2_with fail
            go_ret2
            rw [HL.out]
            exact ⟨rfl, HW2.out⟩
          · rw [tA, tO, tF, tK] at HL
            simp only [Bool.not_false, Bool.not_true, Bool.true_and, Bool.false_and, Bool.and_true, Bool.and_false, Bool.true_or, Bool.false_or, Bool.or_true, Bool.or_false, Bool.false_eq_true, if_false, if_true] at HL
            go_enter Tryz.func100, Tryz.ntmps100
            go_upto_region 1 with (fail)
            generalize (((w.alloc (.cells #[.int .i64 op, .bool false, .bool reg, .int .i64 size, .int .i64 dst, .int .i64 src, .int .i64 off, .int .i64 imm] 57)).alloc (.cells #[.int .i64 A.k, .int .i64 A.t, .int .i64 A.r, .int .i64 A.x] 43)).alloc (.cells #[.int .i64 B.k, .int .i64 B.t, .int .i64 B.r, .int .i64 B.x] 43)) = w1 at *
            have HI0 := Lib.hid hI
            have HP00 := Lib.hid hA
            have HP10 := Lib.hid hB
            have HW0 := Lib.hid hW
            clear hI hA hB hW
            obtain ⟨c0, c1, c2, c3, c4, c5, c6, c7⟩ := HI0.out.eight
            obtain ⟨⟨x00, x01, x02, x03⟩, -⟩ := HP00.out.four
            obtain ⟨⟨x10, x11, x12, x13⟩, -⟩ := HP10.out.four
            go_wp2_with fail
            go_at_call 76
            refine (isNum_u A false tA _).mono ?_
            rintro e y1 ⟨rfl, hB1⟩
            have HI1 := Lib.hid (HI0.out.up hB1)
            have HP01 := Lib.hid (HP00.out.up hB1)
            have HP11 := Lib.hid (HP10.out.up hB1)
            have HW1 := Lib.hid (HW0.out.trans (hB1.mono HW0.out.size))
            clear hB1 c0 c1 c2 c3 c4 c5 c6 c7 x00 x01 x02 x03 x10 x11 x12 x13
            obtain ⟨c0, c1, c2, c3, c4, c5, c6, c7⟩ := HI1.out.eight
            obtain ⟨⟨x00, x01, x02, x03⟩, -⟩ := HP01.out.four
            obtain ⟨⟨x10, x11, x12, x13⟩, -⟩ := HP11.out.four
            go_wp2_with fail
            go_at_call 79
            refine (isFix_u A true tF _).mono ?_
            rintro e y2 ⟨rfl, hB2⟩
            have HI2 := Lib.hid (HI1.out.up hB2)
            have HP02 := Lib.hid (HP01.out.up hB2)
            have HP12 := Lib.hid (HP11.out.up hB2)
            have HW2 := Lib.hid (HW1.out.trans (hB2.mono HW1.out.size))
            clear hB2 c0 c1 c2 c3 c4 c5 c6 c7 x00 x01 x02 x03 x10 x11 x12 x13
            obtain ⟨c0, c1, c2, c3, c4, c5, c6, c7⟩ := HI2.out.eight
            obtain ⟨⟨x00, x01, x02, x03⟩, -⟩ := HP02.out.four
            obtain ⟨⟨x10, x11, x12, x13⟩, -⟩ := HP12.out.four
            have HH := Lib.hid (fun w => holds_any (sgnOp op) false A.x B.x w)
            go_wp2_with fail
            refine wp_region_still_tail 7 (by kernel_rfl) (by kernel_rfl) ?_
            simp only [List.take_succ_cons, List.take_zero, List.drop_succ_cons, List.drop_zero]
            iterate 2 still_step
            still_call ((signed_v op _).mono fun _ _ ⟨h1, h2⟩ => ⟨h1, h2.symm⟩)
            iterate 4 still_step
            refine wpStill_nil ?_
            go_wp2_with fail
            go_at_call 16
            refine (HH.out _).mono ?_
            rintro e yz ⟨rfl, rfl⟩
            go_wp2_with fail
            go_ret2
            rw [HL.out]
            exact ⟨rfl, bdrw HW2.out⟩
      · rw [tA, tO] at HL
        simp only [Bool.not_false, Bool.not_true, Bool.true_and, Bool.false_and, Bool.and_true, Bool.and_false, Bool.true_or, Bool.false_or, Bool.or_true, Bool.or_false, Bool.false_eq_true, if_false, if_true] at HL
        go_enter Tryz.func100, Tryz.ntmps100
        go_upto_region 1 with (fail)
        generalize (((w.alloc (.cells #[.int .i64 op, .bool false, .bool reg, .int .i64 size, .int .i64 dst, .int .i64 src, .int .i64 off, .int .i64 imm] 57)).alloc (.cells #[.int .i64 A.k, .int .i64 A.t, .int .i64 A.r, .int .i64 A.x] 43)).alloc (.cells #[.int .i64 B.k, .int .i64 B.t, .int .i64 B.r, .int .i64 B.x] 43)) = w1 at *
        have HI0 := Lib.hid hI
        have HP00 := Lib.hid hA
        have HP10 := Lib.hid hB
        have HW0 := Lib.hid hW
        clear hI hA hB hW
        obtain ⟨c0, c1, c2, c3, c4, c5, c6, c7⟩ := HI0.out.eight
        obtain ⟨⟨x00, x01, x02, x03⟩, -⟩ := HP00.out.four
        obtain ⟨⟨x10, x11, x12, x13⟩, -⟩ := HP10.out.four
        go_wp2_with fail
        go_at_call 76
        refine (isNum_u A false tA _).mono ?_
        rintro e y1 ⟨rfl, hB1⟩
        have HI1 := Lib.hid (HI0.out.up hB1)
        have HP01 := Lib.hid (HP00.out.up hB1)
        have HP11 := Lib.hid (HP10.out.up hB1)
        have HW1 := Lib.hid (HW0.out.trans (hB1.mono HW0.out.size))
        clear hB1 c0 c1 c2 c3 c4 c5 c6 c7 x00 x01 x02 x03 x10 x11 x12 x13
        obtain ⟨c0, c1, c2, c3, c4, c5, c6, c7⟩ := HI1.out.eight
        obtain ⟨⟨x00, x01, x02, x03⟩, -⟩ := HP01.out.four
        obtain ⟨⟨x10, x11, x12, x13⟩, -⟩ := HP11.out.four
        go_wp2_with fail
        go_ret2
        rw [HL.out]
        exact ⟨rfl, HW1.out⟩
    · rw [tA] at HL
      simp only [Bool.not_false, Bool.not_true, Bool.true_and, Bool.false_and, Bool.and_true, Bool.and_false, Bool.true_or, Bool.false_or, Bool.or_true, Bool.or_false, Bool.false_eq_true, if_false, if_true] at HL
      go_enter Tryz.func100, Tryz.ntmps100
      go_upto_region 1 with (fail)
      generalize (((w.alloc (.cells #[.int .i64 op, .bool true, .bool reg, .int .i64 size, .int .i64 dst, .int .i64 src, .int .i64 off, .int .i64 imm] 57)).alloc (.cells #[.int .i64 A.k, .int .i64 A.t, .int .i64 A.r, .int .i64 A.x] 43)).alloc (.cells #[.int .i64 B.k, .int .i64 B.t, .int .i64 B.r, .int .i64 B.x] 43)) = w1 at *
      have HI0 := Lib.hid hI
      have HP00 := Lib.hid hA
      have HP10 := Lib.hid hB
      have HW0 := Lib.hid hW
      clear hI hA hB hW
      obtain ⟨c0, c1, c2, c3, c4, c5, c6, c7⟩ := HI0.out.eight
      obtain ⟨⟨x00, x01, x02, x03⟩, -⟩ := HP00.out.four
      obtain ⟨⟨x10, x11, x12, x13⟩, -⟩ := HP10.out.four
      go_wp2_with fail
      go_at_call 76
      refine (isNum_u A false tA _).mono ?_
      rintro e y1 ⟨rfl, hB1⟩
      have HI1 := Lib.hid (HI0.out.up hB1)
      have HP01 := Lib.hid (HP00.out.up hB1)
      have HP11 := Lib.hid (HP10.out.up hB1)
      have HW1 := Lib.hid (HW0.out.trans (hB1.mono HW0.out.size))
      clear hB1 c0 c1 c2 c3 c4 c5 c6 c7 x00 x01 x02 x03 x10 x11 x12 x13
      obtain ⟨c0, c1, c2, c3, c4, c5, c6, c7⟩ := HI1.out.eight
      obtain ⟨⟨x00, x01, x02, x03⟩, -⟩ := HP01.out.four
      obtain ⟨⟨x10, x11, x12, x13⟩, -⟩ := HP11.out.four
      go_wp2_with fail
      go_ret2
      rw [HL.out]
      exact ⟨rfl, HW1.out⟩
  · cases tB : B.isNum
    · obtain ⟨tF, t5⟩ := num_fix tA
      cases nar
      · cases tO : (op == 37)
        · rw [tA, tB, tO, tF, t5] at HL
          simp only [Bool.not_false, Bool.not_true, Bool.true_and, Bool.false_and, Bool.and_true, Bool.and_false, Bool.true_or, Bool.false_or, Bool.or_true, Bool.or_false, Bool.false_eq_true, if_false, if_true] at HL
          go_enter Tryz.func100, Tryz.ntmps100
          go_upto_region 1 with (fail)
          generalize (((w.alloc (.cells #[.int .i64 op, .bool false, .bool reg, .int .i64 size, .int .i64 dst, .int .i64 src, .int .i64 off, .int .i64 imm] 57)).alloc (.cells #[.int .i64 A.k, .int .i64 A.t, .int .i64 A.r, .int .i64 A.x] 43)).alloc (.cells #[.int .i64 B.k, .int .i64 B.t, .int .i64 B.r, .int .i64 B.x] 43)) = w1 at *
          have HI0 := Lib.hid hI
          have HP00 := Lib.hid hA
          have HP10 := Lib.hid hB
          have HW0 := Lib.hid hW
          clear hI hA hB hW
          obtain ⟨c0, c1, c2, c3, c4, c5, c6, c7⟩ := HI0.out.eight
          obtain ⟨⟨x00, x01, x02, x03⟩, -⟩ := HP00.out.four
          obtain ⟨⟨x10, x11, x12, x13⟩, -⟩ := HP10.out.four
          go_wp2_with fail
          go_at_call 76
          refine (isNum_u A true tA _).mono ?_
          rintro e y1 ⟨rfl, hB1⟩
          have HI1 := Lib.hid (HI0.out.up hB1)
          have HP01 := Lib.hid (HP00.out.up hB1)
          have HP11 := Lib.hid (HP10.out.up hB1)
          have HW1 := Lib.hid (HW0.out.trans (hB1.mono HW0.out.size))
          clear hB1 c0 c1 c2 c3 c4 c5 c6 c7 x00 x01 x02 x03 x10 x11 x12 x13
          obtain ⟨c0, c1, c2, c3, c4, c5, c6, c7⟩ := HI1.out.eight
          obtain ⟨⟨x00, x01, x02, x03⟩, -⟩ := HP01.out.four
          obtain ⟨⟨x10, x11, x12, x13⟩, -⟩ := HP11.out.four
          go_wp2_with fail
          go_at_call 76
          refine (isNum_u B false tB _).mono ?_
          rintro e y2 ⟨rfl, hB2⟩
          have HI2 := Lib.hid (HI1.out.up hB2)
          have HP02 := Lib.hid (HP01.out.up hB2)
          have HP12 := Lib.hid (HP11.out.up hB2)
          have HW2 := Lib.hid (HW1.out.trans (hB2.mono HW1.out.size))
          clear hB2 c0 c1 c2 c3 c4 c5 c6 c7 x00 x01 x02 x03 x10 x11 x12 x13
          obtain ⟨c0, c1, c2, c3, c4, c5, c6, c7⟩ := HI2.out.eight
          obtain ⟨⟨x00, x01, x02, x03⟩, -⟩ := HP02.out.four
          obtain ⟨⟨x10, x11, x12, x13⟩, -⟩ := HP12.out.four
          go_wp2_with fail
          go_at_call 79
          refine (isFix_u A false tF _).mono ?_
          rintro e y3 ⟨rfl, hB3⟩
          have HI3 := Lib.hid (HI2.out.up hB3)
          have HP03 := Lib.hid (HP02.out.up hB3)
          have HP13 := Lib.hid (HP12.out.up hB3)
          have HW3 := Lib.hid (HW2.out.trans (hB3.mono HW2.out.size))
          clear hB3 c0 c1 c2 c3 c4 c5 c6 c7 x00 x01 x02 x03 x10 x11 x12 x13
          obtain ⟨c0, c1, c2, c3, c4, c5, c6, c7⟩ := HI3.out.eight
          obtain ⟨⟨x00, x01, x02, x03⟩, -⟩ := HP03.out.four
          obtain ⟨⟨x10, x11, x12, x13⟩, -⟩ := HP13.out.four
          go_wp2_with fail
          go_ret2
          rw [HL.out]
          exact ⟨rfl, HW3.out⟩
        · rw [tA, tB, tO] at HL
          simp only [Bool.not_false, Bool.not_true, Bool.true_and, Bool.false_and, Bool.and_true, Bool.and_false, Bool.true_or, Bool.false_or, Bool.or_true, Bool.or_false, Bool.false_eq_true, if_false, if_true] at HL
          go_enter Tryz.func100, Tryz.ntmps100
          go_upto_region 1 with (fail)
          generalize (((w.alloc (.cells #[.int .i64 op, .bool false, .bool reg, .int .i64 size, .int .i64 dst, .int .i64 src, .int .i64 off, .int .i64 imm] 57)).alloc (.cells #[.int .i64 A.k, .int .i64 A.t, .int .i64 A.r, .int .i64 A.x] 43)).alloc (.cells #[.int .i64 B.k, .int .i64 B.t, .int .i64 B.r, .int .i64 B.x] 43)) = w1 at *
          have HI0 := Lib.hid hI
          have HP00 := Lib.hid hA
          have HP10 := Lib.hid hB
          have HW0 := Lib.hid hW
          clear hI hA hB hW
          obtain ⟨c0, c1, c2, c3, c4, c5, c6, c7⟩ := HI0.out.eight
          obtain ⟨⟨x00, x01, x02, x03⟩, -⟩ := HP00.out.four
          obtain ⟨⟨x10, x11, x12, x13⟩, -⟩ := HP10.out.four
          go_wp2_with fail
          go_at_call 76
          refine (isNum_u A true tA _).mono ?_
          rintro e y1 ⟨rfl, hB1⟩
          have HI1 := Lib.hid (HI0.out.up hB1)
          have HP01 := Lib.hid (HP00.out.up hB1)
          have HP11 := Lib.hid (HP10.out.up hB1)
          have HW1 := Lib.hid (HW0.out.trans (hB1.mono HW0.out.size))
          clear hB1 c0 c1 c2 c3 c4 c5 c6 c7 x00 x01 x02 x03 x10 x11 x12 x13
          obtain ⟨c0, c1, c2, c3, c4, c5, c6, c7⟩ := HI1.out.eight
          obtain ⟨⟨x00, x01, x02, x03⟩, -⟩ := HP01.out.four
          obtain ⟨⟨x10, x11, x12, x13⟩, -⟩ := HP11.out.four
          go_wp2_with fail
          go_at_call 76
          refine (isNum_u B false tB _).mono ?_
          rintro e y2 ⟨rfl, hB2⟩
          have HI2 := Lib.hid (HI1.out.up hB2)
          have HP02 := Lib.hid (HP01.out.up hB2)
          have HP12 := Lib.hid (HP11.out.up hB2)
          have HW2 := Lib.hid (HW1.out.trans (hB2.mono HW1.out.size))
          clear hB2 c0 c1 c2 c3 c4 c5 c6 c7 x00 x01 x02 x03 x10 x11 x12 x13
          obtain ⟨c0, c1, c2, c3, c4, c5, c6, c7⟩ := HI2.out.eight
          obtain ⟨⟨x00, x01, x02, x03⟩, -⟩ := HP02.out.four
          obtain ⟨⟨x10, x11, x12, x13⟩, -⟩ := HP12.out.four
          go_wp2_with fail
          go_ret2
          rw [HL.out]
          exact ⟨rfl, HW2.out⟩
      · rw [tA, tB] at HL
        simp only [Bool.not_false, Bool.not_true, Bool.true_and, Bool.false_and, Bool.and_true, Bool.and_false, Bool.true_or, Bool.false_or, Bool.or_true, Bool.or_false, Bool.false_eq_true, if_false, if_true] at HL
        go_enter Tryz.func100, Tryz.ntmps100
        go_upto_region 1 with (fail)
        generalize (((w.alloc (.cells #[.int .i64 op, .bool true, .bool reg, .int .i64 size, .int .i64 dst, .int .i64 src, .int .i64 off, .int .i64 imm] 57)).alloc (.cells #[.int .i64 A.k, .int .i64 A.t, .int .i64 A.r, .int .i64 A.x] 43)).alloc (.cells #[.int .i64 B.k, .int .i64 B.t, .int .i64 B.r, .int .i64 B.x] 43)) = w1 at *
        have HI0 := Lib.hid hI
        have HP00 := Lib.hid hA
        have HP10 := Lib.hid hB
        have HW0 := Lib.hid hW
        clear hI hA hB hW
        obtain ⟨c0, c1, c2, c3, c4, c5, c6, c7⟩ := HI0.out.eight
        obtain ⟨⟨x00, x01, x02, x03⟩, -⟩ := HP00.out.four
        obtain ⟨⟨x10, x11, x12, x13⟩, -⟩ := HP10.out.four
        go_wp2_with fail
        go_at_call 76
        refine (isNum_u A true tA _).mono ?_
        rintro e y1 ⟨rfl, hB1⟩
        have HI1 := Lib.hid (HI0.out.up hB1)
        have HP01 := Lib.hid (HP00.out.up hB1)
        have HP11 := Lib.hid (HP10.out.up hB1)
        have HW1 := Lib.hid (HW0.out.trans (hB1.mono HW0.out.size))
        clear hB1 c0 c1 c2 c3 c4 c5 c6 c7 x00 x01 x02 x03 x10 x11 x12 x13
        obtain ⟨c0, c1, c2, c3, c4, c5, c6, c7⟩ := HI1.out.eight
        obtain ⟨⟨x00, x01, x02, x03⟩, -⟩ := HP01.out.four
        obtain ⟨⟨x10, x11, x12, x13⟩, -⟩ := HP11.out.four
        go_wp2_with fail
        go_at_call 76
        refine (isNum_u B false tB _).mono ?_
        rintro e y2 ⟨rfl, hB2⟩
        have HI2 := Lib.hid (HI1.out.up hB2)
        have HP02 := Lib.hid (HP01.out.up hB2)
        have HP12 := Lib.hid (HP11.out.up hB2)
        have HW2 := Lib.hid (HW1.out.trans (hB2.mono HW1.out.size))
        clear hB2 c0 c1 c2 c3 c4 c5 c6 c7 x00 x01 x02 x03 x10 x11 x12 x13
        obtain ⟨c0, c1, c2, c3, c4, c5, c6, c7⟩ := HI2.out.eight
        obtain ⟨⟨x00, x01, x02, x03⟩, -⟩ := HP02.out.four
        obtain ⟨⟨x10, x11, x12, x13⟩, -⟩ := HP12.out.four
        go_wp2_with fail
        go_ret2
        rw [HL.out]
        exact ⟨rfl, HW2.out⟩
    · rw [tA, tB] at HL
      simp only [Bool.not_false, Bool.not_true, Bool.true_and, Bool.false_and, Bool.and_true, Bool.and_false, Bool.true_or, Bool.false_or, Bool.or_true, Bool.or_false, Bool.false_eq_true, if_false, if_true] at HL
      go_enter Tryz.func100, Tryz.ntmps100
      go_upto_region 1 with (fail)
      generalize (((w.alloc (.cells #[.int .i64 op, .bool nar, .bool reg, .int .i64 size, .int .i64 dst, .int .i64 src, .int .i64 off, .int .i64 imm] 57)).alloc (.cells #[.int .i64 A.k, .int .i64 A.t, .int .i64 A.r, .int .i64 A.x] 43)).alloc (.cells #[.int .i64 B.k, .int .i64 B.t, .int .i64 B.r, .int .i64 B.x] 43)) = w1 at *
      have HI0 := Lib.hid hI
      have HP00 := Lib.hid hA
      have HP10 := Lib.hid hB
      have HW0 := Lib.hid hW
      clear hI hA hB hW
      obtain ⟨c0, c1, c2, c3, c4, c5, c6, c7⟩ := HI0.out.eight
      obtain ⟨⟨x00, x01, x02, x03⟩, -⟩ := HP00.out.four
      obtain ⟨⟨x10, x11, x12, x13⟩, -⟩ := HP10.out.four
      go_wp2_with fail
      go_at_call 76
      refine (isNum_u A true tA _).mono ?_
      rintro e y1 ⟨rfl, hB1⟩
      have HI1 := Lib.hid (HI0.out.up hB1)
      have HP01 := Lib.hid (HP00.out.up hB1)
      have HP11 := Lib.hid (HP10.out.up hB1)
      have HW1 := Lib.hid (HW0.out.trans (hB1.mono HW0.out.size))
      clear hB1 c0 c1 c2 c3 c4 c5 c6 c7 x00 x01 x02 x03 x10 x11 x12 x13
      obtain ⟨c0, c1, c2, c3, c4, c5, c6, c7⟩ := HI1.out.eight
      obtain ⟨⟨x00, x01, x02, x03⟩, -⟩ := HP01.out.four
      obtain ⟨⟨x10, x11, x12, x13⟩, -⟩ := HP11.out.four
      go_wp2_with fail
      go_at_call 76
      refine (isNum_u B true tB _).mono ?_
      rintro e y2 ⟨rfl, hB2⟩
      have HI2 := Lib.hid (HI1.out.up hB2)
      have HP02 := Lib.hid (HP01.out.up hB2)
      have HP12 := Lib.hid (HP11.out.up hB2)
      have HW2 := Lib.hid (HW1.out.trans (hB2.mono HW1.out.size))
      clear hB2 c0 c1 c2 c3 c4 c5 c6 c7 x00 x01 x02 x03 x10 x11 x12 x13
      obtain ⟨c0, c1, c2, c3, c4, c5, c6, c7⟩ := HI2.out.eight
      obtain ⟨⟨x00, x01, x02, x03⟩, -⟩ := HP02.out.four
      obtain ⟨⟨x10, x11, x12, x13⟩, -⟩ := HP12.out.four
      have HH := Lib.hid (fun w => holds_any op nar A.x B.x w)
      go_wp2_with fail
      go_at_call 16
      refine (HH.out _).mono ?_
      rintro e yz ⟨rfl, rfl⟩
      go_wp2_with fail
      go_ret2
      rw [HL.out]
      exact ⟨rfl, HW2.out⟩

theorem decided_u (op : Int) (nar reg : Bool) (size dst src off imm : Int) (A B : V) (D : Bool × Int) (hD : decL ⟨op, nar, reg, size, dst, src, off, imm⟩ A B = D) (w : World) :
    Calls Tryz.prog 100 #[.agg #[.int .i64 op, .bool nar, .bool reg, .int .i64 size, .int .i64 dst, .int .i64 src, .int .i64 off, .int .i64 imm], .agg #[.int .i64 A.k, .int .i64 A.t, .int .i64 A.r, .int .i64 A.x], .agg #[.int .i64 B.k, .int .i64 B.t, .int .i64 B.r, .int .i64 B.x]] w fun e w' => e = .returned (.tuple #[.bool D.1, .int .i64 D.2]) ∧ Below w.heap.size w w' := by
  rw [← hD]
  exact decided_v op nar reg size dst src off imm A B w

set_option maxHeartbeats 8000000 in
theorem branch_v {w : World} {base g : Nat} {P : Pg} {S : St} {vc vk vg vn : Value} (h : Mem w base g P S vc vk vg vn) (hp : S.pc < 1048576) (op : Int) (nar reg : Bool) (size dst src off imm : Int) (hd0 : 0 ≤ dst ∧ dst < 11) (hs : reg = true → 0 ≤ src ∧ src < 11) (hpg : S.pc < P.goals.length) :
    Calls Tryz.prog 64 #[.pointer (some ⟨g, 0, none⟩), .agg #[.int .i64 op, .bool nar, .bool reg, .int .i64 size, .int .i64 dst, .int .i64 src, .int .i64 off, .int .i64 imm]] w (Went base g P vc vk vg vn (brL P S ⟨op, nar, reg, size, dst, src, off, imm⟩) w) := by
  obtain ⟨d, rfl⟩ := Int.eq_ofNat_of_zero_le hd0.1
  have hdn : d < 11 := by omega
  have hd' : (d : Int) < 11 := by omega
  obtain ⟨A, hA⟩ : ∃ A, S.regs d = A := ⟨_, rfl⟩
  obtain ⟨B, hB⟩ : ∃ B, secL S ⟨op, nar, reg, size, d, src, off, imm⟩ = B := ⟨_, rfl⟩
  obtain ⟨D, hD⟩ : ∃ D, decL ⟨op, nar, reg, size, d, src, off, imm⟩ A B = D := ⟨_, rfl⟩
  have HL := Lib.hid (show brL P S ⟨op, nar, reg, size, d, src, off, imm⟩ = if D.2 = 0 then (if D.1 = true then goToL P S (goalL P S) else goToL P S (S.pc + 1)) else (D.2, S) by
    subst hD hB hA; rfl)
  have hM1 := h.alloc (.cells #[.int .i64 op, .bool nar, .bool reg, .int .i64 size, .int .i64 d, .int .i64 src, .int .i64 off, .int .i64 imm] 57)
  have hI1 := Blk.new w 57 #[.int .i64 op, .bool nar, .bool reg, .int .i64 size, .int .i64 d, .int .i64 src, .int .i64 off, .int .i64 imm]
  have hT1 := Touch.alloc (g := g) w (.cells #[.int .i64 op, .bool nar, .bool reg, .int .i64 size, .int .i64 d, .int .i64 src, .int .i64 off, .int .i64 imm] 57)
  have hgm := h.fb.lt
  clear h
  go_enter Tryz.func64, Tryz.ntmps64
  go_upto_region 1 with (fail)
  generalize (w.alloc (.cells #[.int .i64 op, .bool nar, .bool reg, .int .i64 size, .int .i64 d, .int .i64 src, .int .i64 off, .int .i64 imm] 57)) = w1 at *
  generalize w.heap.size = m at *
  have HS := Lib.hid (second_u hM1.drw op nar reg size d src off imm hs B hB)
  have HD := Lib.hid (fun w => decided_u op nar reg size d src off imm A B D hD w)
  have HM1 := Lib.hid hM1
  have HI1 := Lib.hid hI1
  have HT1 := Lib.hid hT1
  have hR : ∀ w', Mem w' base g P S vc vk vg vn → w'.cell? ⟨g, 422 + d * 4, none⟩ = some (.int .i64 A.k) ∧ w'.cell? ⟨g, 422 + d * 4 + 1, none⟩ = some (.int .i64 A.t) ∧ w'.cell? ⟨g, 422 + d * 4 + 2, none⟩ = some (.int .i64 A.r) ∧ w'.cell? ⟨g, 422 + d * 4 + 3, none⟩ = some (.int .i64 A.x) := fun w' h => by
    have := h.reg d hdn; rw [hA] at this; exact this
  have HR := Lib.hid hR
  have HK : ∀ w', Blk w' m 57 #[.int .i64 op, .bool nar, .bool reg, .int .i64 size, .int .i64 d, .int .i64 src, .int .i64 off, .int .i64 imm] → Mem w' base g P S vc vk vg vn → w'.cell? ⟨m, 0, none⟩ = some (.int .i64 op) ∧ w'.cell? ⟨m, 1, none⟩ = some (.bool nar) ∧ w'.cell? ⟨m, 2, none⟩ = some (.bool reg) ∧ w'.cell? ⟨m, 3, none⟩ = some (.int .i64 size) ∧ w'.cell? ⟨m, 4, none⟩ = some (.int .i64 d) ∧ w'.cell? ⟨m, 5, none⟩ = some (.int .i64 src) ∧ w'.cell? ⟨m, 6, none⟩ = some (.int .i64 off) ∧ w'.cell? ⟨m, 7, none⟩ = some (.int .i64 imm) ∧ w'.cell? ⟨g, 422 + d * 4, none⟩ = some (.int .i64 A.k) ∧ w'.cell? ⟨g, 422 + d * 4 + 1, none⟩ = some (.int .i64 A.t) ∧ w'.cell? ⟨g, 422 + d * 4 + 2, none⟩ = some (.int .i64 A.r) ∧ w'.cell? ⟨g, 422 + d * 4 + 3, none⟩ = some (.int .i64 A.x) := fun w' hi hm => by
    obtain ⟨a, b, c, d, e, f, g, h⟩ := hi.eight
    exact ⟨a, b, c, d, e, f, g, h, hR w' hm⟩
  have HKK := Lib.hid HK
  clear hM1 hI1 hT1 hA hB hs hd0 hD hR HK
  go_region_held3 (fun w' => w'.cell? ⟨m, 0, none⟩ = some (.int .i64 op) ∧ w'.cell? ⟨m, 1, none⟩ = some (.bool nar) ∧ w'.cell? ⟨m, 2, none⟩ = some (.bool reg) ∧ w'.cell? ⟨m, 3, none⟩ = some (.int .i64 size) ∧ w'.cell? ⟨m, 4, none⟩ = some (.int .i64 d) ∧ w'.cell? ⟨m, 5, none⟩ = some (.int .i64 src) ∧ w'.cell? ⟨m, 6, none⟩ = some (.int .i64 off) ∧ w'.cell? ⟨m, 7, none⟩ = some (.int .i64 imm) ∧ w'.cell? ⟨g, 422 + d * 4, none⟩ = some (.int .i64 A.k) ∧ w'.cell? ⟨g, 422 + d * 4 + 1, none⟩ = some (.int .i64 A.t) ∧ w'.cell? ⟨g, 422 + d * 4 + 2, none⟩ = some (.int .i64 A.r) ∧ w'.cell? ⟨g, 422 + d * 4 + 3, none⟩ = some (.int .i64 A.x))
    (first | exact HKK.out _ HI1.out.drew HM1.out.drw | exact HKK.out _ (HI1.out.drew.up hB2) (HM1.out.drw.up hB2) | exact HKK.out _ ((HI1.out.drew.up hB2).up hB3) ((HM1.out.drw.up hB2).up hB3) | fail)
    (first | (go_at_call 74; refine HS.out.mono ?_; rintro e y2 ⟨rfl, hB2⟩) | (go_at_call 100; refine (HD.out _).mono ?_; rintro e y3 ⟨rfl, hB3⟩))
  have HM3 := Lib.hid ((HM1.out.drw.up hB2).up hB3)
  have HT3 := Lib.hid ((HT1.out.drw.trans (Touch.of_below hB2)).trans (Touch.of_below hB3))
  clear HM1 HT1 HI1 HS HD HKK HR hB2 hB3
  obtain ⟨D1, D2⟩ := D
  cases tE : (D2 == 0)
  · have HE := Lib.hid (HL.out.trans (if_neg (ne_of_beq_false tE)))
    have tE' : (D2 != 0) = true := by simp [bne, tE]
    go_wp2_with fail
    go_ret
    unfold Went
    rw [HE.out]
    exact ⟨rfl, HM3.out, HT3.out⟩
  · obtain rfl : D2 = 0 := eq_of_beq tE
    cases D1
    · have HE := Lib.hid (HL.out.trans ((if_pos rfl).trans (if_neg Bool.false_ne_true)))
      go_wp2_with fail
      go_at_call 91
      refine (goOn_v HM3.out hp).mono ?_
      rintro e yz ⟨rfl, hMz, hTz⟩
      go_wp2_with fail
      go_ret
      unfold Went
      rw [HE.out]
      exact ⟨rfl, hMz, HT3.out.trans hTz⟩
    · have HE := Lib.hid (HL.out.trans ((if_pos rfl).trans (if_pos rfl)))
      obtain ⟨A', c, rfl, hA'⟩ := HM3.out.goals.form
      obtain ⟨b, o, rfl, hb, hcell⟩ := hA' (by omega)
      have hx : y3.cell? ⟨b, o + S.pc, none⟩ = some (.int .i64 (goalL P S)) := hcell S.pc hpg
      have hp' : (S.pc : Int) < P.goals.length := by omega
      have k1 := HM3.out.cG
      have k2 := HM3.out.pc
      have HG := Lib.hid (goTo_v HM3.out.drw (goalL P S))
      clear hA' hcell
      generalize goalL P S = G at *
      go_wp2_with fail
      refine wp_region_still_tail 11 (by kernel_rfl) (by kernel_rfl) ?_
      simp only [List.take_succ_cons, List.take_zero, List.drop_succ_cons, List.drop_zero]
      iterate 11 still_step
      refine wpStill_nil ?_
      go_wp2_with fail
      go_at_call 95
      refine HG.out.mono ?_
      rintro e yz ⟨rfl, hMz, hTz⟩
      go_wp2_with fail
      go_ret
      unfold Went
      rw [HE.out]
      exact ⟨rfl, hMz, HT3.out.drw.trans hTz⟩

end Go.Proofs.YtpigkppnelnhiaaGreat
