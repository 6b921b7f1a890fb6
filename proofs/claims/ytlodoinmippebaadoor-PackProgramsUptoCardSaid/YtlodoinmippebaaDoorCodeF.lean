/- Contracts of package code: immediate, wrong. -/
import Derived.Test.YtlodoinmippebaaDoorCodeE
namespace Go.Proofs.YtlodoinmippebaaDoor
open Go.ChangeShapes Go.WideShapes Go.ChangeAt Go.RowKit
open Cod
set_option linter.unusedVariables false

set_option maxHeartbeats 4000000 in
theorem imm_none (op : Int) (nar reg : Bool) (size dst src off imm : Int) (h : 1 ≤ op ∧ op ≤ 39) (h32 : namedL op nar reg / 32 % 2 = 0) (w : World) : Calls Tryd.prog 97 #[.agg #[.int .i64 op, .bool nar, .bool reg, .int .i64 size, .int .i64 dst, .int .i64 src, .int .i64 off, .int .i64 imm]] w fun e w' => e = .returned (.bool (immediateL op nar reg imm)) ∧ Below w.heap.size w w' := by
  have HN := Lib.hid (fun w => named_any op nar reg size dst src off imm h w)
  have n32 := (named_bits (op := op) h nar reg).2.2.2.2.2
  have hb0 := Blk.new w 71 #[.int .i64 op, .bool nar, .bool reg, .int .i64 size, .int .i64 dst, .int .i64 src, .int .i64 off, .int .i64 imm]
  have HE := Lib.hid (show immediateL op nar reg imm = (imm == 0) by unfold immediateL; rw [if_pos h32])
  rw [decide_eq_true h32] at n32
  clear h32 h
  generalize namedL op nar reg = q at *
  go_enter Tryd.func97, Tryd.ntmps97
  go_wp2_with fail
  refine (HN.out _).mono ?_
  rintro e w1 ⟨rfl, hB⟩
  have hb1 := hb0.below hB hb0.lt
  obtain ⟨q0, q1, q2, q3, q4, q5, q6, q7⟩ := box8 op nar reg size dst src off imm hb1
  have hBB := Below.box hB
  clear hB hb1
  go_wp2_with fail
  go_ret
  exact ⟨by rw [HE.out]; rfl, hBB⟩
theorem imm_l {op imm : Int} {nar reg : Bool} (h32 : ¬ namedL op nar reg / 32 % 2 = 0) : immediateL op nar reg imm = (if op = 20 then true else if op = 21 then decide (0 ≤ imm) && decide (imm ≤ 2147483647) else if op = 25 then atomL imm else
  if op = 4 ∨ op = 5 ∨ op = 6 ∨ op = 7 then imm != 0 && fitsL imm 2147483647 else
  if op = 11 ∨ op = 12 ∨ op = 13 then decide (0 ≤ imm) && (decide (imm ≤ 31) || (decide (imm ≤ 63) && !nar)) else fitsL imm 2147483647) := by
  unfold immediateL; rw [if_neg h32]
set_option maxHeartbeats 4000000 in
theorem imm_20 (nar reg : Bool) (size dst src off imm : Int) (h32 : ¬ namedL 20 nar reg / 32 % 2 = 0) (w : World) : Calls Tryd.prog 97 #[.agg #[.int .i64 20, .bool nar, .bool reg, .int .i64 size, .int .i64 dst, .int .i64 src, .int .i64 off, .int .i64 imm]] w fun e w' => e = .returned (.bool (immediateL 20 nar reg imm)) ∧ Below w.heap.size w w' := by
  have HN := Lib.hid (fun w => named_any 20 nar reg size dst src off imm (by decide) w)
  have n32 := (named_bits (op := 20) (by decide) nar reg).2.2.2.2.2
  have hb0 := Blk.new w 71 #[.int .i64 20, .bool nar, .bool reg, .int .i64 size, .int .i64 dst, .int .i64 src, .int .i64 off, .int .i64 imm]
  have HE := Lib.hid (imm_l (imm := imm) h32)
  rw [decide_eq_false h32] at n32
  generalize hq : namedL 20 nar reg = q at *
  clear hq h32
  go_enter Tryd.func97, Tryd.ntmps97
  go_wp2_with fail
  refine (HN.out _).mono ?_
  rintro e w1 ⟨rfl, hB⟩
  have hb1 := hb0.below hB hb0.lt
  obtain ⟨q0, q1, q2, q3, q4, q5, q6, q7⟩ := box8 20 nar reg size dst src off imm hb1
  have hBB := Below.box hB
  clear hB hb1
  go_wp2_with fail
  go_ret
  exact ⟨by rw [HE.out]; rfl, hBB⟩
set_option maxHeartbeats 4000000 in
theorem imm_21 (nar reg : Bool) (size dst src off imm : Int) (h32 : ¬ namedL 21 nar reg / 32 % 2 = 0) (w : World) : Calls Tryd.prog 97 #[.agg #[.int .i64 21, .bool nar, .bool reg, .int .i64 size, .int .i64 dst, .int .i64 src, .int .i64 off, .int .i64 imm]] w fun e w' => e = .returned (.bool (immediateL 21 nar reg imm)) ∧ Below w.heap.size w w' := by
  have HN := Lib.hid (fun w => named_any 21 nar reg size dst src off imm (by decide) w)
  have n32 := (named_bits (op := 21) (by decide) nar reg).2.2.2.2.2
  have hb0 := Blk.new w 71 #[.int .i64 21, .bool nar, .bool reg, .int .i64 size, .int .i64 dst, .int .i64 src, .int .i64 off, .int .i64 imm]
  have HE := Lib.hid (show immediateL 21 nar reg imm = (decide (0 ≤ imm) && decide (imm ≤ 2147483647)) from imm_l h32)
  rw [decide_eq_false h32] at n32
  generalize hq : namedL 21 nar reg = q at *
  clear hq h32
  by_cases h0 : 0 ≤ imm
  · have HE2 := Lib.hid (show immediateL 21 nar reg imm = decide (imm ≤ 2147483647) by rw [HE.out]; simp [h0])
    go_enter Tryd.func97, Tryd.ntmps97
    go_wp2_with fail
    refine (HN.out _).mono ?_
    rintro e w1 ⟨rfl, hB⟩
    have hb1 := hb0.below hB hb0.lt
    obtain ⟨q0, q1, q2, q3, q4, q5, q6, q7⟩ := box8 21 nar reg size dst src off imm hb1
    have hBB := Below.box hB
    clear hB hb1
    go_wp2_with fail
    go_ret
    exact ⟨by rw [HE2.out]; rfl, hBB⟩
  · have t0 : decide (0 ≤ imm) = false := by simp; omega
    have HE2 := Lib.hid (show immediateL 21 nar reg imm = false by rw [HE.out, t0]; rfl)
    clear h0
    go_enter Tryd.func97, Tryd.ntmps97
    go_wp2_with fail
    refine (HN.out _).mono ?_
    rintro e w1 ⟨rfl, hB⟩
    have hb1 := hb0.below hB hb0.lt
    obtain ⟨q0, q1, q2, q3, q4, q5, q6, q7⟩ := box8 21 nar reg size dst src off imm hb1
    have hBB := Below.box hB
    clear hB hb1
    go_wp2_with fail
    go_ret
    exact ⟨by rw [HE2.out]; rfl, hBB⟩
set_option maxHeartbeats 4000000 in
theorem imm_25 (nar reg : Bool) (size dst src off imm : Int) (h32 : ¬ namedL 25 nar reg / 32 % 2 = 0) (w : World) : Calls Tryd.prog 97 #[.agg #[.int .i64 25, .bool nar, .bool reg, .int .i64 size, .int .i64 dst, .int .i64 src, .int .i64 off, .int .i64 imm]] w fun e w' => e = .returned (.bool (immediateL 25 nar reg imm)) ∧ Below w.heap.size w w' := by
  have HN := Lib.hid (fun w => named_any 25 nar reg size dst src off imm (by decide) w)
  have n32 := (named_bits (op := 25) (by decide) nar reg).2.2.2.2.2
  have hb0 := Blk.new w 71 #[.int .i64 25, .bool nar, .bool reg, .int .i64 size, .int .i64 dst, .int .i64 src, .int .i64 off, .int .i64 imm]
  have HE := Lib.hid (show immediateL 25 nar reg imm = atomL imm from imm_l h32)
  have HA := Lib.hid (fun w => atom_any imm w)
  rw [decide_eq_false h32] at n32
  generalize hq : namedL 25 nar reg = q at *
  clear hq h32
  generalize atomL imm = r at *
  go_enter Tryd.func97, Tryd.ntmps97
  go_wp2_with fail
  refine (HN.out _).mono ?_
  rintro e w1 ⟨rfl, hB⟩
  have hb1 := hb0.below hB hb0.lt
  obtain ⟨q0, q1, q2, q3, q4, q5, q6, q7⟩ := box8 25 nar reg size dst src off imm hb1
  have hBB := Below.box hB
  clear hB hb1
  go_wp2_with fail
  refine (HA.out _).mono ?_
  rintro e w' ⟨rfl, rfl⟩
  go_wp2_with fail
  go_ret
  exact ⟨by rw [HE.out]; rfl, hBB⟩
set_option maxHeartbeats 4000000 in
theorem imm_4 (nar reg : Bool) (size dst src off imm : Int) (h32 : ¬ namedL 4 nar reg / 32 % 2 = 0) (w : World) : Calls Tryd.prog 97 #[.agg #[.int .i64 4, .bool nar, .bool reg, .int .i64 size, .int .i64 dst, .int .i64 src, .int .i64 off, .int .i64 imm]] w fun e w' => e = .returned (.bool (immediateL 4 nar reg imm)) ∧ Below w.heap.size w w' := by
  have HN := Lib.hid (fun w => named_any 4 nar reg size dst src off imm (by decide) w)
  have n32 := (named_bits (op := 4) (by decide) nar reg).2.2.2.2.2
  have hb0 := Blk.new w 71 #[.int .i64 4, .bool nar, .bool reg, .int .i64 size, .int .i64 dst, .int .i64 src, .int .i64 off, .int .i64 imm]
  have HE := Lib.hid (show immediateL 4 nar reg imm = (imm != 0 && fitsL imm 2147483647) from imm_l h32)
  have HF := Lib.hid (show ∀ w, _ from fun w => fits_any imm 2147483647 (by decide) w)
  rw [decide_eq_false h32] at n32
  generalize hq : namedL 4 nar reg = q at *
  clear hq h32
  rw [show (decide (-2147483647 - 1 ≤ imm) && decide (imm ≤ 2147483647)) = fitsL imm 2147483647 from rfl] at HF
  generalize fitsL imm 2147483647 = r at *
  by_cases h0 : imm = 0
  · have t0 : (imm != 0) = false := by simp [h0]
    have HE2 := Lib.hid (show immediateL 4 nar reg imm = false by rw [HE.out, t0]; rfl)
    clear h0
    go_enter Tryd.func97, Tryd.ntmps97
    go_wp2_with fail
    refine (HN.out _).mono ?_
    rintro e w1 ⟨rfl, hB⟩
    have hb1 := hb0.below hB hb0.lt
    obtain ⟨q0, q1, q2, q3, q4, q5, q6, q7⟩ := box8 4 nar reg size dst src off imm hb1
    have hBB := Below.box hB
    clear hB hb1
    go_wp2_with fail
    go_ret
    exact ⟨by rw [HE2.out]; rfl, hBB⟩
  · have t0 : (imm != 0) = true := by simp [h0]
    have HE2 := Lib.hid (show immediateL 4 nar reg imm = r by rw [HE.out, t0]; rfl)
    clear h0
    go_enter Tryd.func97, Tryd.ntmps97
    go_wp2_with fail
    refine (HN.out _).mono ?_
    rintro e w1 ⟨rfl, hB⟩
    have hb1 := hb0.below hB hb0.lt
    obtain ⟨q0, q1, q2, q3, q4, q5, q6, q7⟩ := box8 4 nar reg size dst src off imm hb1
    have hBB := Below.box hB
    clear hB hb1
    go_wp2_with fail
    refine (HF.out _).mono ?_
    rintro e w' ⟨rfl, rfl⟩
    go_wp2_with fail
    go_ret
    exact ⟨by rw [HE2.out]; rfl, hBB⟩
set_option maxHeartbeats 4000000 in
theorem imm_5 (nar reg : Bool) (size dst src off imm : Int) (h32 : ¬ namedL 5 nar reg / 32 % 2 = 0) (w : World) : Calls Tryd.prog 97 #[.agg #[.int .i64 5, .bool nar, .bool reg, .int .i64 size, .int .i64 dst, .int .i64 src, .int .i64 off, .int .i64 imm]] w fun e w' => e = .returned (.bool (immediateL 5 nar reg imm)) ∧ Below w.heap.size w w' := by
  have HN := Lib.hid (fun w => named_any 5 nar reg size dst src off imm (by decide) w)
  have n32 := (named_bits (op := 5) (by decide) nar reg).2.2.2.2.2
  have hb0 := Blk.new w 71 #[.int .i64 5, .bool nar, .bool reg, .int .i64 size, .int .i64 dst, .int .i64 src, .int .i64 off, .int .i64 imm]
  have HE := Lib.hid (show immediateL 5 nar reg imm = (imm != 0 && fitsL imm 2147483647) from imm_l h32)
  have HF := Lib.hid (show ∀ w, _ from fun w => fits_any imm 2147483647 (by decide) w)
  rw [decide_eq_false h32] at n32
  generalize hq : namedL 5 nar reg = q at *
  clear hq h32
  rw [show (decide (-2147483647 - 1 ≤ imm) && decide (imm ≤ 2147483647)) = fitsL imm 2147483647 from rfl] at HF
  generalize fitsL imm 2147483647 = r at *
  by_cases h0 : imm = 0
  · have t0 : (imm != 0) = false := by simp [h0]
    have HE2 := Lib.hid (show immediateL 5 nar reg imm = false by rw [HE.out, t0]; rfl)
    clear h0
    go_enter Tryd.func97, Tryd.ntmps97
    go_wp2_with fail
    refine (HN.out _).mono ?_
    rintro e w1 ⟨rfl, hB⟩
    have hb1 := hb0.below hB hb0.lt
    obtain ⟨q0, q1, q2, q3, q4, q5, q6, q7⟩ := box8 5 nar reg size dst src off imm hb1
    have hBB := Below.box hB
    clear hB hb1
    go_wp2_with fail
    go_ret
    exact ⟨by rw [HE2.out]; rfl, hBB⟩
  · have t0 : (imm != 0) = true := by simp [h0]
    have HE2 := Lib.hid (show immediateL 5 nar reg imm = r by rw [HE.out, t0]; rfl)
    clear h0
    go_enter Tryd.func97, Tryd.ntmps97
    go_wp2_with fail
    refine (HN.out _).mono ?_
    rintro e w1 ⟨rfl, hB⟩
    have hb1 := hb0.below hB hb0.lt
    obtain ⟨q0, q1, q2, q3, q4, q5, q6, q7⟩ := box8 5 nar reg size dst src off imm hb1
    have hBB := Below.box hB
    clear hB hb1
    go_wp2_with fail
    refine (HF.out _).mono ?_
    rintro e w' ⟨rfl, rfl⟩
    go_wp2_with fail
    go_ret
    exact ⟨by rw [HE2.out]; rfl, hBB⟩
set_option maxHeartbeats 4000000 in
theorem imm_6 (nar reg : Bool) (size dst src off imm : Int) (h32 : ¬ namedL 6 nar reg / 32 % 2 = 0) (w : World) : Calls Tryd.prog 97 #[.agg #[.int .i64 6, .bool nar, .bool reg, .int .i64 size, .int .i64 dst, .int .i64 src, .int .i64 off, .int .i64 imm]] w fun e w' => e = .returned (.bool (immediateL 6 nar reg imm)) ∧ Below w.heap.size w w' := by
  have HN := Lib.hid (fun w => named_any 6 nar reg size dst src off imm (by decide) w)
  have n32 := (named_bits (op := 6) (by decide) nar reg).2.2.2.2.2
  have hb0 := Blk.new w 71 #[.int .i64 6, .bool nar, .bool reg, .int .i64 size, .int .i64 dst, .int .i64 src, .int .i64 off, .int .i64 imm]
  have HE := Lib.hid (show immediateL 6 nar reg imm = (imm != 0 && fitsL imm 2147483647) from imm_l h32)
  have HF := Lib.hid (show ∀ w, _ from fun w => fits_any imm 2147483647 (by decide) w)
  rw [decide_eq_false h32] at n32
  generalize hq : namedL 6 nar reg = q at *
  clear hq h32
  rw [show (decide (-2147483647 - 1 ≤ imm) && decide (imm ≤ 2147483647)) = fitsL imm 2147483647 from rfl] at HF
  generalize fitsL imm 2147483647 = r at *
  by_cases h0 : imm = 0
  · have t0 : (imm != 0) = false := by simp [h0]
    have HE2 := Lib.hid (show immediateL 6 nar reg imm = false by rw [HE.out, t0]; rfl)
    clear h0
    go_enter Tryd.func97, Tryd.ntmps97
    go_wp2_with fail
    refine (HN.out _).mono ?_
    rintro e w1 ⟨rfl, hB⟩
    have hb1 := hb0.below hB hb0.lt
    obtain ⟨q0, q1, q2, q3, q4, q5, q6, q7⟩ := box8 6 nar reg size dst src off imm hb1
    have hBB := Below.box hB
    clear hB hb1
    go_wp2_with fail
    go_ret
    exact ⟨by rw [HE2.out]; rfl, hBB⟩
  · have t0 : (imm != 0) = true := by simp [h0]
    have HE2 := Lib.hid (show immediateL 6 nar reg imm = r by rw [HE.out, t0]; rfl)
    clear h0
    go_enter Tryd.func97, Tryd.ntmps97
    go_wp2_with fail
    refine (HN.out _).mono ?_
    rintro e w1 ⟨rfl, hB⟩
    have hb1 := hb0.below hB hb0.lt
    obtain ⟨q0, q1, q2, q3, q4, q5, q6, q7⟩ := box8 6 nar reg size dst src off imm hb1
    have hBB := Below.box hB
    clear hB hb1
    go_wp2_with fail
    refine (HF.out _).mono ?_
    rintro e w' ⟨rfl, rfl⟩
    go_wp2_with fail
    go_ret
    exact ⟨by rw [HE2.out]; rfl, hBB⟩
set_option maxHeartbeats 4000000 in
theorem imm_7 (nar reg : Bool) (size dst src off imm : Int) (h32 : ¬ namedL 7 nar reg / 32 % 2 = 0) (w : World) : Calls Tryd.prog 97 #[.agg #[.int .i64 7, .bool nar, .bool reg, .int .i64 size, .int .i64 dst, .int .i64 src, .int .i64 off, .int .i64 imm]] w fun e w' => e = .returned (.bool (immediateL 7 nar reg imm)) ∧ Below w.heap.size w w' := by
  have HN := Lib.hid (fun w => named_any 7 nar reg size dst src off imm (by decide) w)
  have n32 := (named_bits (op := 7) (by decide) nar reg).2.2.2.2.2
  have hb0 := Blk.new w 71 #[.int .i64 7, .bool nar, .bool reg, .int .i64 size, .int .i64 dst, .int .i64 src, .int .i64 off, .int .i64 imm]
  have HE := Lib.hid (show immediateL 7 nar reg imm = (imm != 0 && fitsL imm 2147483647) from imm_l h32)
  have HF := Lib.hid (show ∀ w, _ from fun w => fits_any imm 2147483647 (by decide) w)
  rw [decide_eq_false h32] at n32
  generalize hq : namedL 7 nar reg = q at *
  clear hq h32
  rw [show (decide (-2147483647 - 1 ≤ imm) && decide (imm ≤ 2147483647)) = fitsL imm 2147483647 from rfl] at HF
  generalize fitsL imm 2147483647 = r at *
  by_cases h0 : imm = 0
  · have t0 : (imm != 0) = false := by simp [h0]
    have HE2 := Lib.hid (show immediateL 7 nar reg imm = false by rw [HE.out, t0]; rfl)
    clear h0
    go_enter Tryd.func97, Tryd.ntmps97
    go_wp2_with fail
    refine (HN.out _).mono ?_
    rintro e w1 ⟨rfl, hB⟩
    have hb1 := hb0.below hB hb0.lt
    obtain ⟨q0, q1, q2, q3, q4, q5, q6, q7⟩ := box8 7 nar reg size dst src off imm hb1
    have hBB := Below.box hB
    clear hB hb1
    go_wp2_with fail
    go_ret
    exact ⟨by rw [HE2.out]; rfl, hBB⟩
  · have t0 : (imm != 0) = true := by simp [h0]
    have HE2 := Lib.hid (show immediateL 7 nar reg imm = r by rw [HE.out, t0]; rfl)
    clear h0
    go_enter Tryd.func97, Tryd.ntmps97
    go_wp2_with fail
    refine (HN.out _).mono ?_
    rintro e w1 ⟨rfl, hB⟩
    have hb1 := hb0.below hB hb0.lt
    obtain ⟨q0, q1, q2, q3, q4, q5, q6, q7⟩ := box8 7 nar reg size dst src off imm hb1
    have hBB := Below.box hB
    clear hB hb1
    go_wp2_with fail
    refine (HF.out _).mono ?_
    rintro e w' ⟨rfl, rfl⟩
    go_wp2_with fail
    go_ret
    exact ⟨by rw [HE2.out]; rfl, hBB⟩
set_option maxHeartbeats 4000000 in
theorem imm_11 (nar reg : Bool) (size dst src off imm : Int) (h32 : ¬ namedL 11 nar reg / 32 % 2 = 0) (w : World) : Calls Tryd.prog 97 #[.agg #[.int .i64 11, .bool nar, .bool reg, .int .i64 size, .int .i64 dst, .int .i64 src, .int .i64 off, .int .i64 imm]] w fun e w' => e = .returned (.bool (immediateL 11 nar reg imm)) ∧ Below w.heap.size w w' := by
  have HN := Lib.hid (fun w => named_any 11 nar reg size dst src off imm (by decide) w)
  have n32 := (named_bits (op := 11) (by decide) nar reg).2.2.2.2.2
  have hb0 := Blk.new w 71 #[.int .i64 11, .bool nar, .bool reg, .int .i64 size, .int .i64 dst, .int .i64 src, .int .i64 off, .int .i64 imm]
  have HE := Lib.hid (show immediateL 11 nar reg imm = (decide (0 ≤ imm) && (decide (imm ≤ 31) || (decide (imm ≤ 63) && !nar))) from imm_l h32)
  rw [decide_eq_false h32] at n32
  generalize hq : namedL 11 nar reg = q at *
  clear hq h32
  rcases arms3 (!decide (0 ≤ imm)) (decide (imm ≤ 31)) (decide (imm ≤ 63)) with t0 | ⟨t0, t1⟩ | ⟨t0, t1, t2⟩ | ⟨t0, t1, t2⟩
  · have z0 : decide (0 ≤ imm) = false := by cases h : decide (0 ≤ imm) <;> simp_all
    have HE2 := Lib.hid (show immediateL 11 nar reg imm = false by rw [HE.out, z0]; rfl)
    clear t0 HE
    go_enter Tryd.func97, Tryd.ntmps97
    go_wp2_with fail
    refine (HN.out _).mono ?_
    rintro e w1 ⟨rfl, hB⟩
    have hb1 := hb0.below hB hb0.lt
    obtain ⟨q0, q1, q2, q3, q4, q5, q6, q7⟩ := box8 11 nar reg size dst src off imm hb1
    have hBB := Below.box hB
    clear hB hb1
    go_wp2_with fail
    go_ret
    exact ⟨by rw [HE2.out]; rfl, hBB⟩
  · have z0 : decide (0 ≤ imm) = true := by cases h : decide (0 ≤ imm) <;> simp_all
    have HE2 := Lib.hid (show immediateL 11 nar reg imm = true by rw [HE.out, z0, t1]; rfl)
    clear t0 HE
    go_enter Tryd.func97, Tryd.ntmps97
    go_wp2_with fail
    refine (HN.out _).mono ?_
    rintro e w1 ⟨rfl, hB⟩
    have hb1 := hb0.below hB hb0.lt
    obtain ⟨q0, q1, q2, q3, q4, q5, q6, q7⟩ := box8 11 nar reg size dst src off imm hb1
    have hBB := Below.box hB
    clear hB hb1
    go_wp2_with fail
    go_ret
    exact ⟨by rw [HE2.out]; rfl, hBB⟩
  · have z0 : decide (0 ≤ imm) = true := by cases h : decide (0 ≤ imm) <;> simp_all
    have HE2 := Lib.hid (show immediateL 11 nar reg imm = !nar by rw [HE.out, z0, t1, t2]; rfl)
    clear t0 HE
    go_enter Tryd.func97, Tryd.ntmps97
    go_wp2_with fail
    refine (HN.out _).mono ?_
    rintro e w1 ⟨rfl, hB⟩
    have hb1 := hb0.below hB hb0.lt
    obtain ⟨q0, q1, q2, q3, q4, q5, q6, q7⟩ := box8 11 nar reg size dst src off imm hb1
    have hBB := Below.box hB
    clear hB hb1
    go_wp2_with fail
    go_ret
    exact ⟨by rw [HE2.out]; rfl, hBB⟩
  · have z0 : decide (0 ≤ imm) = true := by cases h : decide (0 ≤ imm) <;> simp_all
    have HE2 := Lib.hid (show immediateL 11 nar reg imm = false by rw [HE.out, z0, t1, t2]; rfl)
    clear t0 HE
    go_enter Tryd.func97, Tryd.ntmps97
    go_wp2_with fail
    refine (HN.out _).mono ?_
    rintro e w1 ⟨rfl, hB⟩
    have hb1 := hb0.below hB hb0.lt
    obtain ⟨q0, q1, q2, q3, q4, q5, q6, q7⟩ := box8 11 nar reg size dst src off imm hb1
    have hBB := Below.box hB
    clear hB hb1
    go_wp2_with fail
    go_ret
    exact ⟨by rw [HE2.out]; rfl, hBB⟩
set_option maxHeartbeats 4000000 in
theorem imm_12 (nar reg : Bool) (size dst src off imm : Int) (h32 : ¬ namedL 12 nar reg / 32 % 2 = 0) (w : World) : Calls Tryd.prog 97 #[.agg #[.int .i64 12, .bool nar, .bool reg, .int .i64 size, .int .i64 dst, .int .i64 src, .int .i64 off, .int .i64 imm]] w fun e w' => e = .returned (.bool (immediateL 12 nar reg imm)) ∧ Below w.heap.size w w' := by
  have HN := Lib.hid (fun w => named_any 12 nar reg size dst src off imm (by decide) w)
  have n32 := (named_bits (op := 12) (by decide) nar reg).2.2.2.2.2
  have hb0 := Blk.new w 71 #[.int .i64 12, .bool nar, .bool reg, .int .i64 size, .int .i64 dst, .int .i64 src, .int .i64 off, .int .i64 imm]
  have HE := Lib.hid (show immediateL 12 nar reg imm = (decide (0 ≤ imm) && (decide (imm ≤ 31) || (decide (imm ≤ 63) && !nar))) from imm_l h32)
  rw [decide_eq_false h32] at n32
  generalize hq : namedL 12 nar reg = q at *
  clear hq h32
  rcases arms3 (!decide (0 ≤ imm)) (decide (imm ≤ 31)) (decide (imm ≤ 63)) with t0 | ⟨t0, t1⟩ | ⟨t0, t1, t2⟩ | ⟨t0, t1, t2⟩
  · have z0 : decide (0 ≤ imm) = false := by cases h : decide (0 ≤ imm) <;> simp_all
    have HE2 := Lib.hid (show immediateL 12 nar reg imm = false by rw [HE.out, z0]; rfl)
    clear t0 HE
    go_enter Tryd.func97, Tryd.ntmps97
    go_wp2_with fail
    refine (HN.out _).mono ?_
    rintro e w1 ⟨rfl, hB⟩
    have hb1 := hb0.below hB hb0.lt
    obtain ⟨q0, q1, q2, q3, q4, q5, q6, q7⟩ := box8 12 nar reg size dst src off imm hb1
    have hBB := Below.box hB
    clear hB hb1
    go_wp2_with fail
    go_ret
    exact ⟨by rw [HE2.out]; rfl, hBB⟩
  · have z0 : decide (0 ≤ imm) = true := by cases h : decide (0 ≤ imm) <;> simp_all
    have HE2 := Lib.hid (show immediateL 12 nar reg imm = true by rw [HE.out, z0, t1]; rfl)
    clear t0 HE
    go_enter Tryd.func97, Tryd.ntmps97
    go_wp2_with fail
    refine (HN.out _).mono ?_
    rintro e w1 ⟨rfl, hB⟩
    have hb1 := hb0.below hB hb0.lt
    obtain ⟨q0, q1, q2, q3, q4, q5, q6, q7⟩ := box8 12 nar reg size dst src off imm hb1
    have hBB := Below.box hB
    clear hB hb1
    go_wp2_with fail
    go_ret
    exact ⟨by rw [HE2.out]; rfl, hBB⟩
  · have z0 : decide (0 ≤ imm) = true := by cases h : decide (0 ≤ imm) <;> simp_all
    have HE2 := Lib.hid (show immediateL 12 nar reg imm = !nar by rw [HE.out, z0, t1, t2]; rfl)
    clear t0 HE
    go_enter Tryd.func97, Tryd.ntmps97
    go_wp2_with fail
    refine (HN.out _).mono ?_
    rintro e w1 ⟨rfl, hB⟩
    have hb1 := hb0.below hB hb0.lt
    obtain ⟨q0, q1, q2, q3, q4, q5, q6, q7⟩ := box8 12 nar reg size dst src off imm hb1
    have hBB := Below.box hB
    clear hB hb1
    go_wp2_with fail
    go_ret
    exact ⟨by rw [HE2.out]; rfl, hBB⟩
  · have z0 : decide (0 ≤ imm) = true := by cases h : decide (0 ≤ imm) <;> simp_all
    have HE2 := Lib.hid (show immediateL 12 nar reg imm = false by rw [HE.out, z0, t1, t2]; rfl)
    clear t0 HE
    go_enter Tryd.func97, Tryd.ntmps97
    go_wp2_with fail
    refine (HN.out _).mono ?_
    rintro e w1 ⟨rfl, hB⟩
    have hb1 := hb0.below hB hb0.lt
    obtain ⟨q0, q1, q2, q3, q4, q5, q6, q7⟩ := box8 12 nar reg size dst src off imm hb1
    have hBB := Below.box hB
    clear hB hb1
    go_wp2_with fail
    go_ret
    exact ⟨by rw [HE2.out]; rfl, hBB⟩
set_option maxHeartbeats 4000000 in
theorem imm_13 (nar reg : Bool) (size dst src off imm : Int) (h32 : ¬ namedL 13 nar reg / 32 % 2 = 0) (w : World) : Calls Tryd.prog 97 #[.agg #[.int .i64 13, .bool nar, .bool reg, .int .i64 size, .int .i64 dst, .int .i64 src, .int .i64 off, .int .i64 imm]] w fun e w' => e = .returned (.bool (immediateL 13 nar reg imm)) ∧ Below w.heap.size w w' := by
  have HN := Lib.hid (fun w => named_any 13 nar reg size dst src off imm (by decide) w)
  have n32 := (named_bits (op := 13) (by decide) nar reg).2.2.2.2.2
  have hb0 := Blk.new w 71 #[.int .i64 13, .bool nar, .bool reg, .int .i64 size, .int .i64 dst, .int .i64 src, .int .i64 off, .int .i64 imm]
  have HE := Lib.hid (show immediateL 13 nar reg imm = (decide (0 ≤ imm) && (decide (imm ≤ 31) || (decide (imm ≤ 63) && !nar))) from imm_l h32)
  rw [decide_eq_false h32] at n32
  generalize hq : namedL 13 nar reg = q at *
  clear hq h32
  rcases arms3 (!decide (0 ≤ imm)) (decide (imm ≤ 31)) (decide (imm ≤ 63)) with t0 | ⟨t0, t1⟩ | ⟨t0, t1, t2⟩ | ⟨t0, t1, t2⟩
  · have z0 : decide (0 ≤ imm) = false := by cases h : decide (0 ≤ imm) <;> simp_all
    have HE2 := Lib.hid (show immediateL 13 nar reg imm = false by rw [HE.out, z0]; rfl)
    clear t0 HE
    go_enter Tryd.func97, Tryd.ntmps97
    go_wp2_with fail
    refine (HN.out _).mono ?_
    rintro e w1 ⟨rfl, hB⟩
    have hb1 := hb0.below hB hb0.lt
    obtain ⟨q0, q1, q2, q3, q4, q5, q6, q7⟩ := box8 13 nar reg size dst src off imm hb1
    have hBB := Below.box hB
    clear hB hb1
    go_wp2_with fail
    go_ret
    exact ⟨by rw [HE2.out]; rfl, hBB⟩
  · have z0 : decide (0 ≤ imm) = true := by cases h : decide (0 ≤ imm) <;> simp_all
    have HE2 := Lib.hid (show immediateL 13 nar reg imm = true by rw [HE.out, z0, t1]; rfl)
    clear t0 HE
    go_enter Tryd.func97, Tryd.ntmps97
    go_wp2_with fail
    refine (HN.out _).mono ?_
    rintro e w1 ⟨rfl, hB⟩
    have hb1 := hb0.below hB hb0.lt
    obtain ⟨q0, q1, q2, q3, q4, q5, q6, q7⟩ := box8 13 nar reg size dst src off imm hb1
    have hBB := Below.box hB
    clear hB hb1
    go_wp2_with fail
    go_ret
    exact ⟨by rw [HE2.out]; rfl, hBB⟩
  · have z0 : decide (0 ≤ imm) = true := by cases h : decide (0 ≤ imm) <;> simp_all
    have HE2 := Lib.hid (show immediateL 13 nar reg imm = !nar by rw [HE.out, z0, t1, t2]; rfl)
    clear t0 HE
    go_enter Tryd.func97, Tryd.ntmps97
    go_wp2_with fail
    refine (HN.out _).mono ?_
    rintro e w1 ⟨rfl, hB⟩
    have hb1 := hb0.below hB hb0.lt
    obtain ⟨q0, q1, q2, q3, q4, q5, q6, q7⟩ := box8 13 nar reg size dst src off imm hb1
    have hBB := Below.box hB
    clear hB hb1
    go_wp2_with fail
    go_ret
    exact ⟨by rw [HE2.out]; rfl, hBB⟩
  · have z0 : decide (0 ≤ imm) = true := by cases h : decide (0 ≤ imm) <;> simp_all
    have HE2 := Lib.hid (show immediateL 13 nar reg imm = false by rw [HE.out, z0, t1, t2]; rfl)
    clear t0 HE
    go_enter Tryd.func97, Tryd.ntmps97
    go_wp2_with fail
    refine (HN.out _).mono ?_
    rintro e w1 ⟨rfl, hB⟩
    have hb1 := hb0.below hB hb0.lt
    obtain ⟨q0, q1, q2, q3, q4, q5, q6, q7⟩ := box8 13 nar reg size dst src off imm hb1
    have hBB := Below.box hB
    clear hB hb1
    go_wp2_with fail
    go_ret
    exact ⟨by rw [HE2.out]; rfl, hBB⟩
set_option maxHeartbeats 4000000 in
theorem imm_else (op : Int) (nar reg : Bool) (size dst src off imm : Int) (h : 1 ≤ op ∧ op ≤ 39) (h32 : ¬ namedL op nar reg / 32 % 2 = 0) (h20 : op ≠ 20) (h21 : op ≠ 21) (h25 : op ≠ 25) (h4 : op ≠ 4) (h5 : op ≠ 5) (h6 : op ≠ 6) (h7 : op ≠ 7) (h11 : op ≠ 11) (h12 : op ≠ 12) (h13 : op ≠ 13) (w : World) : Calls Tryd.prog 97 #[.agg #[.int .i64 op, .bool nar, .bool reg, .int .i64 size, .int .i64 dst, .int .i64 src, .int .i64 off, .int .i64 imm]] w fun e w' => e = .returned (.bool (immediateL op nar reg imm)) ∧ Below w.heap.size w w' := by
  have HN := Lib.hid (fun w => named_any op nar reg size dst src off imm h w)
  have n32 := (named_bits (op := op) h nar reg).2.2.2.2.2
  have hb0 := Blk.new w 71 #[.int .i64 op, .bool nar, .bool reg, .int .i64 size, .int .i64 dst, .int .i64 src, .int .i64 off, .int .i64 imm]
  have HE := Lib.hid (show immediateL op nar reg imm = fitsL imm 2147483647 by rw [imm_l h32]; simp [h20, h21, h25, h4, h5, h6, h7, h11, h12, h13])
  have t20 : (op == 20) = false := by rw [beq_eq_false_iff_ne]; exact h20
  have t21 : (op == 21) = false := by rw [beq_eq_false_iff_ne]; exact h21
  have t25 : (op == 25) = false := by rw [beq_eq_false_iff_ne]; exact h25
  have t4 : (op == 4) = false := by rw [beq_eq_false_iff_ne]; exact h4
  have t5 : (op == 5) = false := by rw [beq_eq_false_iff_ne]; exact h5
  have t6 : (op == 6) = false := by rw [beq_eq_false_iff_ne]; exact h6
  have t7 : (op == 7) = false := by rw [beq_eq_false_iff_ne]; exact h7
  have t11 : (op == 11) = false := by rw [beq_eq_false_iff_ne]; exact h11
  have t12 : (op == 12) = false := by rw [beq_eq_false_iff_ne]; exact h12
  have t13 : (op == 13) = false := by rw [beq_eq_false_iff_ne]; exact h13
  have HF := Lib.hid (show ∀ w, _ from fun w => fits_any imm 2147483647 (by decide) w)
  clear h20 h21 h25 h4 h5 h6 h7 h11 h12 h13 h
  rw [decide_eq_false h32] at n32
  generalize hq : namedL op nar reg = q at *
  clear hq h32
  rw [show (decide (-2147483647 - 1 ≤ imm) && decide (imm ≤ 2147483647)) = fitsL imm 2147483647 from rfl] at HF
  generalize fitsL imm 2147483647 = r at *
  go_enter Tryd.func97, Tryd.ntmps97
  go_wp2_with fail
  refine (HN.out _).mono ?_
  rintro e w1 ⟨rfl, hB⟩
  have hb1 := hb0.below hB hb0.lt
  obtain ⟨q0, q1, q2, q3, q4, q5, q6, q7⟩ := box8 op nar reg size dst src off imm hb1
  have hBB := Below.box hB
  clear hB hb1
  go_wp2_with fail
  refine (HF.out _).mono ?_
  rintro e w' ⟨rfl, rfl⟩
  go_wp2_with fail
  go_ret
  exact ⟨by rw [HE.out]; rfl, hBB⟩
theorem immediate_any (op : Int) (nar reg : Bool) (size dst src off imm : Int) (h : 1 ≤ op ∧ op ≤ 39) (w : World) : Calls Tryd.prog 97 #[.agg #[.int .i64 op, .bool nar, .bool reg, .int .i64 size, .int .i64 dst, .int .i64 src, .int .i64 off, .int .i64 imm]] w fun e w' => e = .returned (.bool (immediateL op nar reg imm)) ∧ Below w.heap.size w w' := by
  by_cases h32 : namedL op nar reg / 32 % 2 = 0
  · exact imm_none op nar reg size dst src off imm h h32 w
  by_cases h20 : op = 20
  · subst h20; exact imm_20 nar reg size dst src off imm h32 w
  by_cases h21 : op = 21
  · subst h21; exact imm_21 nar reg size dst src off imm h32 w
  by_cases h25 : op = 25
  · subst h25; exact imm_25 nar reg size dst src off imm h32 w
  by_cases h4 : op = 4
  · subst h4; exact imm_4 nar reg size dst src off imm h32 w
  by_cases h5 : op = 5
  · subst h5; exact imm_5 nar reg size dst src off imm h32 w
  by_cases h6 : op = 6
  · subst h6; exact imm_6 nar reg size dst src off imm h32 w
  by_cases h7 : op = 7
  · subst h7; exact imm_7 nar reg size dst src off imm h32 w
  by_cases h11 : op = 11
  · subst h11; exact imm_11 nar reg size dst src off imm h32 w
  by_cases h12 : op = 12
  · subst h12; exact imm_12 nar reg size dst src off imm h32 w
  by_cases h13 : op = 13
  · subst h13; exact imm_13 nar reg size dst src off imm h32 w
  exact imm_else op nar reg size dst src off imm h h32 h20 h21 h25 h4 h5 h6 h7 h11 h12 h13 w

theorem operates_in {op : Int} {nar reg : Bool} {size : Int} (h : operatesL op nar reg size = true) : 1 ≤ op ∧ op ≤ 39 := by
  by_cases h1 : op < 1 ∨ 39 < op
  · unfold operatesL at h; rw [if_pos h1] at h; cases h
  · omega
theorem stepB {w wa wb : World} {g : Nat} {t : TypeId} {cs : Array Value} (hb : Blk wa g t cs) (hB : Below w.heap.size w wa) (h : Below wa.heap.size wa wb) : Blk wb g t cs ∧ Below w.heap.size w wb := ⟨hb.below h hb.lt, hB.trans (h.mono hB.size)⟩
set_option maxHeartbeats 4000000 in
theorem wrong_any (op : Int) (nar reg : Bool) (size dst src off imm : Int) (w : World) : Calls Tryd.prog 71 #[.agg #[.int .i64 op, .bool nar, .bool reg, .int .i64 size, .int .i64 dst, .int .i64 src, .int .i64 off, .int .i64 imm]] w fun e w' => e = .returned (.int .i64 (wrongL op nar reg size dst src off imm)) ∧ Below w.heap.size w w' := by
  have H1 := Lib.hid (fun w => operates_any op nar reg size dst src off imm w)
  have H2 := Lib.hid (fun h w => registers_any op nar reg size dst src off imm h w)
  have H3 := Lib.hid (fun h w => fields_any op nar reg size dst src off imm h w)
  have H4 := Lib.hid (fun h w => immediate_any op nar reg size dst src off imm h w)
  have hop := @operates_in op nar reg size
  have HOP := Lib.hid hop
  have hw : wrongL op nar reg size dst src off imm = if operatesL op nar reg size = false then 21 else if registersL op nar reg dst src imm = false then 22 else if fieldsL op nar reg dst src off = false then 23 else if immediateL op nar reg imm = false then 24 else 0 := rfl
  have HW := Lib.hid hw
  have hb0 := Blk.new w 71 #[.int .i64 op, .bool nar, .bool reg, .int .i64 size, .int .i64 dst, .int .i64 src, .int .i64 off, .int .i64 imm]
  clear hop hw
  generalize wrongL op nar reg size dst src off imm = X at *
  generalize operatesL op nar reg size = o1 at *
  generalize registersL op nar reg dst src imm = o2 at *
  generalize fieldsL op nar reg dst src off = o3 at *
  generalize immediateL op nar reg imm = o4 at *
  cases o1
  · have HE := Lib.hid (show X = 21 from HW.out)
    go_enter Tryd.func71, Tryd.ntmps71
    go_wp2_with fail
    refine (H1.out _).mono ?_
    rintro e w1 ⟨rfl, hB⟩
    have hBB := Below.box hB
    go_wp2_with fail
    go_ret
    exact ⟨by rw [HE.out]; rfl, hBB⟩
  have hin := HOP.out rfl
  have H2' := Lib.hid (H2.out hin)
  have H3' := Lib.hid (H3.out hin)
  have H4' := Lib.hid (H4.out hin)
  clear H2 H3 H4 hin HOP
  cases o2
  · have HE := Lib.hid (show X = 22 from HW.out)
    go_enter Tryd.func71, Tryd.ntmps71
    go_wp2_with fail
    refine (H1.out _).mono ?_
    rintro e w1 ⟨rfl, hB⟩
    obtain ⟨hb1, hB1⟩ := stepB hb0 (below_box _ _) hB
    obtain ⟨q0, q1, q2, q3, q4, q5, q6, q7⟩ := box8 op nar reg size dst src off imm hb1
    clear hB
    go_wp2_with fail
    refine (H2'.out _).mono ?_
    rintro e w2 ⟨rfl, hB⟩
    obtain ⟨hb2, hB2⟩ := stepB hb1 hB1 hB
    clear q0 q1 q2 q3 q4 q5 q6 q7
    go_wp2_with fail
    go_ret
    exact ⟨by rw [HE.out]; rfl, hB2⟩
  cases o3
  · have HE := Lib.hid (show X = 23 from HW.out)
    go_enter Tryd.func71, Tryd.ntmps71
    go_wp2_with fail
    refine (H1.out _).mono ?_
    rintro e w1 ⟨rfl, hB⟩
    obtain ⟨hb1, hB1⟩ := stepB hb0 (below_box _ _) hB
    obtain ⟨q0, q1, q2, q3, q4, q5, q6, q7⟩ := box8 op nar reg size dst src off imm hb1
    clear hB
    go_wp2_with fail
    refine (H2'.out _).mono ?_
    rintro e w2 ⟨rfl, hB⟩
    obtain ⟨hb2, hB2⟩ := stepB hb1 hB1 hB
    clear q0 q1 q2 q3 q4 q5 q6 q7 hB
    obtain ⟨q0, q1, q2, q3, q4, q5, q6, q7⟩ := box8 op nar reg size dst src off imm hb2
    go_wp2_with fail
    refine (H3'.out _).mono ?_
    rintro e w3 ⟨rfl, hB⟩
    obtain ⟨hb3, hB3⟩ := stepB hb2 hB2 hB
    clear q0 q1 q2 q3 q4 q5 q6 q7 hB
    go_wp2_with fail
    go_ret
    exact ⟨by rw [HE.out]; rfl, hB3⟩
  cases o4
  all_goals
    have hx := HW.out
    rw [if_neg (by decide), if_neg (by decide), if_neg (by decide)] at hx
    have HE := Lib.hid hx
    clear hx HW
    go_enter Tryd.func71, Tryd.ntmps71
    go_wp2_with fail
    refine (H1.out _).mono ?_
    rintro e w1 ⟨rfl, hB⟩
    obtain ⟨hb1, hB1⟩ := stepB hb0 (below_box _ _) hB
    obtain ⟨q0, q1, q2, q3, q4, q5, q6, q7⟩ := box8 op nar reg size dst src off imm hb1
    clear hB
    go_wp2_with fail
    refine (H2'.out _).mono ?_
    rintro e w2 ⟨rfl, hB⟩
    obtain ⟨hb2, hB2⟩ := stepB hb1 hB1 hB
    clear q0 q1 q2 q3 q4 q5 q6 q7 hB
    obtain ⟨q0, q1, q2, q3, q4, q5, q6, q7⟩ := box8 op nar reg size dst src off imm hb2
    go_wp2_with fail
    refine (H3'.out _).mono ?_
    rintro e w3 ⟨rfl, hB⟩
    obtain ⟨hb3, hB3⟩ := stepB hb2 hB2 hB
    clear q0 q1 q2 q3 q4 q5 q6 q7 hB
    obtain ⟨q0, q1, q2, q3, q4, q5, q6, q7⟩ := box8 op nar reg size dst src off imm hb3
    go_wp2_with fail
    refine (H4'.out _).mono ?_
    rintro e w4 ⟨rfl, hB⟩
    obtain ⟨hb4, hB4⟩ := stepB hb3 hB3 hB
    clear q0 q1 q2 q3 q4 q5 q6 q7 hB
    go_wp2_with fail
    go_ret
    exact ⟨by rw [HE.out]; rfl, hB4⟩

end Go.Proofs.YtlodoinmippebaaDoor
