/- Contracts of package code: fields. -/
import Derived.Test.YtlodoinmippebaaDoorCodeD
namespace Go.Proofs.YtlodoinmippebaaDoor
open Go.ChangeShapes Go.WideShapes Go.ChangeAt Go.RowKit
open Cod
set_option linter.unusedVariables false

set_option maxHeartbeats 8000000 in
theorem fields_any (op : Int) (nar reg : Bool) (size dst src off imm : Int) (h : 1 ≤ op ∧ op ≤ 39) (w : World) : Calls Tryd.prog 104 #[.agg #[.int .i64 op, .bool nar, .bool reg, .int .i64 size, .int .i64 dst, .int .i64 src, .int .i64 off, .int .i64 imm]] w fun e w' => e = .returned (.bool (fieldsL op nar reg dst src off)) ∧ Below w.heap.size w w' := by
  have HN := Lib.hid (fun w => named_any op nar reg size dst src off imm h w)
  have hnb := named_bits h nar reg
  have hrl : fieldsL op nar reg dst src off = ((namedL op nar reg / 4 % 2 == 1 || dst == 0) && (namedL op nar reg / 8 % 2 == 1 || src == 0) && (namedL op nar reg / 16 % 2 == 1 || off == 0) && (decide (-32768 ≤ off) && decide (off ≤ 32767))) := rfl
  obtain ⟨b4, hb4⟩ : ∃ b, (namedL op nar reg / 4 % 2 == 1) = b := ⟨_, rfl⟩
  obtain ⟨b8, hb8⟩ : ∃ b, (namedL op nar reg / 8 % 2 == 1) = b := ⟨_, rfl⟩
  obtain ⟨b16, hb16⟩ : ∃ b, (namedL op nar reg / 16 % 2 == 1) = b := ⟨_, rfl⟩
  obtain ⟨z4, hz4⟩ : ∃ b, (dst == 0) = b := ⟨_, rfl⟩
  obtain ⟨z8, hz8⟩ : ∃ b, (src == 0) = b := ⟨_, rfl⟩
  obtain ⟨z16, hz16⟩ : ∃ b, (off == 0) = b := ⟨_, rfl⟩
  rw [hb4, hb8, hb16] at hnb hrl
  rw [hz4, hz8, hz16] at hrl
  obtain ⟨_, _, n4, n8, n16, -⟩ := hnb
  have HF := Lib.hid (fun w => fits_any off 32767 (by decide) w)
  rw [show (-32767 - 1 : Int) = -32768 by decide] at HF
  clear hb4 hb8 hb16 h
  generalize namedL op nar reg = q at *
  generalize fieldsL op nar reg dst src off = X at *
  generalize (decide (-32768 ≤ off) && decide (off ≤ 32767)) = fo at *
  have HX := Lib.hid hrl
  have hb0 := Blk.new w 71 #[.int .i64 op, .bool nar, .bool reg, .int .i64 size, .int .i64 dst, .int .i64 src, .int .i64 off, .int .i64 imm]
  clear hrl
  rcases arms2 b4 z4 with rfl | ⟨rfl, rfl⟩ | ⟨rfl, rfl⟩
  rotate_right
  · go_enter Tryd.func104, Tryd.ntmps104
    go_wp2_with fail
    refine (HN.out _).mono ?_
    rintro e w1 ⟨rfl, hB⟩
    have hb1 := hb0.below hB hb0.lt
    obtain ⟨q0, q1, q2, q3, q4, q5, q6, q7⟩ := box8 op nar reg size dst src off imm hb1
    have hBB := Below.box hB
    clear hB hb1
    go_wp2_with fail
    go_ret
    exact ⟨by rw [HX.out]; rfl, hBB⟩
  all_goals rcases arms2 b8 z8 with rfl | ⟨rfl, rfl⟩ | ⟨rfl, rfl⟩
  all_goals rcases arms2 b16 z16 with rfl | ⟨rfl, rfl⟩ | ⟨rfl, rfl⟩
  all_goals
    go_enter Tryd.func104, Tryd.ntmps104
    go_wp2_with fail
    refine (HN.out _).mono ?_
    rintro e w1 ⟨rfl, hB⟩
    have hb1 := hb0.below hB hb0.lt
    obtain ⟨q0, q1, q2, q3, q4, q5, q6, q7⟩ := box8 op nar reg size dst src off imm hb1
    have hBB := Below.box hB
    clear hB hb1
    go_wp2_with fail
    first
      | (go_ret; exact ⟨by rw [HX.out]; rfl, hBB⟩)
      | (refine (HF.out _).mono ?_; rintro e w' ⟨rfl, rfl⟩; go_wp2_with fail; go_ret; exact ⟨by rw [HX.out]; rfl, hBB⟩)

end Go.Proofs.YtlodoinmippebaaDoor
