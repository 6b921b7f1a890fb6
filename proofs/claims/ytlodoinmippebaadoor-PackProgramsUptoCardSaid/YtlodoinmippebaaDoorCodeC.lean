/- Contracts of package code: fetches, atom, operates, registers, fields, immediate, wrong. -/
import Derived.Test.YtlodoinmippebaaDoorCodeB
namespace Go.Proofs.YtlodoinmippebaaDoor
open Go.ChangeShapes Go.WideShapes Go.ChangeAt Go.RowKit
open Cod
set_option linter.unusedVariables false

set_option maxHeartbeats 2000000 in
theorem fetches_any (imm : Int) (w : World) : Calls Tryd.prog 120 #[.int .i64 imm] w fun e w' => e = .returned (.bool (fetchesL imm)) ∧ w = w' := by
  by_cases h1 : imm = 1
  · subst h1
    go_enter Tryd.func120, Tryd.ntmps120
    go_wp2_with fail
    go_ret
    exact ⟨rfl, rfl⟩
  · have t1 : (imm == 1) = false := by rw [beq_eq_false_iff_ne]; exact h1
    clear h1
    by_cases h65 : imm = 65
    · subst h65
      go_enter Tryd.func120, Tryd.ntmps120
      go_wp2_with fail
      go_ret
      exact ⟨rfl, rfl⟩
    · have t65 : (imm == 65) = false := by rw [beq_eq_false_iff_ne]; exact h65
      clear h65
      by_cases h81 : imm = 81
      · subst h81
        go_enter Tryd.func120, Tryd.ntmps120
        go_wp2_with fail
        go_ret
        exact ⟨rfl, rfl⟩
      · have t81 : (imm == 81) = false := by rw [beq_eq_false_iff_ne]; exact h81
        clear h81
        by_cases h161 : imm = 161
        · subst h161
          go_enter Tryd.func120, Tryd.ntmps120
          go_wp2_with fail
          go_ret
          exact ⟨rfl, rfl⟩
        · have t161 : (imm == 161) = false := by rw [beq_eq_false_iff_ne]; exact h161
          clear h161
          by_cases h225 : imm = 225
          · subst h225
            go_enter Tryd.func120, Tryd.ntmps120
            go_wp2_with fail
            go_ret
            exact ⟨rfl, rfl⟩
          · have t225 : (imm == 225) = false := by rw [beq_eq_false_iff_ne]; exact h225
            clear h225
            have HE := Lib.hid (show fetchesL imm = false by simp [fetchesL, t1, t65, t81, t161, t225])
            go_enter Tryd.func120, Tryd.ntmps120
            go_wp2_with fail
            go_ret
            exact ⟨by rw [HE.out]; rfl, rfl⟩
set_option maxHeartbeats 2000000 in
theorem atom_any (imm : Int) (w : World) : Calls Tryd.prog 121 #[.int .i64 imm] w fun e w' => e = .returned (.bool (atomL imm)) ∧ w = w' := by
  by_cases h0 : imm = 0
  · subst h0
    go_enter Tryd.func121, Tryd.ntmps121
    go_wp2_with fail
    go_ret
    exact ⟨rfl, rfl⟩
  · have t0 : (imm == 0) = false := by rw [beq_eq_false_iff_ne]; exact h0
    clear h0
    by_cases h64 : imm = 64
    · subst h64
      go_enter Tryd.func121, Tryd.ntmps121
      go_wp2_with fail
      go_ret
      exact ⟨rfl, rfl⟩
    · have t64 : (imm == 64) = false := by rw [beq_eq_false_iff_ne]; exact h64
      clear h64
      by_cases h80 : imm = 80
      · subst h80
        go_enter Tryd.func121, Tryd.ntmps121
        go_wp2_with fail
        go_ret
        exact ⟨rfl, rfl⟩
      · have t80 : (imm == 80) = false := by rw [beq_eq_false_iff_ne]; exact h80
        clear h80
        by_cases h160 : imm = 160
        · subst h160
          go_enter Tryd.func121, Tryd.ntmps121
          go_wp2_with fail
          go_ret
          exact ⟨rfl, rfl⟩
        · have t160 : (imm == 160) = false := by rw [beq_eq_false_iff_ne]; exact h160
          clear h160
          by_cases h241 : imm = 241
          · subst h241
            go_enter Tryd.func121, Tryd.ntmps121
            go_wp2_with fail
            go_ret
            exact ⟨rfl, rfl⟩
          · have t241 : (imm == 241) = false := by rw [beq_eq_false_iff_ne]; exact h241
            clear h241
            have HE := Lib.hid (show atomL imm = fetchesL imm by simp [atomL, t0, t64, t80, t160, t241])
            have C := Lib.hid (fetches_any imm)
            generalize fetchesL imm = r at *
            go_enter Tryd.func121, Tryd.ntmps121
            go_wp2_with fail
            refine (C.out _).mono ?_
            rintro e w' ⟨rfl, rfl⟩
            go_wp2_with fail
            go_ret
            exact ⟨by rw [HE.out]; rfl, rfl⟩

theorem sized_b (op : Int) (nar reg : Bool) (size dst src off imm : Int) (w0 w : World) (hB : Below w0.heap.size w0 w) : Calls Tryd.prog 96 #[.agg #[.int .i64 op, .bool nar, .bool reg, .int .i64 size, .int .i64 dst, .int .i64 src, .int .i64 off, .int .i64 imm]] w fun e w' => e = .returned (.bool (sizedL op nar size)) ∧ Below w0.heap.size w0 w' :=
  (sized_any op nar reg size dst src off imm w).mono fun _ _ ⟨h1, h2⟩ => ⟨h1, hB.trans (h2.mono hB.size)⟩
theorem operates_out (op : Int) (nar reg : Bool) (size dst src off imm : Int) (h : op < 1 ∨ 39 < op) (w : World) : Calls Tryd.prog 103 #[.agg #[.int .i64 op, .bool nar, .bool reg, .int .i64 size, .int .i64 dst, .int .i64 src, .int .i64 off, .int .i64 imm]] w fun e w' => e = .returned (.bool (operatesL op nar reg size)) ∧ Below w.heap.size w w' := by
  have HE := Lib.hid (show operatesL op nar reg size = false by unfold operatesL; rw [if_pos h])
  rcases h with h | h
  · have t1 : decide (op < 1) = true := by simp; omega
    go_enter Tryd.func103, Tryd.ntmps103
    go_wp2_with fail
    go_ret
    exact ⟨by rw [HE.out]; rfl, below_box _ _⟩
  · have t1 : decide (op < 1) = false := by simp; omega
    have t2 : decide (39 < op) = true := by simp; omega
    go_enter Tryd.func103, Tryd.ntmps103
    go_wp2_with fail
    go_ret
    exact ⟨by rw [HE.out]; rfl, below_box _ _⟩
theorem operatesL_in {op : Int} (h : 1 ≤ op ∧ op ≤ 39) (nar reg : Bool) (size : Int) : operatesL op nar reg size = if op = 16 ∧ reg = false then false else (rowL op % 2 == 1 || !nar) && (rowL op / 2 % 2 == 1 || !reg) && sizedL op nar size := by
  unfold operatesL; rw [if_neg (by omega)]
theorem row_b1 {op : Int} (h : 1 ≤ op ∧ op ≤ 39) : (bits BinOp.and IntKind.i64 (rowL op) 1 != 0) = (rowL op % 2 == 1) ∧ (bits BinOp.and IntKind.i64 (rowL op) 2 != 0) = (rowL op / 2 % 2 == 1) := by
  rcases ops_cases h with rfl | rfl | rfl | rfl | rfl | rfl | rfl | rfl | rfl | rfl | rfl | rfl | rfl | rfl | rfl | rfl | rfl | rfl | rfl | rfl | rfl | rfl | rfl | rfl | rfl | rfl | rfl | rfl | rfl | rfl | rfl | rfl | rfl | rfl | rfl | rfl | rfl | rfl | rfl <;> decide +kernel
set_option maxHeartbeats 8000000 in
theorem operates_any (op : Int) (nar reg : Bool) (size dst src off imm : Int) (w : World) : Calls Tryd.prog 103 #[.agg #[.int .i64 op, .bool nar, .bool reg, .int .i64 size, .int .i64 dst, .int .i64 src, .int .i64 off, .int .i64 imm]] w fun e w' => e = .returned (.bool (operatesL op nar reg size)) ∧ Below w.heap.size w w' := by
  by_cases h : op < 1 ∨ 39 < op
  · exact operates_out op nar reg size dst src off imm h w
  have hin : 1 ≤ op ∧ op ≤ 39 := by omega
  have hop := operatesL_in hin nar reg size
  have hr1 := row_b1 hin
  have R := Lib.hid (fun w => row_any op hin w)
  have t1 : decide (op < 1) = false := by simp; omega
  have t2 : decide (39 < op) = false := by simp; omega
  obtain ⟨b1, hb1⟩ : ∃ b, (rowL op % 2 == 1) = b := ⟨_, rfl⟩
  obtain ⟨b2, hb2⟩ : ∃ b, (rowL op / 2 % 2 == 1) = b := ⟨_, rfl⟩
  rw [hb1, hb2] at hop hr1
  obtain ⟨r1, r2⟩ := hr1
  have HOP := Lib.hid hop
  have HS := Lib.hid (fun w0 w hB => sized_b op nar reg size dst src off imm w0 w hB)
  clear hop hb1 hb2 hin h
  generalize rowL op = p at *
  generalize sizedL op nar size = sz at *
  by_cases h16 : op = 16 ∧ reg = false
  · obtain ⟨rfl, rfl⟩ := h16
    have HE := Lib.hid (show operatesL 16 nar false size = false by rw [HOP.out]; rfl)
    clear HOP
    go_enter Tryd.func103, Tryd.ntmps103
    go_wp2_with fail
    go_ret
    exact ⟨by rw [HE.out]; rfl, below_box _ _⟩
  have hop := HOP.out
  rw [if_neg h16] at hop
  have HE := Lib.hid hop
  have t16 : ((op == 16) = false) ∨ (op == 16) = true ∧ reg = true := by
    by_cases h : op = 16
    · right; exact ⟨by rw [h]; rfl, by cases reg <;> simp_all⟩
    · left; rw [beq_eq_false_iff_ne]; exact h
  clear hop HOP h16
  rcases t16 with t16 | ⟨t16, rfl⟩
  · cases b1 <;> cases nar <;> cases b2 <;> cases reg
    all_goals
      go_enter Tryd.func103, Tryd.ntmps103
      go_wp2_with fail
      refine (R.out _).mono ?_
      rintro e w' ⟨rfl, rfl⟩
      go_wp2_with fail
      first
        | (go_ret; exact ⟨by rw [HE.out]; rfl, below_box _ _⟩)
        | (refine (HS.out w _ (below_box _ _)).mono ?_; rintro e w1 ⟨rfl, hB⟩; go_wp2_with fail; go_ret; exact ⟨by rw [HE.out]; rfl, hB⟩)
  · cases b1 <;> cases nar <;> cases b2
    all_goals
      go_enter Tryd.func103, Tryd.ntmps103
      go_wp2_with fail
      refine (R.out _).mono ?_
      rintro e w' ⟨rfl, rfl⟩
      go_wp2_with fail
      first
        | (go_ret; exact ⟨by rw [HE.out]; rfl, below_box _ _⟩)
        | (refine (HS.out w _ (below_box _ _)).mono ?_; rintro e w1 ⟨rfl, hB⟩; go_wp2_with fail; go_ret; exact ⟨by rw [HE.out]; rfl, hB⟩)

end Go.Proofs.YtlodoinmippebaaDoor
