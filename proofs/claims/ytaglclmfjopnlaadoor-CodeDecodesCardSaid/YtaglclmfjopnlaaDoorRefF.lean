/- Single questions of the document's answer for package code: registers, immediates, the row of an instruction, an instruction's error. -/
import Derived.Test.YtaglclmfjopnlaaDoorRefR
namespace Go.Proofs.YtaglclmfjopnlaaDoor
open Go.ChangeShapes Go.WideShapes Go.ChangeAt Go.RowKit
open Cod Bits
set_option linter.unusedVariables false
set_option linter.unusedSimpArgs false

theorem ret_bool {a b : Bool} (h : a = b) : Ending.returned (.bool a) = Ending.returned (.bool b) := by rw [h]
set_option maxHeartbeats 1000000 in
theorem rfetches_any (imm : Int) (w : World) : Calls Tryd.prog 59 #[.int .i64 imm] w fun e w' => e = .returned (.bool (fetchesL imm)) ∧ w = w' := by
  by_cases h1 : imm = 1
  · subst h1
    go_enter Tryd.func59, Tryd.ntmps59
    go_wp2_with fail
    go_ret
    exact ⟨rfl, rfl⟩
  · have t1 : (imm == 1) = false := by rw [beq_eq_false_iff_ne]; exact h1
    clear h1
    by_cases h65 : imm = 65
    · subst h65
      go_enter Tryd.func59, Tryd.ntmps59
      go_wp2_with fail
      go_ret
      exact ⟨rfl, rfl⟩
    · have t65 : (imm == 65) = false := by rw [beq_eq_false_iff_ne]; exact h65
      clear h65
      by_cases h81 : imm = 81
      · subst h81
        go_enter Tryd.func59, Tryd.ntmps59
        go_wp2_with fail
        go_ret
        exact ⟨rfl, rfl⟩
      · have t81 : (imm == 81) = false := by rw [beq_eq_false_iff_ne]; exact h81
        clear h81
        by_cases h161 : imm = 161
        · subst h161
          go_enter Tryd.func59, Tryd.ntmps59
          go_wp2_with fail
          go_ret
          exact ⟨rfl, rfl⟩
        · have t161 : (imm == 161) = false := by rw [beq_eq_false_iff_ne]; exact h161
          clear h161
          by_cases h225 : imm = 225
          · subst h225
            go_enter Tryd.func59, Tryd.ntmps59
            go_wp2_with fail
            go_ret
            exact ⟨rfl, rfl⟩
          · have t225 : (imm == 225) = false := by rw [beq_eq_false_iff_ne]; exact h225
            clear h225
            have HE := Lib.hid (show fetchesL imm = false by unfold fetchesL; rw [t1, t65, t81, t161, t225]; rfl)
            go_enter Tryd.func59, Tryd.ntmps59
            go_wp2_with fail
            go_ret
            exact ⟨by rw [HE.out]; rfl, rfl⟩
set_option maxHeartbeats 1000000 in
theorem ratom_any (imm : Int) (w : World) : Calls Tryd.prog 60 #[.int .i64 imm] w fun e w' => e = .returned (.bool (atomL imm)) ∧ w = w' := by
  have HF := Lib.hid (rfetches_any imm w)
  have HA := Lib.hid (show atomL imm = (imm == 0 || imm == 64 || imm == 80 || imm == 160 || imm == 241 || fetchesL imm) from rfl)
  generalize fetchesL imm = f at *
  cases f
  · rcases (show (imm == 0) = true ∨ ((imm == 0) = false ∧ (imm == 64) = true) ∨ ((imm == 0) = false ∧ (imm == 64) = false ∧ (imm == 80) = true) ∨ ((imm == 0) = false ∧ (imm == 64) = false ∧ (imm == 80) = false ∧ (imm == 160) = true) ∨ ((imm == 0) = false ∧ (imm == 64) = false ∧ (imm == 80) = false ∧ (imm == 160) = false ∧ (imm == 241) = true) ∨ ((imm == 0) = false ∧ (imm == 64) = false ∧ (imm == 80) = false ∧ (imm == 160) = false ∧ (imm == 241) = false) by
      cases (imm == 0) <;> cases (imm == 64) <;> cases (imm == 80) <;> cases (imm == 160) <;> cases (imm == 241) <;> simp) with t0 | ⟨t0, t1⟩ | ⟨t0, t1, t2⟩ | ⟨t0, t1, t2, t3⟩ | ⟨t0, t1, t2, t3, t4⟩ | ⟨t0, t1, t2, t3, t4⟩
    · have HE := Lib.hid (show atomL imm = true by rw [HA.out, t0]; simp)
      clear HA
      go_enter Tryd.func60, Tryd.ntmps60
      go_wp2_with fail
      go_at_call 59
      refine HF.out.mono ?_
      rintro e w' ⟨rfl, rfl⟩
      go_wp2_with fail
      go_ret
      exact ⟨by rw [HE.out]; rfl, rfl⟩
    · have HE := Lib.hid (show atomL imm = true by rw [HA.out, t0, t1]; simp)
      clear HA
      go_enter Tryd.func60, Tryd.ntmps60
      go_wp2_with fail
      go_at_call 59
      refine HF.out.mono ?_
      rintro e w' ⟨rfl, rfl⟩
      go_wp2_with fail
      go_ret
      exact ⟨by rw [HE.out]; rfl, rfl⟩
    · have HE := Lib.hid (show atomL imm = true by rw [HA.out, t0, t1, t2]; simp)
      clear HA
      go_enter Tryd.func60, Tryd.ntmps60
      go_wp2_with fail
      go_at_call 59
      refine HF.out.mono ?_
      rintro e w' ⟨rfl, rfl⟩
      go_wp2_with fail
      go_ret
      exact ⟨by rw [HE.out]; rfl, rfl⟩
    · have HE := Lib.hid (show atomL imm = true by rw [HA.out, t0, t1, t2, t3]; simp)
      clear HA
      go_enter Tryd.func60, Tryd.ntmps60
      go_wp2_with fail
      go_at_call 59
      refine HF.out.mono ?_
      rintro e w' ⟨rfl, rfl⟩
      go_wp2_with fail
      go_ret
      exact ⟨by rw [HE.out]; rfl, rfl⟩
    · have HE := Lib.hid (show atomL imm = true by rw [HA.out, t0, t1, t2, t3, t4]; rfl)
      clear HA
      go_enter Tryd.func60, Tryd.ntmps60
      go_wp2_with fail
      go_at_call 59
      refine HF.out.mono ?_
      rintro e w' ⟨rfl, rfl⟩
      go_wp2_with fail
      go_ret
      exact ⟨by rw [HE.out]; rfl, rfl⟩
    · have HE := Lib.hid (show atomL imm = false by rw [HA.out, t0, t1, t2, t3, t4]; rfl)
      clear HA
      go_enter Tryd.func60, Tryd.ntmps60
      go_wp2_with fail
      go_at_call 59
      refine HF.out.mono ?_
      rintro e w' ⟨rfl, rfl⟩
      go_wp2_with fail
      go_ret
      exact ⟨by rw [HE.out]; rfl, rfl⟩
  · have HE := Lib.hid (show atomL imm = true by rw [HA.out]; simp)
    clear HA
    go_enter Tryd.func60, Tryd.ntmps60
    go_wp2_with fail
    go_at_call 59
    refine HF.out.mono ?_
    rintro e w' ⟨rfl, rfl⟩
    go_wp2_with fail
    go_ret
    exact ⟨by rw [HE.out]; rfl, rfl⟩
set_option maxRecDepth 100000 in
set_option maxHeartbeats 4000000 in
theorem rregs_any (code op size : Int) (nar reg : Bool) (rd rs ro ri r2 : Int) (wr : Bool) (dst src imm : Int) (w : World) :
    Calls Tryd.prog 41 #[.agg (row11 code op size nar reg rd rs ro ri r2 wr), .int .i64 dst, .int .i64 src, .int .i64 imm] w fun e w' => e = .returned (.bool (regsR ⟨code, op, size, nar, reg, rd, rs, ro, ri, r2, wr⟩ dst src imm)) ∧ Below w.heap.size w w' := by
  have HF := Lib.hid (fun w => rfetches_any imm w)
  have HR := Lib.hid (show regsR ⟨code, op, size, nar, reg, rd, rs, ro, ri, r2, wr⟩ dst src imm = (!(rd == -1 && (decide (dst < 0) || (decide (10 < dst) || (dst == 10 && wr)))) && !(rs == -1 && (decide (src < 0) || (decide (10 < src) || (src == 10 && (op == 25 && fetchesL imm)))))) from rfl)
  generalize regsR ⟨code, op, size, nar, reg, rd, rs, ro, ri, r2, wr⟩ dst src imm = out at *
  generalize fetchesL imm = fe at *
  have HB := Lib.hid (below_box w (.cells (row11 code op size nar reg rd rs ro ri r2 wr) 65))
  go_enter Tryd.func41, Tryd.ntmps41
  go_wp2_with (go_at_call 59; (with_reducible refine (HF.out _).mono ?_); rintro e w' ⟨rfl, rfl⟩)
  all_goals
    clear HF HB
    have hr := HR.out
    clear HR
    go_ret
    refine ⟨ret_bool ?_, below_box _ _⟩
    rw [hr]
    clear hr
    simp_all
set_option maxRecDepth 100000 in
set_option maxHeartbeats 4000000 in
theorem rgood_any (code op size : Int) (nar reg : Bool) (rd rs ro ri r2 : Int) (wr : Bool) (imm : Int) (w : World) :
    Calls Tryd.prog 42 #[.agg (row11 code op size nar reg rd rs ro ri r2 wr), .int .i64 imm] w fun e w' => e = .returned (.bool (goodR ⟨code, op, size, nar, reg, rd, rs, ro, ri, r2, wr⟩ imm)) ∧ Below w.heap.size w w' := by
  have HF := Lib.hid (fun w => ratom_any imm w)
  have HR := Lib.hid (show goodR ⟨code, op, size, nar, reg, rd, rs, ro, ri, r2, wr⟩ imm = (if op = 20 then true else if imm < -2147483648 ∨ 2147483647 < imm then false else
    if op = 4 ∨ op = 5 ∨ op = 6 ∨ op = 7 then imm != 0 else if op = 11 ∨ op = 12 ∨ op = 13 then decide (0 ≤ imm ∧ imm < 32) || (decide (0 ≤ imm ∧ imm < 64) && !nar) else
    if op = 25 then atomL imm else if op = 21 then decide (0 ≤ imm) else true) from rfl)
  generalize goodR ⟨code, op, size, nar, reg, rd, rs, ro, ri, r2, wr⟩ imm = out at *
  generalize atomL imm = fe at *
  go_enter Tryd.func42, Tryd.ntmps42
  go_wp2_with (go_at_call 60; (with_reducible refine (HF.out _).mono ?_); rintro e w' ⟨rfl, rfl⟩)
  all_goals
    clear HF
    have hr := HR.out
    clear HR
    go_ret
    refine ⟨ret_bool ?_, below_box _ _⟩
    rw [hr]
    clear hr
    first
      | (simp_all; done)
      | (simp_all; (first | (exact ⟨fun h => by omega, fun h1 h2 => by omega⟩) | (cases nar <;> rw [Bool.eq_iff_iff] <;> simp <;> omega)))
end Go.Proofs.YtaglclmfjopnlaaDoor
