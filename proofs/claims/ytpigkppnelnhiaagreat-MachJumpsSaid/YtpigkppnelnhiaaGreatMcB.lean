/- Package mach: values: number, isNumber, isFixed, isPointer, distance, signed, Is. -/
import Derived.Test.YtpigkppnelnhiaaGreatMcA
namespace Go.Proofs.YtpigkppnelnhiaaGreat
open Go.ChangeShapes Go.WideShapes Go.ChangeAt Go.RowKit
set_option linter.unusedVariables false
set_option maxRecDepth 100000
theorem box1 (w : World) (o : Obj) : Below w.heap.size w (w.alloc o) := (Below.refl _ _).alloc (Nat.le_refl _) _
theorem box2 (w : World) (o p : Obj) : Below w.heap.size w ((w.alloc o).alloc p) := (box1 w o).alloc (by simp) _
theorem bup2 {a b c : World} (h : Below a.heap.size a b) (k : Below b.heap.size b c) : Below a.heap.size a c := h.trans (k.mono h.size)
def Ins.val (i : Ins) : Value := .agg #[.int .i64 i.op, .bool i.nar, .bool i.reg, .int .i64 i.size, .int .i64 i.dst, .int .i64 i.src, .int .i64 i.off, .int .i64 i.imm]
theorem blk_new2 (w : World) (o : Obj) (t : TypeId) (cs : Array Value) : Blk ((w.alloc o).alloc (.cells cs t)) (w.heap.size + 1) t cs := by
  have h := Blk.new (w.alloc o) t cs
  rw [show (w.alloc o).heap.size = w.heap.size + 1 by simp] at h
  exact h
theorem number_v (n : Int) (w : World) : Calls Tryz.prog 24 #[.int .i64 n] w fun e w' => e = .returned (V.num n).val ∧ Below w.heap.size w w' := by
  go_enter Tryz.func24, Tryz.ntmps24
  go_wp2_with fail
  exact bodyPost_ret (v := (V.num n).val) (results_cell_row Tryz.results24 _ _ w.heap.size 43 #[.int .i64 1, .int .i64 0, .int .i64 0, .int .i64 n] (0, 0) _ rfl (Blk.new w _ _) Tryz.underlying43 rfl (by kernel_rfl)) rfl ⟨rfl, box1 _ _⟩
theorem isNumber_v (k t r x : Int) (w : World) : Calls Tryz.prog 76 #[.agg #[.int .i64 k, .int .i64 t, .int .i64 r, .int .i64 x]] w fun e w' => e = .returned (.bool (k == 1)) ∧ Below w.heap.size w w' := by
  go_enter Tryz.func76, Tryz.ntmps76
  go_wp2_with fail
  go_ret
  exact ⟨rfl, box1 _ _⟩
theorem isFixed_v (k t r x : Int) (w : World) : Calls Tryz.prog 79 #[.agg #[.int .i64 k, .int .i64 t, .int .i64 r, .int .i64 x]] w fun e w' => e = .returned (.bool (k == 2 || k == 3 || k == 4)) ∧ Below w.heap.size w w' := by
  rcases Cod.arms3 (k == 2) (k == 3) (k == 4) with a | ⟨a, b⟩ | ⟨a, b, c⟩ | ⟨a, b, c⟩
  all_goals
    go_enter Tryz.func79, Tryz.ntmps79
    go_wp2_with fail
    go_ret
    exact ⟨by simp_all, box1 _ _⟩
theorem isPointer_v (k t r x : Int) (w : World) : Calls Tryz.prog 75 #[.agg #[.int .i64 k, .int .i64 t, .int .i64 r, .int .i64 x]] w fun e w' => e = .returned (.bool ((k == 2 || k == 3 || k == 4) || k == 5)) ∧ Below w.heap.size w w' := by
  have hb := Blk.new w 43 #[.int .i64 k, .int .i64 t, .int .i64 r, .int .i64 x]
  have hB := box1 w (.cells #[.int .i64 k, .int .i64 t, .int .i64 r, .int .i64 x] 43)
  have hs : w.heap.size ≤ (w.alloc (.cells #[.int .i64 k, .int .i64 t, .int .i64 r, .int .i64 x] 43)).heap.size := by simp
  cases a : (k == 2 || k == 3 || k == 4)
  all_goals
    go_enter Tryz.func75, Tryz.ntmps75
    go_upto_region 1 with (fail)
    generalize (w.alloc (.cells #[.int .i64 k, .int .i64 t, .int .i64 r, .int .i64 x] 43)) = w1 at *
    have h0 : w1.cell? ⟨w.heap.size, 0, none⟩ = some (.int .i64 k) := hb.cell 0
    have h1 : w1.cell? ⟨w.heap.size, 1, none⟩ = some (.int .i64 t) := hb.cell 1
    have h2 : w1.cell? ⟨w.heap.size, 2, none⟩ = some (.int .i64 r) := hb.cell 2
    have h3 : w1.cell? ⟨w.heap.size, 3, none⟩ = some (.int .i64 x) := hb.cell 3
    go_wp2_with (go_at_call 79; refine (isFixed_v _ _ _ _ _).mono ?_; rw [a]; rintro e w' ⟨rfl, hB'⟩; have h4 : w'.cell? ⟨w.heap.size, 0, none⟩ = some (.int .i64 k) := (hb.up hB').cell 0)
    go_ret
    exact ⟨by first | rfl | simp, hB.trans (hB'.mono hs)⟩
theorem distance_v (n : Int) (w : World) : Calls Tryz.prog 78 #[.int .i64 n] w fun e w' => e = .returned (.int .i64 (distL n)) ∧ w = w' := by
  go_enter Tryz.func78, Tryz.ntmps78
  go_wp2_with fail
  all_goals
    go_ret
    refine ⟨?_, rfl⟩
    unfold distL
    refine congrArg (fun v => Ending.returned (.int .i64 v)) ?_
    omega
theorem signed_v (op : Int) (w : World) : Calls Tryz.prog 123 #[.int .i64 op] w fun e w' => e = .returned (.int .i64 (sgnOp op)) ∧ w = w' := by
  rcases Cod.arms4 (op == 29) (op == 30) (op == 31) (op == 32) with a | ⟨a, b⟩ | ⟨a, b, c⟩ | ⟨a, b, c, d⟩ | ⟨a, b, c, d⟩
  all_goals
    go_enter Tryz.func123, Tryz.ntmps123
    go_wp2_with fail
    go_ret
    refine ⟨?_, rfl⟩
    simp_all [sgnOp]
theorem is_v (op : Int) (w : World) : Calls Tryz.prog 48 #[.int .i64 op] w fun e w' => e = .returned (.bool (decide (26 ≤ op) && decide (op ≤ 37))) ∧ w = w' := by
  cases a : decide (26 ≤ op)
  all_goals
    go_enter Tryz.func48, Tryz.ntmps48
    go_wp2_with fail
    go_ret
    exact ⟨by simp, rfl⟩
end Go.Proofs.YtpigkppnelnhiaaGreat
