/- Texts in one: CodeK CodeK2 CodeK3 CodeK4 CodeN. -/
import Derived.Test.YtlodoinmippebaaDoorCodeIJ
import Derived.Test.YtlodoinmippebaaDoorCore
import Derived.Deep.DeepCutAuto
/- Package code: first. -/
namespace Go.Proofs.YtlodoinmippebaaDoor
open Go.ChangeShapes Go.WideShapes Go.ChangeAt Go.RowKit
open Cod
set_option linter.unusedVariables false

theorem Mid.after {w0 w1 : World} {op : Int} {nar reg : Bool} {size dst src off imm oc : Int} (h : Hold2 w0 w0.heap.size (w0.heap.size + 1) ⟨op, nar, reg, size, dst, src, off, imm⟩ w1) : Mid w0 ⟨op, nar, reg, size, dst, src, off, imm⟩ oc w1.heap.size (w1.alloc (.cells #[.int .i64 oc, .int .i64 dst, .int .i64 src, .int .i64 off, .int .i64 imm] 106)) :=
  ⟨h.alloc _, Blk.new _ _ _, h.2.1.lt⟩
theorem Mid.ahead {w0 w1 : World} {op : Int} {nar reg : Bool} {size dst src off imm oc : Int} {a0 b0 c0 d0 e0 : Value} (h : Hold2 w0 w0.heap.size (w0.heap.size + 1) ⟨op, nar, reg, size, dst, src, off, imm⟩ w1) (hb : Blk w1 (w0.heap.size + 1 + 1) 106 #[a0, b0, c0, d0, e0]) :
    Mid w0 ⟨op, nar, reg, size, dst, src, off, imm⟩ oc (w0.heap.size + 1 + 1) (((((w1.setCell ⟨w0.heap.size + 1 + 1, 0, none⟩ (.int .i64 oc)).setCell ⟨w0.heap.size + 1 + 1, 1, none⟩ (.int .i64 dst)).setCell ⟨w0.heap.size + 1 + 1, 2, none⟩ (.int .i64 src)).setCell ⟨w0.heap.size + 1 + 1, 3, none⟩ (.int .i64 off)).setCell ⟨w0.heap.size + 1 + 1, 4, none⟩ (.int .i64 imm)) :=
  ⟨h.set5 (by omega) _ _ _ _ _, set5 hb _ _ _ _ _, by omega⟩

set_option maxHeartbeats 2000000 in
theorem first_else (op : Int) (nar reg : Bool) (size dst src off imm : Int) (hop : 1 ≤ op ∧ op ≤ 39) (hs : 22 ≤ op → op ≤ 25 → size = 1 ∨ size = 2 ∨ size = 4 ∨ size = 8) (hn : op ≠ 6 ∧ op ≠ 7 ∧ op ≠ 16 ∧ op ≠ 17 ∧ op ≠ 18 ∧ op ≠ 19 ∧ op ≠ 20 ∧ op ≠ 21) (w : World) (ht : Tabs w) :
    Calls Tryd.prog 56 #[.agg #[.int .i64 op, .bool nar, .bool reg, .int .i64 size, .int .i64 dst, .int .i64 src, .int .i64 off, .int .i64 imm]] w fun e w' => e = .returned (.agg #[.int .i64 (opcodeL op nar reg size), .int .i64 dst, .int .i64 src, .int .i64 off, .int .i64 imm]) ∧ Below w.heap.size w w' := by
  have H0 := Lib.hid (hold2_start w op nar reg size dst src off imm ht)
  have t6 : (op == 6) = false := by rw [beq_eq_false_iff_ne]; omega
  have t7 : (op == 7) = false := by rw [beq_eq_false_iff_ne]; omega
  have t16 : (op == 16) = false := by rw [beq_eq_false_iff_ne]; omega
  have t17 : (op == 17) = false := by rw [beq_eq_false_iff_ne]; omega
  have t18 : (op == 18) = false := by rw [beq_eq_false_iff_ne]; omega
  have t19 : (op == 19) = false := by rw [beq_eq_false_iff_ne]; omega
  have t20 : (op == 20) = false := by rw [beq_eq_false_iff_ne]; omega
  have t21 : (op == 21) = false := by rw [beq_eq_false_iff_ne]; omega
  have HO := Lib.hid (fun w0 g gr w h => @opcode_h w0 w g gr op nar reg size dst src off imm hop hs h)
  clear hop hs hn
  have HP := Lib.hid (show w.heap.size + 1 < w.heap.size + 1 + 1 by omega)
  generalize opcodeL op nar reg size = oc at *
  go_enter Tryd.func56, Tryd.ntmps56
  go_wp2_with fail
  go_region_held3 (fun w' => w'.cell? ⟨w.heap.size, 0, none⟩ = some (.int .i64 op) ∧ w'.cell? ⟨w.heap.size, 1, none⟩ = some (.bool nar) ∧ w'.cell? ⟨w.heap.size, 2, none⟩ = some (.bool reg) ∧ w'.cell? ⟨w.heap.size, 3, none⟩ = some (.int .i64 size) ∧ w'.cell? ⟨w.heap.size, 4, none⟩ = some (.int .i64 dst) ∧ w'.cell? ⟨w.heap.size, 5, none⟩ = some (.int .i64 src) ∧ w'.cell? ⟨w.heap.size, 6, none⟩ = some (.int .i64 off) ∧ w'.cell? ⟨w.heap.size, 7, none⟩ = some (.int .i64 imm) ∧ Hold2 w w.heap.size (w.heap.size + 1) ⟨op, nar, reg, size, dst, src, off, imm⟩ w')
    (first | with_reducible exact hold9 H0.out.drew | with_reducible exact hold9 hH1 | with_reducible exact hold9 (hH1.alloc _) | with_reducible exact hold9 (H0.out.alloc_drew _) | with_reducible exact hold9 (hH1.set5 HP.out _ _ _ _ _) | fail)
    (first | (go_at_call 87; (with_reducible refine (HO.out _ _ _ _ H0.out.drew).mono ?_); rintro e w1 ⟨rfl, hH1, hBB⟩; have hMid := Mid.after (oc := oc) hH1; clear hBB) | (go_at_call 87; (with_reducible refine (HO.out _ _ _ _ (H0.out.alloc_drew _)).mono ?_); rintro e w1 ⟨rfl, hH1, hBB⟩; have hnb := blk5 (g := w.heap.size + 1 + 1) (by simp) hBB; obtain ⟨n0, n1, n2, n3, n4, f0, f1, f2, f3, f4⟩ := cells5 hnb; have hMid := Mid.ahead (oc := oc) hH1 hnb; clear hBB))
  · clear hH1 H0 HO HP
    generalize (w1.alloc (Obj.cells #[.int .i64 oc, .int .i64 dst, .int .i64 src, .int .i64 off, .int .i64 imm] 106)) = W2 at hMid ⊢
    generalize w1.heap.size = gu at hMid ⊢
    obtain ⟨hH, hU, hlt⟩ := hMid
    obtain ⟨u0, u1, u2, u3, u4, v0, v1, v2, v3, v4⟩ := cells5 hU
    obtain ⟨q0, q1, q2, q3, q4, q5, q6, q7, _⟩ := hold9 hH
    obtain ⟨r0, r1, r2, r3, r4, s0, s1, s2, s3, s4⟩ := cells5 hH.2.1
    have HH := Lib.hid hH
    have HU := Lib.hid hU
    have hne : w.heap.size + 1 ≠ gu := by omega
    have hge : w.heap.size ≤ gu := by omega
    have hge1 : w.heap.size ≤ w.heap.size + 1 := by omega
    have HB := Lib.hid (HH.out.1.2.2.2)
    have HR := Lib.hid (set5 (HH.out.2.1) (.int .i64 oc) (.int .i64 dst) (.int .i64 src) (.int .i64 off) (.int .i64 imm))
    have HBB := Lib.hid (((((HB.out.setCell (p := ⟨w.heap.size + 1, 0, none⟩) hge1 (.int .i64 oc)).setCell (p := ⟨w.heap.size + 1, 1, none⟩) hge1 (.int .i64 dst)).setCell (p := ⟨w.heap.size + 1, 2, none⟩) hge1 (.int .i64 src)).setCell (p := ⟨w.heap.size + 1, 3, none⟩) hge1 (.int .i64 off)).setCell (p := ⟨w.heap.size + 1, 4, none⟩) hge1 (.int .i64 imm))
    clear hH hU
    go_wp2_with fail
    refine bodyPost_ret (v := .agg #[.int .i64 oc, .int .i64 dst, .int .i64 src, .int .i64 off, .int .i64 imm]) (results_cell_row Tryd.results56 _ _ (w.heap.size + 1) 106 #[.int .i64 oc, .int .i64 dst, .int .i64 src, .int .i64 off, .int .i64 imm] (0, 0) _ rfl HR.out Tryd.underlying106 rfl (by kernel_rfl)) rfl ⟨rfl, HBB.out⟩
  · clear hH1 H0 HO HP n0 n1 n2 n3 n4 f0 f1 f2 f3 f4 hnb
    generalize (((((w1.setCell ⟨w.heap.size + 1 + 1, 0, none⟩ (.int .i64 oc)).setCell ⟨w.heap.size + 1 + 1, 1, none⟩ (.int .i64 dst)).setCell ⟨w.heap.size + 1 + 1, 2, none⟩ (.int .i64 src)).setCell ⟨w.heap.size + 1 + 1, 3, none⟩ (.int .i64 off)).setCell ⟨w.heap.size + 1 + 1, 4, none⟩ (.int .i64 imm)) = W2 at hMid ⊢
    obtain ⟨gu, hgu⟩ : ∃ gu, w.heap.size + 1 + 1 = gu := ⟨_, rfl⟩
    rw [hgu] at hMid ⊢
    clear hgu
    obtain ⟨hH, hU, hlt⟩ := hMid
    obtain ⟨u0, u1, u2, u3, u4, v0, v1, v2, v3, v4⟩ := cells5 hU
    obtain ⟨q0, q1, q2, q3, q4, q5, q6, q7, _⟩ := hold9 hH
    obtain ⟨r0, r1, r2, r3, r4, s0, s1, s2, s3, s4⟩ := cells5 hH.2.1
    have HH := Lib.hid hH
    have HU := Lib.hid hU
    have hne : w.heap.size + 1 ≠ gu := by omega
    have hge : w.heap.size ≤ gu := by omega
    have hge1 : w.heap.size ≤ w.heap.size + 1 := by omega
    have HB := Lib.hid (HH.out.1.2.2.2)
    have HR := Lib.hid (set5 (HH.out.2.1) (.int .i64 oc) (.int .i64 dst) (.int .i64 src) (.int .i64 off) (.int .i64 imm))
    have HBB := Lib.hid (((((HB.out.setCell (p := ⟨w.heap.size + 1, 0, none⟩) hge1 (.int .i64 oc)).setCell (p := ⟨w.heap.size + 1, 1, none⟩) hge1 (.int .i64 dst)).setCell (p := ⟨w.heap.size + 1, 2, none⟩) hge1 (.int .i64 src)).setCell (p := ⟨w.heap.size + 1, 3, none⟩) hge1 (.int .i64 off)).setCell (p := ⟨w.heap.size + 1, 4, none⟩) hge1 (.int .i64 imm))
    clear hH hU
    go_wp2_with fail
    refine bodyPost_ret (v := .agg #[.int .i64 oc, .int .i64 dst, .int .i64 src, .int .i64 off, .int .i64 imm]) (results_cell_row Tryd.results56 _ _ (w.heap.size + 1) 106 #[.int .i64 oc, .int .i64 dst, .int .i64 src, .int .i64 off, .int .i64 imm] (0, 0) _ rfl HR.out Tryd.underlying106 rfl (by kernel_rfl)) rfl ⟨rfl, HBB.out⟩
end Go.Proofs.YtlodoinmippebaaDoor
/- Package code: first, 6 7 16. -/
namespace Go.Proofs.YtlodoinmippebaaDoor
open Go.ChangeShapes Go.WideShapes Go.ChangeAt Go.RowKit
open Cod
set_option linter.unusedVariables false

set_option maxHeartbeats 2000000 in
theorem first_6 (nar reg : Bool) (size dst src off imm : Int) (w : World) (ht : Tabs w) :
    Calls Tryd.prog 56 #[.agg #[.int .i64 6, .bool nar, .bool reg, .int .i64 size, .int .i64 dst, .int .i64 src, .int .i64 off, .int .i64 imm]] w fun e w' => e = .returned (.agg #[.int .i64 (opcodeL 6 nar reg size), .int .i64 dst, .int .i64 src, .int .i64 1, .int .i64 imm]) ∧ Below w.heap.size w w' := by
  have H0 := Lib.hid (hold2_start w 6 nar reg size dst src off imm ht)
  have HO := Lib.hid (fun w0 g gr w h => @opcode_h w0 w g gr 6 nar reg size dst src off imm (by decide) (by omega) h)
  have HP := Lib.hid (show w.heap.size + 1 < w.heap.size + 1 + 1 by omega)
  generalize opcodeL 6 nar reg size = oc at *
  go_enter Tryd.func56, Tryd.ntmps56
  go_wp2_with fail
  go_region_held3 (fun w' => w'.cell? ⟨w.heap.size, 0, none⟩ = some (.int .i64 6) ∧ w'.cell? ⟨w.heap.size, 1, none⟩ = some (.bool nar) ∧ w'.cell? ⟨w.heap.size, 2, none⟩ = some (.bool reg) ∧ w'.cell? ⟨w.heap.size, 3, none⟩ = some (.int .i64 size) ∧ w'.cell? ⟨w.heap.size, 4, none⟩ = some (.int .i64 dst) ∧ w'.cell? ⟨w.heap.size, 5, none⟩ = some (.int .i64 src) ∧ w'.cell? ⟨w.heap.size, 6, none⟩ = some (.int .i64 off) ∧ w'.cell? ⟨w.heap.size, 7, none⟩ = some (.int .i64 imm) ∧ Hold2 w w.heap.size (w.heap.size + 1) ⟨6, nar, reg, size, dst, src, off, imm⟩ w')
    (first | with_reducible exact hold9 H0.out.drew | with_reducible exact hold9 hH1 | with_reducible exact hold9 (hH1.alloc _) | with_reducible exact hold9 (H0.out.alloc_drew _) | with_reducible exact hold9 (hH1.set5 HP.out _ _ _ _ _) | fail)
    (first | (go_at_call 87; (with_reducible refine (HO.out _ _ _ _ H0.out.drew).mono ?_); rintro e w1 ⟨rfl, hH1, hBB⟩; have hMid := Mid.after (oc := oc) hH1; clear hBB) | (go_at_call 87; (with_reducible refine (HO.out _ _ _ _ (H0.out.alloc_drew _)).mono ?_); rintro e w1 ⟨rfl, hH1, hBB⟩; have hnb := blk5 (g := w.heap.size + 1 + 1) (by simp) hBB; obtain ⟨n0, n1, n2, n3, n4, f0, f1, f2, f3, f4⟩ := cells5 hnb; have hMid := Mid.ahead (oc := oc) hH1 hnb; clear hBB))
  · clear hH1 H0 HO HP
    generalize (w1.alloc (Obj.cells #[.int .i64 oc, .int .i64 dst, .int .i64 src, .int .i64 off, .int .i64 imm] 106)) = W2 at hMid ⊢
    generalize w1.heap.size = gu at hMid ⊢
    obtain ⟨hH, hU, hlt⟩ := hMid
    obtain ⟨u0, u1, u2, u3, u4, v0, v1, v2, v3, v4⟩ := cells5 hU
    obtain ⟨q0, q1, q2, q3, q4, q5, q6, q7, _⟩ := hold9 hH
    obtain ⟨r0, r1, r2, r3, r4, s0, s1, s2, s3, s4⟩ := cells5 hH.2.1
    have HH := Lib.hid hH
    have HU := Lib.hid hU
    have hne : w.heap.size + 1 ≠ gu := by omega
    have hge : w.heap.size ≤ gu := by omega
    have hge1 : w.heap.size ≤ w.heap.size + 1 := by omega
    have HB := Lib.hid ((HH.out.1.2.2.2).setCell (p := ⟨gu, 3, none⟩) hge (.int .i64 1))
    have HR := Lib.hid (set5 ((HH.out.2.1).far (p := ⟨gu, 3, none⟩) hne (.int .i64 1)) (.int .i64 oc) (.int .i64 dst) (.int .i64 src) (.int .i64 1) (.int .i64 imm))
    have HBB := Lib.hid (((((HB.out.setCell (p := ⟨w.heap.size + 1, 0, none⟩) hge1 (.int .i64 oc)).setCell (p := ⟨w.heap.size + 1, 1, none⟩) hge1 (.int .i64 dst)).setCell (p := ⟨w.heap.size + 1, 2, none⟩) hge1 (.int .i64 src)).setCell (p := ⟨w.heap.size + 1, 3, none⟩) hge1 (.int .i64 1)).setCell (p := ⟨w.heap.size + 1, 4, none⟩) hge1 (.int .i64 imm))
    clear hH hU
    go_wp2_with fail
    refine bodyPost_ret (v := .agg #[.int .i64 oc, .int .i64 dst, .int .i64 src, .int .i64 1, .int .i64 imm]) (results_cell_row Tryd.results56 _ _ (w.heap.size + 1) 106 #[.int .i64 oc, .int .i64 dst, .int .i64 src, .int .i64 1, .int .i64 imm] (0, 0) _ rfl HR.out Tryd.underlying106 rfl (by kernel_rfl)) rfl ⟨rfl, HBB.out⟩
  · clear hH1 H0 HO HP n0 n1 n2 n3 n4 f0 f1 f2 f3 f4 hnb
    generalize (((((w1.setCell ⟨w.heap.size + 1 + 1, 0, none⟩ (.int .i64 oc)).setCell ⟨w.heap.size + 1 + 1, 1, none⟩ (.int .i64 dst)).setCell ⟨w.heap.size + 1 + 1, 2, none⟩ (.int .i64 src)).setCell ⟨w.heap.size + 1 + 1, 3, none⟩ (.int .i64 off)).setCell ⟨w.heap.size + 1 + 1, 4, none⟩ (.int .i64 imm)) = W2 at hMid ⊢
    obtain ⟨gu, hgu⟩ : ∃ gu, w.heap.size + 1 + 1 = gu := ⟨_, rfl⟩
    rw [hgu] at hMid ⊢
    clear hgu
    obtain ⟨hH, hU, hlt⟩ := hMid
    obtain ⟨u0, u1, u2, u3, u4, v0, v1, v2, v3, v4⟩ := cells5 hU
    obtain ⟨q0, q1, q2, q3, q4, q5, q6, q7, _⟩ := hold9 hH
    obtain ⟨r0, r1, r2, r3, r4, s0, s1, s2, s3, s4⟩ := cells5 hH.2.1
    have HH := Lib.hid hH
    have HU := Lib.hid hU
    have hne : w.heap.size + 1 ≠ gu := by omega
    have hge : w.heap.size ≤ gu := by omega
    have hge1 : w.heap.size ≤ w.heap.size + 1 := by omega
    have HB := Lib.hid ((HH.out.1.2.2.2).setCell (p := ⟨gu, 3, none⟩) hge (.int .i64 1))
    have HR := Lib.hid (set5 ((HH.out.2.1).far (p := ⟨gu, 3, none⟩) hne (.int .i64 1)) (.int .i64 oc) (.int .i64 dst) (.int .i64 src) (.int .i64 1) (.int .i64 imm))
    have HBB := Lib.hid (((((HB.out.setCell (p := ⟨w.heap.size + 1, 0, none⟩) hge1 (.int .i64 oc)).setCell (p := ⟨w.heap.size + 1, 1, none⟩) hge1 (.int .i64 dst)).setCell (p := ⟨w.heap.size + 1, 2, none⟩) hge1 (.int .i64 src)).setCell (p := ⟨w.heap.size + 1, 3, none⟩) hge1 (.int .i64 1)).setCell (p := ⟨w.heap.size + 1, 4, none⟩) hge1 (.int .i64 imm))
    clear hH hU
    go_wp2_with fail
    refine bodyPost_ret (v := .agg #[.int .i64 oc, .int .i64 dst, .int .i64 src, .int .i64 1, .int .i64 imm]) (results_cell_row Tryd.results56 _ _ (w.heap.size + 1) 106 #[.int .i64 oc, .int .i64 dst, .int .i64 src, .int .i64 1, .int .i64 imm] (0, 0) _ rfl HR.out Tryd.underlying106 rfl (by kernel_rfl)) rfl ⟨rfl, HBB.out⟩

set_option maxHeartbeats 2000000 in
theorem first_7 (nar reg : Bool) (size dst src off imm : Int) (w : World) (ht : Tabs w) :
    Calls Tryd.prog 56 #[.agg #[.int .i64 7, .bool nar, .bool reg, .int .i64 size, .int .i64 dst, .int .i64 src, .int .i64 off, .int .i64 imm]] w fun e w' => e = .returned (.agg #[.int .i64 (opcodeL 7 nar reg size), .int .i64 dst, .int .i64 src, .int .i64 1, .int .i64 imm]) ∧ Below w.heap.size w w' := by
  have H0 := Lib.hid (hold2_start w 7 nar reg size dst src off imm ht)
  have HO := Lib.hid (fun w0 g gr w h => @opcode_h w0 w g gr 7 nar reg size dst src off imm (by decide) (by omega) h)
  have HP := Lib.hid (show w.heap.size + 1 < w.heap.size + 1 + 1 by omega)
  generalize opcodeL 7 nar reg size = oc at *
  go_enter Tryd.func56, Tryd.ntmps56
  go_wp2_with fail
  go_region_held3 (fun w' => w'.cell? ⟨w.heap.size, 0, none⟩ = some (.int .i64 7) ∧ w'.cell? ⟨w.heap.size, 1, none⟩ = some (.bool nar) ∧ w'.cell? ⟨w.heap.size, 2, none⟩ = some (.bool reg) ∧ w'.cell? ⟨w.heap.size, 3, none⟩ = some (.int .i64 size) ∧ w'.cell? ⟨w.heap.size, 4, none⟩ = some (.int .i64 dst) ∧ w'.cell? ⟨w.heap.size, 5, none⟩ = some (.int .i64 src) ∧ w'.cell? ⟨w.heap.size, 6, none⟩ = some (.int .i64 off) ∧ w'.cell? ⟨w.heap.size, 7, none⟩ = some (.int .i64 imm) ∧ Hold2 w w.heap.size (w.heap.size + 1) ⟨7, nar, reg, size, dst, src, off, imm⟩ w')
    (first | with_reducible exact hold9 H0.out.drew | with_reducible exact hold9 hH1 | with_reducible exact hold9 (hH1.alloc _) | with_reducible exact hold9 (H0.out.alloc_drew _) | with_reducible exact hold9 (hH1.set5 HP.out _ _ _ _ _) | fail)
    (first | (go_at_call 87; (with_reducible refine (HO.out _ _ _ _ H0.out.drew).mono ?_); rintro e w1 ⟨rfl, hH1, hBB⟩; have hMid := Mid.after (oc := oc) hH1; clear hBB) | (go_at_call 87; (with_reducible refine (HO.out _ _ _ _ (H0.out.alloc_drew _)).mono ?_); rintro e w1 ⟨rfl, hH1, hBB⟩; have hnb := blk5 (g := w.heap.size + 1 + 1) (by simp) hBB; obtain ⟨n0, n1, n2, n3, n4, f0, f1, f2, f3, f4⟩ := cells5 hnb; have hMid := Mid.ahead (oc := oc) hH1 hnb; clear hBB))
  · clear hH1 H0 HO HP
    generalize (w1.alloc (Obj.cells #[.int .i64 oc, .int .i64 dst, .int .i64 src, .int .i64 off, .int .i64 imm] 106)) = W2 at hMid ⊢
    generalize w1.heap.size = gu at hMid ⊢
    obtain ⟨hH, hU, hlt⟩ := hMid
    obtain ⟨u0, u1, u2, u3, u4, v0, v1, v2, v3, v4⟩ := cells5 hU
    obtain ⟨q0, q1, q2, q3, q4, q5, q6, q7, _⟩ := hold9 hH
    obtain ⟨r0, r1, r2, r3, r4, s0, s1, s2, s3, s4⟩ := cells5 hH.2.1
    have HH := Lib.hid hH
    have HU := Lib.hid hU
    have hne : w.heap.size + 1 ≠ gu := by omega
    have hge : w.heap.size ≤ gu := by omega
    have hge1 : w.heap.size ≤ w.heap.size + 1 := by omega
    have HB := Lib.hid ((HH.out.1.2.2.2).setCell (p := ⟨gu, 3, none⟩) hge (.int .i64 1))
    have HR := Lib.hid (set5 ((HH.out.2.1).far (p := ⟨gu, 3, none⟩) hne (.int .i64 1)) (.int .i64 oc) (.int .i64 dst) (.int .i64 src) (.int .i64 1) (.int .i64 imm))
    have HBB := Lib.hid (((((HB.out.setCell (p := ⟨w.heap.size + 1, 0, none⟩) hge1 (.int .i64 oc)).setCell (p := ⟨w.heap.size + 1, 1, none⟩) hge1 (.int .i64 dst)).setCell (p := ⟨w.heap.size + 1, 2, none⟩) hge1 (.int .i64 src)).setCell (p := ⟨w.heap.size + 1, 3, none⟩) hge1 (.int .i64 1)).setCell (p := ⟨w.heap.size + 1, 4, none⟩) hge1 (.int .i64 imm))
    clear hH hU
    go_wp2_with fail
    refine bodyPost_ret (v := .agg #[.int .i64 oc, .int .i64 dst, .int .i64 src, .int .i64 1, .int .i64 imm]) (results_cell_row Tryd.results56 _ _ (w.heap.size + 1) 106 #[.int .i64 oc, .int .i64 dst, .int .i64 src, .int .i64 1, .int .i64 imm] (0, 0) _ rfl HR.out Tryd.underlying106 rfl (by kernel_rfl)) rfl ⟨rfl, HBB.out⟩
  · clear hH1 H0 HO HP n0 n1 n2 n3 n4 f0 f1 f2 f3 f4 hnb
    generalize (((((w1.setCell ⟨w.heap.size + 1 + 1, 0, none⟩ (.int .i64 oc)).setCell ⟨w.heap.size + 1 + 1, 1, none⟩ (.int .i64 dst)).setCell ⟨w.heap.size + 1 + 1, 2, none⟩ (.int .i64 src)).setCell ⟨w.heap.size + 1 + 1, 3, none⟩ (.int .i64 off)).setCell ⟨w.heap.size + 1 + 1, 4, none⟩ (.int .i64 imm)) = W2 at hMid ⊢
    obtain ⟨gu, hgu⟩ : ∃ gu, w.heap.size + 1 + 1 = gu := ⟨_, rfl⟩
    rw [hgu] at hMid ⊢
    clear hgu
    obtain ⟨hH, hU, hlt⟩ := hMid
    obtain ⟨u0, u1, u2, u3, u4, v0, v1, v2, v3, v4⟩ := cells5 hU
    obtain ⟨q0, q1, q2, q3, q4, q5, q6, q7, _⟩ := hold9 hH
    obtain ⟨r0, r1, r2, r3, r4, s0, s1, s2, s3, s4⟩ := cells5 hH.2.1
    have HH := Lib.hid hH
    have HU := Lib.hid hU
    have hne : w.heap.size + 1 ≠ gu := by omega
    have hge : w.heap.size ≤ gu := by omega
    have hge1 : w.heap.size ≤ w.heap.size + 1 := by omega
    have HB := Lib.hid ((HH.out.1.2.2.2).setCell (p := ⟨gu, 3, none⟩) hge (.int .i64 1))
    have HR := Lib.hid (set5 ((HH.out.2.1).far (p := ⟨gu, 3, none⟩) hne (.int .i64 1)) (.int .i64 oc) (.int .i64 dst) (.int .i64 src) (.int .i64 1) (.int .i64 imm))
    have HBB := Lib.hid (((((HB.out.setCell (p := ⟨w.heap.size + 1, 0, none⟩) hge1 (.int .i64 oc)).setCell (p := ⟨w.heap.size + 1, 1, none⟩) hge1 (.int .i64 dst)).setCell (p := ⟨w.heap.size + 1, 2, none⟩) hge1 (.int .i64 src)).setCell (p := ⟨w.heap.size + 1, 3, none⟩) hge1 (.int .i64 1)).setCell (p := ⟨w.heap.size + 1, 4, none⟩) hge1 (.int .i64 imm))
    clear hH hU
    go_wp2_with fail
    refine bodyPost_ret (v := .agg #[.int .i64 oc, .int .i64 dst, .int .i64 src, .int .i64 1, .int .i64 imm]) (results_cell_row Tryd.results56 _ _ (w.heap.size + 1) 106 #[.int .i64 oc, .int .i64 dst, .int .i64 src, .int .i64 1, .int .i64 imm] (0, 0) _ rfl HR.out Tryd.underlying106 rfl (by kernel_rfl)) rfl ⟨rfl, HBB.out⟩

set_option maxHeartbeats 2000000 in
theorem first_16 (nar reg : Bool) (size dst src off imm : Int) (w : World) (ht : Tabs w) :
    Calls Tryd.prog 56 #[.agg #[.int .i64 16, .bool nar, .bool reg, .int .i64 size, .int .i64 dst, .int .i64 src, .int .i64 off, .int .i64 imm]] w fun e w' => e = .returned (.agg #[.int .i64 (opcodeL 16 nar reg size), .int .i64 dst, .int .i64 src, .int .i64 size, .int .i64 imm]) ∧ Below w.heap.size w w' := by
  have H0 := Lib.hid (hold2_start w 16 nar reg size dst src off imm ht)
  have HO := Lib.hid (fun w0 g gr w h => @opcode_h w0 w g gr 16 nar reg size dst src off imm (by decide) (by omega) h)
  have HP := Lib.hid (show w.heap.size + 1 < w.heap.size + 1 + 1 by omega)
  generalize opcodeL 16 nar reg size = oc at *
  go_enter Tryd.func56, Tryd.ntmps56
  go_wp2_with fail
  go_region_held3 (fun w' => w'.cell? ⟨w.heap.size, 0, none⟩ = some (.int .i64 16) ∧ w'.cell? ⟨w.heap.size, 1, none⟩ = some (.bool nar) ∧ w'.cell? ⟨w.heap.size, 2, none⟩ = some (.bool reg) ∧ w'.cell? ⟨w.heap.size, 3, none⟩ = some (.int .i64 size) ∧ w'.cell? ⟨w.heap.size, 4, none⟩ = some (.int .i64 dst) ∧ w'.cell? ⟨w.heap.size, 5, none⟩ = some (.int .i64 src) ∧ w'.cell? ⟨w.heap.size, 6, none⟩ = some (.int .i64 off) ∧ w'.cell? ⟨w.heap.size, 7, none⟩ = some (.int .i64 imm) ∧ Hold2 w w.heap.size (w.heap.size + 1) ⟨16, nar, reg, size, dst, src, off, imm⟩ w')
    (first | with_reducible exact hold9 H0.out.drew | with_reducible exact hold9 hH1 | with_reducible exact hold9 (hH1.alloc _) | with_reducible exact hold9 (H0.out.alloc_drew _) | with_reducible exact hold9 (hH1.set5 HP.out _ _ _ _ _) | fail)
    (first | (go_at_call 87; (with_reducible refine (HO.out _ _ _ _ H0.out.drew).mono ?_); rintro e w1 ⟨rfl, hH1, hBB⟩; have hMid := Mid.after (oc := oc) hH1; clear hBB) | (go_at_call 87; (with_reducible refine (HO.out _ _ _ _ (H0.out.alloc_drew _)).mono ?_); rintro e w1 ⟨rfl, hH1, hBB⟩; have hnb := blk5 (g := w.heap.size + 1 + 1) (by simp) hBB; obtain ⟨n0, n1, n2, n3, n4, f0, f1, f2, f3, f4⟩ := cells5 hnb; have hMid := Mid.ahead (oc := oc) hH1 hnb; clear hBB))
  · clear hH1 H0 HO HP
    generalize (w1.alloc (Obj.cells #[.int .i64 oc, .int .i64 dst, .int .i64 src, .int .i64 off, .int .i64 imm] 106)) = W2 at hMid ⊢
    generalize w1.heap.size = gu at hMid ⊢
    obtain ⟨hH, hU, hlt⟩ := hMid
    obtain ⟨u0, u1, u2, u3, u4, v0, v1, v2, v3, v4⟩ := cells5 hU
    obtain ⟨q0, q1, q2, q3, q4, q5, q6, q7, _⟩ := hold9 hH
    obtain ⟨r0, r1, r2, r3, r4, s0, s1, s2, s3, s4⟩ := cells5 hH.2.1
    have HH := Lib.hid hH
    have HU := Lib.hid hU
    have hne : w.heap.size + 1 ≠ gu := by omega
    have hge : w.heap.size ≤ gu := by omega
    have hge1 : w.heap.size ≤ w.heap.size + 1 := by omega
    have HB := Lib.hid ((HH.out.1.2.2.2).setCell (p := ⟨gu, 3, none⟩) hge (.int .i64 size))
    have HR := Lib.hid (set5 ((HH.out.2.1).far (p := ⟨gu, 3, none⟩) hne (.int .i64 size)) (.int .i64 oc) (.int .i64 dst) (.int .i64 src) (.int .i64 size) (.int .i64 imm))
    have HBB := Lib.hid (((((HB.out.setCell (p := ⟨w.heap.size + 1, 0, none⟩) hge1 (.int .i64 oc)).setCell (p := ⟨w.heap.size + 1, 1, none⟩) hge1 (.int .i64 dst)).setCell (p := ⟨w.heap.size + 1, 2, none⟩) hge1 (.int .i64 src)).setCell (p := ⟨w.heap.size + 1, 3, none⟩) hge1 (.int .i64 size)).setCell (p := ⟨w.heap.size + 1, 4, none⟩) hge1 (.int .i64 imm))
    clear hH hU
    go_wp2_with fail
    refine bodyPost_ret (v := .agg #[.int .i64 oc, .int .i64 dst, .int .i64 src, .int .i64 size, .int .i64 imm]) (results_cell_row Tryd.results56 _ _ (w.heap.size + 1) 106 #[.int .i64 oc, .int .i64 dst, .int .i64 src, .int .i64 size, .int .i64 imm] (0, 0) _ rfl HR.out Tryd.underlying106 rfl (by kernel_rfl)) rfl ⟨rfl, HBB.out⟩
  · clear hH1 H0 HO HP n0 n1 n2 n3 n4 f0 f1 f2 f3 f4 hnb
    generalize (((((w1.setCell ⟨w.heap.size + 1 + 1, 0, none⟩ (.int .i64 oc)).setCell ⟨w.heap.size + 1 + 1, 1, none⟩ (.int .i64 dst)).setCell ⟨w.heap.size + 1 + 1, 2, none⟩ (.int .i64 src)).setCell ⟨w.heap.size + 1 + 1, 3, none⟩ (.int .i64 off)).setCell ⟨w.heap.size + 1 + 1, 4, none⟩ (.int .i64 imm)) = W2 at hMid ⊢
    obtain ⟨gu, hgu⟩ : ∃ gu, w.heap.size + 1 + 1 = gu := ⟨_, rfl⟩
    rw [hgu] at hMid ⊢
    clear hgu
    obtain ⟨hH, hU, hlt⟩ := hMid
    obtain ⟨u0, u1, u2, u3, u4, v0, v1, v2, v3, v4⟩ := cells5 hU
    obtain ⟨q0, q1, q2, q3, q4, q5, q6, q7, _⟩ := hold9 hH
    obtain ⟨r0, r1, r2, r3, r4, s0, s1, s2, s3, s4⟩ := cells5 hH.2.1
    have HH := Lib.hid hH
    have HU := Lib.hid hU
    have hne : w.heap.size + 1 ≠ gu := by omega
    have hge : w.heap.size ≤ gu := by omega
    have hge1 : w.heap.size ≤ w.heap.size + 1 := by omega
    have HB := Lib.hid ((HH.out.1.2.2.2).setCell (p := ⟨gu, 3, none⟩) hge (.int .i64 size))
    have HR := Lib.hid (set5 ((HH.out.2.1).far (p := ⟨gu, 3, none⟩) hne (.int .i64 size)) (.int .i64 oc) (.int .i64 dst) (.int .i64 src) (.int .i64 size) (.int .i64 imm))
    have HBB := Lib.hid (((((HB.out.setCell (p := ⟨w.heap.size + 1, 0, none⟩) hge1 (.int .i64 oc)).setCell (p := ⟨w.heap.size + 1, 1, none⟩) hge1 (.int .i64 dst)).setCell (p := ⟨w.heap.size + 1, 2, none⟩) hge1 (.int .i64 src)).setCell (p := ⟨w.heap.size + 1, 3, none⟩) hge1 (.int .i64 size)).setCell (p := ⟨w.heap.size + 1, 4, none⟩) hge1 (.int .i64 imm))
    clear hH hU
    go_wp2_with fail
    refine bodyPost_ret (v := .agg #[.int .i64 oc, .int .i64 dst, .int .i64 src, .int .i64 size, .int .i64 imm]) (results_cell_row Tryd.results56 _ _ (w.heap.size + 1) 106 #[.int .i64 oc, .int .i64 dst, .int .i64 src, .int .i64 size, .int .i64 imm] (0, 0) _ rfl HR.out Tryd.underlying106 rfl (by kernel_rfl)) rfl ⟨rfl, HBB.out⟩
end Go.Proofs.YtlodoinmippebaaDoor
/- Package code: first, 17 18 19. -/
namespace Go.Proofs.YtlodoinmippebaaDoor
open Go.ChangeShapes Go.WideShapes Go.ChangeAt Go.RowKit
open Cod
set_option linter.unusedVariables false

set_option maxHeartbeats 2000000 in
theorem first_17 (nar reg : Bool) (size dst src off imm : Int) (w : World) (ht : Tabs w) :
    Calls Tryd.prog 56 #[.agg #[.int .i64 17, .bool nar, .bool reg, .int .i64 size, .int .i64 dst, .int .i64 src, .int .i64 off, .int .i64 imm]] w fun e w' => e = .returned (.agg #[.int .i64 (opcodeL 17 nar reg size), .int .i64 dst, .int .i64 src, .int .i64 off, .int .i64 size]) ∧ Below w.heap.size w w' := by
  have H0 := Lib.hid (hold2_start w 17 nar reg size dst src off imm ht)
  have HO := Lib.hid (fun w0 g gr w h => @opcode_h w0 w g gr 17 nar reg size dst src off imm (by decide) (by omega) h)
  have HP := Lib.hid (show w.heap.size + 1 < w.heap.size + 1 + 1 by omega)
  generalize opcodeL 17 nar reg size = oc at *
  go_enter Tryd.func56, Tryd.ntmps56
  go_wp2_with fail
  go_region_held3 (fun w' => w'.cell? ⟨w.heap.size, 0, none⟩ = some (.int .i64 17) ∧ w'.cell? ⟨w.heap.size, 1, none⟩ = some (.bool nar) ∧ w'.cell? ⟨w.heap.size, 2, none⟩ = some (.bool reg) ∧ w'.cell? ⟨w.heap.size, 3, none⟩ = some (.int .i64 size) ∧ w'.cell? ⟨w.heap.size, 4, none⟩ = some (.int .i64 dst) ∧ w'.cell? ⟨w.heap.size, 5, none⟩ = some (.int .i64 src) ∧ w'.cell? ⟨w.heap.size, 6, none⟩ = some (.int .i64 off) ∧ w'.cell? ⟨w.heap.size, 7, none⟩ = some (.int .i64 imm) ∧ Hold2 w w.heap.size (w.heap.size + 1) ⟨17, nar, reg, size, dst, src, off, imm⟩ w')
    (first | with_reducible exact hold9 H0.out.drew | with_reducible exact hold9 hH1 | with_reducible exact hold9 (hH1.alloc _) | with_reducible exact hold9 (H0.out.alloc_drew _) | with_reducible exact hold9 (hH1.set5 HP.out _ _ _ _ _) | fail)
    (first | (go_at_call 87; (with_reducible refine (HO.out _ _ _ _ H0.out.drew).mono ?_); rintro e w1 ⟨rfl, hH1, hBB⟩; have hMid := Mid.after (oc := oc) hH1; clear hBB) | (go_at_call 87; (with_reducible refine (HO.out _ _ _ _ (H0.out.alloc_drew _)).mono ?_); rintro e w1 ⟨rfl, hH1, hBB⟩; have hnb := blk5 (g := w.heap.size + 1 + 1) (by simp) hBB; obtain ⟨n0, n1, n2, n3, n4, f0, f1, f2, f3, f4⟩ := cells5 hnb; have hMid := Mid.ahead (oc := oc) hH1 hnb; clear hBB))
  · clear hH1 H0 HO HP
    generalize (w1.alloc (Obj.cells #[.int .i64 oc, .int .i64 dst, .int .i64 src, .int .i64 off, .int .i64 imm] 106)) = W2 at hMid ⊢
    generalize w1.heap.size = gu at hMid ⊢
    obtain ⟨hH, hU, hlt⟩ := hMid
    obtain ⟨u0, u1, u2, u3, u4, v0, v1, v2, v3, v4⟩ := cells5 hU
    obtain ⟨q0, q1, q2, q3, q4, q5, q6, q7, _⟩ := hold9 hH
    obtain ⟨r0, r1, r2, r3, r4, s0, s1, s2, s3, s4⟩ := cells5 hH.2.1
    have HH := Lib.hid hH
    have HU := Lib.hid hU
    have hne : w.heap.size + 1 ≠ gu := by omega
    have hge : w.heap.size ≤ gu := by omega
    have hge1 : w.heap.size ≤ w.heap.size + 1 := by omega
    have HB := Lib.hid ((HH.out.1.2.2.2).setCell (p := ⟨gu, 4, none⟩) hge (.int .i64 size))
    have HR := Lib.hid (set5 ((HH.out.2.1).far (p := ⟨gu, 4, none⟩) hne (.int .i64 size)) (.int .i64 oc) (.int .i64 dst) (.int .i64 src) (.int .i64 off) (.int .i64 size))
    have HBB := Lib.hid (((((HB.out.setCell (p := ⟨w.heap.size + 1, 0, none⟩) hge1 (.int .i64 oc)).setCell (p := ⟨w.heap.size + 1, 1, none⟩) hge1 (.int .i64 dst)).setCell (p := ⟨w.heap.size + 1, 2, none⟩) hge1 (.int .i64 src)).setCell (p := ⟨w.heap.size + 1, 3, none⟩) hge1 (.int .i64 off)).setCell (p := ⟨w.heap.size + 1, 4, none⟩) hge1 (.int .i64 size))
    clear hH hU
    go_wp2_with fail
    refine bodyPost_ret (v := .agg #[.int .i64 oc, .int .i64 dst, .int .i64 src, .int .i64 off, .int .i64 size]) (results_cell_row Tryd.results56 _ _ (w.heap.size + 1) 106 #[.int .i64 oc, .int .i64 dst, .int .i64 src, .int .i64 off, .int .i64 size] (0, 0) _ rfl HR.out Tryd.underlying106 rfl (by kernel_rfl)) rfl ⟨rfl, HBB.out⟩
  · clear hH1 H0 HO HP n0 n1 n2 n3 n4 f0 f1 f2 f3 f4 hnb
    generalize (((((w1.setCell ⟨w.heap.size + 1 + 1, 0, none⟩ (.int .i64 oc)).setCell ⟨w.heap.size + 1 + 1, 1, none⟩ (.int .i64 dst)).setCell ⟨w.heap.size + 1 + 1, 2, none⟩ (.int .i64 src)).setCell ⟨w.heap.size + 1 + 1, 3, none⟩ (.int .i64 off)).setCell ⟨w.heap.size + 1 + 1, 4, none⟩ (.int .i64 imm)) = W2 at hMid ⊢
    obtain ⟨gu, hgu⟩ : ∃ gu, w.heap.size + 1 + 1 = gu := ⟨_, rfl⟩
    rw [hgu] at hMid ⊢
    clear hgu
    obtain ⟨hH, hU, hlt⟩ := hMid
    obtain ⟨u0, u1, u2, u3, u4, v0, v1, v2, v3, v4⟩ := cells5 hU
    obtain ⟨q0, q1, q2, q3, q4, q5, q6, q7, _⟩ := hold9 hH
    obtain ⟨r0, r1, r2, r3, r4, s0, s1, s2, s3, s4⟩ := cells5 hH.2.1
    have HH := Lib.hid hH
    have HU := Lib.hid hU
    have hne : w.heap.size + 1 ≠ gu := by omega
    have hge : w.heap.size ≤ gu := by omega
    have hge1 : w.heap.size ≤ w.heap.size + 1 := by omega
    have HB := Lib.hid ((HH.out.1.2.2.2).setCell (p := ⟨gu, 4, none⟩) hge (.int .i64 size))
    have HR := Lib.hid (set5 ((HH.out.2.1).far (p := ⟨gu, 4, none⟩) hne (.int .i64 size)) (.int .i64 oc) (.int .i64 dst) (.int .i64 src) (.int .i64 off) (.int .i64 size))
    have HBB := Lib.hid (((((HB.out.setCell (p := ⟨w.heap.size + 1, 0, none⟩) hge1 (.int .i64 oc)).setCell (p := ⟨w.heap.size + 1, 1, none⟩) hge1 (.int .i64 dst)).setCell (p := ⟨w.heap.size + 1, 2, none⟩) hge1 (.int .i64 src)).setCell (p := ⟨w.heap.size + 1, 3, none⟩) hge1 (.int .i64 off)).setCell (p := ⟨w.heap.size + 1, 4, none⟩) hge1 (.int .i64 size))
    clear hH hU
    go_wp2_with fail
    refine bodyPost_ret (v := .agg #[.int .i64 oc, .int .i64 dst, .int .i64 src, .int .i64 off, .int .i64 size]) (results_cell_row Tryd.results56 _ _ (w.heap.size + 1) 106 #[.int .i64 oc, .int .i64 dst, .int .i64 src, .int .i64 off, .int .i64 size] (0, 0) _ rfl HR.out Tryd.underlying106 rfl (by kernel_rfl)) rfl ⟨rfl, HBB.out⟩

set_option maxHeartbeats 2000000 in
theorem first_18 (nar reg : Bool) (size dst src off imm : Int) (w : World) (ht : Tabs w) :
    Calls Tryd.prog 56 #[.agg #[.int .i64 18, .bool nar, .bool reg, .int .i64 size, .int .i64 dst, .int .i64 src, .int .i64 off, .int .i64 imm]] w fun e w' => e = .returned (.agg #[.int .i64 (opcodeL 18 nar reg size), .int .i64 dst, .int .i64 src, .int .i64 off, .int .i64 size]) ∧ Below w.heap.size w w' := by
  have H0 := Lib.hid (hold2_start w 18 nar reg size dst src off imm ht)
  have HO := Lib.hid (fun w0 g gr w h => @opcode_h w0 w g gr 18 nar reg size dst src off imm (by decide) (by omega) h)
  have HP := Lib.hid (show w.heap.size + 1 < w.heap.size + 1 + 1 by omega)
  generalize opcodeL 18 nar reg size = oc at *
  go_enter Tryd.func56, Tryd.ntmps56
  go_wp2_with fail
  go_region_held3 (fun w' => w'.cell? ⟨w.heap.size, 0, none⟩ = some (.int .i64 18) ∧ w'.cell? ⟨w.heap.size, 1, none⟩ = some (.bool nar) ∧ w'.cell? ⟨w.heap.size, 2, none⟩ = some (.bool reg) ∧ w'.cell? ⟨w.heap.size, 3, none⟩ = some (.int .i64 size) ∧ w'.cell? ⟨w.heap.size, 4, none⟩ = some (.int .i64 dst) ∧ w'.cell? ⟨w.heap.size, 5, none⟩ = some (.int .i64 src) ∧ w'.cell? ⟨w.heap.size, 6, none⟩ = some (.int .i64 off) ∧ w'.cell? ⟨w.heap.size, 7, none⟩ = some (.int .i64 imm) ∧ Hold2 w w.heap.size (w.heap.size + 1) ⟨18, nar, reg, size, dst, src, off, imm⟩ w')
    (first | with_reducible exact hold9 H0.out.drew | with_reducible exact hold9 hH1 | with_reducible exact hold9 (hH1.alloc _) | with_reducible exact hold9 (H0.out.alloc_drew _) | with_reducible exact hold9 (hH1.set5 HP.out _ _ _ _ _) | fail)
    (first | (go_at_call 87; (with_reducible refine (HO.out _ _ _ _ H0.out.drew).mono ?_); rintro e w1 ⟨rfl, hH1, hBB⟩; have hMid := Mid.after (oc := oc) hH1; clear hBB) | (go_at_call 87; (with_reducible refine (HO.out _ _ _ _ (H0.out.alloc_drew _)).mono ?_); rintro e w1 ⟨rfl, hH1, hBB⟩; have hnb := blk5 (g := w.heap.size + 1 + 1) (by simp) hBB; obtain ⟨n0, n1, n2, n3, n4, f0, f1, f2, f3, f4⟩ := cells5 hnb; have hMid := Mid.ahead (oc := oc) hH1 hnb; clear hBB))
  · clear hH1 H0 HO HP
    generalize (w1.alloc (Obj.cells #[.int .i64 oc, .int .i64 dst, .int .i64 src, .int .i64 off, .int .i64 imm] 106)) = W2 at hMid ⊢
    generalize w1.heap.size = gu at hMid ⊢
    obtain ⟨hH, hU, hlt⟩ := hMid
    obtain ⟨u0, u1, u2, u3, u4, v0, v1, v2, v3, v4⟩ := cells5 hU
    obtain ⟨q0, q1, q2, q3, q4, q5, q6, q7, _⟩ := hold9 hH
    obtain ⟨r0, r1, r2, r3, r4, s0, s1, s2, s3, s4⟩ := cells5 hH.2.1
    have HH := Lib.hid hH
    have HU := Lib.hid hU
    have hne : w.heap.size + 1 ≠ gu := by omega
    have hge : w.heap.size ≤ gu := by omega
    have hge1 : w.heap.size ≤ w.heap.size + 1 := by omega
    have HB := Lib.hid ((HH.out.1.2.2.2).setCell (p := ⟨gu, 4, none⟩) hge (.int .i64 size))
    have HR := Lib.hid (set5 ((HH.out.2.1).far (p := ⟨gu, 4, none⟩) hne (.int .i64 size)) (.int .i64 oc) (.int .i64 dst) (.int .i64 src) (.int .i64 off) (.int .i64 size))
    have HBB := Lib.hid (((((HB.out.setCell (p := ⟨w.heap.size + 1, 0, none⟩) hge1 (.int .i64 oc)).setCell (p := ⟨w.heap.size + 1, 1, none⟩) hge1 (.int .i64 dst)).setCell (p := ⟨w.heap.size + 1, 2, none⟩) hge1 (.int .i64 src)).setCell (p := ⟨w.heap.size + 1, 3, none⟩) hge1 (.int .i64 off)).setCell (p := ⟨w.heap.size + 1, 4, none⟩) hge1 (.int .i64 size))
    clear hH hU
    go_wp2_with fail
    refine bodyPost_ret (v := .agg #[.int .i64 oc, .int .i64 dst, .int .i64 src, .int .i64 off, .int .i64 size]) (results_cell_row Tryd.results56 _ _ (w.heap.size + 1) 106 #[.int .i64 oc, .int .i64 dst, .int .i64 src, .int .i64 off, .int .i64 size] (0, 0) _ rfl HR.out Tryd.underlying106 rfl (by kernel_rfl)) rfl ⟨rfl, HBB.out⟩
  · clear hH1 H0 HO HP n0 n1 n2 n3 n4 f0 f1 f2 f3 f4 hnb
    generalize (((((w1.setCell ⟨w.heap.size + 1 + 1, 0, none⟩ (.int .i64 oc)).setCell ⟨w.heap.size + 1 + 1, 1, none⟩ (.int .i64 dst)).setCell ⟨w.heap.size + 1 + 1, 2, none⟩ (.int .i64 src)).setCell ⟨w.heap.size + 1 + 1, 3, none⟩ (.int .i64 off)).setCell ⟨w.heap.size + 1 + 1, 4, none⟩ (.int .i64 imm)) = W2 at hMid ⊢
    obtain ⟨gu, hgu⟩ : ∃ gu, w.heap.size + 1 + 1 = gu := ⟨_, rfl⟩
    rw [hgu] at hMid ⊢
    clear hgu
    obtain ⟨hH, hU, hlt⟩ := hMid
    obtain ⟨u0, u1, u2, u3, u4, v0, v1, v2, v3, v4⟩ := cells5 hU
    obtain ⟨q0, q1, q2, q3, q4, q5, q6, q7, _⟩ := hold9 hH
    obtain ⟨r0, r1, r2, r3, r4, s0, s1, s2, s3, s4⟩ := cells5 hH.2.1
    have HH := Lib.hid hH
    have HU := Lib.hid hU
    have hne : w.heap.size + 1 ≠ gu := by omega
    have hge : w.heap.size ≤ gu := by omega
    have hge1 : w.heap.size ≤ w.heap.size + 1 := by omega
    have HB := Lib.hid ((HH.out.1.2.2.2).setCell (p := ⟨gu, 4, none⟩) hge (.int .i64 size))
    have HR := Lib.hid (set5 ((HH.out.2.1).far (p := ⟨gu, 4, none⟩) hne (.int .i64 size)) (.int .i64 oc) (.int .i64 dst) (.int .i64 src) (.int .i64 off) (.int .i64 size))
    have HBB := Lib.hid (((((HB.out.setCell (p := ⟨w.heap.size + 1, 0, none⟩) hge1 (.int .i64 oc)).setCell (p := ⟨w.heap.size + 1, 1, none⟩) hge1 (.int .i64 dst)).setCell (p := ⟨w.heap.size + 1, 2, none⟩) hge1 (.int .i64 src)).setCell (p := ⟨w.heap.size + 1, 3, none⟩) hge1 (.int .i64 off)).setCell (p := ⟨w.heap.size + 1, 4, none⟩) hge1 (.int .i64 size))
    clear hH hU
    go_wp2_with fail
    refine bodyPost_ret (v := .agg #[.int .i64 oc, .int .i64 dst, .int .i64 src, .int .i64 off, .int .i64 size]) (results_cell_row Tryd.results56 _ _ (w.heap.size + 1) 106 #[.int .i64 oc, .int .i64 dst, .int .i64 src, .int .i64 off, .int .i64 size] (0, 0) _ rfl HR.out Tryd.underlying106 rfl (by kernel_rfl)) rfl ⟨rfl, HBB.out⟩

set_option maxHeartbeats 2000000 in
theorem first_19 (nar reg : Bool) (size dst src off imm : Int) (w : World) (ht : Tabs w) :
    Calls Tryd.prog 56 #[.agg #[.int .i64 19, .bool nar, .bool reg, .int .i64 size, .int .i64 dst, .int .i64 src, .int .i64 off, .int .i64 imm]] w fun e w' => e = .returned (.agg #[.int .i64 (opcodeL 19 nar reg size), .int .i64 dst, .int .i64 src, .int .i64 off, .int .i64 size]) ∧ Below w.heap.size w w' := by
  have H0 := Lib.hid (hold2_start w 19 nar reg size dst src off imm ht)
  have HO := Lib.hid (fun w0 g gr w h => @opcode_h w0 w g gr 19 nar reg size dst src off imm (by decide) (by omega) h)
  have HP := Lib.hid (show w.heap.size + 1 < w.heap.size + 1 + 1 by omega)
  generalize opcodeL 19 nar reg size = oc at *
  go_enter Tryd.func56, Tryd.ntmps56
  go_wp2_with fail
  go_region_held3 (fun w' => w'.cell? ⟨w.heap.size, 0, none⟩ = some (.int .i64 19) ∧ w'.cell? ⟨w.heap.size, 1, none⟩ = some (.bool nar) ∧ w'.cell? ⟨w.heap.size, 2, none⟩ = some (.bool reg) ∧ w'.cell? ⟨w.heap.size, 3, none⟩ = some (.int .i64 size) ∧ w'.cell? ⟨w.heap.size, 4, none⟩ = some (.int .i64 dst) ∧ w'.cell? ⟨w.heap.size, 5, none⟩ = some (.int .i64 src) ∧ w'.cell? ⟨w.heap.size, 6, none⟩ = some (.int .i64 off) ∧ w'.cell? ⟨w.heap.size, 7, none⟩ = some (.int .i64 imm) ∧ Hold2 w w.heap.size (w.heap.size + 1) ⟨19, nar, reg, size, dst, src, off, imm⟩ w')
    (first | with_reducible exact hold9 H0.out.drew | with_reducible exact hold9 hH1 | with_reducible exact hold9 (hH1.alloc _) | with_reducible exact hold9 (H0.out.alloc_drew _) | with_reducible exact hold9 (hH1.set5 HP.out _ _ _ _ _) | fail)
    (first | (go_at_call 87; (with_reducible refine (HO.out _ _ _ _ H0.out.drew).mono ?_); rintro e w1 ⟨rfl, hH1, hBB⟩; have hMid := Mid.after (oc := oc) hH1; clear hBB) | (go_at_call 87; (with_reducible refine (HO.out _ _ _ _ (H0.out.alloc_drew _)).mono ?_); rintro e w1 ⟨rfl, hH1, hBB⟩; have hnb := blk5 (g := w.heap.size + 1 + 1) (by simp) hBB; obtain ⟨n0, n1, n2, n3, n4, f0, f1, f2, f3, f4⟩ := cells5 hnb; have hMid := Mid.ahead (oc := oc) hH1 hnb; clear hBB))
  · clear hH1 H0 HO HP
    generalize (w1.alloc (Obj.cells #[.int .i64 oc, .int .i64 dst, .int .i64 src, .int .i64 off, .int .i64 imm] 106)) = W2 at hMid ⊢
    generalize w1.heap.size = gu at hMid ⊢
    obtain ⟨hH, hU, hlt⟩ := hMid
    obtain ⟨u0, u1, u2, u3, u4, v0, v1, v2, v3, v4⟩ := cells5 hU
    obtain ⟨q0, q1, q2, q3, q4, q5, q6, q7, _⟩ := hold9 hH
    obtain ⟨r0, r1, r2, r3, r4, s0, s1, s2, s3, s4⟩ := cells5 hH.2.1
    have HH := Lib.hid hH
    have HU := Lib.hid hU
    have hne : w.heap.size + 1 ≠ gu := by omega
    have hge : w.heap.size ≤ gu := by omega
    have hge1 : w.heap.size ≤ w.heap.size + 1 := by omega
    have HB := Lib.hid ((HH.out.1.2.2.2).setCell (p := ⟨gu, 4, none⟩) hge (.int .i64 size))
    have HR := Lib.hid (set5 ((HH.out.2.1).far (p := ⟨gu, 4, none⟩) hne (.int .i64 size)) (.int .i64 oc) (.int .i64 dst) (.int .i64 src) (.int .i64 off) (.int .i64 size))
    have HBB := Lib.hid (((((HB.out.setCell (p := ⟨w.heap.size + 1, 0, none⟩) hge1 (.int .i64 oc)).setCell (p := ⟨w.heap.size + 1, 1, none⟩) hge1 (.int .i64 dst)).setCell (p := ⟨w.heap.size + 1, 2, none⟩) hge1 (.int .i64 src)).setCell (p := ⟨w.heap.size + 1, 3, none⟩) hge1 (.int .i64 off)).setCell (p := ⟨w.heap.size + 1, 4, none⟩) hge1 (.int .i64 size))
    clear hH hU
    go_wp2_with fail
    refine bodyPost_ret (v := .agg #[.int .i64 oc, .int .i64 dst, .int .i64 src, .int .i64 off, .int .i64 size]) (results_cell_row Tryd.results56 _ _ (w.heap.size + 1) 106 #[.int .i64 oc, .int .i64 dst, .int .i64 src, .int .i64 off, .int .i64 size] (0, 0) _ rfl HR.out Tryd.underlying106 rfl (by kernel_rfl)) rfl ⟨rfl, HBB.out⟩
  · clear hH1 H0 HO HP n0 n1 n2 n3 n4 f0 f1 f2 f3 f4 hnb
    generalize (((((w1.setCell ⟨w.heap.size + 1 + 1, 0, none⟩ (.int .i64 oc)).setCell ⟨w.heap.size + 1 + 1, 1, none⟩ (.int .i64 dst)).setCell ⟨w.heap.size + 1 + 1, 2, none⟩ (.int .i64 src)).setCell ⟨w.heap.size + 1 + 1, 3, none⟩ (.int .i64 off)).setCell ⟨w.heap.size + 1 + 1, 4, none⟩ (.int .i64 imm)) = W2 at hMid ⊢
    obtain ⟨gu, hgu⟩ : ∃ gu, w.heap.size + 1 + 1 = gu := ⟨_, rfl⟩
    rw [hgu] at hMid ⊢
    clear hgu
    obtain ⟨hH, hU, hlt⟩ := hMid
    obtain ⟨u0, u1, u2, u3, u4, v0, v1, v2, v3, v4⟩ := cells5 hU
    obtain ⟨q0, q1, q2, q3, q4, q5, q6, q7, _⟩ := hold9 hH
    obtain ⟨r0, r1, r2, r3, r4, s0, s1, s2, s3, s4⟩ := cells5 hH.2.1
    have HH := Lib.hid hH
    have HU := Lib.hid hU
    have hne : w.heap.size + 1 ≠ gu := by omega
    have hge : w.heap.size ≤ gu := by omega
    have hge1 : w.heap.size ≤ w.heap.size + 1 := by omega
    have HB := Lib.hid ((HH.out.1.2.2.2).setCell (p := ⟨gu, 4, none⟩) hge (.int .i64 size))
    have HR := Lib.hid (set5 ((HH.out.2.1).far (p := ⟨gu, 4, none⟩) hne (.int .i64 size)) (.int .i64 oc) (.int .i64 dst) (.int .i64 src) (.int .i64 off) (.int .i64 size))
    have HBB := Lib.hid (((((HB.out.setCell (p := ⟨w.heap.size + 1, 0, none⟩) hge1 (.int .i64 oc)).setCell (p := ⟨w.heap.size + 1, 1, none⟩) hge1 (.int .i64 dst)).setCell (p := ⟨w.heap.size + 1, 2, none⟩) hge1 (.int .i64 src)).setCell (p := ⟨w.heap.size + 1, 3, none⟩) hge1 (.int .i64 off)).setCell (p := ⟨w.heap.size + 1, 4, none⟩) hge1 (.int .i64 size))
    clear hH hU
    go_wp2_with fail
    refine bodyPost_ret (v := .agg #[.int .i64 oc, .int .i64 dst, .int .i64 src, .int .i64 off, .int .i64 size]) (results_cell_row Tryd.results56 _ _ (w.heap.size + 1) 106 #[.int .i64 oc, .int .i64 dst, .int .i64 src, .int .i64 off, .int .i64 size] (0, 0) _ rfl HR.out Tryd.underlying106 rfl (by kernel_rfl)) rfl ⟨rfl, HBB.out⟩
end Go.Proofs.YtlodoinmippebaaDoor
/- Package code: first, 20 21. -/
namespace Go.Proofs.YtlodoinmippebaaDoor
open Go.ChangeShapes Go.WideShapes Go.ChangeAt Go.RowKit
open Cod
set_option linter.unusedVariables false

set_option maxHeartbeats 2000000 in
theorem first_20 (nar reg : Bool) (size dst src off imm : Int) (w : World) (ht : Tabs w) :
    Calls Tryd.prog 56 #[.agg #[.int .i64 20, .bool nar, .bool reg, .int .i64 size, .int .i64 dst, .int .i64 src, .int .i64 off, .int .i64 imm]] w fun e w' => e = .returned (.agg #[.int .i64 (opcodeL 20 nar reg size), .int .i64 dst, .int .i64 src, .int .i64 off, .int .i64 (wrap32 imm)]) ∧ Below w.heap.size w w' := by
  have H0 := Lib.hid (hold2_start w 20 nar reg size dst src off imm ht)
  have HO := Lib.hid (fun w0 g gr w h => @opcode_h w0 w g gr 20 nar reg size dst src off imm (by decide) (by omega) h)
  have HP := Lib.hid (show w.heap.size + 1 < w.heap.size + 1 + 1 by omega)
  generalize opcodeL 20 nar reg size = oc at *
  go_enter Tryd.func56, Tryd.ntmps56
  go_wp2_with fail
  go_region_held3 (fun w' => w'.cell? ⟨w.heap.size, 0, none⟩ = some (.int .i64 20) ∧ w'.cell? ⟨w.heap.size, 1, none⟩ = some (.bool nar) ∧ w'.cell? ⟨w.heap.size, 2, none⟩ = some (.bool reg) ∧ w'.cell? ⟨w.heap.size, 3, none⟩ = some (.int .i64 size) ∧ w'.cell? ⟨w.heap.size, 4, none⟩ = some (.int .i64 dst) ∧ w'.cell? ⟨w.heap.size, 5, none⟩ = some (.int .i64 src) ∧ w'.cell? ⟨w.heap.size, 6, none⟩ = some (.int .i64 off) ∧ w'.cell? ⟨w.heap.size, 7, none⟩ = some (.int .i64 imm) ∧ Hold2 w w.heap.size (w.heap.size + 1) ⟨20, nar, reg, size, dst, src, off, imm⟩ w')
    (first | with_reducible exact hold9 H0.out.drew | with_reducible exact hold9 hH1 | with_reducible exact hold9 (hH1.alloc _) | with_reducible exact hold9 (H0.out.alloc_drew _) | with_reducible exact hold9 (hH1.set5 HP.out _ _ _ _ _) | fail)
    (first | (go_at_call 87; (with_reducible refine (HO.out _ _ _ _ H0.out.drew).mono ?_); rintro e w1 ⟨rfl, hH1, hBB⟩; have hMid := Mid.after (oc := oc) hH1; clear hBB) | (go_at_call 87; (with_reducible refine (HO.out _ _ _ _ (H0.out.alloc_drew _)).mono ?_); rintro e w1 ⟨rfl, hH1, hBB⟩; have hnb := blk5 (g := w.heap.size + 1 + 1) (by simp) hBB; obtain ⟨n0, n1, n2, n3, n4, f0, f1, f2, f3, f4⟩ := cells5 hnb; have hMid := Mid.ahead (oc := oc) hH1 hnb; clear hBB))
  · clear hH1 H0 HO HP
    generalize (w1.alloc (Obj.cells #[.int .i64 oc, .int .i64 dst, .int .i64 src, .int .i64 off, .int .i64 imm] 106)) = W2 at hMid ⊢
    generalize w1.heap.size = gu at hMid ⊢
    obtain ⟨hH, hU, hlt⟩ := hMid
    obtain ⟨u0, u1, u2, u3, u4, v0, v1, v2, v3, v4⟩ := cells5 hU
    obtain ⟨q0, q1, q2, q3, q4, q5, q6, q7, _⟩ := hold9 hH
    obtain ⟨r0, r1, r2, r3, r4, s0, s1, s2, s3, s4⟩ := cells5 hH.2.1
    have HH := Lib.hid hH
    have HU := Lib.hid hU
    have hne : w.heap.size + 1 ≠ gu := by omega
    have hge : w.heap.size ≤ gu := by omega
    have hge1 : w.heap.size ≤ w.heap.size + 1 := by omega
    have HB := Lib.hid ((HH.out.1.2.2.2).setCell (p := ⟨gu, 4, none⟩) hge (.int .i64 (wrap32 imm)))
    have HR := Lib.hid (set5 ((HH.out.2.1).far (p := ⟨gu, 4, none⟩) hne (.int .i64 (wrap32 imm))) (.int .i64 oc) (.int .i64 dst) (.int .i64 src) (.int .i64 off) (.int .i64 (wrap32 imm)))
    have HBB := Lib.hid (((((HB.out.setCell (p := ⟨w.heap.size + 1, 0, none⟩) hge1 (.int .i64 oc)).setCell (p := ⟨w.heap.size + 1, 1, none⟩) hge1 (.int .i64 dst)).setCell (p := ⟨w.heap.size + 1, 2, none⟩) hge1 (.int .i64 src)).setCell (p := ⟨w.heap.size + 1, 3, none⟩) hge1 (.int .i64 off)).setCell (p := ⟨w.heap.size + 1, 4, none⟩) hge1 (.int .i64 (wrap32 imm)))
    clear hH hU
    have e32 : wrap64 (wrap32 imm) = wrap32 imm := by unfold wrap64 wrap32; omega
    go_wp2_with fail
    refine bodyPost_ret (v := .agg #[.int .i64 oc, .int .i64 dst, .int .i64 src, .int .i64 off, .int .i64 (wrap32 imm)]) (results_cell_row Tryd.results56 _ _ (w.heap.size + 1) 106 #[.int .i64 oc, .int .i64 dst, .int .i64 src, .int .i64 off, .int .i64 (wrap32 imm)] (0, 0) _ rfl HR.out Tryd.underlying106 rfl (by kernel_rfl)) rfl ⟨rfl, HBB.out⟩
  · clear hH1 H0 HO HP n0 n1 n2 n3 n4 f0 f1 f2 f3 f4 hnb
    generalize (((((w1.setCell ⟨w.heap.size + 1 + 1, 0, none⟩ (.int .i64 oc)).setCell ⟨w.heap.size + 1 + 1, 1, none⟩ (.int .i64 dst)).setCell ⟨w.heap.size + 1 + 1, 2, none⟩ (.int .i64 src)).setCell ⟨w.heap.size + 1 + 1, 3, none⟩ (.int .i64 off)).setCell ⟨w.heap.size + 1 + 1, 4, none⟩ (.int .i64 imm)) = W2 at hMid ⊢
    obtain ⟨gu, hgu⟩ : ∃ gu, w.heap.size + 1 + 1 = gu := ⟨_, rfl⟩
    rw [hgu] at hMid ⊢
    clear hgu
    obtain ⟨hH, hU, hlt⟩ := hMid
    obtain ⟨u0, u1, u2, u3, u4, v0, v1, v2, v3, v4⟩ := cells5 hU
    obtain ⟨q0, q1, q2, q3, q4, q5, q6, q7, _⟩ := hold9 hH
    obtain ⟨r0, r1, r2, r3, r4, s0, s1, s2, s3, s4⟩ := cells5 hH.2.1
    have HH := Lib.hid hH
    have HU := Lib.hid hU
    have hne : w.heap.size + 1 ≠ gu := by omega
    have hge : w.heap.size ≤ gu := by omega
    have hge1 : w.heap.size ≤ w.heap.size + 1 := by omega
    have HB := Lib.hid ((HH.out.1.2.2.2).setCell (p := ⟨gu, 4, none⟩) hge (.int .i64 (wrap32 imm)))
    have HR := Lib.hid (set5 ((HH.out.2.1).far (p := ⟨gu, 4, none⟩) hne (.int .i64 (wrap32 imm))) (.int .i64 oc) (.int .i64 dst) (.int .i64 src) (.int .i64 off) (.int .i64 (wrap32 imm)))
    have HBB := Lib.hid (((((HB.out.setCell (p := ⟨w.heap.size + 1, 0, none⟩) hge1 (.int .i64 oc)).setCell (p := ⟨w.heap.size + 1, 1, none⟩) hge1 (.int .i64 dst)).setCell (p := ⟨w.heap.size + 1, 2, none⟩) hge1 (.int .i64 src)).setCell (p := ⟨w.heap.size + 1, 3, none⟩) hge1 (.int .i64 off)).setCell (p := ⟨w.heap.size + 1, 4, none⟩) hge1 (.int .i64 (wrap32 imm)))
    clear hH hU
    have e32 : wrap64 (wrap32 imm) = wrap32 imm := by unfold wrap64 wrap32; omega
    go_wp2_with fail
    refine bodyPost_ret (v := .agg #[.int .i64 oc, .int .i64 dst, .int .i64 src, .int .i64 off, .int .i64 (wrap32 imm)]) (results_cell_row Tryd.results56 _ _ (w.heap.size + 1) 106 #[.int .i64 oc, .int .i64 dst, .int .i64 src, .int .i64 off, .int .i64 (wrap32 imm)] (0, 0) _ rfl HR.out Tryd.underlying106 rfl (by kernel_rfl)) rfl ⟨rfl, HBB.out⟩

set_option maxHeartbeats 2000000 in
theorem first_21 (nar reg : Bool) (size dst src off imm : Int) (w : World) (ht : Tabs w) :
    Calls Tryd.prog 56 #[.agg #[.int .i64 21, .bool nar, .bool reg, .int .i64 size, .int .i64 dst, .int .i64 src, .int .i64 off, .int .i64 imm]] w fun e w' => e = .returned (.agg #[.int .i64 (opcodeL 21 nar reg size), .int .i64 dst, .int .i64 6, .int .i64 off, .int .i64 0]) ∧ Below w.heap.size w w' := by
  have H0 := Lib.hid (hold2_start w 21 nar reg size dst src off imm ht)
  have HO := Lib.hid (fun w0 g gr w h => @opcode_h w0 w g gr 21 nar reg size dst src off imm (by decide) (by omega) h)
  have HP := Lib.hid (show w.heap.size + 1 < w.heap.size + 1 + 1 by omega)
  generalize opcodeL 21 nar reg size = oc at *
  go_enter Tryd.func56, Tryd.ntmps56
  go_wp2_with fail
  go_region_held3 (fun w' => w'.cell? ⟨w.heap.size, 0, none⟩ = some (.int .i64 21) ∧ w'.cell? ⟨w.heap.size, 1, none⟩ = some (.bool nar) ∧ w'.cell? ⟨w.heap.size, 2, none⟩ = some (.bool reg) ∧ w'.cell? ⟨w.heap.size, 3, none⟩ = some (.int .i64 size) ∧ w'.cell? ⟨w.heap.size, 4, none⟩ = some (.int .i64 dst) ∧ w'.cell? ⟨w.heap.size, 5, none⟩ = some (.int .i64 src) ∧ w'.cell? ⟨w.heap.size, 6, none⟩ = some (.int .i64 off) ∧ w'.cell? ⟨w.heap.size, 7, none⟩ = some (.int .i64 imm) ∧ Hold2 w w.heap.size (w.heap.size + 1) ⟨21, nar, reg, size, dst, src, off, imm⟩ w')
    (first | with_reducible exact hold9 H0.out.drew | with_reducible exact hold9 hH1 | with_reducible exact hold9 (hH1.alloc _) | with_reducible exact hold9 (H0.out.alloc_drew _) | with_reducible exact hold9 (hH1.set5 HP.out _ _ _ _ _) | fail)
    (first | (go_at_call 87; (with_reducible refine (HO.out _ _ _ _ H0.out.drew).mono ?_); rintro e w1 ⟨rfl, hH1, hBB⟩; have hMid := Mid.after (oc := oc) hH1; clear hBB) | (go_at_call 87; (with_reducible refine (HO.out _ _ _ _ (H0.out.alloc_drew _)).mono ?_); rintro e w1 ⟨rfl, hH1, hBB⟩; have hnb := blk5 (g := w.heap.size + 1 + 1) (by simp) hBB; obtain ⟨n0, n1, n2, n3, n4, f0, f1, f2, f3, f4⟩ := cells5 hnb; have hMid := Mid.ahead (oc := oc) hH1 hnb; clear hBB))
  · clear hH1 H0 HO HP
    generalize (w1.alloc (Obj.cells #[.int .i64 oc, .int .i64 dst, .int .i64 src, .int .i64 off, .int .i64 imm] 106)) = W2 at hMid ⊢
    generalize w1.heap.size = gu at hMid ⊢
    obtain ⟨hH, hU, hlt⟩ := hMid
    obtain ⟨u0, u1, u2, u3, u4, v0, v1, v2, v3, v4⟩ := cells5 hU
    obtain ⟨q0, q1, q2, q3, q4, q5, q6, q7, _⟩ := hold9 hH
    obtain ⟨r0, r1, r2, r3, r4, s0, s1, s2, s3, s4⟩ := cells5 hH.2.1
    have HH := Lib.hid hH
    have HU := Lib.hid hU
    have hne : w.heap.size + 1 ≠ gu := by omega
    have hge : w.heap.size ≤ gu := by omega
    have hge1 : w.heap.size ≤ w.heap.size + 1 := by omega
    have HB := Lib.hid (((HH.out.1.2.2.2).setCell (p := ⟨gu, 2, none⟩) hge (.int .i64 6)).setCell (p := ⟨gu, 4, none⟩) hge (.int .i64 0))
    have HR := Lib.hid (set5 (((HH.out.2.1).far (p := ⟨gu, 2, none⟩) hne (.int .i64 6)).far (p := ⟨gu, 4, none⟩) hne (.int .i64 0)) (.int .i64 oc) (.int .i64 dst) (.int .i64 6) (.int .i64 off) (.int .i64 0))
    have HBB := Lib.hid (((((HB.out.setCell (p := ⟨w.heap.size + 1, 0, none⟩) hge1 (.int .i64 oc)).setCell (p := ⟨w.heap.size + 1, 1, none⟩) hge1 (.int .i64 dst)).setCell (p := ⟨w.heap.size + 1, 2, none⟩) hge1 (.int .i64 6)).setCell (p := ⟨w.heap.size + 1, 3, none⟩) hge1 (.int .i64 off)).setCell (p := ⟨w.heap.size + 1, 4, none⟩) hge1 (.int .i64 0))
    clear hH hU
    go_wp2_with fail
    refine bodyPost_ret (v := .agg #[.int .i64 oc, .int .i64 dst, .int .i64 6, .int .i64 off, .int .i64 0]) (results_cell_row Tryd.results56 _ _ (w.heap.size + 1) 106 #[.int .i64 oc, .int .i64 dst, .int .i64 6, .int .i64 off, .int .i64 0] (0, 0) _ rfl HR.out Tryd.underlying106 rfl (by kernel_rfl)) rfl ⟨rfl, HBB.out⟩
  · clear hH1 H0 HO HP n0 n1 n2 n3 n4 f0 f1 f2 f3 f4 hnb
    generalize (((((w1.setCell ⟨w.heap.size + 1 + 1, 0, none⟩ (.int .i64 oc)).setCell ⟨w.heap.size + 1 + 1, 1, none⟩ (.int .i64 dst)).setCell ⟨w.heap.size + 1 + 1, 2, none⟩ (.int .i64 src)).setCell ⟨w.heap.size + 1 + 1, 3, none⟩ (.int .i64 off)).setCell ⟨w.heap.size + 1 + 1, 4, none⟩ (.int .i64 imm)) = W2 at hMid ⊢
    obtain ⟨gu, hgu⟩ : ∃ gu, w.heap.size + 1 + 1 = gu := ⟨_, rfl⟩
    rw [hgu] at hMid ⊢
    clear hgu
    obtain ⟨hH, hU, hlt⟩ := hMid
    obtain ⟨u0, u1, u2, u3, u4, v0, v1, v2, v3, v4⟩ := cells5 hU
    obtain ⟨q0, q1, q2, q3, q4, q5, q6, q7, _⟩ := hold9 hH
    obtain ⟨r0, r1, r2, r3, r4, s0, s1, s2, s3, s4⟩ := cells5 hH.2.1
    have HH := Lib.hid hH
    have HU := Lib.hid hU
    have hne : w.heap.size + 1 ≠ gu := by omega
    have hge : w.heap.size ≤ gu := by omega
    have hge1 : w.heap.size ≤ w.heap.size + 1 := by omega
    have HB := Lib.hid (((HH.out.1.2.2.2).setCell (p := ⟨gu, 2, none⟩) hge (.int .i64 6)).setCell (p := ⟨gu, 4, none⟩) hge (.int .i64 0))
    have HR := Lib.hid (set5 (((HH.out.2.1).far (p := ⟨gu, 2, none⟩) hne (.int .i64 6)).far (p := ⟨gu, 4, none⟩) hne (.int .i64 0)) (.int .i64 oc) (.int .i64 dst) (.int .i64 6) (.int .i64 off) (.int .i64 0))
    have HBB := Lib.hid (((((HB.out.setCell (p := ⟨w.heap.size + 1, 0, none⟩) hge1 (.int .i64 oc)).setCell (p := ⟨w.heap.size + 1, 1, none⟩) hge1 (.int .i64 dst)).setCell (p := ⟨w.heap.size + 1, 2, none⟩) hge1 (.int .i64 6)).setCell (p := ⟨w.heap.size + 1, 3, none⟩) hge1 (.int .i64 off)).setCell (p := ⟨w.heap.size + 1, 4, none⟩) hge1 (.int .i64 0))
    clear hH hU
    go_wp2_with fail
    refine bodyPost_ret (v := .agg #[.int .i64 oc, .int .i64 dst, .int .i64 6, .int .i64 off, .int .i64 0]) (results_cell_row Tryd.results56 _ _ (w.heap.size + 1) 106 #[.int .i64 oc, .int .i64 dst, .int .i64 6, .int .i64 off, .int .i64 0] (0, 0) _ rfl HR.out Tryd.underlying106 rfl (by kernel_rfl)) rfl ⟨rfl, HBB.out⟩
end Go.Proofs.YtlodoinmippebaaDoor
/- Package code: second, appendTo. -/
namespace Go.Proofs.YtlodoinmippebaaDoor
open Go.ChangeShapes Go.WideShapes Go.ChangeAt Go.RowKit
open Cod Bits
set_option linter.unusedVariables false

/-- the eight bytes of a unit -/
def unitB (oc dst src off imm : Int) : List Int :=
  [oc % 256, bits BinOp.or IntKind.i64 dst (wrap64 (src * 16)) % 256, off % 256, off / 256 % 256, imm % 256, imm / 256 % 256, imm / 65536 % 256, imm / 16777216 % 256]
theorem OwnB.alloc {w : World} {base : Nat} {v : Value} {L : List Int} (h : OwnB w base v L) (o : Obj) : OwnB (w.alloc o) base v L := World.ownsRow.alloc h o

/-- but for the row that is appended to, what was there stays -/
def KeepsBut (v : Value) (w w' : World) : Prop := ∀ b, b < w.heap.size → some b ≠ v.ownBlock → w'.heap[b]? = w.heap[b]?
theorem append_bytes2 {P : Program} (hu : P.underlying 22 = some (.slice 5)) (hinf : (P.info? 5).map (fun i => (i.zero, i.size, i.bytes)) = some (some (.int .u8 0), 1, 1)) (w : World) {ops : Array Oper} {rest : List Oper} {o : Oper} {a : Act} {Q : Exit → Act → World → Prop} (hgd : o.guard = none) (s x : Operand)
    (ho : o.op = .call { callee := .builtin .append, args := #[s, x], argTypes := #[22, 22] })
    (base : Nat) (v : Value) (L : List Int) (hs : a.eval s = v) (hown : OwnB w base v L)
    (A : Option Addr) (m c : Nat) (M : List Int) (hx : a.eval x = .slice A m c) (hm : M.length = m) (hr : BytesAt w A M)
    (hlen : L.length + m ≤ 140737488355328) (hbase : base ≤ w.heap.size)
    (h : ∀ v' w', OwnB w' base v' (L ++ M) → Below base w w' → KeepsBut v w w' → wpList P ops Q rest (a.put o.dst v') w') : wpList P ops Q (o :: rest) a w := by
  subst hm
  obtain ⟨i0, hi, hz0, hz1, hz2⟩ := info_parts hinf
  refine wpList_append_any w hgd s x 22 ho base 5 i0 (.int .u8 0) 1 1 hu hi hz0 hz1 hz2 rfl (by decide) v L.length _ hs hown w.heap.size A M.length c _ hx hr.reads
    (fun u hu => ?_) (by unfold maxLen; omega) (by omega) hbase ?_
  · simp only [List.mem_map] at hu
    obtain ⟨z, _, rfl⟩ := hu
    rfl
  · intro v' w' h1 h2 _
    refine h v' w' ?_ ((Below.refl base w).grown h2 hbase fun k hk => (World.ownsRow.lt hown k hk).1) (fun b hb hne => h2.block b hb hne)
    unfold OwnB
    rw [List.length_append, List.map_append]
    exact h1

set_option maxRecDepth 100000 in
set_option maxHeartbeats 2000000 in
theorem appendTo_any (oc dst src off imm : Int) (w : World) (base : Nat) (v : Value) (L : List Int) (hown : OwnB w base v L) (hl : L.length ≤ 1099511627776) (hb : base ≤ w.heap.size) :
    Calls Tryd.prog 57 #[.agg #[.int .i64 oc, .int .i64 dst, .int .i64 src, .int .i64 off, .int .i64 imm], v] w fun e w' => ∃ v', e = .returned v' ∧ OwnB w' base v' (L ++ unitB oc dst src off imm) ∧ Below base w w' ∧ KeepsBut v w w' := by
  have hbyt : BytesAt ((w.alloc (.cells #[.int .i64 oc, .int .i64 dst, .int .i64 src, .int .i64 off, .int .i64 imm] 106)).alloc (.cells #[.int .u8 (oc % 256), .int .u8 (bits BinOp.or IntKind.i64 dst (wrap64 (src * 16)) % 256), .int .u8 (off % 256), .int .u8 (off / 256 % 256), .int .u8 (imm % 256), .int .u8 (imm / 256 % 256), .int .u8 (imm / 65536 % 256), .int .u8 (imm / 16777216 % 256)] 5)) (some ⟨w.heap.size + 1, 0, none⟩) (unitB oc dst src off imm) := by
    have := (ByteBlk.new (w.alloc (.cells #[.int .i64 oc, .int .i64 dst, .int .i64 src, .int .i64 off, .int .i64 imm] 106)) (unitB oc dst src off imm)).at_
    simpa [unitB] using this
  have HX := Lib.hid hbyt
  have HO := Lib.hid ((hown.alloc (.cells #[.int .i64 oc, .int .i64 dst, .int .i64 src, .int .i64 off, .int .i64 imm] 106)).alloc (.cells #[.int .u8 (oc % 256), .int .u8 (bits BinOp.or IntKind.i64 dst (wrap64 (src * 16)) % 256), .int .u8 (off % 256), .int .u8 (off / 256 % 256), .int .u8 (imm % 256), .int .u8 (imm / 256 % 256), .int .u8 (imm / 65536 % 256), .int .u8 (imm / 16777216 % 256)] 5))
  have hBB : Below base w ((w.alloc (.cells #[.int .i64 oc, .int .i64 dst, .int .i64 src, .int .i64 off, .int .i64 imm] 106)).alloc (.cells #[.int .u8 (oc % 256), .int .u8 (bits BinOp.or IntKind.i64 dst (wrap64 (src * 16)) % 256), .int .u8 (off % 256), .int .u8 (off / 256 % 256), .int .u8 (imm % 256), .int .u8 (imm / 256 % 256), .int .u8 (imm / 65536 % 256), .int .u8 (imm / 16777216 % 256)] 5)) := ((Below.refl _ _).alloc hb _).alloc (by simp; omega) _
  have HBB := Lib.hid hBB
  have hl1 : L.length + 8 ≤ 140737488355328 := by omega
  have hl2 : base ≤ ((w.alloc (.cells #[.int .i64 oc, .int .i64 dst, .int .i64 src, .int .i64 off, .int .i64 imm] 106)).alloc (.cells #[.int .u8 (oc % 256), .int .u8 (bits BinOp.or IntKind.i64 dst (wrap64 (src * 16)) % 256), .int .u8 (off % 256), .int .u8 (off / 256 % 256), .int .u8 (imm % 256), .int .u8 (imm / 256 % 256), .int .u8 (imm / 65536 % 256), .int .u8 (imm / 16777216 % 256)] 5)).heap.size := by simp; omega
  clear hown hbyt hBB
  go_enter Tryd.func57, Tryd.ntmps57
  go_wp2_with (at_builtin; (refine append_bytes2 Tryd.underlying22 byte_info _ rfl (.tmp 5) (.tmp 38) rfl base _ _ rfl HO.out _ 8 8 _ rfl rfl HX.out hl1 hl2 ?_; intro v' w' hown' hB' hK'))
  go_ret
  refine ⟨v', rfl, hown', HBB.out.trans hB', fun b hb hne => (hK' b (by simp; omega) hne).trans ?_⟩
  rw [Below.heap_alloc _ _ _ (by simp; omega), Below.heap_alloc _ _ _ hb]

set_option maxHeartbeats 1000000 in
theorem second_any (op : Int) (nar reg : Bool) (size dst src off imm : Int) (w : World) :
    Calls Tryd.prog 59 #[.agg #[.int .i64 op, .bool nar, .bool reg, .int .i64 size, .int .i64 dst, .int .i64 src, .int .i64 off, .int .i64 imm]] w fun e w' => e = .returned (.agg #[.int .i64 0, .int .i64 0, .int .i64 0, .int .i64 0, .int .i64 (if op = 20 then imm / 4294967296 else imm)]) ∧ Below w.heap.size w w' := by
  by_cases h : op = 20
  · subst h
    rw [if_pos rfl]
    have hr : Blk ((w.alloc (.cells #[.int .i64 20, .bool nar, .bool reg, .int .i64 size, .int .i64 dst, .int .i64 src, .int .i64 off, .int .i64 imm] 71)).alloc (.cells #[.int .i64 0, .int .i64 0, .int .i64 0, .int .i64 0, .int .i64 (imm / 4294967296)] 106)) (w.heap.size + 1) 106 #[.int .i64 0, .int .i64 0, .int .i64 0, .int .i64 0, .int .i64 (imm / 4294967296)] := by
      simpa using Blk.new (w.alloc (.cells #[.int .i64 20, .bool nar, .bool reg, .int .i64 size, .int .i64 dst, .int .i64 src, .int .i64 off, .int .i64 imm] 71)) 106 #[.int .i64 0, .int .i64 0, .int .i64 0, .int .i64 0, .int .i64 (imm / 4294967296)]
    have HR := Lib.hid hr
    have HB := Lib.hid ((below_box w (.cells #[.int .i64 20, .bool nar, .bool reg, .int .i64 size, .int .i64 dst, .int .i64 src, .int .i64 off, .int .i64 imm] 71)).alloc (by simp) (.cells #[.int .i64 0, .int .i64 0, .int .i64 0, .int .i64 0, .int .i64 (imm / 4294967296)] 106))
    clear hr
    go_enter Tryd.func59, Tryd.ntmps59
    go_wp2_with fail
    exact bodyPost_ret (v := .agg #[.int .i64 0, .int .i64 0, .int .i64 0, .int .i64 0, .int .i64 (imm / 4294967296)]) (results_cell_row Tryd.results59 _ _ (w.heap.size + 1) 106 #[.int .i64 0, .int .i64 0, .int .i64 0, .int .i64 0, .int .i64 (imm / 4294967296)] (0, 0) _ rfl HR.out Tryd.underlying106 rfl (by kernel_rfl)) rfl ⟨rfl, HB.out⟩
  · rw [if_neg h]
    have t : (op == 20) = false := by rw [beq_eq_false_iff_ne]; exact h
    clear h
    have hr : Blk ((w.alloc (.cells #[.int .i64 op, .bool nar, .bool reg, .int .i64 size, .int .i64 dst, .int .i64 src, .int .i64 off, .int .i64 imm] 71)).alloc (.cells #[.int .i64 0, .int .i64 0, .int .i64 0, .int .i64 0, .int .i64 imm] 106)) (w.heap.size + 1) 106 #[.int .i64 0, .int .i64 0, .int .i64 0, .int .i64 0, .int .i64 imm] := by
      simpa using Blk.new (w.alloc (.cells #[.int .i64 op, .bool nar, .bool reg, .int .i64 size, .int .i64 dst, .int .i64 src, .int .i64 off, .int .i64 imm] 71)) 106 #[.int .i64 0, .int .i64 0, .int .i64 0, .int .i64 0, .int .i64 imm]
    have HR := Lib.hid hr
    have HB := Lib.hid ((below_box w (.cells #[.int .i64 op, .bool nar, .bool reg, .int .i64 size, .int .i64 dst, .int .i64 src, .int .i64 off, .int .i64 imm] 71)).alloc (by simp) (.cells #[.int .i64 0, .int .i64 0, .int .i64 0, .int .i64 0, .int .i64 imm] 106))
    clear hr
    go_enter Tryd.func59, Tryd.ntmps59
    go_wp2_with fail
    exact bodyPost_ret (v := .agg #[.int .i64 0, .int .i64 0, .int .i64 0, .int .i64 0, .int .i64 imm]) (results_cell_row Tryd.results59 _ _ (w.heap.size + 1) 106 #[.int .i64 0, .int .i64 0, .int .i64 0, .int .i64 0, .int .i64 imm] (0, 0) _ rfl HR.out Tryd.underlying106 rfl (by kernel_rfl)) rfl ⟨rfl, HB.out⟩

/-- an instruction's unit, or the first of two -/
def firstO (i : Ins) : Int := if i.op = 6 ∨ i.op = 7 then 1 else if i.op = 16 then i.size else i.off
def firstI (i : Ins) : Int := if i.op = 17 ∨ i.op = 18 ∨ i.op = 19 then i.size else if i.op = 20 then wrap32 i.imm else if i.op = 21 then 0 else i.imm
def firstS (i : Ins) : Int := if i.op = 21 then 6 else i.src
def Ins.oc (i : Ins) : Int := opcodeL i.op i.nar i.reg i.size
def Ins.val (i : Ins) : Value := .agg #[.int .i64 i.op, .bool i.nar, .bool i.reg, .int .i64 i.size, .int .i64 i.dst, .int .i64 i.src, .int .i64 i.off, .int .i64 i.imm]
end Go.Proofs.YtlodoinmippebaaDoor
