/- Package code: first. -/
import Derived.Test.YtaglclmfjopnlaaDoorCodeIJ
namespace Go.Proofs.YtaglclmfjopnlaaDoor
open Go.ChangeShapes Go.WideShapes Go.ChangeAt Go.RowKit
open Cod
set_option linter.unusedVariables false

theorem Mid.after {w0 w1 : World} {op : Int} {nar reg : Bool} {size dst src off imm oc : Int} (h : Hold2 w0 w0.heap.size (w0.heap.size + 1) ⟨op, nar, reg, size, dst, src, off, imm⟩ w1) : Mid w0 ⟨op, nar, reg, size, dst, src, off, imm⟩ oc w1.heap.size (w1.alloc (.cells #[.int .i64 oc, .int .i64 dst, .int .i64 src, .int .i64 off, .int .i64 imm] 61)) :=
  ⟨h.alloc _, Blk.new _ _ _, h.2.1.lt⟩
theorem Mid.ahead {w0 w1 : World} {op : Int} {nar reg : Bool} {size dst src off imm oc : Int} {a0 b0 c0 d0 e0 : Value} (h : Hold2 w0 w0.heap.size (w0.heap.size + 1) ⟨op, nar, reg, size, dst, src, off, imm⟩ w1) (hb : Blk w1 (w0.heap.size + 1 + 1) 61 #[a0, b0, c0, d0, e0]) :
    Mid w0 ⟨op, nar, reg, size, dst, src, off, imm⟩ oc (w0.heap.size + 1 + 1) (((((w1.setCell ⟨w0.heap.size + 1 + 1, 0, none⟩ (.int .i64 oc)).setCell ⟨w0.heap.size + 1 + 1, 1, none⟩ (.int .i64 dst)).setCell ⟨w0.heap.size + 1 + 1, 2, none⟩ (.int .i64 src)).setCell ⟨w0.heap.size + 1 + 1, 3, none⟩ (.int .i64 off)).setCell ⟨w0.heap.size + 1 + 1, 4, none⟩ (.int .i64 imm)) :=
  ⟨h.set5 (by omega) _ _ _ _ _, set5 hb _ _ _ _ _, by omega⟩

set_option maxHeartbeats 2000000 in
theorem first_else (op : Int) (nar reg : Bool) (size dst src off imm : Int) (hop : 1 ≤ op ∧ op ≤ 39) (hs : 22 ≤ op → op ≤ 25 → size = 1 ∨ size = 2 ∨ size = 4 ∨ size = 8) (hn : op ≠ 6 ∧ op ≠ 7 ∧ op ≠ 16 ∧ op ≠ 17 ∧ op ≠ 18 ∧ op ≠ 19 ∧ op ≠ 20 ∧ op ≠ 21) (w : World) (ht : Tabs w) :
    Calls Tryd.prog 34 #[.agg #[.int .i64 op, .bool nar, .bool reg, .int .i64 size, .int .i64 dst, .int .i64 src, .int .i64 off, .int .i64 imm]] w fun e w' => e = .returned (.agg #[.int .i64 (opcodeL op nar reg size), .int .i64 dst, .int .i64 src, .int .i64 off, .int .i64 imm]) ∧ Below w.heap.size w w' := by
  have H0 := Lib.hid (hold2_start w op nar reg size dst src off imm ht)
  have t6 : (op == 6) = false := by rw [beq_eq_false_iff_ne]; omega
  have t7 : (op == 7) = false := by rw [beq_eq_false_iff_ne]; omega
  have t16 : (op == 16) = false := by rw [beq_eq_false_iff_ne]; omega
  have t17 : (op == 17) = false := by rw [beq_eq_false_iff_ne]; omega
  have t18 : (op == 18) = false := by rw [beq_eq_false_iff_ne]; omega
  have t19 : (op == 19) = false := by rw [beq_eq_false_iff_ne]; omega
  have t20 : (op == 20) = false := by rw [beq_eq_false_iff_ne]; omega
  have t21 : (op == 21) = false := by rw [beq_eq_false_iff_ne]; omega
  have HO := Lib.hid (fun w0 g gr w h => @opcode_h w0 w g gr op nar reg size dst src off imm hop hs h)
  clear hop hs hn
  have HP := Lib.hid (show w.heap.size + 1 < w.heap.size + 1 + 1 by omega)
  generalize opcodeL op nar reg size = oc at *
  go_enter Tryd.func34, Tryd.ntmps34
  go_wp2_with fail
  go_region_held3 (fun w' => w'.cell? ⟨w.heap.size, 0, none⟩ = some (.int .i64 op) ∧ w'.cell? ⟨w.heap.size, 1, none⟩ = some (.bool nar) ∧ w'.cell? ⟨w.heap.size, 2, none⟩ = some (.bool reg) ∧ w'.cell? ⟨w.heap.size, 3, none⟩ = some (.int .i64 size) ∧ w'.cell? ⟨w.heap.size, 4, none⟩ = some (.int .i64 dst) ∧ w'.cell? ⟨w.heap.size, 5, none⟩ = some (.int .i64 src) ∧ w'.cell? ⟨w.heap.size, 6, none⟩ = some (.int .i64 off) ∧ w'.cell? ⟨w.heap.size, 7, none⟩ = some (.int .i64 imm) ∧ Hold2 w w.heap.size (w.heap.size + 1) ⟨op, nar, reg, size, dst, src, off, imm⟩ w')
    (first | with_reducible exact hold9 H0.out.drew | with_reducible exact hold9 hH1 | with_reducible exact hold9 (hH1.alloc _) | with_reducible exact hold9 (H0.out.alloc_drew _) | with_reducible exact hold9 (hH1.set5 HP.out _ _ _ _ _) | fail)
    (first | (go_at_call 55; (with_reducible refine (HO.out _ _ _ _ H0.out.drew).mono ?_); rintro e w1 ⟨rfl, hH1, hBB⟩; have hMid := Mid.after (oc := oc) hH1; clear hBB) | (go_at_call 55; (with_reducible refine (HO.out _ _ _ _ (H0.out.alloc_drew _)).mono ?_); rintro e w1 ⟨rfl, hH1, hBB⟩; have hnb := blk5 (g := w.heap.size + 1 + 1) (by simp) hBB; obtain ⟨n0, n1, n2, n3, n4, f0, f1, f2, f3, f4⟩ := cells5 hnb; have hMid := Mid.ahead (oc := oc) hH1 hnb; clear hBB))
  · clear hH1 H0 HO HP
    generalize (w1.alloc (Obj.cells #[.int .i64 oc, .int .i64 dst, .int .i64 src, .int .i64 off, .int .i64 imm] 61)) = W2 at hMid ⊢
    generalize w1.heap.size = gu at hMid ⊢
    obtain ⟨hH, hU, hlt⟩ := hMid
    obtain ⟨u0, u1, u2, u3, u4, v0, v1, v2, v3, v4⟩ := cells5 hU
    obtain ⟨q0, q1, q2, q3, q4, q5, q6, q7, _⟩ := hold9 hH
    obtain ⟨r0, r1, r2, r3, r4, s0, s1, s2, s3, s4⟩ := cells5 hH.2.1
    have HH := Lib.hid hH
    have HU := Lib.hid hU
    have hne : w.heap.size + 1 ≠ gu := by omega
    have hge : w.heap.size ≤ gu := by omega
    have hge1 : w.heap.size ≤ w.heap.size + 1 := by omega
    have HB := Lib.hid (HH.out.1.2.2.2)
    have HR := Lib.hid (set5 (HH.out.2.1) (.int .i64 oc) (.int .i64 dst) (.int .i64 src) (.int .i64 off) (.int .i64 imm))
    have HBB := Lib.hid (((((HB.out.setCell (p := ⟨w.heap.size + 1, 0, none⟩) hge1 (.int .i64 oc)).setCell (p := ⟨w.heap.size + 1, 1, none⟩) hge1 (.int .i64 dst)).setCell (p := ⟨w.heap.size + 1, 2, none⟩) hge1 (.int .i64 src)).setCell (p := ⟨w.heap.size + 1, 3, none⟩) hge1 (.int .i64 off)).setCell (p := ⟨w.heap.size + 1, 4, none⟩) hge1 (.int .i64 imm))
    clear hH hU
    go_wp2_with fail
    refine bodyPost_ret (v := .agg #[.int .i64 oc, .int .i64 dst, .int .i64 src, .int .i64 off, .int .i64 imm]) (results_cell_row Tryd.results34 _ _ (w.heap.size + 1) 61 #[.int .i64 oc, .int .i64 dst, .int .i64 src, .int .i64 off, .int .i64 imm] (0, 0) _ rfl HR.out Tryd.underlying61 rfl (by kernel_rfl)) rfl ⟨rfl, HBB.out⟩
  · clear hH1 H0 HO HP n0 n1 n2 n3 n4 f0 f1 f2 f3 f4 hnb
    generalize (((((w1.setCell ⟨w.heap.size + 1 + 1, 0, none⟩ (.int .i64 oc)).setCell ⟨w.heap.size + 1 + 1, 1, none⟩ (.int .i64 dst)).setCell ⟨w.heap.size + 1 + 1, 2, none⟩ (.int .i64 src)).setCell ⟨w.heap.size + 1 + 1, 3, none⟩ (.int .i64 off)).setCell ⟨w.heap.size + 1 + 1, 4, none⟩ (.int .i64 imm)) = W2 at hMid ⊢
    obtain ⟨gu, hgu⟩ : ∃ gu, w.heap.size + 1 + 1 = gu := ⟨_, rfl⟩
    rw [hgu] at hMid ⊢
    clear hgu
    obtain ⟨hH, hU, hlt⟩ := hMid
    obtain ⟨u0, u1, u2, u3, u4, v0, v1, v2, v3, v4⟩ := cells5 hU
    obtain ⟨q0, q1, q2, q3, q4, q5, q6, q7, _⟩ := hold9 hH
    obtain ⟨r0, r1, r2, r3, r4, s0, s1, s2, s3, s4⟩ := cells5 hH.2.1
    have HH := Lib.hid hH
    have HU := Lib.hid hU
    have hne : w.heap.size + 1 ≠ gu := by omega
    have hge : w.heap.size ≤ gu := by omega
    have hge1 : w.heap.size ≤ w.heap.size + 1 := by omega
    have HB := Lib.hid (HH.out.1.2.2.2)
    have HR := Lib.hid (set5 (HH.out.2.1) (.int .i64 oc) (.int .i64 dst) (.int .i64 src) (.int .i64 off) (.int .i64 imm))
    have HBB := Lib.hid (((((HB.out.setCell (p := ⟨w.heap.size + 1, 0, none⟩) hge1 (.int .i64 oc)).setCell (p := ⟨w.heap.size + 1, 1, none⟩) hge1 (.int .i64 dst)).setCell (p := ⟨w.heap.size + 1, 2, none⟩) hge1 (.int .i64 src)).setCell (p := ⟨w.heap.size + 1, 3, none⟩) hge1 (.int .i64 off)).setCell (p := ⟨w.heap.size + 1, 4, none⟩) hge1 (.int .i64 imm))
    clear hH hU
    go_wp2_with fail
    refine bodyPost_ret (v := .agg #[.int .i64 oc, .int .i64 dst, .int .i64 src, .int .i64 off, .int .i64 imm]) (results_cell_row Tryd.results34 _ _ (w.heap.size + 1) 61 #[.int .i64 oc, .int .i64 dst, .int .i64 src, .int .i64 off, .int .i64 imm] (0, 0) _ rfl HR.out Tryd.underlying61 rfl (by kernel_rfl)) rfl ⟨rfl, HBB.out⟩
end Go.Proofs.YtaglclmfjopnlaaDoor
