/- Package code: first, 20 21. -/
import Derived.Test.YtaglclmfjopnlaaDoorCodeK
namespace Go.Proofs.YtaglclmfjopnlaaDoor
open Go.ChangeShapes Go.WideShapes Go.ChangeAt Go.RowKit
open Cod
set_option linter.unusedVariables false

set_option maxHeartbeats 2000000 in
theorem first_20 (nar reg : Bool) (size dst src off imm : Int) (w : World) (ht : Tabs w) :
    Calls Tryd.prog 34 #[.agg #[.int .i64 20, .bool nar, .bool reg, .int .i64 size, .int .i64 dst, .int .i64 src, .int .i64 off, .int .i64 imm]] w fun e w' => e = .returned (.agg #[.int .i64 (opcodeL 20 nar reg size), .int .i64 dst, .int .i64 src, .int .i64 off, .int .i64 (wrap32 imm)]) ∧ Below w.heap.size w w' := by
  have H0 := Lib.hid (hold2_start w 20 nar reg size dst src off imm ht)
  have HO := Lib.hid (fun w0 g gr w h => @opcode_h w0 w g gr 20 nar reg size dst src off imm (by decide) (by omega) h)
  have HP := Lib.hid (show w.heap.size + 1 < w.heap.size + 1 + 1 by omega)
  generalize opcodeL 20 nar reg size = oc at *
  go_enter Tryd.func34, Tryd.ntmps34
  go_wp2_with fail
  go_region_held3 (fun w' => w'.cell? ⟨w.heap.size, 0, none⟩ = some (.int .i64 20) ∧ w'.cell? ⟨w.heap.size, 1, none⟩ = some (.bool nar) ∧ w'.cell? ⟨w.heap.size, 2, none⟩ = some (.bool reg) ∧ w'.cell? ⟨w.heap.size, 3, none⟩ = some (.int .i64 size) ∧ w'.cell? ⟨w.heap.size, 4, none⟩ = some (.int .i64 dst) ∧ w'.cell? ⟨w.heap.size, 5, none⟩ = some (.int .i64 src) ∧ w'.cell? ⟨w.heap.size, 6, none⟩ = some (.int .i64 off) ∧ w'.cell? ⟨w.heap.size, 7, none⟩ = some (.int .i64 imm) ∧ Hold2 w w.heap.size (w.heap.size + 1) ⟨20, nar, reg, size, dst, src, off, imm⟩ w')
    (first | with_reducible exact hold9 H0.out.drew | with_reducible exact hold9 hH1 | with_reducible exact hold9 (hH1.alloc _) | with_reducible exact hold9 (H0.out.alloc_drew _) | with_reducible exact hold9 (hH1.set5 HP.out _ _ _ _ _) | fail)
    (first | (go_at_call 55; (with_reducible refine (HO.out _ _ _ _ H0.out.drew).mono ?_); rintro e w1 ⟨rfl, hH1, hBB⟩; have hMid := Mid.after (oc := oc) hH1; clear hBB) | (go_at_call 55; (with_reducible refine (HO.out _ _ _ _ (H0.out.alloc_drew _)).mono ?_); rintro e w1 ⟨rfl, hH1, hBB⟩; have hnb := blk5 (g := w.heap.size + 1 + 1) (by simp) hBB; obtain ⟨n0, n1, n2, n3, n4, f0, f1, f2, f3, f4⟩ := cells5 hnb; have hMid := Mid.ahead (oc := oc) hH1 hnb; clear hBB))
  · clear hH1 H0 HO HP
    generalize (w1.alloc (Obj.cells #[.int .i64 oc, .int .i64 dst, .int .i64 src, .int .i64 off, .int .i64 imm] 61)) = W2 at hMid ⊢
    generalize w1.heap.size = gu at hMid ⊢
    obtain ⟨hH, hU, hlt⟩ := hMid
    obtain ⟨u0, u1, u2, u3, u4, v0, v1, v2, v3, v4⟩ := cells5 hU
    obtain ⟨q0, q1, q2, q3, q4, q5, q6, q7, _⟩ := hold9 hH
    obtain ⟨r0, r1, r2, r3, r4, s0, s1, s2, s3, s4⟩ := cells5 hH.2.1
    have HH := Lib.hid hH
    have HU := Lib.hid hU
    have hne : w.heap.size + 1 ≠ gu := by omega
    have hge : w.heap.size ≤ gu := by omega
    have hge1 : w.heap.size ≤ w.heap.size + 1 := by omega
    have HB := Lib.hid ((HH.out.1.2.2.2).setCell (p := ⟨gu, 4, none⟩) hge (.int .i64 (wrap32 imm)))
    have HR := Lib.hid (set5 ((HH.out.2.1).far (p := ⟨gu, 4, none⟩) hne (.int .i64 (wrap32 imm))) (.int .i64 oc) (.int .i64 dst) (.int .i64 src) (.int .i64 off) (.int .i64 (wrap32 imm)))
    have HBB := Lib.hid (((((HB.out.setCell (p := ⟨w.heap.size + 1, 0, none⟩) hge1 (.int .i64 oc)).setCell (p := ⟨w.heap.size + 1, 1, none⟩) hge1 (.int .i64 dst)).setCell (p := ⟨w.heap.size + 1, 2, none⟩) hge1 (.int .i64 src)).setCell (p := ⟨w.heap.size + 1, 3, none⟩) hge1 (.int .i64 off)).setCell (p := ⟨w.heap.size + 1, 4, none⟩) hge1 (.int .i64 (wrap32 imm)))
    clear hH hU
    have e32 : wrap64 (wrap32 imm) = wrap32 imm := by unfold wrap64 wrap32; omega
    go_wp2_with fail
    refine bodyPost_ret (v := .agg #[.int .i64 oc, .int .i64 dst, .int .i64 src, .int .i64 off, .int .i64 (wrap32 imm)]) (results_cell_row Tryd.results34 _ _ (w.heap.size + 1) 61 #[.int .i64 oc, .int .i64 dst, .int .i64 src, .int .i64 off, .int .i64 (wrap32 imm)] (0, 0) _ rfl HR.out Tryd.underlying61 rfl (by kernel_rfl)) rfl ⟨rfl, HBB.out⟩
  · clear hH1 H0 HO HP n0 n1 n2 n3 n4 f0 f1 f2 f3 f4 hnb
    generalize (((((w1.setCell ⟨w.heap.size + 1 + 1, 0, none⟩ (.int .i64 oc)).setCell ⟨w.heap.size + 1 + 1, 1, none⟩ (.int .i64 dst)).setCell ⟨w.heap.size + 1 + 1, 2, none⟩ (.int .i64 src)).setCell ⟨w.heap.size + 1 + 1, 3, none⟩ (.int .i64 off)).setCell ⟨w.heap.size + 1 + 1, 4, none⟩ (.int .i64 imm)) = W2 at hMid ⊢
    obtain ⟨gu, hgu⟩ : ∃ gu, w.heap.size + 1 + 1 = gu := ⟨_, rfl⟩
    rw [hgu] at hMid ⊢
    clear hgu
    obtain ⟨hH, hU, hlt⟩ := hMid
    obtain ⟨u0, u1, u2, u3, u4, v0, v1, v2, v3, v4⟩ := cells5 hU
    obtain ⟨q0, q1, q2, q3, q4, q5, q6, q7, _⟩ := hold9 hH
    obtain ⟨r0, r1, r2, r3, r4, s0, s1, s2, s3, s4⟩ := cells5 hH.2.1
    have HH := Lib.hid hH
    have HU := Lib.hid hU
    have hne : w.heap.size + 1 ≠ gu := by omega
    have hge : w.heap.size ≤ gu := by omega
    have hge1 : w.heap.size ≤ w.heap.size + 1 := by omega
    have HB := Lib.hid ((HH.out.1.2.2.2).setCell (p := ⟨gu, 4, none⟩) hge (.int .i64 (wrap32 imm)))
    have HR := Lib.hid (set5 ((HH.out.2.1).far (p := ⟨gu, 4, none⟩) hne (.int .i64 (wrap32 imm))) (.int .i64 oc) (.int .i64 dst) (.int .i64 src) (.int .i64 off) (.int .i64 (wrap32 imm)))
    have HBB := Lib.hid (((((HB.out.setCell (p := ⟨w.heap.size + 1, 0, none⟩) hge1 (.int .i64 oc)).setCell (p := ⟨w.heap.size + 1, 1, none⟩) hge1 (.int .i64 dst)).setCell (p := ⟨w.heap.size + 1, 2, none⟩) hge1 (.int .i64 src)).setCell (p := ⟨w.heap.size + 1, 3, none⟩) hge1 (.int .i64 off)).setCell (p := ⟨w.heap.size + 1, 4, none⟩) hge1 (.int .i64 (wrap32 imm)))
    clear hH hU
    have e32 : wrap64 (wrap32 imm) = wrap32 imm := by unfold wrap64 wrap32; omega
    go_wp2_with fail
    refine bodyPost_ret (v := .agg #[.int .i64 oc, .int .i64 dst, .int .i64 src, .int .i64 off, .int .i64 (wrap32 imm)]) (results_cell_row Tryd.results34 _ _ (w.heap.size + 1) 61 #[.int .i64 oc, .int .i64 dst, .int .i64 src, .int .i64 off, .int .i64 (wrap32 imm)] (0, 0) _ rfl HR.out Tryd.underlying61 rfl (by kernel_rfl)) rfl ⟨rfl, HBB.out⟩

set_option maxHeartbeats 2000000 in
theorem first_21 (nar reg : Bool) (size dst src off imm : Int) (w : World) (ht : Tabs w) :
    Calls Tryd.prog 34 #[.agg #[.int .i64 21, .bool nar, .bool reg, .int .i64 size, .int .i64 dst, .int .i64 src, .int .i64 off, .int .i64 imm]] w fun e w' => e = .returned (.agg #[.int .i64 (opcodeL 21 nar reg size), .int .i64 dst, .int .i64 6, .int .i64 off, .int .i64 0]) ∧ Below w.heap.size w w' := by
  have H0 := Lib.hid (hold2_start w 21 nar reg size dst src off imm ht)
  have HO := Lib.hid (fun w0 g gr w h => @opcode_h w0 w g gr 21 nar reg size dst src off imm (by decide) (by omega) h)
  have HP := Lib.hid (show w.heap.size + 1 < w.heap.size + 1 + 1 by omega)
  generalize opcodeL 21 nar reg size = oc at *
  go_enter Tryd.func34, Tryd.ntmps34
  go_wp2_with fail
  go_region_held3 (fun w' => w'.cell? ⟨w.heap.size, 0, none⟩ = some (.int .i64 21) ∧ w'.cell? ⟨w.heap.size, 1, none⟩ = some (.bool nar) ∧ w'.cell? ⟨w.heap.size, 2, none⟩ = some (.bool reg) ∧ w'.cell? ⟨w.heap.size, 3, none⟩ = some (.int .i64 size) ∧ w'.cell? ⟨w.heap.size, 4, none⟩ = some (.int .i64 dst) ∧ w'.cell? ⟨w.heap.size, 5, none⟩ = some (.int .i64 src) ∧ w'.cell? ⟨w.heap.size, 6, none⟩ = some (.int .i64 off) ∧ w'.cell? ⟨w.heap.size, 7, none⟩ = some (.int .i64 imm) ∧ Hold2 w w.heap.size (w.heap.size + 1) ⟨21, nar, reg, size, dst, src, off, imm⟩ w')
    (first | with_reducible exact hold9 H0.out.drew | with_reducible exact hold9 hH1 | with_reducible exact hold9 (hH1.alloc _) | with_reducible exact hold9 (H0.out.alloc_drew _) | with_reducible exact hold9 (hH1.set5 HP.out _ _ _ _ _) | fail)
    (first | (go_at_call 55; (with_reducible refine (HO.out _ _ _ _ H0.out.drew).mono ?_); rintro e w1 ⟨rfl, hH1, hBB⟩; have hMid := Mid.after (oc := oc) hH1; clear hBB) | (go_at_call 55; (with_reducible refine (HO.out _ _ _ _ (H0.out.alloc_drew _)).mono ?_); rintro e w1 ⟨rfl, hH1, hBB⟩; have hnb := blk5 (g := w.heap.size + 1 + 1) (by simp) hBB; obtain ⟨n0, n1, n2, n3, n4, f0, f1, f2, f3, f4⟩ := cells5 hnb; have hMid := Mid.ahead (oc := oc) hH1 hnb; clear hBB))
  · clear hH1 H0 HO HP
    generalize (w1.alloc (Obj.cells #[.int .i64 oc, .int .i64 dst, .int .i64 src, .int .i64 off, .int .i64 imm] 61)) = W2 at hMid ⊢
    generalize w1.heap.size = gu at hMid ⊢
    obtain ⟨hH, hU, hlt⟩ := hMid
    obtain ⟨u0, u1, u2, u3, u4, v0, v1, v2, v3, v4⟩ := cells5 hU
    obtain ⟨q0, q1, q2, q3, q4, q5, q6, q7, _⟩ := hold9 hH
    obtain ⟨r0, r1, r2, r3, r4, s0, s1, s2, s3, s4⟩ := cells5 hH.2.1
    have HH := Lib.hid hH
    have HU := Lib.hid hU
    have hne : w.heap.size + 1 ≠ gu := by omega
    have hge : w.heap.size ≤ gu := by omega
    have hge1 : w.heap.size ≤ w.heap.size + 1 := by omega
    have HB := Lib.hid (((HH.out.1.2.2.2).setCell (p := ⟨gu, 2, none⟩) hge (.int .i64 6)).setCell (p := ⟨gu, 4, none⟩) hge (.int .i64 0))
    have HR := Lib.hid (set5 (((HH.out.2.1).far (p := ⟨gu, 2, none⟩) hne (.int .i64 6)).far (p := ⟨gu, 4, none⟩) hne (.int .i64 0)) (.int .i64 oc) (.int .i64 dst) (.int .i64 6) (.int .i64 off) (.int .i64 0))
    have HBB := Lib.hid (((((HB.out.setCell (p := ⟨w.heap.size + 1, 0, none⟩) hge1 (.int .i64 oc)).setCell (p := ⟨w.heap.size + 1, 1, none⟩) hge1 (.int .i64 dst)).setCell (p := ⟨w.heap.size + 1, 2, none⟩) hge1 (.int .i64 6)).setCell (p := ⟨w.heap.size + 1, 3, none⟩) hge1 (.int .i64 off)).setCell (p := ⟨w.heap.size + 1, 4, none⟩) hge1 (.int .i64 0))
    clear hH hU
    go_wp2_with fail
    refine bodyPost_ret (v := .agg #[.int .i64 oc, .int .i64 dst, .int .i64 6, .int .i64 off, .int .i64 0]) (results_cell_row Tryd.results34 _ _ (w.heap.size + 1) 61 #[.int .i64 oc, .int .i64 dst, .int .i64 6, .int .i64 off, .int .i64 0] (0, 0) _ rfl HR.out Tryd.underlying61 rfl (by kernel_rfl)) rfl ⟨rfl, HBB.out⟩
  · clear hH1 H0 HO HP n0 n1 n2 n3 n4 f0 f1 f2 f3 f4 hnb
    generalize (((((w1.setCell ⟨w.heap.size + 1 + 1, 0, none⟩ (.int .i64 oc)).setCell ⟨w.heap.size + 1 + 1, 1, none⟩ (.int .i64 dst)).setCell ⟨w.heap.size + 1 + 1, 2, none⟩ (.int .i64 src)).setCell ⟨w.heap.size + 1 + 1, 3, none⟩ (.int .i64 off)).setCell ⟨w.heap.size + 1 + 1, 4, none⟩ (.int .i64 imm)) = W2 at hMid ⊢
    obtain ⟨gu, hgu⟩ : ∃ gu, w.heap.size + 1 + 1 = gu := ⟨_, rfl⟩
    rw [hgu] at hMid ⊢
    clear hgu
    obtain ⟨hH, hU, hlt⟩ := hMid
    obtain ⟨u0, u1, u2, u3, u4, v0, v1, v2, v3, v4⟩ := cells5 hU
    obtain ⟨q0, q1, q2, q3, q4, q5, q6, q7, _⟩ := hold9 hH
    obtain ⟨r0, r1, r2, r3, r4, s0, s1, s2, s3, s4⟩ := cells5 hH.2.1
    have HH := Lib.hid hH
    have HU := Lib.hid hU
    have hne : w.heap.size + 1 ≠ gu := by omega
    have hge : w.heap.size ≤ gu := by omega
    have hge1 : w.heap.size ≤ w.heap.size + 1 := by omega
    have HB := Lib.hid (((HH.out.1.2.2.2).setCell (p := ⟨gu, 2, none⟩) hge (.int .i64 6)).setCell (p := ⟨gu, 4, none⟩) hge (.int .i64 0))
    have HR := Lib.hid (set5 (((HH.out.2.1).far (p := ⟨gu, 2, none⟩) hne (.int .i64 6)).far (p := ⟨gu, 4, none⟩) hne (.int .i64 0)) (.int .i64 oc) (.int .i64 dst) (.int .i64 6) (.int .i64 off) (.int .i64 0))
    have HBB := Lib.hid (((((HB.out.setCell (p := ⟨w.heap.size + 1, 0, none⟩) hge1 (.int .i64 oc)).setCell (p := ⟨w.heap.size + 1, 1, none⟩) hge1 (.int .i64 dst)).setCell (p := ⟨w.heap.size + 1, 2, none⟩) hge1 (.int .i64 6)).setCell (p := ⟨w.heap.size + 1, 3, none⟩) hge1 (.int .i64 off)).setCell (p := ⟨w.heap.size + 1, 4, none⟩) hge1 (.int .i64 0))
    clear hH hU
    go_wp2_with fail
    refine bodyPost_ret (v := .agg #[.int .i64 oc, .int .i64 dst, .int .i64 6, .int .i64 off, .int .i64 0]) (results_cell_row Tryd.results34 _ _ (w.heap.size + 1) 61 #[.int .i64 oc, .int .i64 dst, .int .i64 6, .int .i64 off, .int .i64 0] (0, 0) _ rfl HR.out Tryd.underlying61 rfl (by kernel_rfl)) rfl ⟨rfl, HBB.out⟩
end Go.Proofs.YtaglclmfjopnlaaDoor
