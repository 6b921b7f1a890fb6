/- Package code: chosen. -/
import Derived.Test.YtlodoinmippebaaDoorCodeX
namespace Go.Proofs.YtlodoinmippebaaDoor
open Go.ChangeShapes Go.WideShapes Go.ChangeAt Go.RowKit
open Cod Bits
set_option linter.unusedVariables false

theorem blk_new3 (w : World) (a b : Obj) (t : TypeId) (cs : Array Value) : Blk (((w.alloc a).alloc b).alloc (.cells cs t)) (w.heap.size + 1 + 1) t cs := by
  have h := Blk.new ((w.alloc a).alloc b) t cs
  simpa using h
theorem below_box3 (w : World) (a b c : Obj) : Below w.heap.size w (((w.alloc a).alloc b).alloc c) := (below_box2 w a b).alloc (by simp; omega) c
abbrev un5 (oc ud us uo ui : Int) : Array Value := #[.int .i64 oc, .int .i64 ud, .int .i64 us, .int .i64 uo, .int .i64 ui]
def U.arr (u : U) : Array Value := un5 u.oc u.dst u.src u.off u.imm

set_option maxHeartbeats 1000000 in
theorem chosen_4y (nar reg : Bool) (size dst src off imm oc ud us uo ui : Int) (h : uo = 1) (w : World) :
    Calls Tryd.prog 94 #[.agg (ins8 4 nar reg size dst src off imm), .agg (un5 oc ud us uo ui)] w fun e w' => e = .returned (.agg (ins8 6 nar reg size dst src off imm)) ∧ Below w.heap.size w w' := by
  subst h
  go_enter Tryd.func94, Tryd.ntmps94
  · go_wp2_with fail
    exact bodyPost_ret (v := .agg (ins8 6 nar reg size dst src off imm)) (results_cell_row Tryd.results94 _ _ (w.heap.size + 1 + 1) 71 (ins8 6 nar reg size dst src off imm) (0, 0) _ rfl (blk_new3 w _ _ _ _) Tryd.underlying71 rfl (by kernel_rfl)) rfl ⟨rfl, below_box3 w _ _ _⟩
set_option maxHeartbeats 1000000 in
theorem chosen_4n (nar reg : Bool) (size dst src off imm oc ud us uo ui : Int) (h : uo ≠ 1) (w : World) :
    Calls Tryd.prog 94 #[.agg (ins8 4 nar reg size dst src off imm), .agg (un5 oc ud us uo ui)] w fun e w' => e = .returned (.agg (ins8 4 nar reg size dst src off imm)) ∧ Below w.heap.size w w' := by
  have t : (uo == 1) = false := by rw [beq_eq_false_iff_ne]; exact h
  go_enter Tryd.func94, Tryd.ntmps94
  · go_wp2_with fail
    exact bodyPost_ret (v := .agg (ins8 4 nar reg size dst src off imm)) (results_cell_row Tryd.results94 _ _ (w.heap.size + 1 + 1) 71 (ins8 4 nar reg size dst src off imm) (0, 0) _ rfl (blk_new3 w _ _ _ _) Tryd.underlying71 rfl (by kernel_rfl)) rfl ⟨rfl, below_box3 w _ _ _⟩
set_option maxHeartbeats 1000000 in
theorem chosen_5y (nar reg : Bool) (size dst src off imm oc ud us uo ui : Int) (h : uo = 1) (w : World) :
    Calls Tryd.prog 94 #[.agg (ins8 5 nar reg size dst src off imm), .agg (un5 oc ud us uo ui)] w fun e w' => e = .returned (.agg (ins8 7 nar reg size dst src off imm)) ∧ Below w.heap.size w w' := by
  subst h
  go_enter Tryd.func94, Tryd.ntmps94
  · go_wp2_with fail
    exact bodyPost_ret (v := .agg (ins8 7 nar reg size dst src off imm)) (results_cell_row Tryd.results94 _ _ (w.heap.size + 1 + 1) 71 (ins8 7 nar reg size dst src off imm) (0, 0) _ rfl (blk_new3 w _ _ _ _) Tryd.underlying71 rfl (by kernel_rfl)) rfl ⟨rfl, below_box3 w _ _ _⟩
set_option maxHeartbeats 1000000 in
theorem chosen_5n (nar reg : Bool) (size dst src off imm oc ud us uo ui : Int) (h : uo ≠ 1) (w : World) :
    Calls Tryd.prog 94 #[.agg (ins8 5 nar reg size dst src off imm), .agg (un5 oc ud us uo ui)] w fun e w' => e = .returned (.agg (ins8 5 nar reg size dst src off imm)) ∧ Below w.heap.size w w' := by
  have t : (uo == 1) = false := by rw [beq_eq_false_iff_ne]; exact h
  go_enter Tryd.func94, Tryd.ntmps94
  · go_wp2_with fail
    exact bodyPost_ret (v := .agg (ins8 5 nar reg size dst src off imm)) (results_cell_row Tryd.results94 _ _ (w.heap.size + 1 + 1) 71 (ins8 5 nar reg size dst src off imm) (0, 0) _ rfl (blk_new3 w _ _ _ _) Tryd.underlying71 rfl (by kernel_rfl)) rfl ⟨rfl, below_box3 w _ _ _⟩
set_option maxHeartbeats 1000000 in
theorem chosen_17 (nar reg : Bool) (size dst src off imm oc ud us uo ui : Int) (w : World) :
    Calls Tryd.prog 94 #[.agg (ins8 17 nar reg size dst src off imm), .agg (un5 oc ud us uo ui)] w fun e w' => e = .returned (.agg (ins8 17 nar reg ui dst src off imm)) ∧ Below w.heap.size w w' := by
  go_enter Tryd.func94, Tryd.ntmps94
  · go_wp2_with fail
    exact bodyPost_ret (v := .agg (ins8 17 nar reg ui dst src off imm)) (results_cell_row Tryd.results94 _ _ (w.heap.size + 1 + 1) 71 (ins8 17 nar reg ui dst src off imm) (0, 0) _ rfl (blk_new3 w _ _ _ _) Tryd.underlying71 rfl (by kernel_rfl)) rfl ⟨rfl, below_box3 w _ _ _⟩
set_option maxHeartbeats 1000000 in
theorem chosen_18 (nar reg : Bool) (size dst src off imm oc ud us uo ui : Int) (w : World) :
    Calls Tryd.prog 94 #[.agg (ins8 18 nar reg size dst src off imm), .agg (un5 oc ud us uo ui)] w fun e w' => e = .returned (.agg (ins8 18 nar reg ui dst src off imm)) ∧ Below w.heap.size w w' := by
  go_enter Tryd.func94, Tryd.ntmps94
  · go_wp2_with fail
    exact bodyPost_ret (v := .agg (ins8 18 nar reg ui dst src off imm)) (results_cell_row Tryd.results94 _ _ (w.heap.size + 1 + 1) 71 (ins8 18 nar reg ui dst src off imm) (0, 0) _ rfl (blk_new3 w _ _ _ _) Tryd.underlying71 rfl (by kernel_rfl)) rfl ⟨rfl, below_box3 w _ _ _⟩
set_option maxHeartbeats 1000000 in
theorem chosen_19 (nar reg : Bool) (size dst src off imm oc ud us uo ui : Int) (w : World) :
    Calls Tryd.prog 94 #[.agg (ins8 19 nar reg size dst src off imm), .agg (un5 oc ud us uo ui)] w fun e w' => e = .returned (.agg (ins8 19 nar reg ui dst src off imm)) ∧ Below w.heap.size w w' := by
  go_enter Tryd.func94, Tryd.ntmps94
  · go_wp2_with fail
    exact bodyPost_ret (v := .agg (ins8 19 nar reg ui dst src off imm)) (results_cell_row Tryd.results94 _ _ (w.heap.size + 1 + 1) 71 (ins8 19 nar reg ui dst src off imm) (0, 0) _ rfl (blk_new3 w _ _ _ _) Tryd.underlying71 rfl (by kernel_rfl)) rfl ⟨rfl, below_box3 w _ _ _⟩
set_option maxHeartbeats 1000000 in
theorem chosen_20y (nar reg : Bool) (size dst src off imm oc ud us uo ui : Int) (h : us = 6) (w : World) :
    Calls Tryd.prog 94 #[.agg (ins8 20 nar reg size dst src off imm), .agg (un5 oc ud us uo ui)] w fun e w' => e = .returned (.agg (ins8 21 nar reg size dst src off imm)) ∧ Below w.heap.size w w' := by
  subst h
  go_enter Tryd.func94, Tryd.ntmps94
  · go_wp2_with fail
    exact bodyPost_ret (v := .agg (ins8 21 nar reg size dst src off imm)) (results_cell_row Tryd.results94 _ _ (w.heap.size + 1 + 1) 71 (ins8 21 nar reg size dst src off imm) (0, 0) _ rfl (blk_new3 w _ _ _ _) Tryd.underlying71 rfl (by kernel_rfl)) rfl ⟨rfl, below_box3 w _ _ _⟩
set_option maxHeartbeats 1000000 in
theorem chosen_20n (nar reg : Bool) (size dst src off imm oc ud us uo ui : Int) (h : us ≠ 6) (w : World) :
    Calls Tryd.prog 94 #[.agg (ins8 20 nar reg size dst src off imm), .agg (un5 oc ud us uo ui)] w fun e w' => e = .returned (.agg (ins8 20 nar reg size dst src off imm)) ∧ Below w.heap.size w w' := by
  have t : (us == 6) = false := by rw [beq_eq_false_iff_ne]; exact h
  go_enter Tryd.func94, Tryd.ntmps94
  · go_wp2_with fail
    exact bodyPost_ret (v := .agg (ins8 20 nar reg size dst src off imm)) (results_cell_row Tryd.results94 _ _ (w.heap.size + 1 + 1) 71 (ins8 20 nar reg size dst src off imm) (0, 0) _ rfl (blk_new3 w _ _ _ _) Tryd.underlying71 rfl (by kernel_rfl)) rfl ⟨rfl, below_box3 w _ _ _⟩
set_option maxHeartbeats 1000000 in
theorem chosen_else (op : Int) (h : op ≠ 4 ∧ op ≠ 5 ∧ op ≠ 15 ∧ op ≠ 17 ∧ op ≠ 18 ∧ op ≠ 19 ∧ op ≠ 20) (nar reg : Bool) (size dst src off imm oc ud us uo ui : Int) (w : World) :
    Calls Tryd.prog 94 #[.agg (ins8 op nar reg size dst src off imm), .agg (un5 oc ud us uo ui)] w fun e w' => e = .returned (.agg (ins8 op nar reg size dst src off imm)) ∧ Below w.heap.size w w' := by
  have t4 : (op == 4) = false := by rw [beq_eq_false_iff_ne]; omega
  have t5 : (op == 5) = false := by rw [beq_eq_false_iff_ne]; omega
  have t15 : (op == 15) = false := by rw [beq_eq_false_iff_ne]; omega
  have t17 : (op == 17) = false := by rw [beq_eq_false_iff_ne]; omega
  have t18 : (op == 18) = false := by rw [beq_eq_false_iff_ne]; omega
  have t19 : (op == 19) = false := by rw [beq_eq_false_iff_ne]; omega
  have t20 : (op == 20) = false := by rw [beq_eq_false_iff_ne]; omega
  clear h
  go_enter Tryd.func94, Tryd.ntmps94
  · go_wp2_with fail
    exact bodyPost_ret (v := .agg (ins8 op nar reg size dst src off imm)) (results_cell_row Tryd.results94 _ _ (w.heap.size + 1 + 1) 71 (ins8 op nar reg size dst src off imm) (0, 0) _ rfl (blk_new3 w _ _ _ _) Tryd.underlying71 rfl (by kernel_rfl)) rfl ⟨rfl, below_box3 w _ _ _⟩
set_option maxHeartbeats 2000000 in
theorem chosen_15 (nar reg : Bool) (size dst src off imm oc ud us uo ui : Int) (w : World) :
    Calls Tryd.prog 94 #[.agg (ins8 15 nar reg size dst src off imm), .agg (un5 oc ud us uo ui)] w fun e w' => e = .returned (.agg (if operatesL 16 nar reg uo = true then ins8 16 nar reg uo 0 0 0 0 else ins8 15 nar reg size dst src off imm)) ∧ Below w.heap.size w w' := by
  have HO := Lib.hid (fun w => operates_any 16 nar reg uo 0 0 0 0 w)
  have hi := (((Blk.new w 71 (ins8 15 nar reg size dst src off imm)).alloc (.cells (un5 oc ud us uo ui) 106)).alloc (.cells (ins8 0 false false 0 0 0 0 0) 71)).alloc (.cells (ins8 16 nar reg uo 0 0 0 0) 71)
  have hr := (blk_new3 w (.cells (ins8 15 nar reg size dst src off imm) 71) (.cells (un5 oc ud us uo ui) 106) 71 (ins8 0 false false 0 0 0 0 0)).alloc (.cells (ins8 16 nar reg uo 0 0 0 0) 71)
  have hm : Blk ((((w.alloc (.cells (ins8 15 nar reg size dst src off imm) 71)).alloc (.cells (un5 oc ud us uo ui) 106)).alloc (.cells (ins8 0 false false 0 0 0 0 0) 71)).alloc (.cells (ins8 16 nar reg uo 0 0 0 0) 71)) (w.heap.size + 1 + 1 + 1) 71 (ins8 16 nar reg uo 0 0 0 0) := by
    have h := Blk.new (((w.alloc (.cells (ins8 15 nar reg size dst src off imm) 71)).alloc (.cells (un5 oc ud us uo ui) 106)).alloc (.cells (ins8 0 false false 0 0 0 0 0) 71)) 71 (ins8 16 nar reg uo 0 0 0 0)
    simpa using h
  have hB := (below_box3 w (.cells (ins8 15 nar reg size dst src off imm) 71) (.cells (un5 oc ud us uo ui) 106) (.cells (ins8 0 false false 0 0 0 0 0) 71)).alloc (by simp; omega) (.cells (ins8 16 nar reg uo 0 0 0 0) 71)
  have HI := Lib.hid hi
  have HR := Lib.hid hr
  have HM := Lib.hid hm
  have HB := Lib.hid hB
  clear hi hr hm hB
  generalize hl : operatesL 16 nar reg uo = ok at *
  clear hl
  go_enter Tryd.func94, Tryd.ntmps94
  go_wp2_with fail
  go_at_call 103
  refine (HO.out _).mono ?_
  rintro e w1 ⟨rfl, hB1⟩
  have hi := HI.out.below hB1 HI.out.lt
  have hr := HR.out.below hB1 HR.out.lt
  have hm := HM.out.below hB1 HM.out.lt
  have hB := HB.out.trans (hB1.mono HB.out.size)
  obtain ⟨⟨c0, c1, c2, c3, c4, c5, c6, c7⟩, f0, f1, f2, f3, f4, f5, f6, f7⟩ := cells8 hr
  obtain ⟨⟨d0, d1, d2, d3, d4, d5, d6, d7⟩, k0, k1, k2, k3, k4, k5, k6, k7⟩ := cells8 hm
  obtain ⟨⟨e0, e1, e2, e3, e4, e5, e6, e7⟩, l0, l1, l2, l3, l4, l5, l6, l7⟩ := cells8 hi
  have HS := Lib.hid (fun a b c d e f k l => set8 hr a b c d e f k l)
  have HW := Lib.hid (below8 (g := w.heap.size + 1 + 1) hB (by omega))
  clear hi hr hm hB hB1 HO HI HR HM HB
  cases ok
  · go_wp2_with fail
    exact bodyPost_ret (v := .agg (ins8 15 nar reg size dst src off imm)) (results_cell_row Tryd.results94 _ _ (w.heap.size + 1 + 1) 71 (ins8 15 nar reg size dst src off imm) (0, 0) _ rfl (HS.out _ _ _ _ _ _ _ _) Tryd.underlying71 rfl (by kernel_rfl)) rfl ⟨rfl, HW.out _ _ _ _ _ _ _ _⟩
  · go_wp2_with fail
    exact bodyPost_ret (v := .agg (ins8 16 nar reg uo 0 0 0 0)) (results_cell_row Tryd.results94 _ _ (w.heap.size + 1 + 1) 71 (ins8 16 nar reg uo 0 0 0 0) (0, 0) _ rfl (HS.out _ _ _ _ _ _ _ _) Tryd.underlying71 rfl (by kernel_rfl)) rfl ⟨rfl, HW.out _ _ _ _ _ _ _ _⟩
theorem chosen_any (i : Ins) (u : U) (w : World) :
    Calls Tryd.prog 94 #[.agg i.arr, .agg u.arr] w fun e w' => e = .returned (.agg (chosenL i u).arr) ∧ Below w.heap.size w w' := by
  obtain ⟨op, nar, reg, size, dst, src, off, imm⟩ := i
  obtain ⟨oc, ud, us, uo, ui⟩ := u
  unfold chosenL
  simp only
  by_cases h4 : op = 4
  · subst h4
    rw [if_pos rfl]
    by_cases h : uo = 1
    · rw [if_pos h]; exact chosen_4y nar reg size dst src off imm oc ud us uo ui h w
    · rw [if_neg h]; exact chosen_4n nar reg size dst src off imm oc ud us uo ui h w
  rw [if_neg h4]
  by_cases h5 : op = 5
  · subst h5
    rw [if_pos rfl]
    by_cases h : uo = 1
    · rw [if_pos h]; exact chosen_5y nar reg size dst src off imm oc ud us uo ui h w
    · rw [if_neg h]; exact chosen_5n nar reg size dst src off imm oc ud us uo ui h w
  rw [if_neg h5]
  by_cases h15 : op = 15
  · subst h15
    rw [if_pos rfl]
    refine (chosen_15 nar reg size dst src off imm oc ud us uo ui w).mono fun e w' ⟨h1, h2⟩ => ⟨?_, h2⟩
    rw [h1]
    split <;> rfl
  rw [if_neg h15]
  by_cases h17 : op = 17 ∨ op = 18 ∨ op = 19
  · rw [if_pos h17]
    rcases h17 with rfl | rfl | rfl
    · exact chosen_17 nar reg size dst src off imm oc ud us uo ui w
    · exact chosen_18 nar reg size dst src off imm oc ud us uo ui w
    · exact chosen_19 nar reg size dst src off imm oc ud us uo ui w
  rw [if_neg h17]
  by_cases h20 : op = 20
  · subst h20
    rw [if_pos rfl]
    by_cases h : us = 6
    · rw [if_pos h]; exact chosen_20y nar reg size dst src off imm oc ud us uo ui h w
    · rw [if_neg h]; exact chosen_20n nar reg size dst src off imm oc ud us uo ui h w
  rw [if_neg h20]
  exact chosen_else op ⟨h4, h5, h15, fun h => h17 (.inl h), fun h => h17 (.inr (.inl h)), fun h => h17 (.inr (.inr h)), h20⟩ nar reg size dst src off imm oc ud us uo ui w
end Go.Proofs.YtlodoinmippebaaDoor
