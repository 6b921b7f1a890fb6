/- Texts in one: CodeI CodeJ. -/
import Derived.Test.YtlodoinmippebaaDoorCodeH
import Derived.Deep.RegionHeld3
/- Package code: opcode. -/
namespace Go.Proofs.YtlodoinmippebaaDoor
open Go.ChangeShapes Go.WideShapes Go.ChangeAt Go.RowKit
open Cod
set_option linter.unusedVariables false

/-- what a function of an instruction holds of memory: the box, the tables, and that nothing from before the call has turned -/
def Hold (w0 : World) (g : Nat) (i : Ins) (w : World) : Prop :=
  InsIs w g 0 i ∧ Blk w g 71 i.cells.toArray ∧ Tabs w ∧ Below w0.heap.size w0 w
theorem Hold.below {w0 wa wb : World} {g : Nat} {i : Ins} (h : Hold w0 g i wa) (hb : Below wa.heap.size wa wb) : Hold w0 g i wb :=
  ⟨h.1.below hb h.2.1.lt, h.2.1.below hb h.2.1.lt, h.2.2.1.below hb, h.2.2.2.trans (hb.mono h.2.2.2.size)⟩
theorem Hold.drew {w0 wa : World} {g : Nat} {i : Ins} (h : Hold w0 g i wa) : Hold w0 g i wa.drew :=
  ⟨h.1, h.2.1, ⟨h.2.2.1.lt, h.2.2.1.sizes, h.2.2.1.joins, h.2.2.1.jumps⟩, h.2.2.2.drew⟩
theorem Hold.box (w : World) (i : Ins) (ht : Tabs w) : Hold w w.heap.size i (w.alloc (.cells i.cells.toArray 71)) := by
  have hb := Blk.new w 71 i.cells.toArray
  refine ⟨?_, hb, ht.below (below_box _ _), below_box _ _⟩
  refine ⟨?_, ?_, ?_, ?_, ?_, ?_, ?_, ?_⟩ <;> rw [hb.cell] <;> rfl

theorem hold8 {op : Int} {nar reg : Bool} {size dst src off imm : Int} {w0 w : World} {g : Nat} (h : Hold w0 g ⟨op, nar, reg, size, dst, src, off, imm⟩ w) :
    w.cell? ⟨g, 0, none⟩ = some (.int .i64 op) ∧ w.cell? ⟨g, 1, none⟩ = some (.bool nar) ∧ w.cell? ⟨g, 2, none⟩ = some (.bool reg) ∧ w.cell? ⟨g, 3, none⟩ = some (.int .i64 size) ∧ w.cell? ⟨g, 4, none⟩ = some (.int .i64 dst) ∧ w.cell? ⟨g, 5, none⟩ = some (.int .i64 src) ∧ w.cell? ⟨g, 6, none⟩ = some (.int .i64 off) ∧ w.cell? ⟨g, 7, none⟩ = some (.int .i64 imm) ∧ Hold w0 g ⟨op, nar, reg, size, dst, src, off, imm⟩ w := by
  have hx := h.1
  simp only [InsIs, Nat.zero_add] at hx
  obtain ⟨h0, h1, h2, h3, h4, h5, h6, h7⟩ := hx
  exact ⟨h0, h1, h2, h3, h4, h5, h6, h7, h⟩
theorem access_h {w0 w : World} {g : Nat} {i : Ins} (h : Hold w0 g i w) (op : Int) (nar reg : Bool) (size dst src off imm : Int) : Calls Tryd.prog 112 #[.agg #[.int .i64 op, .bool nar, .bool reg, .int .i64 size, .int .i64 dst, .int .i64 src, .int .i64 off, .int .i64 imm]] w fun e w' => e = .returned (.int .i64 (accessL op reg)) ∧ Hold w0 g i w' :=
  (access_any op nar reg size dst src off imm w).mono fun _ _ ⟨h1, h2⟩ => ⟨h1, h.below h2⟩
theorem class_h {w0 w : World} {g : Nat} {i : Ins} (h : Hold w0 g i w) (op : Int) (nar reg : Bool) (size dst src off imm : Int) : Calls Tryd.prog 115 #[.agg #[.int .i64 op, .bool nar, .bool reg, .int .i64 size, .int .i64 dst, .int .i64 src, .int .i64 off, .int .i64 imm]] w fun e w' => e = .returned (.int .i64 (classL op nar)) ∧ Hold w0 g i w' :=
  (class_any op nar reg size dst src off imm w).mono fun _ _ ⟨h1, h2⟩ => ⟨h1, h.below h2⟩

def opcodeL (op : Int) (nar reg : Bool) (size : Int) : Int :=
  if op = 20 ∨ op = 21 then 24 else if op = 17 then 212 else if op = 18 then 220 else if op = 19 then 215 else
  if 22 ≤ op ∧ op ≤ 25 then accessL op reg + 8 * sdL size else 16 * digitL op + classL op nar + (if reg = true then 8 else 0)

set_option maxHeartbeats 2000000 in
theorem opcode_mem (op : Int) (nar reg : Bool) (size dst src off imm : Int) (hop : 22 ≤ op ∧ op ≤ 25) (hs : size = 1 ∨ size = 2 ∨ size = 4 ∨ size = 8) (w : World) (ht : Tabs w) :
    Calls Tryd.prog 87 #[.agg #[.int .i64 op, .bool nar, .bool reg, .int .i64 size, .int .i64 dst, .int .i64 src, .int .i64 off, .int .i64 imm]] w fun e w' => e = .returned (.int .i64 (opcodeL op nar reg size)) ∧ Below w.heap.size w w' := by
  have H0 := Lib.hid (Hold.box w ⟨op, nar, reg, size, dst, src, off, imm⟩ ht)
  have hop' : op = 22 ∨ op = 23 ∨ op = 24 ∨ op = 25 := by omega
  have HS := Lib.hid (fun w ht => sizeDigit_any size hs w ht)
  have HA := Lib.hid (fun w => access_any op nar reg size dst src off imm w)
  have HE := Lib.hid (show ∀ nar, bits BinOp.or IntKind.i64 (accessL op reg) (IntKind.i64.wrap (sdL size * 8)) = opcodeL op nar reg size by
    intro nar
    rcases hop' with rfl | rfl | rfl | rfl <;> rcases hs with rfl | rfl | rfl | rfl <;> cases nar <;> cases reg <;> decide +kernel)
  clear hs hop
  rcases hop' with rfl | rfl | rfl | rfl
  · go_enter Tryd.func87, Tryd.ntmps87
    go_wp2_with fail
    go_region_held3 (fun w' => w'.cell? ⟨w.heap.size, 0, none⟩ = some (.int .i64 22) ∧ w'.cell? ⟨w.heap.size, 1, none⟩ = some (.bool nar) ∧ w'.cell? ⟨w.heap.size, 2, none⟩ = some (.bool reg) ∧ w'.cell? ⟨w.heap.size, 3, none⟩ = some (.int .i64 size) ∧ w'.cell? ⟨w.heap.size, 4, none⟩ = some (.int .i64 dst) ∧ w'.cell? ⟨w.heap.size, 5, none⟩ = some (.int .i64 src) ∧ w'.cell? ⟨w.heap.size, 6, none⟩ = some (.int .i64 off) ∧ w'.cell? ⟨w.heap.size, 7, none⟩ = some (.int .i64 imm) ∧ Hold w w.heap.size ⟨22, nar, reg, size, dst, src, off, imm⟩ w')
      (first | exact hold8 H0.out.drew | exact hold8 hH1)
      (first | (go_at_call 112; refine (access_h H0.out.drew _ _ _ _ _ _ _ _).mono ?_; rintro e w1 ⟨rfl, hH1⟩) | (go_at_call 113; refine (HS.out _ (by first | exact hH1.2.2.1 | exact H0.out.drew.2.2.1)).mono ?_; rintro e w' ⟨rfl, rfl⟩))
    go_wp2_with fail
    go_ret
    exact ⟨by rw [← HE.out nar]; rfl, hH1.2.2.2⟩
  · go_enter Tryd.func87, Tryd.ntmps87
    go_wp2_with fail
    go_region_held3 (fun w' => w'.cell? ⟨w.heap.size, 0, none⟩ = some (.int .i64 23) ∧ w'.cell? ⟨w.heap.size, 1, none⟩ = some (.bool nar) ∧ w'.cell? ⟨w.heap.size, 2, none⟩ = some (.bool reg) ∧ w'.cell? ⟨w.heap.size, 3, none⟩ = some (.int .i64 size) ∧ w'.cell? ⟨w.heap.size, 4, none⟩ = some (.int .i64 dst) ∧ w'.cell? ⟨w.heap.size, 5, none⟩ = some (.int .i64 src) ∧ w'.cell? ⟨w.heap.size, 6, none⟩ = some (.int .i64 off) ∧ w'.cell? ⟨w.heap.size, 7, none⟩ = some (.int .i64 imm) ∧ Hold w w.heap.size ⟨23, nar, reg, size, dst, src, off, imm⟩ w')
      (first | exact hold8 H0.out.drew | exact hold8 hH1)
      (first | (go_at_call 112; refine (access_h H0.out.drew _ _ _ _ _ _ _ _).mono ?_; rintro e w1 ⟨rfl, hH1⟩) | (go_at_call 113; refine (HS.out _ (by first | exact hH1.2.2.1 | exact H0.out.drew.2.2.1)).mono ?_; rintro e w' ⟨rfl, rfl⟩))
    go_wp2_with fail
    go_ret
    exact ⟨by rw [← HE.out nar]; rfl, hH1.2.2.2⟩
  · go_enter Tryd.func87, Tryd.ntmps87
    go_wp2_with fail
    go_region_held3 (fun w' => w'.cell? ⟨w.heap.size, 0, none⟩ = some (.int .i64 24) ∧ w'.cell? ⟨w.heap.size, 1, none⟩ = some (.bool nar) ∧ w'.cell? ⟨w.heap.size, 2, none⟩ = some (.bool reg) ∧ w'.cell? ⟨w.heap.size, 3, none⟩ = some (.int .i64 size) ∧ w'.cell? ⟨w.heap.size, 4, none⟩ = some (.int .i64 dst) ∧ w'.cell? ⟨w.heap.size, 5, none⟩ = some (.int .i64 src) ∧ w'.cell? ⟨w.heap.size, 6, none⟩ = some (.int .i64 off) ∧ w'.cell? ⟨w.heap.size, 7, none⟩ = some (.int .i64 imm) ∧ Hold w w.heap.size ⟨24, nar, reg, size, dst, src, off, imm⟩ w')
      (first | exact hold8 H0.out.drew | exact hold8 hH1)
      (first | (go_at_call 112; refine (access_h H0.out.drew _ _ _ _ _ _ _ _).mono ?_; rintro e w1 ⟨rfl, hH1⟩) | (go_at_call 113; refine (HS.out _ (by first | exact hH1.2.2.1 | exact H0.out.drew.2.2.1)).mono ?_; rintro e w' ⟨rfl, rfl⟩))
    go_wp2_with fail
    go_ret
    exact ⟨by rw [← HE.out nar]; rfl, hH1.2.2.2⟩
  · go_enter Tryd.func87, Tryd.ntmps87
    go_wp2_with fail
    go_region_held3 (fun w' => w'.cell? ⟨w.heap.size, 0, none⟩ = some (.int .i64 25) ∧ w'.cell? ⟨w.heap.size, 1, none⟩ = some (.bool nar) ∧ w'.cell? ⟨w.heap.size, 2, none⟩ = some (.bool reg) ∧ w'.cell? ⟨w.heap.size, 3, none⟩ = some (.int .i64 size) ∧ w'.cell? ⟨w.heap.size, 4, none⟩ = some (.int .i64 dst) ∧ w'.cell? ⟨w.heap.size, 5, none⟩ = some (.int .i64 src) ∧ w'.cell? ⟨w.heap.size, 6, none⟩ = some (.int .i64 off) ∧ w'.cell? ⟨w.heap.size, 7, none⟩ = some (.int .i64 imm) ∧ Hold w w.heap.size ⟨25, nar, reg, size, dst, src, off, imm⟩ w')
      (first | exact hold8 H0.out.drew | exact hold8 hH1)
      (first | (go_at_call 112; refine (access_h H0.out.drew _ _ _ _ _ _ _ _).mono ?_; rintro e w1 ⟨rfl, hH1⟩) | (go_at_call 113; refine (HS.out _ (by first | exact hH1.2.2.1 | exact H0.out.drew.2.2.1)).mono ?_; rintro e w' ⟨rfl, rfl⟩))
    go_wp2_with fail
    go_ret
    exact ⟨by rw [← HE.out nar]; rfl, hH1.2.2.2⟩

theorem opcodeL_else {op : Int} (h : (1 ≤ op ∧ op ≤ 16) ∨ (26 ≤ op ∧ op ≤ 39)) (nar reg : Bool) (size : Int) : opcodeL op nar reg size = 16 * digitL op + classL op nar + (if reg = true then 8 else 0) := by
  unfold opcodeL
  rw [if_neg (by omega), if_neg (by omega), if_neg (by omega), if_neg (by omega), if_neg (by omega)]
theorem opcode_or {op : Int} (h : (1 ≤ op ∧ op ≤ 16) ∨ (26 ≤ op ∧ op ≤ 39)) (nar : Bool) (size : Int) : bits BinOp.or IntKind.i64 (bits BinOp.or IntKind.i64 (IntKind.i64.wrap (digitL op * 16)) (classL op nar)) 8 = opcodeL op nar true size ∧ bits BinOp.or IntKind.i64 (IntKind.i64.wrap (digitL op * 16)) (classL op nar) = opcodeL op nar false size := by
  rw [opcodeL_else h, opcodeL_else h]
  have hc : op = 1 ∨ op = 2 ∨ op = 3 ∨ op = 4 ∨ op = 5 ∨ op = 6 ∨ op = 7 ∨ op = 8 ∨ op = 9 ∨ op = 10 ∨ op = 11 ∨ op = 12 ∨ op = 13 ∨ op = 14 ∨ op = 15 ∨ op = 16 ∨ op = 26 ∨ op = 27 ∨ op = 28 ∨ op = 29 ∨ op = 30 ∨ op = 31 ∨ op = 32 ∨ op = 33 ∨ op = 34 ∨ op = 35 ∨ op = 36 ∨ op = 37 ∨ op = 38 ∨ op = 39 := by omega
  clear h
  rcases hc with rfl | rfl | rfl | rfl | rfl | rfl | rfl | rfl | rfl | rfl | rfl | rfl | rfl | rfl | rfl | rfl | rfl | rfl | rfl | rfl | rfl | rfl | rfl | rfl | rfl | rfl | rfl | rfl | rfl | rfl <;> cases nar <;> decide +kernel

set_option maxHeartbeats 2000000 in
theorem opcode_else (op : Int) (nar reg : Bool) (size dst src off imm : Int) (hop : (1 ≤ op ∧ op ≤ 16) ∨ (26 ≤ op ∧ op ≤ 39)) (w : World) (ht : Tabs w) :
    Calls Tryd.prog 87 #[.agg #[.int .i64 op, .bool nar, .bool reg, .int .i64 size, .int .i64 dst, .int .i64 src, .int .i64 off, .int .i64 imm]] w fun e w' => e = .returned (.int .i64 (opcodeL op nar reg size)) ∧ Below w.heap.size w w' := by
  have H0 := Lib.hid (Hold.box w ⟨op, nar, reg, size, dst, src, off, imm⟩ ht)
  have HO := Lib.hid (opcode_or hop nar size)
  have HD := Lib.hid (fun w ht => digit_any op hop w ht)
  have t17 : (op == 17) = false := by rw [beq_eq_false_iff_ne]; omega
  have t18 : (op == 18) = false := by rw [beq_eq_false_iff_ne]; omega
  have t19 : (op == 19) = false := by rw [beq_eq_false_iff_ne]; omega
  have t20 : (op == 20) = false := by rw [beq_eq_false_iff_ne]; omega
  have t21 : (op == 21) = false := by rw [beq_eq_false_iff_ne]; omega
  have t22 : (op == 22) = false := by rw [beq_eq_false_iff_ne]; omega
  have t23 : (op == 23) = false := by rw [beq_eq_false_iff_ne]; omega
  have t24 : (op == 24) = false := by rw [beq_eq_false_iff_ne]; omega
  have t25 : (op == 25) = false := by rw [beq_eq_false_iff_ne]; omega
  clear hop
  generalize digitL op = dg at *
  generalize hcl : classL op nar = cl at *
  have HCL := Lib.hid hcl
  clear hcl
  cases reg
  · have HE := Lib.hid (HO.out.2)
    obtain ⟨sh, hsh⟩ : ∃ sh, IntKind.i64.wrap (dg * 16) = sh := ⟨_, rfl⟩
    rw [hsh] at HE
    clear HO
    go_enter Tryd.func87, Tryd.ntmps87
    go_wp2_with fail
    go_region_held3 (fun w' => w'.cell? ⟨w.heap.size, 0, none⟩ = some (.int .i64 op) ∧ w'.cell? ⟨w.heap.size, 1, none⟩ = some (.bool nar) ∧ w'.cell? ⟨w.heap.size, 2, none⟩ = some (.bool false) ∧ w'.cell? ⟨w.heap.size, 3, none⟩ = some (.int .i64 size) ∧ w'.cell? ⟨w.heap.size, 4, none⟩ = some (.int .i64 dst) ∧ w'.cell? ⟨w.heap.size, 5, none⟩ = some (.int .i64 src) ∧ w'.cell? ⟨w.heap.size, 6, none⟩ = some (.int .i64 off) ∧ w'.cell? ⟨w.heap.size, 7, none⟩ = some (.int .i64 imm) ∧ Hold w w.heap.size ⟨op, nar, false, size, dst, src, off, imm⟩ w')
      (first | exact hold8 H0.out.drew | exact hold8 hH1)
      (first | (go_at_call 115; refine (class_h H0.out.drew _ _ _ _ _ _ _ _).mono ?_; rintro e w1 ⟨rfl, hH1⟩; rw [HCL.out]) | (go_at_call 114; refine (HD.out _ (by first | exact hH1.2.2.1 | exact H0.out.drew.2.2.1)).mono ?_; rintro e w' ⟨rfl, rfl⟩))
    obtain ⟨q0, q1, q2, q3, q4, q5, q6, q7, _⟩ := hold8 hH1
    go_wp2_with fail
    go_ret
    exact ⟨by rw [← HE.out]; rfl, hH1.2.2.2⟩
  · have HE := Lib.hid (HO.out.1)
    obtain ⟨sh, hsh⟩ : ∃ sh, IntKind.i64.wrap (dg * 16) = sh := ⟨_, rfl⟩
    rw [hsh] at HE
    clear HO
    go_enter Tryd.func87, Tryd.ntmps87
    go_wp2_with fail
    go_region_held3 (fun w' => w'.cell? ⟨w.heap.size, 0, none⟩ = some (.int .i64 op) ∧ w'.cell? ⟨w.heap.size, 1, none⟩ = some (.bool nar) ∧ w'.cell? ⟨w.heap.size, 2, none⟩ = some (.bool true) ∧ w'.cell? ⟨w.heap.size, 3, none⟩ = some (.int .i64 size) ∧ w'.cell? ⟨w.heap.size, 4, none⟩ = some (.int .i64 dst) ∧ w'.cell? ⟨w.heap.size, 5, none⟩ = some (.int .i64 src) ∧ w'.cell? ⟨w.heap.size, 6, none⟩ = some (.int .i64 off) ∧ w'.cell? ⟨w.heap.size, 7, none⟩ = some (.int .i64 imm) ∧ Hold w w.heap.size ⟨op, nar, true, size, dst, src, off, imm⟩ w')
      (first | exact hold8 H0.out.drew | exact hold8 hH1)
      (first | (go_at_call 115; refine (class_h H0.out.drew _ _ _ _ _ _ _ _).mono ?_; rintro e w1 ⟨rfl, hH1⟩; rw [HCL.out]) | (go_at_call 114; refine (HD.out _ (by first | exact hH1.2.2.1 | exact H0.out.drew.2.2.1)).mono ?_; rintro e w' ⟨rfl, rfl⟩))
    obtain ⟨q0, q1, q2, q3, q4, q5, q6, q7, _⟩ := hold8 hH1
    go_wp2_with fail
    go_ret
    exact ⟨by rw [← HE.out]; rfl, hH1.2.2.2⟩
theorem opcode_any (op : Int) (nar reg : Bool) (size dst src off imm : Int) (hop : 1 ≤ op ∧ op ≤ 39) (hs : 22 ≤ op → op ≤ 25 → size = 1 ∨ size = 2 ∨ size = 4 ∨ size = 8) (w : World) (ht : Tabs w) :
    Calls Tryd.prog 87 #[.agg #[.int .i64 op, .bool nar, .bool reg, .int .i64 size, .int .i64 dst, .int .i64 src, .int .i64 off, .int .i64 imm]] w fun e w' => e = .returned (.int .i64 (opcodeL op nar reg size)) ∧ Below w.heap.size w w' := by
  by_cases h1 : 22 ≤ op ∧ op ≤ 25
  · exact opcode_mem op nar reg size dst src off imm h1 (hs h1.1 h1.2) w ht
  by_cases h2 : 17 ≤ op ∧ op ≤ 21
  · have hc : op = 17 ∨ op = 18 ∨ op = 19 ∨ op = 20 ∨ op = 21 := by omega
    clear hop hs h1 h2 ht
    rcases hc with rfl | rfl | rfl | rfl | rfl
    all_goals
      go_enter Tryd.func87, Tryd.ntmps87
      go_wp2_with fail
      go_ret
      exact ⟨rfl, below_box _ _⟩
  · exact opcode_else op nar reg size dst src off imm (by omega) w ht
end Go.Proofs.YtlodoinmippebaaDoor
/- Package code: first: what it holds of memory. -/
namespace Go.Proofs.YtlodoinmippebaaDoor
open Go.ChangeShapes Go.WideShapes Go.ChangeAt Go.RowKit
open Cod
set_option linter.unusedVariables false

theorem hold_box (w : World) (op : Int) (nar reg : Bool) (size dst src off imm : Int) (ht : Tabs w) : Hold w w.heap.size ⟨op, nar, reg, size, dst, src, off, imm⟩ (w.alloc (.cells #[.int .i64 op, .bool nar, .bool reg, .int .i64 size, .int .i64 dst, .int .i64 src, .int .i64 off, .int .i64 imm] 71)) := Hold.box w ⟨op, nar, reg, size, dst, src, off, imm⟩ ht
/-- what first holds of memory: the box, the tables, the block of its answer -/
def Hold2 (w0 : World) (g gr : Nat) (i : Ins) (w : World) : Prop := Hold w0 g i w ∧ Blk w gr 106 #[.int .i64 0, .int .i64 0, .int .i64 0, .int .i64 0, .int .i64 0] ∧ gr = g + 1 ∧ w0.heap.size = g ∧ 3 ≤ g
theorem Hold2.below {w0 wa wb : World} {g gr : Nat} {i : Ins} (h : Hold2 w0 g gr i wa) (hb : Below wa.heap.size wa wb) : Hold2 w0 g gr i wb := ⟨h.1.below hb, h.2.1.below hb h.2.1.lt, h.2.2⟩
theorem Hold2.drew {w0 w : World} {g gr : Nat} {i : Ins} (h : Hold2 w0 g gr i w) : Hold2 w0 g gr i w.drew := ⟨h.1.drew, h.2.1.drew, h.2.2⟩
theorem Hold2.alloc {w0 w : World} {g gr : Nat} {i : Ins} (h : Hold2 w0 g gr i w) (o : Obj) : Hold2 w0 g gr i (w.alloc o) := h.below (below_box _ _)
theorem Hold2.alloc_drew {w0 w : World} {g gr : Nat} {i : Ins} (h : Hold2 w0 g gr i w) (o : Obj) : Hold2 w0 g gr i (w.alloc o).drew := (h.alloc o).drew
theorem Hold2.setCell {w0 w : World} {g gr : Nat} {i : Ins} (h : Hold2 w0 g gr i w) {p : Addr} (hp : gr < p.block) (v : Value) : Hold2 w0 g gr i (w.setCell p v) := by
  obtain ⟨⟨h1, h2, h3, h4⟩, h5, h6, h7, h8⟩ := h
  have k : ∀ b, b < p.block → (w.setCell p v).heap[b]? = w.heap[b]? := fun b hb => Below.heap_setCell w p v b (by omega)
  have kc : ∀ b o, b < p.block → (w.setCell p v).cell? ⟨b, o, none⟩ = w.cell? ⟨b, o, none⟩ := fun b o hb => World.cell?_of_block (w := w) (k b hb)
  have hgp : g < p.block := by omega
  refine ⟨⟨?_, (k g hgp).trans h2, ⟨by simpa [World.setCell] using h3.lt, fun i hi => ?_, fun i hi => ?_, fun i hi => ?_⟩, h4.setCell (by omega) v⟩, (k gr hp).trans h5, h6, h7, h8⟩
  · obtain ⟨a0, a1, a2, a3, a4, a5, a6, a7⟩ := h1
    exact ⟨(kc _ _ hgp).trans a0, (kc _ _ hgp).trans a1, (kc _ _ hgp).trans a2, (kc _ _ hgp).trans a3, (kc _ _ hgp).trans a4, (kc _ _ hgp).trans a5, (kc _ _ hgp).trans a6, (kc _ _ hgp).trans a7⟩
  · rw [kc _ _ (by show 0 < _; omega)]; exact h3.sizes i hi
  · rw [kc _ _ (by show 1 < _; omega)]; exact h3.joins i hi
  · rw [kc _ _ (by show 2 < _; omega)]; exact h3.jumps i hi
theorem Hold2.set5 {w0 w : World} {g gr g2 : Nat} {i : Ins} (h : Hold2 w0 g gr i w) (hp : gr < g2) (a b c d e : Value) : Hold2 w0 g gr i (((((w.setCell ⟨g2, 0, none⟩ a).setCell ⟨g2, 1, none⟩ b).setCell ⟨g2, 2, none⟩ c).setCell ⟨g2, 3, none⟩ d).setCell ⟨g2, 4, none⟩ e) :=
  ((((h.setCell (p := ⟨g2, 0, none⟩) hp a).setCell (p := ⟨g2, 1, none⟩) hp b).setCell (p := ⟨g2, 2, none⟩) hp c).setCell (p := ⟨g2, 3, none⟩) hp d).setCell (p := ⟨g2, 4, none⟩) hp e
theorem hold9 {op : Int} {nar reg : Bool} {size dst src off imm : Int} {w0 w : World} {g gr : Nat} (h : Hold2 w0 g gr ⟨op, nar, reg, size, dst, src, off, imm⟩ w) :
    w.cell? ⟨g, 0, none⟩ = some (.int .i64 op) ∧ w.cell? ⟨g, 1, none⟩ = some (.bool nar) ∧ w.cell? ⟨g, 2, none⟩ = some (.bool reg) ∧ w.cell? ⟨g, 3, none⟩ = some (.int .i64 size) ∧ w.cell? ⟨g, 4, none⟩ = some (.int .i64 dst) ∧ w.cell? ⟨g, 5, none⟩ = some (.int .i64 src) ∧ w.cell? ⟨g, 6, none⟩ = some (.int .i64 off) ∧ w.cell? ⟨g, 7, none⟩ = some (.int .i64 imm) ∧ Hold2 w0 g gr ⟨op, nar, reg, size, dst, src, off, imm⟩ w := by
  obtain ⟨h0, h1, h2, h3, h4, h5, h6, h7, _⟩ := hold8 h.1
  exact ⟨h0, h1, h2, h3, h4, h5, h6, h7, h⟩
theorem opcode_h {w0 w : World} {g gr : Nat} {op : Int} {nar reg : Bool} {size dst src off imm : Int} (hop : 1 ≤ op ∧ op ≤ 39) (hs : 22 ≤ op → op ≤ 25 → size = 1 ∨ size = 2 ∨ size = 4 ∨ size = 8) (h : Hold2 w0 g gr ⟨op, nar, reg, size, dst, src, off, imm⟩ w) :
    Calls Tryd.prog 87 #[.agg #[.int .i64 op, .bool nar, .bool reg, .int .i64 size, .int .i64 dst, .int .i64 src, .int .i64 off, .int .i64 imm]] w fun e w' => e = .returned (.int .i64 (opcodeL op nar reg size)) ∧ Hold2 w0 g gr ⟨op, nar, reg, size, dst, src, off, imm⟩ w' ∧ Below w.heap.size w w' :=
  (opcode_any op nar reg size dst src off imm hop hs w h.1.2.2.1).mono fun _ _ ⟨h1, h2⟩ => ⟨h1, h.below h2, h2⟩
theorem cells5 {w : World} {g : Nat} {t : TypeId} {a b c d e : Value} (h : Blk w g t #[a, b, c, d, e]) :
    w.cell? ⟨g, 0, none⟩ = some a ∧ w.cell? ⟨g, 1, none⟩ = some b ∧ w.cell? ⟨g, 2, none⟩ = some c ∧ w.cell? ⟨g, 3, none⟩ = some d ∧ w.cell? ⟨g, 4, none⟩ = some e ∧
    w.frozen? ⟨g, 0, none⟩ = false ∧ w.frozen? ⟨g, 1, none⟩ = false ∧ w.frozen? ⟨g, 2, none⟩ = false ∧ w.frozen? ⟨g, 3, none⟩ = false ∧ w.frozen? ⟨g, 4, none⟩ = false := by
  refine ⟨?_, ?_, ?_, ?_, ?_, h.frozen 0, h.frozen 1, h.frozen 2, h.frozen 3, h.frozen 4⟩ <;> rw [h.cell] <;> rfl
/-- a block of five numbers that was made ahead of a call -/
theorem blk5 {w w1 : World} {g : Nat} (hg : w.heap.size = g) {t : TypeId} {a b c d e : Value} (hB : Below (w.alloc (.cells #[a, b, c, d, e] t)).drew.heap.size (w.alloc (.cells #[a, b, c, d, e] t)).drew w1) : Blk w1 g t #[a, b, c, d, e] := by
  subst hg
  exact (Blk.new w t #[a, b, c, d, e]).drew.below hB (by simp)
theorem set5 {w : World} {g : Nat} {t : TypeId} {a0 b0 c0 d0 e0 : Value} (h : Blk w g t #[a0, b0, c0, d0, e0]) (a b c d e : Value) : Blk (((((w.setCell ⟨g, 0, none⟩ a).setCell ⟨g, 1, none⟩ b).setCell ⟨g, 2, none⟩ c).setCell ⟨g, 3, none⟩ d).setCell ⟨g, 4, none⟩ e) g t #[a, b, c, d, e] :=
  ((((h.set_ 0 a).set_ 1 b).set_ 2 c).set_ 3 d).set_ 4 e
theorem hold2_start (w : World) (op : Int) (nar reg : Bool) (size dst src off imm : Int) (ht : Tabs w) : Hold2 w w.heap.size (w.heap.size + 1) ⟨op, nar, reg, size, dst, src, off, imm⟩ ((w.alloc (.cells #[.int .i64 op, .bool nar, .bool reg, .int .i64 size, .int .i64 dst, .int .i64 src, .int .i64 off, .int .i64 imm] 71)).alloc (.cells #[.int .i64 0, .int .i64 0, .int .i64 0, .int .i64 0, .int .i64 0] 106)) := by
  refine ⟨(hold_box w op nar reg size dst src off imm ht).below (below_box _ _), ?_, rfl, rfl, ht.lt⟩
  have := Blk.new (w.alloc (.cells #[.int .i64 op, .bool nar, .bool reg, .int .i64 size, .int .i64 dst, .int .i64 src, .int .i64 off, .int .i64 imm] 71)) 106 #[.int .i64 0, .int .i64 0, .int .i64 0, .int .i64 0, .int .i64 0]
  simpa using this
/-- what first has done when its unit stands in a block of its own -/
def Mid (w0 : World) (i : Ins) (oc : Int) (g2 : Nat) (w : World) : Prop := Hold2 w0 w0.heap.size (w0.heap.size + 1) i w ∧ Blk w g2 106 #[.int .i64 oc, .int .i64 i.dst, .int .i64 i.src, .int .i64 i.off, .int .i64 i.imm] ∧ w0.heap.size + 1 < g2
end Go.Proofs.YtlodoinmippebaaDoor
