/- Package code: opcode. -/
import Derived.Test.YthibideapapcbaaDoorCodeH
import Derived.Deep.RegionHeld3
namespace Go.Proofs.YthibideapapcbaaDoor
open Go.ChangeShapes Go.WideShapes Go.ChangeAt Go.RowKit
open Cod
set_option linter.unusedVariables false

/-- what a function of an instruction holds of memory: the box, the tables, and that nothing from before the call has turned -/
def Hold (w0 : World) (g : Nat) (i : Ins) (w : World) : Prop :=
  InsIs w g 0 i ∧ Blk w g 41 i.cells.toArray ∧ Tabs w ∧ Below w0.heap.size w0 w
theorem Hold.below {w0 wa wb : World} {g : Nat} {i : Ins} (h : Hold w0 g i wa) (hb : Below wa.heap.size wa wb) : Hold w0 g i wb :=
  ⟨h.1.below hb h.2.1.lt, h.2.1.below hb h.2.1.lt, h.2.2.1.below hb, h.2.2.2.trans (hb.mono h.2.2.2.size)⟩
theorem Hold.drew {w0 wa : World} {g : Nat} {i : Ins} (h : Hold w0 g i wa) : Hold w0 g i wa.drew :=
  ⟨h.1, h.2.1, ⟨h.2.2.1.lt, h.2.2.1.sizes, h.2.2.1.joins, h.2.2.1.jumps⟩, h.2.2.2.drew⟩
theorem Hold.box (w : World) (i : Ins) (ht : Tabs w) : Hold w w.heap.size i (w.alloc (.cells i.cells.toArray 41)) := by
  have hb := Blk.new w 41 i.cells.toArray
  refine ⟨?_, hb, ht.below (below_box _ _), below_box _ _⟩
  refine ⟨?_, ?_, ?_, ?_, ?_, ?_, ?_, ?_⟩ <;> rw [hb.cell] <;> rfl

theorem hold8 {op : Int} {nar reg : Bool} {size dst src off imm : Int} {w0 w : World} {g : Nat} (h : Hold w0 g ⟨op, nar, reg, size, dst, src, off, imm⟩ w) :
    w.cell? ⟨g, 0, none⟩ = some (.int .i64 op) ∧ w.cell? ⟨g, 1, none⟩ = some (.bool nar) ∧ w.cell? ⟨g, 2, none⟩ = some (.bool reg) ∧ w.cell? ⟨g, 3, none⟩ = some (.int .i64 size) ∧ w.cell? ⟨g, 4, none⟩ = some (.int .i64 dst) ∧ w.cell? ⟨g, 5, none⟩ = some (.int .i64 src) ∧ w.cell? ⟨g, 6, none⟩ = some (.int .i64 off) ∧ w.cell? ⟨g, 7, none⟩ = some (.int .i64 imm) ∧ Hold w0 g ⟨op, nar, reg, size, dst, src, off, imm⟩ w := by
  have hx := h.1
  simp only [InsIs, Nat.zero_add] at hx
  obtain ⟨h0, h1, h2, h3, h4, h5, h6, h7⟩ := hx
  exact ⟨h0, h1, h2, h3, h4, h5, h6, h7, h⟩
theorem access_h {w0 w : World} {g : Nat} {i : Ins} (h : Hold w0 g i w) (op : Int) (nar reg : Bool) (size dst src off imm : Int) : Calls Tryd.prog 97 #[.agg #[.int .i64 op, .bool nar, .bool reg, .int .i64 size, .int .i64 dst, .int .i64 src, .int .i64 off, .int .i64 imm]] w fun e w' => e = .returned (.int .i64 (accessL op reg)) ∧ Hold w0 g i w' :=
  (access_any op nar reg size dst src off imm w).mono fun _ _ ⟨h1, h2⟩ => ⟨h1, h.below h2⟩
theorem class_h {w0 w : World} {g : Nat} {i : Ins} (h : Hold w0 g i w) (op : Int) (nar reg : Bool) (size dst src off imm : Int) : Calls Tryd.prog 100 #[.agg #[.int .i64 op, .bool nar, .bool reg, .int .i64 size, .int .i64 dst, .int .i64 src, .int .i64 off, .int .i64 imm]] w fun e w' => e = .returned (.int .i64 (classL op nar)) ∧ Hold w0 g i w' :=
  (class_any op nar reg size dst src off imm w).mono fun _ _ ⟨h1, h2⟩ => ⟨h1, h.below h2⟩

def opcodeL (op : Int) (nar reg : Bool) (size : Int) : Int :=
  if op = 20 ∨ op = 21 then 24 else if op = 17 then 212 else if op = 18 then 220 else if op = 19 then 215 else
  if 22 ≤ op ∧ op ≤ 25 then accessL op reg + 8 * sdL size else 16 * digitL op + classL op nar + (if reg = true then 8 else 0)

set_option maxHeartbeats 2000000 in
theorem opcode_mem (op : Int) (nar reg : Bool) (size dst src off imm : Int) (hop : 22 ≤ op ∧ op ≤ 25) (hs : size = 1 ∨ size = 2 ∨ size = 4 ∨ size = 8) (w : World) (ht : Tabs w) :
    Calls Tryd.prog 79 #[.agg #[.int .i64 op, .bool nar, .bool reg, .int .i64 size, .int .i64 dst, .int .i64 src, .int .i64 off, .int .i64 imm]] w fun e w' => e = .returned (.int .i64 (opcodeL op nar reg size)) ∧ Below w.heap.size w w' := by
  have H0 := Lib.hid (Hold.box w ⟨op, nar, reg, size, dst, src, off, imm⟩ ht)
  have hop' : op = 22 ∨ op = 23 ∨ op = 24 ∨ op = 25 := by omega
  have HS := Lib.hid (fun w ht => sizeDigit_any size hs w ht)
  have HA := Lib.hid (fun w => access_any op nar reg size dst src off imm w)
  have HE := Lib.hid (show ∀ nar, bits BinOp.or IntKind.i64 (accessL op reg) (IntKind.i64.wrap (sdL size * 8)) = opcodeL op nar reg size by
    intro nar
    rcases hop' with rfl | rfl | rfl | rfl <;> rcases hs with rfl | rfl | rfl | rfl <;> cases nar <;> cases reg <;> decide +kernel)
  clear hs hop
  rcases hop' with rfl | rfl | rfl | rfl
  · go_enter Tryd.func79, Tryd.ntmps79
    go_wp2_with fail
    go_region_held3 (fun w' => w'.cell? ⟨w.heap.size, 0, none⟩ = some (.int .i64 22) ∧ w'.cell? ⟨w.heap.size, 1, none⟩ = some (.bool nar) ∧ w'.cell? ⟨w.heap.size, 2, none⟩ = some (.bool reg) ∧ w'.cell? ⟨w.heap.size, 3, none⟩ = some (.int .i64 size) ∧ w'.cell? ⟨w.heap.size, 4, none⟩ = some (.int .i64 dst) ∧ w'.cell? ⟨w.heap.size, 5, none⟩ = some (.int .i64 src) ∧ w'.cell? ⟨w.heap.size, 6, none⟩ = some (.int .i64 off) ∧ w'.cell? ⟨w.heap.size, 7, none⟩ = some (.int .i64 imm) ∧ Hold w w.heap.size ⟨22, nar, reg, size, dst, src, off, imm⟩ w')
      (first | exact hold8 H0.out.drew | exact hold8 hH1)
      (first | (go_at_call 97; refine (access_h H0.out.drew _ _ _ _ _ _ _ _).mono ?_; rintro e w1 ⟨rfl, hH1⟩) | (go_at_call 98; refine (HS.out _ (by first | exact hH1.2.2.1 | exact H0.out.drew.2.2.1)).mono ?_; rintro e w' ⟨rfl, rfl⟩))
    go_wp2_with fail
    go_ret
    exact ⟨by rw [← HE.out nar]; rfl, hH1.2.2.2⟩
  · go_enter Tryd.func79, Tryd.ntmps79
    go_wp2_with fail
    go_region_held3 (fun w' => w'.cell? ⟨w.heap.size, 0, none⟩ = some (.int .i64 23) ∧ w'.cell? ⟨w.heap.size, 1, none⟩ = some (.bool nar) ∧ w'.cell? ⟨w.heap.size, 2, none⟩ = some (.bool reg) ∧ w'.cell? ⟨w.heap.size, 3, none⟩ = some (.int .i64 size) ∧ w'.cell? ⟨w.heap.size, 4, none⟩ = some (.int .i64 dst) ∧ w'.cell? ⟨w.heap.size, 5, none⟩ = some (.int .i64 src) ∧ w'.cell? ⟨w.heap.size, 6, none⟩ = some (.int .i64 off) ∧ w'.cell? ⟨w.heap.size, 7, none⟩ = some (.int .i64 imm) ∧ Hold w w.heap.size ⟨23, nar, reg, size, dst, src, off, imm⟩ w')
      (first | exact hold8 H0.out.drew | exact hold8 hH1)
      (first | (go_at_call 97; refine (access_h H0.out.drew _ _ _ _ _ _ _ _).mono ?_; rintro e w1 ⟨rfl, hH1⟩) | (go_at_call 98; refine (HS.out _ (by first | exact hH1.2.2.1 | exact H0.out.drew.2.2.1)).mono ?_; rintro e w' ⟨rfl, rfl⟩))
    go_wp2_with fail
    go_ret
    exact ⟨by rw [← HE.out nar]; rfl, hH1.2.2.2⟩
  · go_enter Tryd.func79, Tryd.ntmps79
    go_wp2_with fail
    go_region_held3 (fun w' => w'.cell? ⟨w.heap.size, 0, none⟩ = some (.int .i64 24) ∧ w'.cell? ⟨w.heap.size, 1, none⟩ = some (.bool nar) ∧ w'.cell? ⟨w.heap.size, 2, none⟩ = some (.bool reg) ∧ w'.cell? ⟨w.heap.size, 3, none⟩ = some (.int .i64 size) ∧ w'.cell? ⟨w.heap.size, 4, none⟩ = some (.int .i64 dst) ∧ w'.cell? ⟨w.heap.size, 5, none⟩ = some (.int .i64 src) ∧ w'.cell? ⟨w.heap.size, 6, none⟩ = some (.int .i64 off) ∧ w'.cell? ⟨w.heap.size, 7, none⟩ = some (.int .i64 imm) ∧ Hold w w.heap.size ⟨24, nar, reg, size, dst, src, off, imm⟩ w')
      (first | exact hold8 H0.out.drew | exact hold8 hH1)
      (first | (go_at_call 97; refine (access_h H0.out.drew _ _ _ _ _ _ _ _).mono ?_; rintro e w1 ⟨rfl, hH1⟩) | (go_at_call 98; refine (HS.out _ (by first | exact hH1.2.2.1 | exact H0.out.drew.2.2.1)).mono ?_; rintro e w' ⟨rfl, rfl⟩))
    go_wp2_with fail
    go_ret
    exact ⟨by rw [← HE.out nar]; rfl, hH1.2.2.2⟩
  · go_enter Tryd.func79, Tryd.ntmps79
    go_wp2_with fail
    go_region_held3 (fun w' => w'.cell? ⟨w.heap.size, 0, none⟩ = some (.int .i64 25) ∧ w'.cell? ⟨w.heap.size, 1, none⟩ = some (.bool nar) ∧ w'.cell? ⟨w.heap.size, 2, none⟩ = some (.bool reg) ∧ w'.cell? ⟨w.heap.size, 3, none⟩ = some (.int .i64 size) ∧ w'.cell? ⟨w.heap.size, 4, none⟩ = some (.int .i64 dst) ∧ w'.cell? ⟨w.heap.size, 5, none⟩ = some (.int .i64 src) ∧ w'.cell? ⟨w.heap.size, 6, none⟩ = some (.int .i64 off) ∧ w'.cell? ⟨w.heap.size, 7, none⟩ = some (.int .i64 imm) ∧ Hold w w.heap.size ⟨25, nar, reg, size, dst, src, off, imm⟩ w')
      (first | exact hold8 H0.out.drew | exact hold8 hH1)
      (first | (go_at_call 97; refine (access_h H0.out.drew _ _ _ _ _ _ _ _).mono ?_; rintro e w1 ⟨rfl, hH1⟩) | (go_at_call 98; refine (HS.out _ (by first | exact hH1.2.2.1 | exact H0.out.drew.2.2.1)).mono ?_; rintro e w' ⟨rfl, rfl⟩))
    go_wp2_with fail
    go_ret
    exact ⟨by rw [← HE.out nar]; rfl, hH1.2.2.2⟩

theorem opcodeL_else {op : Int} (h : (1 ≤ op ∧ op ≤ 16) ∨ (26 ≤ op ∧ op ≤ 39)) (nar reg : Bool) (size : Int) : opcodeL op nar reg size = 16 * digitL op + classL op nar + (if reg = true then 8 else 0) := by
  unfold opcodeL
  rw [if_neg (by omega), if_neg (by omega), if_neg (by omega), if_neg (by omega), if_neg (by omega)]
theorem opcode_or {op : Int} (h : (1 ≤ op ∧ op ≤ 16) ∨ (26 ≤ op ∧ op ≤ 39)) (nar : Bool) (size : Int) : bits BinOp.or IntKind.i64 (bits BinOp.or IntKind.i64 (IntKind.i64.wrap (digitL op * 16)) (classL op nar)) 8 = opcodeL op nar true size ∧ bits BinOp.or IntKind.i64 (IntKind.i64.wrap (digitL op * 16)) (classL op nar) = opcodeL op nar false size := by
  rw [opcodeL_else h, opcodeL_else h]
  have hc : op = 1 ∨ op = 2 ∨ op = 3 ∨ op = 4 ∨ op = 5 ∨ op = 6 ∨ op = 7 ∨ op = 8 ∨ op = 9 ∨ op = 10 ∨ op = 11 ∨ op = 12 ∨ op = 13 ∨ op = 14 ∨ op = 15 ∨ op = 16 ∨ op = 26 ∨ op = 27 ∨ op = 28 ∨ op = 29 ∨ op = 30 ∨ op = 31 ∨ op = 32 ∨ op = 33 ∨ op = 34 ∨ op = 35 ∨ op = 36 ∨ op = 37 ∨ op = 38 ∨ op = 39 := by omega
  clear h
  rcases hc with rfl | rfl | rfl | rfl | rfl | rfl | rfl | rfl | rfl | rfl | rfl | rfl | rfl | rfl | rfl | rfl | rfl | rfl | rfl | rfl | rfl | rfl | rfl | rfl | rfl | rfl | rfl | rfl | rfl | rfl <;> cases nar <;> decide +kernel

set_option maxHeartbeats 2000000 in
theorem opcode_else (op : Int) (nar reg : Bool) (size dst src off imm : Int) (hop : (1 ≤ op ∧ op ≤ 16) ∨ (26 ≤ op ∧ op ≤ 39)) (w : World) (ht : Tabs w) :
    Calls Tryd.prog 79 #[.agg #[.int .i64 op, .bool nar, .bool reg, .int .i64 size, .int .i64 dst, .int .i64 src, .int .i64 off, .int .i64 imm]] w fun e w' => e = .returned (.int .i64 (opcodeL op nar reg size)) ∧ Below w.heap.size w w' := by
  have H0 := Lib.hid (Hold.box w ⟨op, nar, reg, size, dst, src, off, imm⟩ ht)
  have HO := Lib.hid (opcode_or hop nar size)
  have HD := Lib.hid (fun w ht => digit_any op hop w ht)
  have t17 : (op == 17) = false := by rw [beq_eq_false_iff_ne]; omega
  have t18 : (op == 18) = false := by rw [beq_eq_false_iff_ne]; omega
  have t19 : (op == 19) = false := by rw [beq_eq_false_iff_ne]; omega
  have t20 : (op == 20) = false := by rw [beq_eq_false_iff_ne]; omega
  have t21 : (op == 21) = false := by rw [beq_eq_false_iff_ne]; omega
  have t22 : (op == 22) = false := by rw [beq_eq_false_iff_ne]; omega
  have t23 : (op == 23) = false := by rw [beq_eq_false_iff_ne]; omega
  have t24 : (op == 24) = false := by rw [beq_eq_false_iff_ne]; omega
  have t25 : (op == 25) = false := by rw [beq_eq_false_iff_ne]; omega
  clear hop
  generalize digitL op = dg at *
  generalize hcl : classL op nar = cl at *
  have HCL := Lib.hid hcl
  clear hcl
  cases reg
  · have HE := Lib.hid (HO.out.2)
    obtain ⟨sh, hsh⟩ : ∃ sh, IntKind.i64.wrap (dg * 16) = sh := ⟨_, rfl⟩
    rw [hsh] at HE
    clear HO
    go_enter Tryd.func79, Tryd.ntmps79
    go_wp2_with fail
    go_region_held3 (fun w' => w'.cell? ⟨w.heap.size, 0, none⟩ = some (.int .i64 op) ∧ w'.cell? ⟨w.heap.size, 1, none⟩ = some (.bool nar) ∧ w'.cell? ⟨w.heap.size, 2, none⟩ = some (.bool false) ∧ w'.cell? ⟨w.heap.size, 3, none⟩ = some (.int .i64 size) ∧ w'.cell? ⟨w.heap.size, 4, none⟩ = some (.int .i64 dst) ∧ w'.cell? ⟨w.heap.size, 5, none⟩ = some (.int .i64 src) ∧ w'.cell? ⟨w.heap.size, 6, none⟩ = some (.int .i64 off) ∧ w'.cell? ⟨w.heap.size, 7, none⟩ = some (.int .i64 imm) ∧ Hold w w.heap.size ⟨op, nar, false, size, dst, src, off, imm⟩ w')
      (first | exact hold8 H0.out.drew | exact hold8 hH1)
      (first | (go_at_call 100; refine (class_h H0.out.drew _ _ _ _ _ _ _ _).mono ?_; rintro e w1 ⟨rfl, hH1⟩; rw [HCL.out]) | (go_at_call 99; refine (HD.out _ (by first | exact hH1.2.2.1 | exact H0.out.drew.2.2.1)).mono ?_; rintro e w' ⟨rfl, rfl⟩))
    obtain ⟨q0, q1, q2, q3, q4, q5, q6, q7, _⟩ := hold8 hH1
    go_wp2_with fail
    go_ret
    exact ⟨by rw [← HE.out]; rfl, hH1.2.2.2⟩
  · have HE := Lib.hid (HO.out.1)
    obtain ⟨sh, hsh⟩ : ∃ sh, IntKind.i64.wrap (dg * 16) = sh := ⟨_, rfl⟩
    rw [hsh] at HE
    clear HO
    go_enter Tryd.func79, Tryd.ntmps79
    go_wp2_with fail
    go_region_held3 (fun w' => w'.cell? ⟨w.heap.size, 0, none⟩ = some (.int .i64 op) ∧ w'.cell? ⟨w.heap.size, 1, none⟩ = some (.bool nar) ∧ w'.cell? ⟨w.heap.size, 2, none⟩ = some (.bool true) ∧ w'.cell? ⟨w.heap.size, 3, none⟩ = some (.int .i64 size) ∧ w'.cell? ⟨w.heap.size, 4, none⟩ = some (.int .i64 dst) ∧ w'.cell? ⟨w.heap.size, 5, none⟩ = some (.int .i64 src) ∧ w'.cell? ⟨w.heap.size, 6, none⟩ = some (.int .i64 off) ∧ w'.cell? ⟨w.heap.size, 7, none⟩ = some (.int .i64 imm) ∧ Hold w w.heap.size ⟨op, nar, true, size, dst, src, off, imm⟩ w')
      (first | exact hold8 H0.out.drew | exact hold8 hH1)
      (first | (go_at_call 100; refine (class_h H0.out.drew _ _ _ _ _ _ _ _).mono ?_; rintro e w1 ⟨rfl, hH1⟩; rw [HCL.out]) | (go_at_call 99; refine (HD.out _ (by first | exact hH1.2.2.1 | exact H0.out.drew.2.2.1)).mono ?_; rintro e w' ⟨rfl, rfl⟩))
    obtain ⟨q0, q1, q2, q3, q4, q5, q6, q7, _⟩ := hold8 hH1
    go_wp2_with fail
    go_ret
    exact ⟨by rw [← HE.out]; rfl, hH1.2.2.2⟩
theorem opcode_any (op : Int) (nar reg : Bool) (size dst src off imm : Int) (hop : 1 ≤ op ∧ op ≤ 39) (hs : 22 ≤ op → op ≤ 25 → size = 1 ∨ size = 2 ∨ size = 4 ∨ size = 8) (w : World) (ht : Tabs w) :
    Calls Tryd.prog 79 #[.agg #[.int .i64 op, .bool nar, .bool reg, .int .i64 size, .int .i64 dst, .int .i64 src, .int .i64 off, .int .i64 imm]] w fun e w' => e = .returned (.int .i64 (opcodeL op nar reg size)) ∧ Below w.heap.size w w' := by
  by_cases h1 : 22 ≤ op ∧ op ≤ 25
  · exact opcode_mem op nar reg size dst src off imm h1 (hs h1.1 h1.2) w ht
  by_cases h2 : 17 ≤ op ∧ op ≤ 21
  · have hc : op = 17 ∨ op = 18 ∨ op = 19 ∨ op = 20 ∨ op = 21 := by omega
    clear hop hs h1 h2 ht
    rcases hc with rfl | rfl | rfl | rfl | rfl
    all_goals
      go_enter Tryd.func79, Tryd.ntmps79
      go_wp2_with fail
      go_ret
      exact ⟨rfl, below_box _ _⟩
  · exact opcode_else op nar reg size dst src off imm (by omega) w ht
end Go.Proofs.YthibideapapcbaaDoor
