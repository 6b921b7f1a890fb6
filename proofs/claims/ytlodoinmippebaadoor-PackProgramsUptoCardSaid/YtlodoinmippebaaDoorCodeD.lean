/- Contracts of package code: registers, fields, immediate, wrong. -/
import Derived.Test.YtlodoinmippebaaDoorCodeC
import Derived.Test.YtlodoinmippebaaDoorCore
namespace Go.Proofs.YtlodoinmippebaaDoor
open Go.ChangeShapes Go.WideShapes Go.ChangeAt Go.RowKit
open Cod
set_option linter.unusedVariables false

theorem belowDrewN {B : Nat} {a w : World} (h : Below B a w) (n : Nat) : Below B a (w.drewN n) := ⟨h.os, h.tape, h.output, h.size, h.block⟩
/-- an instruction that lies in a block of its own -/
theorem box8 {w : World} {g : Nat} {t : TypeId} (op : Int) (nar reg : Bool) (size dst src off imm : Int) (h : Blk w g t #[.int .i64 op, .bool nar, .bool reg, .int .i64 size, .int .i64 dst, .int .i64 src, .int .i64 off, .int .i64 imm]) :
    w.cell? ⟨g, 0, none⟩ = some (.int .i64 op) ∧ w.cell? ⟨g, 1, none⟩ = some (.bool nar) ∧ w.cell? ⟨g, 2, none⟩ = some (.bool reg) ∧ w.cell? ⟨g, 3, none⟩ = some (.int .i64 size) ∧ w.cell? ⟨g, 4, none⟩ = some (.int .i64 dst) ∧ w.cell? ⟨g, 5, none⟩ = some (.int .i64 src) ∧ w.cell? ⟨g, 6, none⟩ = some (.int .i64 off) ∧ w.cell? ⟨g, 7, none⟩ = some (.int .i64 imm) := by
  refine ⟨?_, ?_, ?_, ?_, ?_, ?_, ?_, ?_⟩ <;> rw [h.cell] <;> rfl
theorem named_bits {op : Int} (h : 1 ≤ op ∧ op ≤ 39) (nar reg : Bool) : (bits BinOp.and IntKind.i64 (namedL op nar reg) 4 == 0) = (namedL op nar reg / 4 % 2 == 0) ∧ (bits BinOp.and IntKind.i64 (namedL op nar reg) 8 == 0) = (namedL op nar reg / 8 % 2 == 0) ∧
    (bits BinOp.and IntKind.i64 (namedL op nar reg) 4 != 0) = (namedL op nar reg / 4 % 2 == 1) ∧ (bits BinOp.and IntKind.i64 (namedL op nar reg) 8 != 0) = (namedL op nar reg / 8 % 2 == 1) ∧ (bits BinOp.and IntKind.i64 (namedL op nar reg) 16 != 0) = (namedL op nar reg / 16 % 2 == 1) ∧ (bits BinOp.and IntKind.i64 (namedL op nar reg) 32 == 0) = decide (namedL op nar reg / 32 % 2 = 0) := by
  rcases ops_cases h with rfl | rfl | rfl | rfl | rfl | rfl | rfl | rfl | rfl | rfl | rfl | rfl | rfl | rfl | rfl | rfl | rfl | rfl | rfl | rfl | rfl | rfl | rfl | rfl | rfl | rfl | rfl | rfl | rfl | rfl | rfl | rfl | rfl | rfl | rfl | rfl | rfl | rfl | rfl <;> cases nar <;> cases reg <;> decide +kernel
theorem Below.box {w w1 : World} {o : Obj} (h : Below (w.alloc o).heap.size (w.alloc o) w1) : Below w.heap.size w w1 := (below_box w o).trans (h.mono (by simp))

set_option maxHeartbeats 8000000 in
theorem registers_any (op : Int) (nar reg : Bool) (size dst src off imm : Int) (h : 1 ≤ op ∧ op ≤ 39) (w : World) : Calls Tryd.prog 95 #[.agg #[.int .i64 op, .bool nar, .bool reg, .int .i64 size, .int .i64 dst, .int .i64 src, .int .i64 off, .int .i64 imm]] w fun e w' => e = .returned (.bool (registersL op nar reg dst src imm)) ∧ Below w.heap.size w w' := by
  have HN := Lib.hid (fun w => named_any op nar reg size dst src off imm h w)
  have hnb := named_bits h nar reg
  have hrl : registersL op nar reg dst src imm = ((namedL op nar reg / 4 % 2 == 0 || registerL dst (decide (1 ≤ op) && decide (op ≤ 23))) && (namedL op nar reg / 8 % 2 == 0 || registerL src (op == 25 && fetchesL imm))) := rfl
  have d1 : decide (1 ≤ op) = true := by simp; omega
  obtain ⟨b4, hb4⟩ : ∃ b, (namedL op nar reg / 4 % 2 == 0) = b := ⟨_, rfl⟩
  obtain ⟨b8, hb8⟩ : ∃ b, (namedL op nar reg / 8 % 2 == 0) = b := ⟨_, rfl⟩
  obtain ⟨c, hc⟩ : ∃ c, decide (op ≤ 23) = c := ⟨_, rfl⟩
  obtain ⟨t, ht⟩ : ∃ t, (op == 25) = t := ⟨_, rfl⟩
  rw [hb4, hb8] at hnb hrl
  rw [d1, hc, ht] at hrl
  obtain ⟨n4, n8, -⟩ := hnb
  have HR := Lib.hid hrl
  have HF := Lib.hid (fun w => fetches_any imm w)
  have HG1 := Lib.hid (fun w => register_any dst c w)
  have HG2 := Lib.hid (fun b w => register_any src b w)
  clear hrl hb4 hb8 h
  generalize namedL op nar reg = q at *
  generalize fetchesL imm = f at *
  generalize registersL op nar reg dst src imm = X at *
  obtain ⟨rd, hrd⟩ : ∃ r, registerL dst c = r := ⟨_, rfl⟩
  rw [hrd] at HG1
  have HR' := Lib.hid (show X = ((b4 || rd) && (b8 || registerL src (t && f))) by rw [← hrd]; have := HR.out; simpa using this)
  have hb0 := Blk.new w 71 #[.int .i64 op, .bool nar, .bool reg, .int .i64 size, .int .i64 dst, .int .i64 src, .int .i64 off, .int .i64 imm]
  clear HR hrd
  rcases arms2 b4 rd with rfl | ⟨rfl, rfl⟩ | ⟨rfl, rfl⟩ <;> rcases arms2 b8 t with rfl | ⟨rfl, rfl⟩ | ⟨rfl, rfl⟩
  all_goals
    go_enter Tryd.func95, Tryd.ntmps95
    go_wp2_with fail
    refine (HN.out _).mono ?_
    rintro e w1 ⟨rfl, hB⟩
    have hb1 := hb0.below hB hb0.lt
    obtain ⟨q0, q1, q2, q3, q4, q5, q6, q7⟩ := box8 op nar reg size dst src off imm hb1
    have hBB := Below.box hB
    clear hB hb1
    go_wp2_with (go_at_call 119; refine (HG1.out _).mono ?_; rintro e w2 ⟨rfl, rfl⟩)
    go_quiet ((first | (go_at_call 120; exact Calls.quiet_of_same ((HF.out _).mono fun _ _ ⟨h1, h2⟩ => ⟨h1, h2.symm⟩)) | (go_at_call 119; exact Calls.quiet_of_same ((HG2.out _ _).mono fun _ _ ⟨h1, h2⟩ => ⟨h1, h2.symm⟩))))
    go_wp2_with fail
    go_ret
    exact ⟨by rw [HR'.out]; rfl, belowDrewN hBB nq⟩


end Go.Proofs.YtlodoinmippebaaDoor
