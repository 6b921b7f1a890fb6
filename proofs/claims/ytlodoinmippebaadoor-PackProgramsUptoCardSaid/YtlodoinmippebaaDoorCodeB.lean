/- Contracts of package code: named, sized. -/
import Derived.Test.YtlodoinmippebaaDoorCodeA
namespace Go.Proofs.YtlodoinmippebaaDoor
open Go.ChangeShapes Go.WideShapes Go.ChangeAt Go.RowKit
open Cod
set_option linter.unusedVariables false

theorem below_box (w : World) (o : Obj) : Below w.heap.size w (w.alloc o) := (Below.refl _ _).alloc (Nat.le_refl _) _
theorem rowL_bits {op : Int} (h : 1 ≤ op ∧ op ≤ 39) : bits BinOp.and IntKind.i64 (rowL op) 1 = rowL op % 2 ∧ bits BinOp.and IntKind.i64 (rowL op) 2 = 2 * (rowL op / 2 % 2) ∧ bits BinOp.or IntKind.i64 (rowL op) 8 = rowL op + 8 * (1 - rowL op / 8 % 2) ∧ bits BinOp.or IntKind.i64 (rowL op) 32 = rowL op + 32 * (1 - rowL op / 32 % 2) := by
  rcases ops_cases h with rfl | rfl | rfl | rfl | rfl | rfl | rfl | rfl | rfl | rfl | rfl | rfl | rfl | rfl | rfl | rfl | rfl | rfl | rfl | rfl | rfl | rfl | rfl | rfl | rfl | rfl | rfl | rfl | rfl | rfl | rfl | rfl | rfl | rfl | rfl | rfl | rfl | rfl | rfl <;> decide +kernel
theorem namedL_cases {op : Int} (h : 1 ≤ op ∧ op ≤ 39) (nar reg : Bool) (h26 : op ≠ 26) : (rowL op / 2 % 2 = 0 ∧ namedL op nar reg = rowL op) ∨ (rowL op / 2 % 2 = 1 ∧ reg = true ∧ namedL op nar reg = rowL op + 8 * (1 - rowL op / 8 % 2)) ∨ (rowL op / 2 % 2 = 1 ∧ reg = false ∧ namedL op nar reg = rowL op + 32 * (1 - rowL op / 32 % 2)) := by
  rcases ops_cases h with rfl | rfl | rfl | rfl | rfl | rfl | rfl | rfl | rfl | rfl | rfl | rfl | rfl | rfl | rfl | rfl | rfl | rfl | rfl | rfl | rfl | rfl | rfl | rfl | rfl | rfl | rfl | rfl | rfl | rfl | rfl | rfl | rfl | rfl | rfl | rfl | rfl | rfl | rfl <;> cases nar <;> cases reg <;> first | (exact absurd rfl h26) | decide +kernel

set_option maxHeartbeats 2000000 in
theorem named_any (op : Int) (nar reg : Bool) (size dst src off imm : Int) (h : 1 ≤ op ∧ op ≤ 39) (w : World) : Calls Tryd.prog 118 #[.agg #[.int .i64 op, .bool nar, .bool reg, .int .i64 size, .int .i64 dst, .int .i64 src, .int .i64 off, .int .i64 imm]] w fun e w' => e = .returned (.int .i64 (namedL op nar reg)) ∧ Below w.heap.size w w' := by
  by_cases h26 : op = 26
  · subst h26
    have R := Lib.hid (fun w => row_any 26 (by decide) w)
    have e1 : bits BinOp.or IntKind.i64 (rowL 26) 32 = 33 := by decide +kernel
    have e2 : bits BinOp.or IntKind.i64 (rowL 26) 16 = 17 := by decide +kernel
    generalize rowL 26 = p at *
    cases nar
    all_goals
      go_enter Tryd.func118, Tryd.ntmps118
      go_wp2_with fail
      refine (R.out _).mono ?_
      rintro e w' ⟨rfl, rfl⟩
      go_wp2_with fail
      go_ret
      exact ⟨rfl, below_box _ _⟩
  · have t26 : (op == 26) = false := by rw [beq_eq_false_iff_ne]; exact h26
    have hb := rowL_bits h
    have hc := namedL_cases h nar reg h26
    have R := Lib.hid (fun w => row_any op h w)
    have HB := Lib.hid hb
    clear hb h h26
    rcases hc with ⟨hc, he⟩ | ⟨hc, rfl, he⟩ | ⟨hc, rfl, he⟩
    · have t2 : bits BinOp.and IntKind.i64 (rowL op) 2 = 0 := by rw [HB.out.2.1, hc]; rfl
      rw [he]
      clear hc he HB
      generalize rowL op = p at *
      go_enter Tryd.func118, Tryd.ntmps118
      go_wp2_with fail
      refine (R.out _).mono ?_
      rintro e w' ⟨rfl, rfl⟩
      go_wp2_with fail
      go_ret
      exact ⟨rfl, below_box _ _⟩
    · have t2 : bits BinOp.and IntKind.i64 (rowL op) 2 = 2 := by rw [HB.out.2.1, hc]; rfl
      have t3 : bits BinOp.or IntKind.i64 (rowL op) 8 = namedL op nar true := by rw [HB.out.2.2.1, he]
      clear hc he HB
      generalize rowL op = p at *
      generalize namedL op nar true = q at *
      go_enter Tryd.func118, Tryd.ntmps118
      go_wp2_with fail
      refine (R.out _).mono ?_
      rintro e w' ⟨rfl, rfl⟩
      go_wp2_with fail
      go_ret
      exact ⟨rfl, below_box _ _⟩
    · have t2 : bits BinOp.and IntKind.i64 (rowL op) 2 = 2 := by rw [HB.out.2.1, hc]; rfl
      have t3 : bits BinOp.or IntKind.i64 (rowL op) 32 = namedL op nar false := by rw [HB.out.2.2.2, he]
      clear hc he HB
      generalize rowL op = p at *
      generalize namedL op nar false = q at *
      go_enter Tryd.func118, Tryd.ntmps118
      go_wp2_with fail
      refine (R.out _).mono ?_
      rintro e w' ⟨rfl, rfl⟩
      go_wp2_with fail
      go_ret
      exact ⟨rfl, below_box _ _⟩

set_option maxHeartbeats 4000000 in
theorem sized_16 (nar reg : Bool) (size dst src off imm : Int) (w : World) : Calls Tryd.prog 96 #[.agg #[.int .i64 16, .bool nar, .bool reg, .int .i64 size, .int .i64 dst, .int .i64 src, .int .i64 off, .int .i64 imm]] w fun e w' => e = .returned (.bool (sizedL 16 nar size)) ∧ Below w.heap.size w w' := by
  rcases arms3 (size == 8) (size == 16) (size == 32) with t1 | ⟨t1, t2⟩ | ⟨t1, t2, t3⟩ | ⟨t1, t2, t3⟩
  · have HE := Lib.hid (show sizedL 16 nar size = true by simp [sizedL, t1])
    go_enter Tryd.func96, Tryd.ntmps96
    go_wp2_with fail
    go_ret
    exact ⟨by rw [HE.out]; rfl, below_box _ _⟩
  · have HE := Lib.hid (show sizedL 16 nar size = true by simp [sizedL, t1, t2])
    go_enter Tryd.func96, Tryd.ntmps96
    go_wp2_with fail
    go_ret
    exact ⟨by rw [HE.out]; rfl, below_box _ _⟩
  · have HE := Lib.hid (show sizedL 16 nar size = !nar by simp [sizedL, t1, t2, t3])
    go_enter Tryd.func96, Tryd.ntmps96
    go_wp2_with fail
    go_ret
    exact ⟨by rw [HE.out]; rfl, below_box _ _⟩
  · have HE := Lib.hid (show sizedL 16 nar size = false by simp [sizedL, t1, t2, t3])
    go_enter Tryd.func96, Tryd.ntmps96
    go_wp2_with fail
    go_ret
    exact ⟨by rw [HE.out]; rfl, below_box _ _⟩

set_option maxHeartbeats 4000000 in
theorem sized_17 (nar reg : Bool) (size dst src off imm : Int) (w : World) : Calls Tryd.prog 96 #[.agg #[.int .i64 17, .bool nar, .bool reg, .int .i64 size, .int .i64 dst, .int .i64 src, .int .i64 off, .int .i64 imm]] w fun e w' => e = .returned (.bool (sizedL 17 nar size)) ∧ Below w.heap.size w w' := by
  rcases arms3 (size == 16) (size == 32) (size == 64) with t1 | ⟨t1, t2⟩ | ⟨t1, t2, t3⟩ | ⟨t1, t2, t3⟩
  · have HE := Lib.hid (show sizedL 17 nar size = true by simp [sizedL, t1])
    go_enter Tryd.func96, Tryd.ntmps96
    go_wp2_with fail
    go_ret
    exact ⟨by rw [HE.out]; rfl, below_box _ _⟩
  · have HE := Lib.hid (show sizedL 17 nar size = true by simp [sizedL, t1, t2])
    go_enter Tryd.func96, Tryd.ntmps96
    go_wp2_with fail
    go_ret
    exact ⟨by rw [HE.out]; rfl, below_box _ _⟩
  · have HE := Lib.hid (show sizedL 17 nar size = true by simp [sizedL, t1, t2, t3])
    go_enter Tryd.func96, Tryd.ntmps96
    go_wp2_with fail
    go_ret
    exact ⟨by rw [HE.out]; rfl, below_box _ _⟩
  · have HE := Lib.hid (show sizedL 17 nar size = false by simp [sizedL, t1, t2, t3])
    go_enter Tryd.func96, Tryd.ntmps96
    go_wp2_with fail
    go_ret
    exact ⟨by rw [HE.out]; rfl, below_box _ _⟩

set_option maxHeartbeats 4000000 in
theorem sized_18 (nar reg : Bool) (size dst src off imm : Int) (w : World) : Calls Tryd.prog 96 #[.agg #[.int .i64 18, .bool nar, .bool reg, .int .i64 size, .int .i64 dst, .int .i64 src, .int .i64 off, .int .i64 imm]] w fun e w' => e = .returned (.bool (sizedL 18 nar size)) ∧ Below w.heap.size w w' := by
  rcases arms3 (size == 16) (size == 32) (size == 64) with t1 | ⟨t1, t2⟩ | ⟨t1, t2, t3⟩ | ⟨t1, t2, t3⟩
  · have HE := Lib.hid (show sizedL 18 nar size = true by simp [sizedL, t1])
    go_enter Tryd.func96, Tryd.ntmps96
    go_wp2_with fail
    go_ret
    exact ⟨by rw [HE.out]; rfl, below_box _ _⟩
  · have HE := Lib.hid (show sizedL 18 nar size = true by simp [sizedL, t1, t2])
    go_enter Tryd.func96, Tryd.ntmps96
    go_wp2_with fail
    go_ret
    exact ⟨by rw [HE.out]; rfl, below_box _ _⟩
  · have HE := Lib.hid (show sizedL 18 nar size = true by simp [sizedL, t1, t2, t3])
    go_enter Tryd.func96, Tryd.ntmps96
    go_wp2_with fail
    go_ret
    exact ⟨by rw [HE.out]; rfl, below_box _ _⟩
  · have HE := Lib.hid (show sizedL 18 nar size = false by simp [sizedL, t1, t2, t3])
    go_enter Tryd.func96, Tryd.ntmps96
    go_wp2_with fail
    go_ret
    exact ⟨by rw [HE.out]; rfl, below_box _ _⟩

set_option maxHeartbeats 4000000 in
theorem sized_19 (nar reg : Bool) (size dst src off imm : Int) (w : World) : Calls Tryd.prog 96 #[.agg #[.int .i64 19, .bool nar, .bool reg, .int .i64 size, .int .i64 dst, .int .i64 src, .int .i64 off, .int .i64 imm]] w fun e w' => e = .returned (.bool (sizedL 19 nar size)) ∧ Below w.heap.size w w' := by
  rcases arms3 (size == 16) (size == 32) (size == 64) with t1 | ⟨t1, t2⟩ | ⟨t1, t2, t3⟩ | ⟨t1, t2, t3⟩
  · have HE := Lib.hid (show sizedL 19 nar size = true by simp [sizedL, t1])
    go_enter Tryd.func96, Tryd.ntmps96
    go_wp2_with fail
    go_ret
    exact ⟨by rw [HE.out]; rfl, below_box _ _⟩
  · have HE := Lib.hid (show sizedL 19 nar size = true by simp [sizedL, t1, t2])
    go_enter Tryd.func96, Tryd.ntmps96
    go_wp2_with fail
    go_ret
    exact ⟨by rw [HE.out]; rfl, below_box _ _⟩
  · have HE := Lib.hid (show sizedL 19 nar size = true by simp [sizedL, t1, t2, t3])
    go_enter Tryd.func96, Tryd.ntmps96
    go_wp2_with fail
    go_ret
    exact ⟨by rw [HE.out]; rfl, below_box _ _⟩
  · have HE := Lib.hid (show sizedL 19 nar size = false by simp [sizedL, t1, t2, t3])
    go_enter Tryd.func96, Tryd.ntmps96
    go_wp2_with fail
    go_ret
    exact ⟨by rw [HE.out]; rfl, below_box _ _⟩

set_option maxHeartbeats 4000000 in
theorem sized_22 (nar reg : Bool) (size dst src off imm : Int) (w : World) : Calls Tryd.prog 96 #[.agg #[.int .i64 22, .bool nar, .bool reg, .int .i64 size, .int .i64 dst, .int .i64 src, .int .i64 off, .int .i64 imm]] w fun e w' => e = .returned (.bool (sizedL 22 nar size)) ∧ Below w.heap.size w w' := by
  rcases arms4 (size == 1) (size == 2) (size == 4) (size == 8) with t1 | ⟨t1, t2⟩ | ⟨t1, t2, t3⟩ | ⟨t1, t2, t3, t4⟩ | ⟨t1, t2, t3, t4⟩
  · have HE := Lib.hid (show sizedL 22 nar size = true by simp [sizedL, t1])
    go_enter Tryd.func96, Tryd.ntmps96
    go_wp2_with fail
    go_ret
    exact ⟨by rw [HE.out]; rfl, below_box _ _⟩
  · have HE := Lib.hid (show sizedL 22 nar size = true by simp [sizedL, t1, t2])
    go_enter Tryd.func96, Tryd.ntmps96
    go_wp2_with fail
    go_ret
    exact ⟨by rw [HE.out]; rfl, below_box _ _⟩
  · have HE := Lib.hid (show sizedL 22 nar size = true by simp [sizedL, t1, t2, t3])
    go_enter Tryd.func96, Tryd.ntmps96
    go_wp2_with fail
    go_ret
    exact ⟨by rw [HE.out]; rfl, below_box _ _⟩
  · have HE := Lib.hid (show sizedL 22 nar size = true by simp [sizedL, t1, t2, t3, t4])
    go_enter Tryd.func96, Tryd.ntmps96
    go_wp2_with fail
    go_ret
    exact ⟨by rw [HE.out]; rfl, below_box _ _⟩
  · have HE := Lib.hid (show sizedL 22 nar size = false by simp [sizedL, t1, t2, t3, t4])
    go_enter Tryd.func96, Tryd.ntmps96
    go_wp2_with fail
    go_ret
    exact ⟨by rw [HE.out]; rfl, below_box _ _⟩

set_option maxHeartbeats 4000000 in
theorem sized_24 (nar reg : Bool) (size dst src off imm : Int) (w : World) : Calls Tryd.prog 96 #[.agg #[.int .i64 24, .bool nar, .bool reg, .int .i64 size, .int .i64 dst, .int .i64 src, .int .i64 off, .int .i64 imm]] w fun e w' => e = .returned (.bool (sizedL 24 nar size)) ∧ Below w.heap.size w w' := by
  rcases arms4 (size == 1) (size == 2) (size == 4) (size == 8) with t1 | ⟨t1, t2⟩ | ⟨t1, t2, t3⟩ | ⟨t1, t2, t3, t4⟩ | ⟨t1, t2, t3, t4⟩
  · have HE := Lib.hid (show sizedL 24 nar size = true by simp [sizedL, t1])
    go_enter Tryd.func96, Tryd.ntmps96
    go_wp2_with fail
    go_ret
    exact ⟨by rw [HE.out]; rfl, below_box _ _⟩
  · have HE := Lib.hid (show sizedL 24 nar size = true by simp [sizedL, t1, t2])
    go_enter Tryd.func96, Tryd.ntmps96
    go_wp2_with fail
    go_ret
    exact ⟨by rw [HE.out]; rfl, below_box _ _⟩
  · have HE := Lib.hid (show sizedL 24 nar size = true by simp [sizedL, t1, t2, t3])
    go_enter Tryd.func96, Tryd.ntmps96
    go_wp2_with fail
    go_ret
    exact ⟨by rw [HE.out]; rfl, below_box _ _⟩
  · have HE := Lib.hid (show sizedL 24 nar size = true by simp [sizedL, t1, t2, t3, t4])
    go_enter Tryd.func96, Tryd.ntmps96
    go_wp2_with fail
    go_ret
    exact ⟨by rw [HE.out]; rfl, below_box _ _⟩
  · have HE := Lib.hid (show sizedL 24 nar size = false by simp [sizedL, t1, t2, t3, t4])
    go_enter Tryd.func96, Tryd.ntmps96
    go_wp2_with fail
    go_ret
    exact ⟨by rw [HE.out]; rfl, below_box _ _⟩

set_option maxHeartbeats 4000000 in
theorem sized_23 (nar reg : Bool) (size dst src off imm : Int) (w : World) : Calls Tryd.prog 96 #[.agg #[.int .i64 23, .bool nar, .bool reg, .int .i64 size, .int .i64 dst, .int .i64 src, .int .i64 off, .int .i64 imm]] w fun e w' => e = .returned (.bool (sizedL 23 nar size)) ∧ Below w.heap.size w w' := by
  rcases arms3 (size == 1) (size == 2) (size == 4) with t1 | ⟨t1, t2⟩ | ⟨t1, t2, t3⟩ | ⟨t1, t2, t3⟩
  · have HE := Lib.hid (show sizedL 23 nar size = true by simp [sizedL, t1])
    go_enter Tryd.func96, Tryd.ntmps96
    go_wp2_with fail
    go_ret
    exact ⟨by rw [HE.out]; rfl, below_box _ _⟩
  · have HE := Lib.hid (show sizedL 23 nar size = true by simp [sizedL, t1, t2])
    go_enter Tryd.func96, Tryd.ntmps96
    go_wp2_with fail
    go_ret
    exact ⟨by rw [HE.out]; rfl, below_box _ _⟩
  · have HE := Lib.hid (show sizedL 23 nar size = true by simp [sizedL, t1, t2, t3])
    go_enter Tryd.func96, Tryd.ntmps96
    go_wp2_with fail
    go_ret
    exact ⟨by rw [HE.out]; rfl, below_box _ _⟩
  · have HE := Lib.hid (show sizedL 23 nar size = false by simp [sizedL, t1, t2, t3])
    go_enter Tryd.func96, Tryd.ntmps96
    go_wp2_with fail
    go_ret
    exact ⟨by rw [HE.out]; rfl, below_box _ _⟩

set_option maxHeartbeats 4000000 in
theorem sized_25 (nar reg : Bool) (size dst src off imm : Int) (w : World) : Calls Tryd.prog 96 #[.agg #[.int .i64 25, .bool nar, .bool reg, .int .i64 size, .int .i64 dst, .int .i64 src, .int .i64 off, .int .i64 imm]] w fun e w' => e = .returned (.bool (sizedL 25 nar size)) ∧ Below w.heap.size w w' := by
  rcases arms2 (size == 4) (size == 8) with t1 | ⟨t1, t2⟩ | ⟨t1, t2⟩
  · have HE := Lib.hid (show sizedL 25 nar size = true by simp [sizedL, t1])
    go_enter Tryd.func96, Tryd.ntmps96
    go_wp2_with fail
    go_ret
    exact ⟨by rw [HE.out]; rfl, below_box _ _⟩
  · have HE := Lib.hid (show sizedL 25 nar size = true by simp [sizedL, t1, t2])
    go_enter Tryd.func96, Tryd.ntmps96
    go_wp2_with fail
    go_ret
    exact ⟨by rw [HE.out]; rfl, below_box _ _⟩
  · have HE := Lib.hid (show sizedL 25 nar size = false by simp [sizedL, t1, t2])
    go_enter Tryd.func96, Tryd.ntmps96
    go_wp2_with fail
    go_ret
    exact ⟨by rw [HE.out]; rfl, below_box _ _⟩

set_option maxHeartbeats 2000000 in
theorem sized_any (op : Int) (nar reg : Bool) (size dst src off imm : Int) (w : World) : Calls Tryd.prog 96 #[.agg #[.int .i64 op, .bool nar, .bool reg, .int .i64 size, .int .i64 dst, .int .i64 src, .int .i64 off, .int .i64 imm]] w fun e w' => e = .returned (.bool (sizedL op nar size)) ∧ Below w.heap.size w w' := by
  by_cases h16 : op = 16
  · subst h16; exact sized_16 nar reg size dst src off imm w
  by_cases h17 : op = 17
  · subst h17; exact sized_17 nar reg size dst src off imm w
  by_cases h18 : op = 18
  · subst h18; exact sized_18 nar reg size dst src off imm w
  by_cases h19 : op = 19
  · subst h19; exact sized_19 nar reg size dst src off imm w
  by_cases h22 : op = 22
  · subst h22; exact sized_22 nar reg size dst src off imm w
  by_cases h24 : op = 24
  · subst h24; exact sized_24 nar reg size dst src off imm w
  by_cases h23 : op = 23
  · subst h23; exact sized_23 nar reg size dst src off imm w
  by_cases h25 : op = 25
  · subst h25; exact sized_25 nar reg size dst src off imm w
  have HE := Lib.hid (show sizedL op nar size = (size == 0) by simp [sizedL, h16, h17, h18, h19, h22, h24, h23, h25])
  have t16 : (op == 16) = false := by rw [beq_eq_false_iff_ne]; exact h16
  have t17 : (op == 17) = false := by rw [beq_eq_false_iff_ne]; exact h17
  have t18 : (op == 18) = false := by rw [beq_eq_false_iff_ne]; exact h18
  have t19 : (op == 19) = false := by rw [beq_eq_false_iff_ne]; exact h19
  have t22 : (op == 22) = false := by rw [beq_eq_false_iff_ne]; exact h22
  have t24 : (op == 24) = false := by rw [beq_eq_false_iff_ne]; exact h24
  have t23 : (op == 23) = false := by rw [beq_eq_false_iff_ne]; exact h23
  have t25 : (op == 25) = false := by rw [beq_eq_false_iff_ne]; exact h25
  clear h16 h17 h18 h19 h22 h24 h23 h25
  go_enter Tryd.func96, Tryd.ntmps96
  go_wp2_with fail
  go_ret
  exact ⟨by rw [HE.out]; rfl, below_box _ _⟩
end Go.Proofs.YtlodoinmippebaaDoor
