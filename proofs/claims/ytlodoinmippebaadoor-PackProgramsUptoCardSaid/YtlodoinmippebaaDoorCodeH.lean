/- Package code: the tables; access, class, sizeDigit, digit, long. -/
import Derived.Test.YtlodoinmippebaaDoorCodeG
namespace Go.Proofs.YtlodoinmippebaaDoor
open Go.ChangeShapes Go.WideShapes Go.ChangeAt Go.RowKit
open Cod
set_option linter.unusedVariables false

def sizeT : List Int := [4, 2, 1, 8]
def joinT : List Int := [1, 2, 3, 4, 8, 9, 11, 12, 14, 5, 10, 15, 13]
def jumpT : List Int := [26, 27, 29, 30, 37, 28, 33, 34, 38, 39, 31, 32, 35, 36]
/-- the three tables of package code lie where its start laid them -/
structure Tabs (w : World) : Prop where
  lt : 3 ≤ w.heap.size
  sizes : ∀ i, i < 4 → w.cell? ⟨0, i, none⟩ = some (.int .i64 (sizeT.getD i 0))
  joins : ∀ i, i < 13 → w.cell? ⟨1, i, none⟩ = some (.int .i64 (joinT.getD i 0))
  jumps : ∀ i, i < 14 → w.cell? ⟨2, i, none⟩ = some (.int .i64 (jumpT.getD i 0))
theorem Tabs.below {w w' : World} (h : Tabs w) (hb : Below w.heap.size w w') : Tabs w' := by
  have := h.lt
  refine ⟨Nat.le_trans h.lt hb.size, fun i hi => ?_, fun i hi => ?_, fun i hi => ?_⟩
  · rw [hb.cell (p := ⟨0, i, none⟩) (by show 0 < _; omega)]; exact h.sizes i hi
  · rw [hb.cell (p := ⟨1, i, none⟩) (by show 1 < _; omega)]; exact h.joins i hi
  · rw [hb.cell (p := ⟨2, i, none⟩) (by show 2 < _; omega)]; exact h.jumps i hi
theorem Tabs.belowB {w0 w w' : World} (h : Tabs w0) (hb : Below w0.heap.size w0 w) : Tabs w := h.below hb

def accessL (op : Int) (reg : Bool) : Int := if op = 22 then 97 else if op = 23 then 129 else if op = 25 then 195 else if reg = true then 99 else 98
def classL (op : Int) (nar : Bool) : Int := if 26 ≤ op then (if nar = true then 6 else 5) else (if nar = true then 4 else 7)
def sdL (size : Int) : Int := if size = 4 then 0 else if size = 2 then 1 else if size = 1 then 2 else if size = 8 then 3 else 0
def digitL (op : Int) : Int := if op = 6 then 3 else if op = 7 then 9 else if op = 16 then 11 else
  match joinT.findIdx? (· == op) with
  | some d => d
  | none => match jumpT.findIdx? (· == op) with
    | some d => d
    | none => 0

set_option maxHeartbeats 1000000 in
theorem access_any (op : Int) (nar reg : Bool) (size dst src off imm : Int) (w : World) : Calls Tryd.prog 112 #[.agg #[.int .i64 op, .bool nar, .bool reg, .int .i64 size, .int .i64 dst, .int .i64 src, .int .i64 off, .int .i64 imm]] w fun e w' => e = .returned (.int .i64 (accessL op reg)) ∧ Below w.heap.size w w' := by
  by_cases h1 : op = 22
  · subst h1
    go_enter Tryd.func112, Tryd.ntmps112
    go_wp2_with fail
    go_ret
    exact ⟨rfl, below_box _ _⟩
  by_cases h2 : op = 23
  · subst h2
    go_enter Tryd.func112, Tryd.ntmps112
    go_wp2_with fail
    go_ret
    exact ⟨rfl, below_box _ _⟩
  by_cases h3 : op = 25
  · subst h3
    go_enter Tryd.func112, Tryd.ntmps112
    go_wp2_with fail
    go_ret
    exact ⟨rfl, below_box _ _⟩
  have t1 : (op == 22) = false := by rw [beq_eq_false_iff_ne]; exact h1
  have t2 : (op == 23) = false := by rw [beq_eq_false_iff_ne]; exact h2
  have t3 : (op == 25) = false := by rw [beq_eq_false_iff_ne]; exact h3
  have HE := Lib.hid (show accessL op reg = if reg = true then 99 else 98 by unfold accessL; rw [if_neg h1, if_neg h2, if_neg h3])
  clear h1 h2 h3
  cases reg
  all_goals
    go_enter Tryd.func112, Tryd.ntmps112
    go_wp2_with fail
    go_ret
    exact ⟨by rw [HE.out]; rfl, below_box _ _⟩
set_option maxHeartbeats 1000000 in
theorem class_any (op : Int) (nar reg : Bool) (size dst src off imm : Int) (w : World) : Calls Tryd.prog 115 #[.agg #[.int .i64 op, .bool nar, .bool reg, .int .i64 size, .int .i64 dst, .int .i64 src, .int .i64 off, .int .i64 imm]] w fun e w' => e = .returned (.int .i64 (classL op nar)) ∧ Below w.heap.size w w' := by
  by_cases h1 : 26 ≤ op
  · have HE := Lib.hid (show classL op nar = if nar = true then 6 else 5 by unfold classL; rw [if_pos h1])
    cases nar
    all_goals
      go_enter Tryd.func115, Tryd.ntmps115
      go_wp2_with fail
      go_ret
      exact ⟨by rw [HE.out]; rfl, below_box _ _⟩
  · have t1 : decide (26 ≤ op) = false := by simp; omega
    have HE := Lib.hid (show classL op nar = if nar = true then 4 else 7 by unfold classL; rw [if_neg h1])
    clear h1
    cases nar
    all_goals
      go_enter Tryd.func115, Tryd.ntmps115
      go_wp2_with fail
      go_ret
      exact ⟨by rw [HE.out]; rfl, below_box _ _⟩
theorem long_any (op : Int) (w : World) : Calls Tryd.prog 58 #[.int .i64 op] w fun e w' => e = .returned (.bool (op == 20 || op == 21)) ∧ w = w' := by
  by_cases h1 : op = 20
  · subst h1
    go_enter Tryd.func58, Tryd.ntmps58
    go_wp2_with fail
    go_ret
    exact ⟨rfl, rfl⟩
  · have t1 : (op == 20) = false := by rw [beq_eq_false_iff_ne]; exact h1
    have HE := Lib.hid (show (op == 20 || op == 21) = (op == 21) by rw [t1]; rfl)
    rw [HE.out]
    clear h1
    go_enter Tryd.func58, Tryd.ntmps58
    go_wp2_with fail
    go_ret
    exact ⟨rfl, rfl⟩

theorem sizes_at (j : Nat) (h : j < 4) (w : World) : (Instr.index 167 (.agg #[.int .i64 4, .int .i64 2, .int .i64 1, .int .i64 8]) (.int .i64 (j : Int))).run Tryd.prog w = .ok (.int .i64 (sizeT.getD j 0)) w := by
  have c0 : ∀ w, (Instr.index 167 (.agg #[.int .i64 4, .int .i64 2, .int .i64 1, .int .i64 8]) (.int .i64 0)).run Tryd.prog w = .ok (.int .i64 4) w := fun _ => by kernel_rfl
  have c1 : ∀ w, (Instr.index 167 (.agg #[.int .i64 4, .int .i64 2, .int .i64 1, .int .i64 8]) (.int .i64 1)).run Tryd.prog w = .ok (.int .i64 2) w := fun _ => by kernel_rfl
  have c2 : ∀ w, (Instr.index 167 (.agg #[.int .i64 4, .int .i64 2, .int .i64 1, .int .i64 8]) (.int .i64 2)).run Tryd.prog w = .ok (.int .i64 1) w := fun _ => by kernel_rfl
  have c3 : ∀ w, (Instr.index 167 (.agg #[.int .i64 4, .int .i64 2, .int .i64 1, .int .i64 8]) (.int .i64 3)).run Tryd.prog w = .ok (.int .i64 8) w := fun _ => by kernel_rfl
  have hc : j = 0 ∨ j = 1 ∨ j = 2 ∨ j = 3 := by omega
  rcases hc with rfl | rfl | rfl | rfl
  · exact c0 w
  · exact c1 w
  · exact c2 w
  · exact c3 w
set_option maxHeartbeats 1000000 in
theorem sizeDigit_any (size : Int) (hs : size = 1 ∨ size = 2 ∨ size = 4 ∨ size = 8) (w : World) (ht : Tabs w) : Calls Tryd.prog 113 #[.int .i64 size] w fun e w' => e = .returned (.int .i64 (sdL size)) ∧ w = w' := by
  have c0 := ht.sizes 0 (by decide)
  have c1 := ht.sizes 1 (by decide)
  have c2 := ht.sizes 2 (by decide)
  have c3 := ht.sizes 3 (by decide)
  simp only [sizeT, List.getD_cons_zero, List.getD_cons_succ] at c0 c1 c2 c3
  have HI := Lib.hid sizes_at
  clear ht
  obtain ⟨D, hD, hlt, hne, hat⟩ : ∃ D : Nat, sdL size = D ∧ D < 4 ∧ (∀ j, j < D → sizeT.getD j 0 ≠ size) ∧ sizeT.getD D 0 = size := by
    rcases hs with rfl | rfl | rfl | rfl
    · exact ⟨2, by decide, by decide, by decide, by decide⟩
    · exact ⟨1, by decide, by decide, by decide, by decide⟩
    · exact ⟨0, by decide, by decide, by decide, by decide⟩
    · exact ⟨3, by decide, by decide, by decide, by decide⟩
  have HD := Lib.hid hD
  have HN := Lib.hid hne
  have HA := Lib.hid hat
  clear hs hD hne hat
  go_enter Tryd.func113, Tryd.ntmps113
  go_wp2_with fail
  go_loop [3, 4, 6] (fun _ _ i => ∃ j : Nat, j ≤ D ∧ i = .int .i64 j) (fun _ _ i => (4 - intOf i).toNat)
  case atStart => exact ⟨0, Nat.zero_le _, rfl⟩
  case round =>
    obtain ⟨j, hj, rfl⟩ := hrel
    have hj4 : (j : Int) < 4 := by omega
    have hi := HI.out j (by omega)
    by_cases hjD : j = D
    · subst hjD
      rw [HA.out] at hi
      go_wp2_with fail
      go_ret
      exact ⟨by rw [HD.out]; rfl, rfl⟩
    · have hne := HN.out j (by omega)
      have t : (sizeT.getD j 0 == size) = false := by rw [beq_eq_false_iff_ne]; exact hne
      generalize sizeT.getD j 0 = x at *
      go_wp2_with fail
      go_round
      case rel => exact ⟨j + 1, by omega, by go_num⟩
      case measure => simp [intOf]; omega

theorem joins_at (j : Nat) (h : j < 13) (w : World) : (Instr.index 168 (.agg #[.int .i64 1, .int .i64 2, .int .i64 3, .int .i64 4, .int .i64 8, .int .i64 9, .int .i64 11, .int .i64 12, .int .i64 14, .int .i64 5, .int .i64 10, .int .i64 15, .int .i64 13]) (.int .i64 (j : Int))).run Tryd.prog w = .ok (.int .i64 (joinT.getD j 0)) w := by
  have c0 : ∀ w, (Instr.index 168 (.agg #[.int .i64 1, .int .i64 2, .int .i64 3, .int .i64 4, .int .i64 8, .int .i64 9, .int .i64 11, .int .i64 12, .int .i64 14, .int .i64 5, .int .i64 10, .int .i64 15, .int .i64 13]) (.int .i64 0)).run Tryd.prog w = .ok (.int .i64 1) w := fun _ => by kernel_rfl
  have c1 : ∀ w, (Instr.index 168 (.agg #[.int .i64 1, .int .i64 2, .int .i64 3, .int .i64 4, .int .i64 8, .int .i64 9, .int .i64 11, .int .i64 12, .int .i64 14, .int .i64 5, .int .i64 10, .int .i64 15, .int .i64 13]) (.int .i64 1)).run Tryd.prog w = .ok (.int .i64 2) w := fun _ => by kernel_rfl
  have c2 : ∀ w, (Instr.index 168 (.agg #[.int .i64 1, .int .i64 2, .int .i64 3, .int .i64 4, .int .i64 8, .int .i64 9, .int .i64 11, .int .i64 12, .int .i64 14, .int .i64 5, .int .i64 10, .int .i64 15, .int .i64 13]) (.int .i64 2)).run Tryd.prog w = .ok (.int .i64 3) w := fun _ => by kernel_rfl
  have c3 : ∀ w, (Instr.index 168 (.agg #[.int .i64 1, .int .i64 2, .int .i64 3, .int .i64 4, .int .i64 8, .int .i64 9, .int .i64 11, .int .i64 12, .int .i64 14, .int .i64 5, .int .i64 10, .int .i64 15, .int .i64 13]) (.int .i64 3)).run Tryd.prog w = .ok (.int .i64 4) w := fun _ => by kernel_rfl
  have c4 : ∀ w, (Instr.index 168 (.agg #[.int .i64 1, .int .i64 2, .int .i64 3, .int .i64 4, .int .i64 8, .int .i64 9, .int .i64 11, .int .i64 12, .int .i64 14, .int .i64 5, .int .i64 10, .int .i64 15, .int .i64 13]) (.int .i64 4)).run Tryd.prog w = .ok (.int .i64 8) w := fun _ => by kernel_rfl
  have c5 : ∀ w, (Instr.index 168 (.agg #[.int .i64 1, .int .i64 2, .int .i64 3, .int .i64 4, .int .i64 8, .int .i64 9, .int .i64 11, .int .i64 12, .int .i64 14, .int .i64 5, .int .i64 10, .int .i64 15, .int .i64 13]) (.int .i64 5)).run Tryd.prog w = .ok (.int .i64 9) w := fun _ => by kernel_rfl
  have c6 : ∀ w, (Instr.index 168 (.agg #[.int .i64 1, .int .i64 2, .int .i64 3, .int .i64 4, .int .i64 8, .int .i64 9, .int .i64 11, .int .i64 12, .int .i64 14, .int .i64 5, .int .i64 10, .int .i64 15, .int .i64 13]) (.int .i64 6)).run Tryd.prog w = .ok (.int .i64 11) w := fun _ => by kernel_rfl
  have c7 : ∀ w, (Instr.index 168 (.agg #[.int .i64 1, .int .i64 2, .int .i64 3, .int .i64 4, .int .i64 8, .int .i64 9, .int .i64 11, .int .i64 12, .int .i64 14, .int .i64 5, .int .i64 10, .int .i64 15, .int .i64 13]) (.int .i64 7)).run Tryd.prog w = .ok (.int .i64 12) w := fun _ => by kernel_rfl
  have c8 : ∀ w, (Instr.index 168 (.agg #[.int .i64 1, .int .i64 2, .int .i64 3, .int .i64 4, .int .i64 8, .int .i64 9, .int .i64 11, .int .i64 12, .int .i64 14, .int .i64 5, .int .i64 10, .int .i64 15, .int .i64 13]) (.int .i64 8)).run Tryd.prog w = .ok (.int .i64 14) w := fun _ => by kernel_rfl
  have c9 : ∀ w, (Instr.index 168 (.agg #[.int .i64 1, .int .i64 2, .int .i64 3, .int .i64 4, .int .i64 8, .int .i64 9, .int .i64 11, .int .i64 12, .int .i64 14, .int .i64 5, .int .i64 10, .int .i64 15, .int .i64 13]) (.int .i64 9)).run Tryd.prog w = .ok (.int .i64 5) w := fun _ => by kernel_rfl
  have c10 : ∀ w, (Instr.index 168 (.agg #[.int .i64 1, .int .i64 2, .int .i64 3, .int .i64 4, .int .i64 8, .int .i64 9, .int .i64 11, .int .i64 12, .int .i64 14, .int .i64 5, .int .i64 10, .int .i64 15, .int .i64 13]) (.int .i64 10)).run Tryd.prog w = .ok (.int .i64 10) w := fun _ => by kernel_rfl
  have c11 : ∀ w, (Instr.index 168 (.agg #[.int .i64 1, .int .i64 2, .int .i64 3, .int .i64 4, .int .i64 8, .int .i64 9, .int .i64 11, .int .i64 12, .int .i64 14, .int .i64 5, .int .i64 10, .int .i64 15, .int .i64 13]) (.int .i64 11)).run Tryd.prog w = .ok (.int .i64 15) w := fun _ => by kernel_rfl
  have c12 : ∀ w, (Instr.index 168 (.agg #[.int .i64 1, .int .i64 2, .int .i64 3, .int .i64 4, .int .i64 8, .int .i64 9, .int .i64 11, .int .i64 12, .int .i64 14, .int .i64 5, .int .i64 10, .int .i64 15, .int .i64 13]) (.int .i64 12)).run Tryd.prog w = .ok (.int .i64 13) w := fun _ => by kernel_rfl
  have hc : j = 0 ∨ j = 1 ∨ j = 2 ∨ j = 3 ∨ j = 4 ∨ j = 5 ∨ j = 6 ∨ j = 7 ∨ j = 8 ∨ j = 9 ∨ j = 10 ∨ j = 11 ∨ j = 12 := by omega
  rcases hc with rfl | rfl | rfl | rfl | rfl | rfl | rfl | rfl | rfl | rfl | rfl | rfl | rfl
  · exact c0 w
  · exact c1 w
  · exact c2 w
  · exact c3 w
  · exact c4 w
  · exact c5 w
  · exact c6 w
  · exact c7 w
  · exact c8 w
  · exact c9 w
  · exact c10 w
  · exact c11 w
  · exact c12 w
theorem jumps_at (j : Nat) (h : j < 14) (w : World) : (Instr.index 169 (.agg #[.int .i64 26, .int .i64 27, .int .i64 29, .int .i64 30, .int .i64 37, .int .i64 28, .int .i64 33, .int .i64 34, .int .i64 38, .int .i64 39, .int .i64 31, .int .i64 32, .int .i64 35, .int .i64 36]) (.int .i64 (j : Int))).run Tryd.prog w = .ok (.int .i64 (jumpT.getD j 0)) w := by
  have c0 : ∀ w, (Instr.index 169 (.agg #[.int .i64 26, .int .i64 27, .int .i64 29, .int .i64 30, .int .i64 37, .int .i64 28, .int .i64 33, .int .i64 34, .int .i64 38, .int .i64 39, .int .i64 31, .int .i64 32, .int .i64 35, .int .i64 36]) (.int .i64 0)).run Tryd.prog w = .ok (.int .i64 26) w := fun _ => by kernel_rfl
  have c1 : ∀ w, (Instr.index 169 (.agg #[.int .i64 26, .int .i64 27, .int .i64 29, .int .i64 30, .int .i64 37, .int .i64 28, .int .i64 33, .int .i64 34, .int .i64 38, .int .i64 39, .int .i64 31, .int .i64 32, .int .i64 35, .int .i64 36]) (.int .i64 1)).run Tryd.prog w = .ok (.int .i64 27) w := fun _ => by kernel_rfl
  have c2 : ∀ w, (Instr.index 169 (.agg #[.int .i64 26, .int .i64 27, .int .i64 29, .int .i64 30, .int .i64 37, .int .i64 28, .int .i64 33, .int .i64 34, .int .i64 38, .int .i64 39, .int .i64 31, .int .i64 32, .int .i64 35, .int .i64 36]) (.int .i64 2)).run Tryd.prog w = .ok (.int .i64 29) w := fun _ => by kernel_rfl
  have c3 : ∀ w, (Instr.index 169 (.agg #[.int .i64 26, .int .i64 27, .int .i64 29, .int .i64 30, .int .i64 37, .int .i64 28, .int .i64 33, .int .i64 34, .int .i64 38, .int .i64 39, .int .i64 31, .int .i64 32, .int .i64 35, .int .i64 36]) (.int .i64 3)).run Tryd.prog w = .ok (.int .i64 30) w := fun _ => by kernel_rfl
  have c4 : ∀ w, (Instr.index 169 (.agg #[.int .i64 26, .int .i64 27, .int .i64 29, .int .i64 30, .int .i64 37, .int .i64 28, .int .i64 33, .int .i64 34, .int .i64 38, .int .i64 39, .int .i64 31, .int .i64 32, .int .i64 35, .int .i64 36]) (.int .i64 4)).run Tryd.prog w = .ok (.int .i64 37) w := fun _ => by kernel_rfl
  have c5 : ∀ w, (Instr.index 169 (.agg #[.int .i64 26, .int .i64 27, .int .i64 29, .int .i64 30, .int .i64 37, .int .i64 28, .int .i64 33, .int .i64 34, .int .i64 38, .int .i64 39, .int .i64 31, .int .i64 32, .int .i64 35, .int .i64 36]) (.int .i64 5)).run Tryd.prog w = .ok (.int .i64 28) w := fun _ => by kernel_rfl
  have c6 : ∀ w, (Instr.index 169 (.agg #[.int .i64 26, .int .i64 27, .int .i64 29, .int .i64 30, .int .i64 37, .int .i64 28, .int .i64 33, .int .i64 34, .int .i64 38, .int .i64 39, .int .i64 31, .int .i64 32, .int .i64 35, .int .i64 36]) (.int .i64 6)).run Tryd.prog w = .ok (.int .i64 33) w := fun _ => by kernel_rfl
  have c7 : ∀ w, (Instr.index 169 (.agg #[.int .i64 26, .int .i64 27, .int .i64 29, .int .i64 30, .int .i64 37, .int .i64 28, .int .i64 33, .int .i64 34, .int .i64 38, .int .i64 39, .int .i64 31, .int .i64 32, .int .i64 35, .int .i64 36]) (.int .i64 7)).run Tryd.prog w = .ok (.int .i64 34) w := fun _ => by kernel_rfl
  have c8 : ∀ w, (Instr.index 169 (.agg #[.int .i64 26, .int .i64 27, .int .i64 29, .int .i64 30, .int .i64 37, .int .i64 28, .int .i64 33, .int .i64 34, .int .i64 38, .int .i64 39, .int .i64 31, .int .i64 32, .int .i64 35, .int .i64 36]) (.int .i64 8)).run Tryd.prog w = .ok (.int .i64 38) w := fun _ => by kernel_rfl
  have c9 : ∀ w, (Instr.index 169 (.agg #[.int .i64 26, .int .i64 27, .int .i64 29, .int .i64 30, .int .i64 37, .int .i64 28, .int .i64 33, .int .i64 34, .int .i64 38, .int .i64 39, .int .i64 31, .int .i64 32, .int .i64 35, .int .i64 36]) (.int .i64 9)).run Tryd.prog w = .ok (.int .i64 39) w := fun _ => by kernel_rfl
  have c10 : ∀ w, (Instr.index 169 (.agg #[.int .i64 26, .int .i64 27, .int .i64 29, .int .i64 30, .int .i64 37, .int .i64 28, .int .i64 33, .int .i64 34, .int .i64 38, .int .i64 39, .int .i64 31, .int .i64 32, .int .i64 35, .int .i64 36]) (.int .i64 10)).run Tryd.prog w = .ok (.int .i64 31) w := fun _ => by kernel_rfl
  have c11 : ∀ w, (Instr.index 169 (.agg #[.int .i64 26, .int .i64 27, .int .i64 29, .int .i64 30, .int .i64 37, .int .i64 28, .int .i64 33, .int .i64 34, .int .i64 38, .int .i64 39, .int .i64 31, .int .i64 32, .int .i64 35, .int .i64 36]) (.int .i64 11)).run Tryd.prog w = .ok (.int .i64 32) w := fun _ => by kernel_rfl
  have c12 : ∀ w, (Instr.index 169 (.agg #[.int .i64 26, .int .i64 27, .int .i64 29, .int .i64 30, .int .i64 37, .int .i64 28, .int .i64 33, .int .i64 34, .int .i64 38, .int .i64 39, .int .i64 31, .int .i64 32, .int .i64 35, .int .i64 36]) (.int .i64 12)).run Tryd.prog w = .ok (.int .i64 35) w := fun _ => by kernel_rfl
  have c13 : ∀ w, (Instr.index 169 (.agg #[.int .i64 26, .int .i64 27, .int .i64 29, .int .i64 30, .int .i64 37, .int .i64 28, .int .i64 33, .int .i64 34, .int .i64 38, .int .i64 39, .int .i64 31, .int .i64 32, .int .i64 35, .int .i64 36]) (.int .i64 13)).run Tryd.prog w = .ok (.int .i64 36) w := fun _ => by kernel_rfl
  have hc : j = 0 ∨ j = 1 ∨ j = 2 ∨ j = 3 ∨ j = 4 ∨ j = 5 ∨ j = 6 ∨ j = 7 ∨ j = 8 ∨ j = 9 ∨ j = 10 ∨ j = 11 ∨ j = 12 ∨ j = 13 := by omega
  rcases hc with rfl | rfl | rfl | rfl | rfl | rfl | rfl | rfl | rfl | rfl | rfl | rfl | rfl | rfl
  · exact c0 w
  · exact c1 w
  · exact c2 w
  · exact c3 w
  · exact c4 w
  · exact c5 w
  · exact c6 w
  · exact c7 w
  · exact c8 w
  · exact c9 w
  · exact c10 w
  · exact c11 w
  · exact c12 w
  · exact c13 w
/-- where an operation stands in the tables -/
def DigitAt (op : Int) (D : Int) : Prop :=
  (∃ d : Nat, D = d ∧ d < 13 ∧ (∀ j, j < d → joinT.getD j 0 ≠ op) ∧ joinT.getD d 0 = op) ∨
  ((∀ j, j < 13 → joinT.getD j 0 ≠ op) ∧ ∃ d : Nat, D = d ∧ d < 14 ∧ (∀ j, j < d → jumpT.getD j 0 ≠ op) ∧ jumpT.getD d 0 = op)

set_option maxHeartbeats 4000000 in
theorem digit_at (op D : Int) (h6 : op ≠ 6) (h7 : op ≠ 7) (h16 : op ≠ 16) (hd : DigitAt op D) (w : World) (ht : Tabs w) : Calls Tryd.prog 114 #[.int .i64 op] w fun e w' => e = .returned (.int .i64 D) ∧ w = w' := by
  have c0 := ht.joins 0 (by decide)
  have c1 := ht.joins 1 (by decide)
  have c2 := ht.joins 2 (by decide)
  have c3 := ht.joins 3 (by decide)
  have c4 := ht.joins 4 (by decide)
  have c5 := ht.joins 5 (by decide)
  have c6 := ht.joins 6 (by decide)
  have c7 := ht.joins 7 (by decide)
  have c8 := ht.joins 8 (by decide)
  have c9 := ht.joins 9 (by decide)
  have c10 := ht.joins 10 (by decide)
  have c11 := ht.joins 11 (by decide)
  have c12 := ht.joins 12 (by decide)
  have u0 := ht.jumps 0 (by decide)
  have u1 := ht.jumps 1 (by decide)
  have u2 := ht.jumps 2 (by decide)
  have u3 := ht.jumps 3 (by decide)
  have u4 := ht.jumps 4 (by decide)
  have u5 := ht.jumps 5 (by decide)
  have u6 := ht.jumps 6 (by decide)
  have u7 := ht.jumps 7 (by decide)
  have u8 := ht.jumps 8 (by decide)
  have u9 := ht.jumps 9 (by decide)
  have u10 := ht.jumps 10 (by decide)
  have u11 := ht.jumps 11 (by decide)
  have u12 := ht.jumps 12 (by decide)
  have u13 := ht.jumps 13 (by decide)
  simp only [joinT, jumpT, List.getD_cons_zero, List.getD_cons_succ] at c0 c1 c2 c3 c4 c5 c6 c7 c8 c9 c10 c11 c12 u0 u1 u2 u3 u4 u5 u6 u7 u8 u9 u10 u11 u12 u13
  have HI := Lib.hid joins_at
  have HJ := Lib.hid jumps_at
  have t6 : (op == 6) = false := by rw [beq_eq_false_iff_ne]; exact h6
  have t7 : (op == 7) = false := by rw [beq_eq_false_iff_ne]; exact h7
  have t16 : (op == 16) = false := by rw [beq_eq_false_iff_ne]; exact h16
  clear ht h6 h7 h16
  rcases hd with ⟨d, rfl, hlt, hne, hat⟩ | ⟨hno, d, rfl, hlt, hne, hat⟩
  · have HN := Lib.hid hne
    have HA := Lib.hid hat
    clear hne hat
    go_enter Tryd.func114, Tryd.ntmps114
    go_wp2_with fail
    go_loop [3, 4, 15] (fun _ _ i => ∃ j : Nat, j ≤ d ∧ i = .int .i64 j) (fun _ _ i => (13 - intOf i).toNat)
    case atStart => exact ⟨0, Nat.zero_le _, rfl⟩
    case round =>
      obtain ⟨j, hj, rfl⟩ := hrel
      have hj4 : (j : Int) < 13 := by omega
      have hi := HI.out j (by omega)
      by_cases hjD : j = d
      · subst hjD
        rw [HA.out] at hi
        go_wp2_with fail
        go_ret
        exact ⟨rfl, rfl⟩
      · have hne := HN.out j (by omega)
        have t : (joinT.getD j 0 == op) = false := by rw [beq_eq_false_iff_ne]; exact hne
        generalize joinT.getD j 0 = x at *
        go_wp2_with fail
        go_round
        case rel => exact ⟨j + 1, by omega, by go_num⟩
        case measure => simp [intOf]; omega
  · have HN := Lib.hid hne
    have HA := Lib.hid hat
    have HO := Lib.hid hno
    clear hne hat hno
    go_enter Tryd.func114, Tryd.ntmps114
    go_wp2_with fail
    go_loop [3, 4, 15] (fun _ _ i => ∃ j : Nat, j ≤ 13 ∧ i = .int .i64 j) (fun _ _ i => (13 - intOf i).toNat)
    case atStart => exact ⟨0, Nat.zero_le _, rfl⟩
    case round =>
      obtain ⟨j, hj, rfl⟩ := hrel
      by_cases hj13 : j < 13
      · have hj4 : (j : Int) < 13 := by omega
        have hi := HI.out j (by omega)
        have hne := HO.out j (by omega)
        have t : (joinT.getD j 0 == op) = false := by rw [beq_eq_false_iff_ne]; exact hne
        generalize joinT.getD j 0 = x at *
        go_wp2_with fail
        go_round
        case rel => exact ⟨j + 1, by omega, by go_num⟩
        case measure => simp [intOf]; omega
      · obtain rfl : j = 13 := by omega
        clear hj
        go_wp2_with fail
        go_loop [5, 6, 25] (fun _ _ i => ∃ j : Nat, j ≤ d ∧ i = .int .i64 j) (fun _ _ i => (14 - intOf i).toNat)
        case atStart => exact ⟨0, Nat.zero_le _, rfl⟩
        case round =>
          obtain ⟨j, hj, rfl⟩ := hrel
          have hj4 : (j : Int) < 14 := by omega
          have hi := HJ.out j (by omega)
          by_cases hjD : j = d
          · subst hjD
            rw [HA.out] at hi
            go_wp2_with fail
            go_ret
            exact ⟨rfl, rfl⟩
          · have hne := HN.out j (by omega)
            have t : (jumpT.getD j 0 == op) = false := by rw [beq_eq_false_iff_ne]; exact hne
            generalize jumpT.getD j 0 = x at *
            go_wp2_with fail
            go_round
            case rel => exact ⟨j + 1, by omega, by go_num⟩
            case measure => simp [intOf]; omega
theorem digit_sp (op : Int) (h : op = 6 ∨ op = 7 ∨ op = 16) (w : World) : Calls Tryd.prog 114 #[.int .i64 op] w fun e w' => e = .returned (.int .i64 (digitL op)) ∧ w = w' := by
  rcases h with rfl | rfl | rfl
  all_goals
    go_enter Tryd.func114, Tryd.ntmps114
    go_wp2_with fail
    go_ret
    exact ⟨rfl, rfl⟩
theorem digitAt_in {op : Int} (h : (1 ≤ op ∧ op ≤ 15) ∨ (26 ≤ op ∧ op ≤ 39)) (h6 : op ≠ 6) (h7 : op ≠ 7) : DigitAt op (digitL op) := by
  have hc : op = 1 ∨ op = 2 ∨ op = 3 ∨ op = 4 ∨ op = 5 ∨ op = 8 ∨ op = 9 ∨ op = 10 ∨ op = 11 ∨ op = 12 ∨ op = 13 ∨ op = 14 ∨ op = 15 ∨ op = 26 ∨ op = 27 ∨ op = 28 ∨ op = 29 ∨ op = 30 ∨ op = 31 ∨ op = 32 ∨ op = 33 ∨ op = 34 ∨ op = 35 ∨ op = 36 ∨ op = 37 ∨ op = 38 ∨ op = 39 := by omega
  rcases hc with rfl | rfl | rfl | rfl | rfl | rfl | rfl | rfl | rfl | rfl | rfl | rfl | rfl | rfl | rfl | rfl | rfl | rfl | rfl | rfl | rfl | rfl | rfl | rfl | rfl | rfl | rfl
  · exact .inl ⟨0, by decide +kernel, by decide, by decide, by decide⟩
  · exact .inl ⟨1, by decide +kernel, by decide, by decide, by decide⟩
  · exact .inl ⟨2, by decide +kernel, by decide, by decide, by decide⟩
  · exact .inl ⟨3, by decide +kernel, by decide, by decide, by decide⟩
  · exact .inl ⟨9, by decide +kernel, by decide, by decide, by decide⟩
  · exact .inl ⟨4, by decide +kernel, by decide, by decide, by decide⟩
  · exact .inl ⟨5, by decide +kernel, by decide, by decide, by decide⟩
  · exact .inl ⟨10, by decide +kernel, by decide, by decide, by decide⟩
  · exact .inl ⟨6, by decide +kernel, by decide, by decide, by decide⟩
  · exact .inl ⟨7, by decide +kernel, by decide, by decide, by decide⟩
  · exact .inl ⟨12, by decide +kernel, by decide, by decide, by decide⟩
  · exact .inl ⟨8, by decide +kernel, by decide, by decide, by decide⟩
  · exact .inl ⟨11, by decide +kernel, by decide, by decide, by decide⟩
  · exact .inr ⟨by decide, 0, by decide +kernel, by decide, by decide, by decide⟩
  · exact .inr ⟨by decide, 1, by decide +kernel, by decide, by decide, by decide⟩
  · exact .inr ⟨by decide, 5, by decide +kernel, by decide, by decide, by decide⟩
  · exact .inr ⟨by decide, 2, by decide +kernel, by decide, by decide, by decide⟩
  · exact .inr ⟨by decide, 3, by decide +kernel, by decide, by decide, by decide⟩
  · exact .inr ⟨by decide, 10, by decide +kernel, by decide, by decide, by decide⟩
  · exact .inr ⟨by decide, 11, by decide +kernel, by decide, by decide, by decide⟩
  · exact .inr ⟨by decide, 6, by decide +kernel, by decide, by decide, by decide⟩
  · exact .inr ⟨by decide, 7, by decide +kernel, by decide, by decide, by decide⟩
  · exact .inr ⟨by decide, 12, by decide +kernel, by decide, by decide, by decide⟩
  · exact .inr ⟨by decide, 13, by decide +kernel, by decide, by decide, by decide⟩
  · exact .inr ⟨by decide, 4, by decide +kernel, by decide, by decide, by decide⟩
  · exact .inr ⟨by decide, 8, by decide +kernel, by decide, by decide, by decide⟩
  · exact .inr ⟨by decide, 9, by decide +kernel, by decide, by decide, by decide⟩
theorem digit_any (op : Int) (h : (1 ≤ op ∧ op ≤ 16) ∨ (26 ≤ op ∧ op ≤ 39)) (w : World) (ht : Tabs w) : Calls Tryd.prog 114 #[.int .i64 op] w fun e w' => e = .returned (.int .i64 (digitL op)) ∧ w = w' := by
  by_cases h1 : op = 6 ∨ op = 7 ∨ op = 16
  · exact digit_sp op h1 w
  · exact digit_at op (digitL op) (by omega) (by omega) (by omega) (digitAt_in (by omega) (by omega) (by omega)) w ht
end Go.Proofs.YtlodoinmippebaaDoor
