/- Contracts of package zone: within, Within, Same. -/
import Derived.Test.YtejcijbohnlbgaaZK
import Derived.Test.YtejcijbohnlbgaaZEq
namespace Go.Proofs.Ytejcijbohnlbgaa
open Go.ChangeShapes Go.WideShapes Go.ChangeAt Go.RowKit
open Zon
set_option linter.unusedVariables false
set_option maxRecDepth 100000
def inTB (M O : Tab) : Bool := (List.range 60).all fun p => (List.range 60).all fun q => decide (M p q ≤ O p q)
theorem inTB_true {M O : Tab} : inTB M O = true ↔ inT M O := by
  unfold inTB inT
  simp only [List.all_eq_true, List.mem_range, decide_eq_true_eq]
  exact ⟨fun h p q hp hq => h p hp q hq, fun h p hp q hq => h p q hp hq⟩
def inZB (z o : Zn) : Bool := match z, o with | none, _ => true | some _, none => false | some M, some O => inTB M O
theorem inZB_true {z o : Zn} : inZB z o = true ↔ inZ z o := by
  cases z <;> cases o <;> simp [inZB, inZ, inTB_true]
def Quiet_ (v : Value) (w : World) (e : Ending) (w' : World) : Prop := e = .returned v ∧ ∃ n, w' = w.drewN n
theorem ZoneAt.head {w : World} {g : Nat} {z : Zn} (h : ZoneAt w g z) : w.cell? ⟨g, 0, none⟩ = some (.bool (voidB z)) := by
  cases z with
  | none => exact ZB.head (show ZB w g true zeroM from h)
  | some M => exact ZB.head h.1
def sameTB (M O : Tab) : Bool := (List.range 60).all fun p => (List.range 60).all fun q => M p q == O p q
theorem sameTB_true {M O : Tab} : sameTB M O = true ↔ ∀ p q, p < 60 → q < 60 → M p q = O p q := by
  unfold sameTB
  simp only [List.all_eq_true, List.mem_range, beq_iff_eq]
  exact ⟨fun h p q hp hq => h p hp q hq, fun h p hp q hq => h p q hp hq⟩
theorem sameTB_comm (M O : Tab) : sameTB M O = sameTB O M := by
  rw [Bool.eq_iff_iff, sameTB_true, sameTB_true]
  exact ⟨fun h p q hp hq => (h p q hp hq).symm, fun h p q hp hq => (h p q hp hq).symm⟩
theorem eq_row (w : World) (d : Nat) (f g : Nat → Value) (u v : Nat → Int) (hf : ∀ q, q < 60 → f q = .int .i64 (u q)) (hg : ∀ q, q < 60 → g q = .int .i64 (v q)) :
    (Op.equalIn (d + 1 + 1) 101 (.agg (arr 60 f)) (.agg (arr 60 g))).run Try.prog w = .ok ((List.range 60).all fun q => u q == v q) w := by
  refine run_equalIn_arr w (d + 1) 101 3 60 1 _ _ (fun q => u q == v q) Try.underlying101 sizeInt fun i hi => ?_
  refine ⟨f i, g i, ?_, ?_, ?_⟩
  · rw [Nat.mul_one]; exact run_part_one w 3 60 i f _ Try.underlying3 rfl hi
  · rw [Nat.mul_one]; exact run_part_one w 3 60 i g _ Try.underlying3 rfl hi
  · rw [hf i hi, hg i hi]; exact run_equalIn_int w d 3 .i64 _ _ _ Try.underlying3
theorem eq_tab (w : World) (d : Nat) (f g : Nat → Value) (M O : Tab) (hf : ∀ p q, p < 60 → q < 60 → f (p * 60 + q) = .int .i64 (M p q)) (hg : ∀ p q, p < 60 → q < 60 → g (p * 60 + q) = .int .i64 (O p q)) :
    (Op.equalIn (d + 1 + 1 + 1) 103 (.agg (arr 3600 f)) (.agg (arr 3600 g))).run Try.prog w = .ok (sameTB M O) w := by
  refine run_equalIn_arr w (d + 1 + 1) 103 101 60 60 _ _ (fun p => (List.range 60).all fun q => M p q == O p q) Try.underlying103 sizeRow fun i hi => ?_
  refine ⟨.agg (arr 60 fun q => f (i * 60 + q)), .agg (arr 60 fun q => g (i * 60 + q)), ?_, ?_, ?_⟩
  · exact run_part_seg w 101 3600 60 (i * 60) f _ Try.underlying101 rfl sizeRow (by omega)
  · exact run_part_seg w 101 3600 60 (i * 60) g _ Try.underlying101 rfl sizeRow (by omega)
  · exact eq_row w d _ _ (M i) (O i) (fun q hq => hf i q hi hq) (fun q hq => hg i q hi hq)
theorem guardTab : Try.prog.eqGuardType Try.prog.depth 103 = false := by kernel_rfl
def sameZB (z o : Zn) : Bool := match z, o with | none, none => true | some M, some O => sameTB M O | _, _ => false
theorem sameZB_comm (z o : Zn) : sameZB z o = sameZB o z := by cases z <;> cases o <;> simp [sameZB, sameTB_comm]
end Go.Proofs.Ytejcijbohnlbgaa
