/- Contracts of package zone: within, Within, Same. -/
import Derived.Test.YtockoolcdhgopaaZK
import Derived.Test.YtockoolcdhgopaaZEq
namespace Go.Proofs.Ytockoolcdhgopaa
open Go.ChangeShapes Go.WideShapes Go.ChangeAt Go.RowKit
open Zon
set_option linter.unusedVariables false
set_option maxRecDepth 100000
def inTB (M O : Tab) : Bool := (List.range 60).all fun p => (List.range 60).all fun q => decide (M p q ≤ O p q)
theorem inTB_true {M O : Tab} : inTB M O = true ↔ inT M O := by
  unfold inTB inT
  simp only [List.all_eq_true, List.mem_range, decide_eq_true_eq]
  exact ⟨fun h p q hp hq => h p hp q hq, fun h p hp q hq => h p q hp hq⟩
def inZB (z o : Zn) : Bool := match z, o with | none, _ => true | some _, none => false | some M, some O => inTB M O
theorem inZB_true {z o : Zn} : inZB z o = true ↔ inZ z o := by
  cases z <;> cases o <;> simp [inZB, inZ, inTB_true]
def Quiet_ (v : Value) (w : World) (e : Ending) (w' : World) : Prop := e = .returned v ∧ ∃ n, w' = w.drewN n
theorem ZoneAt.head {w : World} {g : Nat} {z : Zn} (h : ZoneAt w g z) : w.cell? ⟨g, 0, none⟩ = some (.bool (voidB z)) := by
  cases z with
  | none => exact ZB.head (show ZB w g true zeroM from h)
  | some M => exact ZB.head h.1
def sameTB (M O : Tab) : Bool := (List.range 60).all fun p => (List.range 60).all fun q => M p q == O p q
theorem sameTB_true {M O : Tab} : sameTB M O = true ↔ ∀ p q, p < 60 → q < 60 → M p q = O p q := by
  unfold sameTB
  simp only [List.all_eq_true, List.mem_range, beq_iff_eq]
  exact ⟨fun h p q hp hq => h p hp q hq, fun h p hp q hq => h p q hp hq⟩
theorem sameTB_comm (M O : Tab) : sameTB M O = sameTB O M := by
  rw [Bool.eq_iff_iff, sameTB_true, sameTB_true]
  exact ⟨fun h p q hp hq => (h p q hp hq).symm, fun h p q hp hq => (h p q hp hq).symm⟩
theorem eq_row (w : World) (d : Nat) (f g : Nat → Value) (u v : Nat → Int) (hf : ∀ q, q < 60 → f q = .int .i64 (u q)) (hg : ∀ q, q < 60 → g q = .int .i64 (v q)) :
    (Op.equalIn (d + 1 + 1) 75 (.agg (arr 60 f)) (.agg (arr 60 g))).run Try.prog w = .ok ((List.range 60).all fun q => u q == v q) w := by
  refine run_equalIn_arr w (d + 1) 75 3 60 1 _ _ (fun q => u q == v q) Try.underlying75 sizeInt fun i hi => ?_
  refine ⟨f i, g i, ?_, ?_, ?_⟩
  · rw [Nat.mul_one]; exact run_part_one w 3 60 i f _ Try.underlying3 rfl hi
  · rw [Nat.mul_one]; exact run_part_one w 3 60 i g _ Try.underlying3 rfl hi
  · rw [hf i hi, hg i hi]; exact run_equalIn_int w d 3 .i64 _ _ _ Try.underlying3
theorem eq_tab (w : World) (d : Nat) (f g : Nat → Value) (M O : Tab) (hf : ∀ p q, p < 60 → q < 60 → f (p * 60 + q) = .int .i64 (M p q)) (hg : ∀ p q, p < 60 → q < 60 → g (p * 60 + q) = .int .i64 (O p q)) :
    (Op.equalIn (d + 1 + 1 + 1) 77 (.agg (arr 3600 f)) (.agg (arr 3600 g))).run Try.prog w = .ok (sameTB M O) w := by
  refine run_equalIn_arr w (d + 1 + 1) 77 75 60 60 _ _ (fun p => (List.range 60).all fun q => M p q == O p q) Try.underlying77 sizeRow fun i hi => ?_
  refine ⟨.agg (arr 60 fun q => f (i * 60 + q)), .agg (arr 60 fun q => g (i * 60 + q)), ?_, ?_, ?_⟩
  · exact run_part_seg w 75 3600 60 (i * 60) f _ Try.underlying75 rfl sizeRow (by omega)
  · exact run_part_seg w 75 3600 60 (i * 60) g _ Try.underlying75 rfl sizeRow (by omega)
  · exact eq_row w d _ _ (M i) (O i) (fun q hq => hf i q hi hq) (fun q hq => hg i q hi hq)
theorem guardTab : Try.prog.eqGuardType Try.prog.depth 77 = false := by kernel_rfl
def sameZB (z o : Zn) : Bool := match z, o with | none, none => true | some M, some O => sameTB M O | _, _ => false
theorem sameZB_comm (z o : Zn) : sameZB z o = sameZB o z := by cases z <;> cases o <;> simp [sameZB, sameTB_comm]
set_option maxHeartbeats 2000000 in
theorem Same_any (w : World) (g g2 : Nat) (z o : Zn) (hz : ZoneAt w g z) (ho : ZoneAt w g2 o) :
    Calls Try.prog 23 #[.pointer (some ⟨g, 0, none⟩), .pointer (some ⟨g2, 0, none⟩)] w (Quiet_ (.bool (sameZB z o)) w) := by
  have hx := hz.head
  have hy := ho.head
  obtain ⟨e1, M, hb⟩ : ∃ e M, ZB w g e M ∧ (z = none ∧ M = zeroM ∨ z = some M) := by cases z with | none => exact ⟨_, _, hz, .inl ⟨rfl, rfl⟩⟩ | some M => exact ⟨_, _, hz.1, .inr rfl⟩
  obtain ⟨e2, O, hc⟩ : ∃ e M, ZB w g2 e M ∧ (o = none ∧ M = zeroM ∨ o = some M) := by cases o with | none => exact ⟨_, _, ho, .inl ⟨rfl, rfl⟩⟩ | some M => exact ⟨_, _, ho.1, .inr rfl⟩
  have HM := Lib.hid hb
  have HO := Lib.hid hc
  have HR := Lib.hid (show voidB z = voidB o → sameZB z o = sameTB M O from fun h => by
    rcases hb.2 with ⟨rfl, rfl⟩ | rfl <;> rcases hc.2 with ⟨rfl, rfl⟩ | rfl
    · show true = sameTB zeroM zeroM; decide
    · cases h
    · cases h
    · rfl)
  have HN := Lib.hid (show voidB z ≠ voidB o → sameZB z o = false from fun h => by
    cases z <;> cases o
    · exact absurd rfl h
    · rfl
    · rfl
    · exact absurd rfl h)
  clear hb hc hz ho
  have hcase : (voidB z = true ∧ voidB o = true) ∨ (voidB z = false ∧ voidB o = false) ∨ (voidB z = true ∧ voidB o = false) ∨ (voidB z = false ∧ voidB o = true) := by
    cases voidB z <;> cases voidB o <;> simp
  rcases hcase with ⟨v1, v2⟩ | ⟨v1, v2⟩ | ⟨v1, v2⟩ | ⟨v1, v2⟩
  all_goals
    rw [v1] at hx
    rw [v2] at hy
  rotate_left 2
  · have HE := Lib.hid (HN.out (by rw [v1, v2]; decide))
    clear v1 v2 HN HR
    go_enter Try.func23, Try.ntmps23
    go_wp2_with fail
    go_quiet (fail)
    go_wp2_with fail
    go_ret
    exact ⟨ret_bool HE.out.symm, nq, rfl⟩
  · have HE := Lib.hid (HN.out (by rw [v1, v2]; decide))
    clear v1 v2 HN HR
    go_enter Try.func23, Try.ntmps23
    go_wp2_with fail
    go_quiet (fail)
    go_wp2_with fail
    go_ret
    exact ⟨ret_bool HE.out.symm, nq, rfl⟩
  all_goals
    have HE := Lib.hid (HR.out (by rw [v1, v2]))
    clear v1 v2 HN HR
    go_enter Try.func23, Try.ntmps23
    go_wp2_with fail
    refine wp_region_quiet_lit (by kernel_rfl) (by kernel_rfl) ?_
    iterate 13 (quiet_step (fail))
    refine wpQuiet_yield rfl _ (fun w' hw' => exec_load_seg w' _ _ 77 _ rfl g 1 rfl 80 3601 3600 _ _ (by obtain ⟨m, rfl⟩ := hw'; exact FB.drewN HM.out.1 m) (by omega) Try.underlying77 rfl sizeTab) ?_
    iterate 3 (quiet_step (fail))
    refine wpQuiet_yield rfl _ (fun w' hw' => exec_load_seg w' _ _ 77 _ rfl g2 1 rfl 80 3601 3600 _ _ (by obtain ⟨m, rfl⟩ := hw'; exact FB.drewN HO.out.1 m) (by omega) Try.underlying77 rfl sizeTab) ?_
    refine wpQuiet_yield rfl _ (fun w' hw' => exec_eql_arr w' _ _ 77 _ _ _ rfl _ _ (sameTB M O) rfl rfl guardTab (eq_tab w' 9997 _ _ M O (fun p q hp hq => by rw [← Nat.add_assoc]; exact zc_at _ M p q hq) (fun p q hp hq => by rw [← Nat.add_assoc]; exact zc_at _ O p q hq))) ?_
    repeat (quiet_step (fail))
    refine wpQuiet_nil ?_
    rintro _ ⟨nq, rfl⟩
    go_wp2_with fail
    go_ret
    exact ⟨ret_bool HE.out.symm, nq, rfl⟩
end Go.Proofs.Ytockoolcdhgopaa
