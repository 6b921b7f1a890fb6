/- Contracts of package span: read. -/
import Derived.Test.YtjhgjplhhhgfcaaGreatSpA
namespace Go.Proofs.YtjhgjplhhhgfcaaGreat
open Go.ChangeShapes Go.WideShapes Go.ChangeAt Go.RowKit
open Spn
namespace Spc
set_option linter.unusedVariables false
set_option maxRecDepth 100000
abbrev zS : Array Value := #[.int .i64 0, .int .i64 0, .bool false, .bool false]
theorem rd_cases (lo hi : Int) (nl nh : Bool) (l h : Int) (hr : rd ⟨lo, hi, nl, nh⟩ = ⟨l, h⟩) :
    ((endB nl lo && endB nh hi) = false ∧ l = LEAST ∧ h = TOP) ∨
    (endB nl lo = true ∧ endB nh hi = true ∧ ∃ a b, a = (if nl then LEAST else lo) ∧ b = (if nh then TOP else hi) ∧ ((a ≤ b ∧ l = a ∧ h = b) ∨ (¬ a ≤ b ∧ l = LEAST ∧ h = TOP))) := by
  unfold rd ends0 at hr
  dsimp only at hr
  cases h1 : endB nl lo
  · left
    rw [h1] at hr
    obtain ⟨e1, e2⟩ := e_eq (show allE = ⟨l, h⟩ by simpa using hr)
    exact ⟨rfl, e1.symm, e2.symm⟩
  · cases h2 : endB nh hi
    · left
      rw [h1, h2] at hr
      obtain ⟨e1, e2⟩ := e_eq (show allE = ⟨l, h⟩ by simpa using hr)
      exact ⟨rfl, e1.symm, e2.symm⟩
    · right
      refine ⟨rfl, rfl, _, _, rfl, rfl, ?_⟩
      rw [h1, h2, Bool.true_and, Bool.true_and] at hr
      by_cases h3 : (if nl = true then LEAST else lo) ≤ (if nh = true then TOP else hi)
      · rw [decide_eq_true h3, if_pos rfl] at hr
        obtain ⟨e1, e2⟩ := e_eq hr
        exact .inl ⟨h3, e1.symm, e2.symm⟩
      · rw [decide_eq_false h3, if_neg Bool.false_ne_true] at hr
        obtain ⟨e1, e2⟩ := e_eq (show allE = ⟨l, h⟩ from hr)
        exact .inr ⟨h3, e1.symm, e2.symm⟩
set_option maxHeartbeats 2000000 in
theorem read_no (lo hi : Int) (nl nh : Bool) (hn : (endB nl lo && endB nh hi) = false) (w : World) : Calls Tryz.prog 12 #[.agg #[.int .i64 lo, .int .i64 hi, .bool nl, .bool nh]] w (RetE w (-9223372036854775808) 9223372036854775807) := by
  have b1 := Lib.hid ((Blk.new w 23 #[.int .i64 lo, .int .i64 hi, .bool nl, .bool nh]).alloc (.cells zE 30))
  have b2 := Lib.hid (new2 w (.cells #[.int .i64 lo, .int .i64 hi, .bool nl, .bool nh] 23) 30 zE)
  have H2 := Lib.hid (box2 w (.cells #[.int .i64 lo, .int .i64 hi, .bool nl, .bool nh] 23) (.cells zE 30))
  have E1 := Lib.hid (fun w => end_any nl lo w)
  have E2 := Lib.hid (fun w => end_any nh hi w)
  have EA := Lib.hid (fun w => all_any w)
  cases h1 : endB nl lo
  · rw [h1] at E1
    clear hn
    go_enter Tryz.func12, Tryz.ntmps12
    go_wp2_with fail
    refine (E1.out _).mono ?_
    rintro e w' ⟨rfl, rfl⟩
    go_wp2_with fail
    refine (EA.out _).mono ?_
    rintro e w1 ⟨rfl, hB⟩
    have HR := Lib.hid (b2.out.up hB)
    have HB := Lib.hid (nx H2.out hB)
    obtain ⟨c0, c1, c2, c3, c4⟩ := cells2 HR.out
    clear hB b1 b2 H2
    go_wp2_with fail
    exact bodyPost_ret (v := .agg #[.int .i64 (-9223372036854775808), .int .i64 9223372036854775807]) (results_cell_row Tryz.results12 _ _ (w.heap.size + 1) 30 #[.int .i64 (-9223372036854775808), .int .i64 9223372036854775807] (0, 0) _ rfl (set2 HR.out _ _) Tryz.underlying30 rfl (by kernel_rfl)) rfl ⟨rfl, Below.set2 HB.out (by omega) _ _⟩
  · have h2 : endB nh hi = false := by rw [h1, Bool.true_and] at hn; exact hn
    rw [h1] at E1
    rw [h2] at E2
    clear hn
    go_enter Tryz.func12, Tryz.ntmps12
    go_wp2_with fail
    refine (E1.out _).mono ?_
    rintro e w' ⟨rfl, rfl⟩
    go_wp2_with fail
    refine (E2.out _).mono ?_
    rintro e w' ⟨rfl, rfl⟩
    go_wp2_with fail
    refine (EA.out _).mono ?_
    rintro e w1 ⟨rfl, hB⟩
    have HR := Lib.hid (b2.out.up hB)
    have HB := Lib.hid (nx H2.out hB)
    obtain ⟨c0, c1, c2, c3, c4⟩ := cells2 HR.out
    clear hB b1 b2 H2
    go_wp2_with fail
    exact bodyPost_ret (v := .agg #[.int .i64 (-9223372036854775808), .int .i64 9223372036854775807]) (results_cell_row Tryz.results12 _ _ (w.heap.size + 1) 30 #[.int .i64 (-9223372036854775808), .int .i64 9223372036854775807] (0, 0) _ rfl (set2 HR.out _ _) Tryz.underlying30 rfl (by kernel_rfl)) rfl ⟨rfl, Below.set2 HB.out (by omega) _ _⟩
set_option maxHeartbeats 2000000 in
theorem read_yes (lo hi : Int) (nl nh : Bool) (h1 : endB nl lo = true) (h2 : endB nh hi = true) (a b l h : Int) (ha : a = if nl then -9223372036854775808 else lo) (hb : b = if nh then 9223372036854775807 else hi)
    (hr : (a ≤ b ∧ l = a ∧ h = b) ∨ (¬ a ≤ b ∧ l = -9223372036854775808 ∧ h = 9223372036854775807)) (w : World) : Calls Tryz.prog 12 #[.agg #[.int .i64 lo, .int .i64 hi, .bool nl, .bool nh]] w (RetE w l h) := by
  have b1 := Lib.hid ((Blk.new w 23 #[.int .i64 lo, .int .i64 hi, .bool nl, .bool nh]).alloc (.cells zE 30))
  have b2 := Lib.hid (new2 w (.cells #[.int .i64 lo, .int .i64 hi, .bool nl, .bool nh] 23) 30 zE)
  have H2 := Lib.hid (box2 w (.cells #[.int .i64 lo, .int .i64 hi, .bool nl, .bool nh] 23) (.cells zE 30))
  have E1 := Lib.hid (fun w => end_any nl lo w)
  have E2 := Lib.hid (fun w => end_any nh hi w)
  have EA := Lib.hid (fun w => all_any w)
  rw [h1] at E1
  rw [h2] at E2
  clear h1 h2
  cases nl <;> cases nh
  all_goals
    simp only [if_true, Bool.false_eq_true, if_false] at ha hb
    subst ha
    subst hb
    rcases hr with ⟨hle, rfl, rfl⟩ | ⟨hle, rfl, rfl⟩
  all_goals try (exfalso; omega)
  all_goals
    go_enter Tryz.func12, Tryz.ntmps12
    go_wp2_with fail
    refine (E1.out _).mono ?_
    rintro e w' ⟨rfl, rfl⟩
    go_wp2_with fail
    refine (E2.out _).mono ?_
    rintro e w' ⟨rfl, rfl⟩
    go_wp2_with fail
    refine (EA.out _).mono ?_
    rintro e w1 ⟨rfl, hB⟩
    have HR := Lib.hid (b2.out.up hB)
    have HB := Lib.hid (nx H2.out hB)
    obtain ⟨⟨a0, a1, a2, a3⟩, ⟨a4, a5, a6, a7⟩, a8⟩ := cells4 (b1.out.up hB)
    obtain ⟨c0, c1, c2, c3, c4⟩ := cells2 HR.out
    clear hB b1 b2 H2
    go_wp2_with fail
    first
      | exact bodyPost_ret (v := .agg #[.int .i64 _, .int .i64 _]) (results_cell_row Tryz.results12 _ _ (w.heap.size + 1) 30 #[.int .i64 _, .int .i64 _] (0, 0) _ rfl ((set2 HR.out _ _).alloc _) Tryz.underlying30 rfl (by kernel_rfl)) rfl ⟨rfl, nx (Below.set2 HB.out (by omega) _ _) (below_box' _ _)⟩
      | (refine (EA.out _).mono ?_
         rintro e w2 ⟨rfl, hB2⟩
         have HR2 := Lib.hid ((HR.out.alloc _).up hB2)
         have HB2 := Lib.hid (nx (nx HB.out (below_box' _ _)) hB2)
         clear c0 c1 c2 c3 c4 a0 a1 a2 a3 a4 a5 a6 a7 a8
         obtain ⟨c0, c1, c2, c3, c4⟩ := cells2 HR2.out
         clear hB2 HR HB
         go_wp2_with fail
         exact bodyPost_ret (v := .agg #[.int .i64 _, .int .i64 _]) (results_cell_row Tryz.results12 _ _ (w.heap.size + 1) 30 #[.int .i64 _, .int .i64 _] (0, 0) _ rfl (set2 HR2.out _ _) Tryz.underlying30 rfl (by kernel_rfl)) rfl ⟨rfl, Below.set2 HB2.out (by omega) _ _⟩)
theorem read_any (lo hi : Int) (nl nh : Bool) (l h : Int) (hr : rd ⟨lo, hi, nl, nh⟩ = ⟨l, h⟩) (w : World) : Calls Tryz.prog 12 #[.agg #[.int .i64 lo, .int .i64 hi, .bool nl, .bool nh]] w (RetE w l h) := by
  rcases rd_cases lo hi nl nh l h hr with ⟨h1, rfl, rfl⟩ | ⟨h1, h2, a, b, ha, hb, h3⟩
  · exact read_no lo hi nl nh h1 w
  · exact read_yes lo hi nl nh h1 h2 a b l h ha hb h3 w
end Spc
end Go.Proofs.YtjhgjplhhhgfcaaGreat
