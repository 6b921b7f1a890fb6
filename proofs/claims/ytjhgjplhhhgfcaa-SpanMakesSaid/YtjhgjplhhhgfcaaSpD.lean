/- Contracts of package span: Full, Of, Has, Low, NotZero, Bytes. -/
import Derived.Test.YtjhgjplhhhgfcaaSpC
namespace Go.Proofs.Ytjhgjplhhhgfcaa
open Go.ChangeShapes Go.WideShapes Go.ChangeAt Go.RowKit
open Spn
namespace Spc
set_option linter.unusedVariables false
set_option maxRecDepth 100000
set_option maxHeartbeats 1000000 in
theorem full_any (w : World) : Calls Try.prog 11 #[] w (RetS w 0 0 true true) := by
  have b2 := Lib.hid (Blk.new w 23 zS)
  have H2 := Lib.hid (below_box' w (.cells zS 23))
  have HS := Lib.hid (fun w => span_any (-9223372036854775808) 9223372036854775807 0 0 true true rfl w)
  have HA := Lib.hid (fun w => all_any w)
  go_enter Try.func11, Try.ntmps11
  go_wp2_with fail
  refine (HA.out _).mono ?_
  rintro e w1 ⟨rfl, hB⟩
  have HR := Lib.hid (b2.out.up hB)
  have HB := Lib.hid (nx H2.out hB)
  clear hB b2 H2
  go_wp2_with fail
  refine (HS.out _).mono ?_
  rintro e w2 ⟨rfl, hB⟩
  have HR2 := Lib.hid (HR.out.up hB)
  have HB2 := Lib.hid (nx HB.out hB)
  clear hB HR HB
  obtain ⟨⟨c0, c1, c2, c3⟩, ⟨c4, c5, c6, c7⟩, c8⟩ := cells4 HR2.out
  go_wp2_with fail
  exact bodyPost_ret (v := .agg #[.int .i64 _, .int .i64 _, .bool _, .bool _]) (results_cell_row Try.results11 _ _ (w.heap.size) 23 #[.int .i64 _, .int .i64 _, .bool _, .bool _] (0, 0) _ rfl (set4 HR2.out _ _ _ _) Try.underlying23 rfl (by kernel_rfl)) rfl ⟨rfl, Below.set4 HB2.out (Nat.le_refl _) _ _ _ _⟩
def ofX (lo hi : Int) : Sp := if lo > hi then fullS else sp ⟨lo, hi⟩
set_option maxHeartbeats 1000000 in
theorem of_any (lo hi a b : Int) (p q : Bool) (hr : ofX lo hi = ⟨a, b, p, q⟩) (w : World) : Calls Try.prog 12 #[.int .i64 lo, .int .i64 hi] w (RetS w a b p q) := by
  have b2 := Lib.hid (Blk.new w 23 zS)
  have H2 := Lib.hid (below_box' w (.cells zS 23))
  unfold ofX at hr
  by_cases hc : lo > hi
  · rw [if_pos hc] at hr
    obtain ⟨rfl, rfl, rfl, rfl⟩ := sp_eq (show (⟨0, 0, true, true⟩ : Sp) = _ from hr)
    have HS := Lib.hid (fun w => full_any w)
    clear hr
    go_enter Try.func12, Try.ntmps12
    go_wp2_with fail
    refine (HS.out _).mono ?_
    rintro e w2 ⟨rfl, hB⟩
    have HR2 := Lib.hid (b2.out.up hB)
    have HB2 := Lib.hid (nx H2.out hB)
    clear hB b2 H2
    obtain ⟨⟨c0, c1, c2, c3⟩, ⟨c4, c5, c6, c7⟩, c8⟩ := cells4 HR2.out
    go_wp2_with fail
    exact bodyPost_ret (v := .agg #[.int .i64 _, .int .i64 _, .bool _, .bool _]) (results_cell_row Try.results12 _ _ (w.heap.size) 23 #[.int .i64 _, .int .i64 _, .bool _, .bool _] (0, 0) _ rfl (set4 HR2.out _ _ _ _) Try.underlying23 rfl (by kernel_rfl)) rfl ⟨rfl, Below.set4 HB2.out (Nat.le_refl _) _ _ _ _⟩
  · rw [if_neg hc] at hr
    have HS := Lib.hid (fun w => span_any lo hi a b p q hr w)
    clear hr
    go_enter Try.func12, Try.ntmps12
    go_wp2_with fail
    refine (HS.out _).mono ?_
    rintro e w2 ⟨rfl, hB⟩
    have HR2 := Lib.hid (b2.out.up hB)
    have HB2 := Lib.hid (nx H2.out hB)
    clear hB b2 H2
    obtain ⟨⟨c0, c1, c2, c3⟩, ⟨c4, c5, c6, c7⟩, c8⟩ := cells4 HR2.out
    go_wp2_with fail
    exact bodyPost_ret (v := .agg #[.int .i64 _, .int .i64 _, .bool _, .bool _]) (results_cell_row Try.results12 _ _ (w.heap.size) 23 #[.int .i64 _, .int .i64 _, .bool _, .bool _] (0, 0) _ rfl (set4 HR2.out _ _ _ _) Try.underlying23 rfl (by kernel_rfl)) rfl ⟨rfl, Below.set4 HB2.out (Nat.le_refl _) _ _ _ _⟩
set_option maxHeartbeats 1000000 in
theorem has_any (lo hi : Int) (nl nh : Bool) (v l h : Int) (hr : rd ⟨lo, hi, nl, nh⟩ = ⟨l, h⟩) (w : World) : Calls Try.prog 13 #[.agg #[.int .i64 lo, .int .i64 hi, .bool nl, .bool nh], .int .i64 v] w (RetB w (withinB ⟨v, v⟩ ⟨l, h⟩)) := by
  have H2 := Lib.hid (below_box' w (.cells #[.int .i64 lo, .int .i64 hi, .bool nl, .bool nh] 23))
  have HS := Lib.hid (fun w => read_any lo hi nl nh l h hr w)
  have HW := Lib.hid (fun w => within_any v v l h w)
  clear hr
  go_enter Try.func13, Try.ntmps13
  go_wp2_with fail
  refine (HS.out _).mono ?_
  rintro e w1 ⟨rfl, hB⟩
  have HB := Lib.hid (nx H2.out hB)
  clear hB H2
  go_wp2_with fail
  refine (HW.out _).mono ?_
  rintro e w2 ⟨rfl, hB⟩
  have HB2 := Lib.hid (nx HB.out hB)
  clear hB HB
  go_wp2_with fail
  go_ret
  exact ⟨rfl, HB2.out⟩
set_option maxHeartbeats 1000000 in
theorem Low_any (lo hi : Int) (nl nh : Bool) (a b : Int) (p q : Bool) (hr : sp (lowE (rd ⟨lo, hi, nl, nh⟩)) = ⟨a, b, p, q⟩) (w : World) : Calls Try.prog 14 #[.agg #[.int .i64 lo, .int .i64 hi, .bool nl, .bool nh]] w (RetS w a b p q) := by
  have b1 := Lib.hid ((Blk.new w 23 #[.int .i64 lo, .int .i64 hi, .bool nl, .bool nh]).alloc (.cells zS 23))
  have b2 := Lib.hid (new2 w (.cells #[.int .i64 lo, .int .i64 hi, .bool nl, .bool nh] 23) 23 zS)
  have H2 := Lib.hid (box2 w (.cells #[.int .i64 lo, .int .i64 hi, .bool nl, .bool nh] 23) (.cells zS 23))
  rcases e1 : rd ⟨lo, hi, nl, nh⟩ with ⟨l, h⟩
  rw [e1] at hr
  rcases e2 : lowE ⟨l, h⟩ with ⟨l2, h2⟩
  rw [e2] at hr
  have HA := Lib.hid (fun w => read_any lo hi nl nh l h e1 w)
  have HL := Lib.hid (fun w => low_any l h l2 h2 e2 w)
  have HS := Lib.hid (fun w => span_any l2 h2 a b p q hr w)
  clear hr e1 e2
  go_enter Try.func14, Try.ntmps14
  go_wp2_with fail
  refine (HA.out _).mono ?_
  rintro e w1 ⟨rfl, hB⟩
  have HR := Lib.hid (b2.out.up hB)
  have HB := Lib.hid (nx H2.out hB)
  clear hB b2 H2 b1
  go_wp2_with fail
  refine (HL.out _).mono ?_
  rintro e w2 ⟨rfl, hB⟩
  have HR2 := Lib.hid (HR.out.up hB)
  have HB2 := Lib.hid (nx HB.out hB)
  clear hB HR HB
  go_wp2_with fail
  refine (HS.out _).mono ?_
  rintro e w3 ⟨rfl, hB⟩
  have HR3 := Lib.hid (HR2.out.up hB)
  have HB3 := Lib.hid (nx HB2.out hB)
  clear hB HR2 HB2
  obtain ⟨⟨c0, c1, c2, c3⟩, ⟨c4, c5, c6, c7⟩, c8⟩ := cells4 HR3.out
  go_wp2_with fail
  exact bodyPost_ret (v := .agg #[.int .i64 _, .int .i64 _, .bool _, .bool _]) (results_cell_row Try.results14 _ _ (w.heap.size + 1) 23 #[.int .i64 _, .int .i64 _, .bool _, .bool _] (0, 0) _ rfl (set4 HR3.out _ _ _ _) Try.underlying23 rfl (by kernel_rfl)) rfl ⟨rfl, Below.set4 HB3.out (by omega) _ _ _ _⟩
set_option maxHeartbeats 1000000 in
theorem notzero_any (n : Bool) (lo hi : Int) (nl nh : Bool) (w : World) : Calls Try.prog 15 #[.bool n, .agg #[.int .i64 lo, .int .i64 hi, .bool nl, .bool nh]] w (RetB w (nzX n (rd ⟨lo, hi, nl, nh⟩))) := by
  have H2 := Lib.hid (below_box' w (.cells #[.int .i64 lo, .int .i64 hi, .bool nl, .bool nh] 23))
  rcases e1 : rd ⟨lo, hi, nl, nh⟩ with ⟨l, h⟩
  have HA := Lib.hid (fun w => read_any lo hi nl nh l h e1 w)
  unfold nzX
  cases n
  · simp only [Bool.false_eq_true, if_false]
    have HG := Lib.hid (fun w => signs_any l h w)
    have HT := Lib.hid (fun w => tell_any (sgX ⟨l, h⟩) 4 (sgX_mem _) (by decide) w)
    generalize sgX ⟨l, h⟩ = s at *
    generalize tells s 4 = r at *
    clear e1
    go_enter Try.func15, Try.ntmps15
    go_wp2_with fail
    refine (HA.out _).mono ?_
    rintro e w1 ⟨rfl, hB⟩
    have HB := Lib.hid (nx H2.out hB)
    clear hB H2
    go_wp2_with fail
    refine (HG.out _).mono ?_
    rintro e w2 ⟨rfl, hB⟩
    have HB2 := Lib.hid (nx (nx HB.out (below_box' _ _)) hB)
    clear hB HB
    go_wp2_with fail
    refine (HT.out _).mono ?_
    rintro e w' ⟨rfl, rfl⟩
    go_wp2_with fail
    go_ret
    exact ⟨rfl, HB2.out⟩
  · simp only [if_true]
    rcases e2 : lowE ⟨l, h⟩ with ⟨l2, h2⟩
    have HL := Lib.hid (fun w => low_any l h l2 h2 e2 w)
    have HG := Lib.hid (fun w => signs_any l2 h2 w)
    have HT := Lib.hid (fun w => tell_any (sgX ⟨l2, h2⟩) 4 (sgX_mem _) (by decide) w)
    generalize sgX ⟨l2, h2⟩ = s at *
    generalize tells s 4 = r at *
    clear e1 e2
    go_enter Try.func15, Try.ntmps15
    go_wp2_with fail
    refine (HA.out _).mono ?_
    rintro e w1 ⟨rfl, hB⟩
    have HB := Lib.hid (nx H2.out hB)
    clear hB H2
    go_wp2_with fail
    have HRm := Lib.hid (Blk.new w1 47 #[.int .i64 l, .int .i64 h])
    refine (HL.out _).mono ?_
    rintro e w2 ⟨rfl, hB⟩
    have HB2 := Lib.hid (nx (nx HB.out (below_box' _ _)) hB)
    have HR2 := Lib.hid (HRm.out.up hB)
    have hge := HB.out.size
    obtain ⟨d0, d1, d2, d3, d4⟩ := cells2 HR2.out
    clear hB HB
    go_wp2_with fail
    have HB3 := Lib.hid (Below.set2 HB2.out hge (.int .i64 l2) (.int .i64 h2))
    refine (HG.out _).mono ?_
    rintro e w3 ⟨rfl, hB⟩
    have HB4 := Lib.hid (nx HB3.out hB)
    clear hB HB2 HB3
    go_wp2_with fail
    refine (HT.out _).mono ?_
    rintro e w' ⟨rfl, rfl⟩
    go_wp2_with fail
    go_ret
    exact ⟨rfl, HB4.out⟩
end Spc
end Go.Proofs.Ytjhgjplhhhgfcaa
