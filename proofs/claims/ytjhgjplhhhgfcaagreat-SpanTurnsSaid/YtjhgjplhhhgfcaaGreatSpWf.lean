/- The document's own Span, Of, read, ends, Has. -/
import Derived.Test.YtjhgjplhhhgfcaaGreatSpWe
import Derived.Test.YtjhgjplhhhgfcaaGreatSpT
namespace Go.Proofs.YtjhgjplhhhgfcaaGreat
open Go.ChangeShapes Go.WideShapes Go.ChangeAt Go.RowKit
open Spn
namespace Spc
set_option linter.unusedVariables false
set_option maxRecDepth 100000
theorem sg_neg_iff (u v : Int) : (sgC u v < 0) = (u < v) := by
  apply propext
  unfold sgC
  split
  · exact ⟨fun _ => by assumption, fun _ => by decide⟩
  · split
    · exact ⟨fun h => by omega, fun h => by omega⟩
    · exact ⟨fun h => by omega, fun h => by omega⟩
theorem sg_pos_iff (u v : Int) : (0 < sgC u v) = (v < u) := by
  apply propext
  unfold sgC
  split
  · exact ⟨fun h => by omega, fun h => by omega⟩
  · split
    · exact ⟨fun _ => by assumption, fun _ => by decide⟩
    · exact ⟨fun h => by omega, fun h => by omega⟩
theorem sg_mem (u v : Int) : sgC u v = -1 ∨ sgC u v = 0 ∨ sgC u v = 1 := by
  unfold sgC
  split
  · exact .inl rfl
  · split
    · exact .inr (.inr rfl)
    · exact .inr (.inl rfl)
theorem min_if (l m : Int) : (if m < l then m else l) = min l m := by split <;> omega
theorem max_if (l m : Int) : (if l < m then m else l) = max l m := by split <;> omega
theorem from_any (l h : Int) (hl : I64 l) (hh : I64 h) (a b : Int) (p q : Bool) (hr : sp ⟨l, h⟩ = ⟨a, b, p, q⟩) (w : World) : Calls Tryz.prog 47 #[vW l, vW h] w (RetS w a b p q) := by
  have k := from1 l h hl hh _ _ rfl rfl (sg_mem _ _) (sg_mem _ _) w
  unfold sp MX at hr
  obtain ⟨rfl, rfl, rfl, rfl⟩ := sp_eq hr
  rw [min_if, max_if] at k
  simp only [sg_neg_iff, sg_pos_iff] at k
  exact k
set_option maxHeartbeats 2000000 in
theorem Span_any (l h : Int) (hl : I64 l) (hh : I64 h) (a b : Int) (p q : Bool) (hr : sp ⟨l, h⟩ = ⟨a, b, p, q⟩) (w : World) : Calls Tryz.prog 30 #[.int .i64 l, .int .i64 h] w (RetS w a b p q) := by
  have b2 := Lib.hid (Blk.new w 23 zS)
  have H2 := Lib.hid (below_box' w (.cells zS 23))
  have H1 := Lib.hid (fun w => wide_W l hl w)
  have H3 := Lib.hid (fun w => wide_W h hh w)
  have H4 := Lib.hid (fun w => from_any l h hl hh a b p q hr w)
  clear hl hh hr
  go_enter Tryz.func30, Tryz.ntmps30
  go_wp2_with fail
  refine (H1.out _).mono ?_
  rintro e w1 ⟨rfl, hB⟩
  have X1 := Lib.hid (b2.out.up hB)
  have B1 := Lib.hid (nx H2.out hB)
  clear hB
  go_wp2_with fail
  refine (H3.out _).mono ?_
  rintro e w2 ⟨rfl, hB⟩
  have X2 := Lib.hid (X1.out.up hB)
  have B2 := Lib.hid (nx B1.out hB)
  clear hB
  go_wp2_with fail
  refine (H4.out _).mono ?_
  rintro e w3 ⟨rfl, hB⟩
  have X3 := Lib.hid (X2.out.up hB)
  have B3 := Lib.hid (nx B2.out hB)
  clear hB
  obtain ⟨⟨c0, c1, c2, c3⟩, ⟨c4, c5, c6, c7⟩, c8⟩ := cells4 X3.out
  go_wp2_with fail
  exact bodyPost_ret (v := .agg #[.int .i64 _, .int .i64 _, .bool _, .bool _]) (results_cell_row Tryz.results30 _ _ w.heap.size 23 #[.int .i64 _, .int .i64 _, .bool _, .bool _] (0, 0) _ rfl (set4 X3.out _ _ _ _) Tryz.underlying23 rfl (by kernel_rfl)) rfl ⟨rfl, Below.set4 B3.out (by omega) _ _ _ _⟩
def readX (s : Sp) : Sp := if soundB s then s else fullS
set_option maxHeartbeats 2000000 in
theorem refRead_any (lo hi : Int) (nl nh : Bool) (a b : Int) (p q : Bool) (hr : readX ⟨lo, hi, nl, nh⟩ = ⟨a, b, p, q⟩) (w : World) : Calls Tryz.prog 31 #[.agg #[.int .i64 lo, .int .i64 hi, .bool nl, .bool nh]] w (RetS w a b p q) := by
  have b1 := Lib.hid ((Blk.new w 23 #[.int .i64 lo, .int .i64 hi, .bool nl, .bool nh]).alloc (.cells zS 23))
  have b2 := Lib.hid (new2 w (.cells #[.int .i64 lo, .int .i64 hi, .bool nl, .bool nh] 23) 23 zS)
  have H2 := Lib.hid (box2 w (.cells #[.int .i64 lo, .int .i64 hi, .bool nl, .bool nh] 23) (.cells zS 23))
  have HS := Lib.hid (fun w => refSound_any lo hi nl nh w)
  unfold readX at hr
  cases hs : soundB ⟨lo, hi, nl, nh⟩ with
  | false =>
    rw [hs] at HS hr
    obtain ⟨rfl, rfl, rfl, rfl⟩ := sp_eq (show fullS = _ from hr)
    have HF := Lib.hid (fun w => refFull_any w)
    clear hr hs
    go_enter Tryz.func31, Tryz.ntmps31
    obtain ⟨⟨c0, c1, c2, c3⟩, ⟨c4, c5, c6, c7⟩, c8⟩ := cells4 b1.out
    go_wp2_with fail
    refine (HS.out _).mono ?_
    rintro e w1 ⟨rfl, hB⟩
    have X1 := Lib.hid (b2.out.up hB)
    have B1 := Lib.hid (nx H2.out hB)
    clear hB c0 c1 c2 c3 c4 c5 c6 c7 c8
    go_wp2_with fail
    refine (HF.out _).mono ?_
    rintro e w2 ⟨rfl, hB⟩
    have X2 := Lib.hid (X1.out.up hB)
    have B2 := Lib.hid (nx B1.out hB)
    clear hB
    obtain ⟨⟨c0, c1, c2, c3⟩, ⟨c4, c5, c6, c7⟩, c8⟩ := cells4 X2.out
    go_wp2_with fail
    exact bodyPost_ret (v := .agg #[.int .i64 _, .int .i64 _, .bool _, .bool _]) (results_cell_row Tryz.results31 _ _ (w.heap.size + 1) 23 #[.int .i64 _, .int .i64 _, .bool _, .bool _] (0, 0) _ rfl (set4 X2.out _ _ _ _) Tryz.underlying23 rfl (by kernel_rfl)) rfl ⟨rfl, Below.set4 B2.out (by omega) _ _ _ _⟩
  | true =>
    rw [hs] at HS hr
    obtain ⟨rfl, rfl, rfl, rfl⟩ := sp_eq (show (⟨lo, hi, nl, nh⟩ : Sp) = _ from hr)
    clear hr hs
    go_enter Tryz.func31, Tryz.ntmps31
    obtain ⟨⟨c0, c1, c2, c3⟩, ⟨c4, c5, c6, c7⟩, c8⟩ := cells4 b1.out
    go_wp2_with fail
    refine (HS.out _).mono ?_
    rintro e w1 ⟨rfl, hB⟩
    have Y1 := Lib.hid (b1.out.up hB)
    have X1 := Lib.hid (b2.out.up hB)
    have B1 := Lib.hid (nx H2.out hB)
    clear hB c0 c1 c2 c3 c4 c5 c6 c7 c8
    obtain ⟨⟨c0, c1, c2, c3⟩, ⟨c4, c5, c6, c7⟩, c8⟩ := cells4 Y1.out
    obtain ⟨⟨e0, e1, e2, e3⟩, ⟨e4, e5, e6, e7⟩, e8⟩ := cells4 X1.out
    go_wp2_with fail
    exact bodyPost_ret (v := .agg #[.int .i64 _, .int .i64 _, .bool _, .bool _]) (results_cell_row Tryz.results31 _ _ (w.heap.size + 1) 23 #[.int .i64 _, .int .i64 _, .bool _, .bool _] (0, 0) _ rfl (set4 X1.out _ _ _ _) Tryz.underlying23 rfl (by kernel_rfl)) rfl ⟨rfl, Below.set4 B1.out (by omega) _ _ _ _⟩
end Spc
end Go.Proofs.YtjhgjplhhhgfcaaGreat
