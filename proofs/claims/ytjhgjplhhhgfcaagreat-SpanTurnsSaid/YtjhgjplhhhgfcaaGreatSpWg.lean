/- The document's own ends, Has. -/
import Derived.Test.YtjhgjplhhhgfcaaGreatSpWf
namespace Go.Proofs.YtjhgjplhhhgfcaaGreat
open Go.ChangeShapes Go.WideShapes Go.ChangeAt Go.RowKit
open Spn
namespace Spc
set_option linter.unusedVariables false
set_option maxRecDepth 100000
theorem rd_read (s : Sp) : ends0 (readX s) = rd s := by
  unfold readX
  cases h : soundB s with
  | true => rw [rd_of s h]; rfl
  | false => rw [rd_no s h]; rfl
theorem far4 {w : World} {g g' : Nat} {t : TypeId} {cs : Array Value} (h : Blk w g t cs) (hn : g ≠ g') (a b c d : Value) : Blk ((((w.setCell ⟨g', 0, none⟩ a).setCell ⟨g', 1, none⟩ b).setCell ⟨g', 2, none⟩ c).setCell ⟨g', 3, none⟩ d) g t cs :=
  (((h.far (p := ⟨g', 0, none⟩) hn a).far (p := ⟨g', 1, none⟩) hn b).far (p := ⟨g', 2, none⟩) hn c).far (p := ⟨g', 3, none⟩) hn d
set_option maxHeartbeats 2000000 in
theorem ends_at (lo hi : Int) (nl nh : Bool) (a b : Int) (p q : Bool) (hr : readX ⟨lo, hi, nl, nh⟩ = ⟨a, b, p, q⟩) (l h : Int) (hl : (if p then -9223372036854775808 else a) = l) (hh : (if q then 9223372036854775807 else b) = h) (w : World) : Calls Tryz.prog 21 #[.agg #[.int .i64 lo, .int .i64 hi, .bool nl, .bool nh]] w (RetE w l h) := by
  have b1 := Lib.hid ((Blk.new w 23 #[.int .i64 lo, .int .i64 hi, .bool nl, .bool nh]).alloc (.cells zE 43))
  have b2 := Lib.hid (new2 w (.cells #[.int .i64 lo, .int .i64 hi, .bool nl, .bool nh] 23) 43 zE)
  have H2 := Lib.hid (box2 w (.cells #[.int .i64 lo, .int .i64 hi, .bool nl, .bool nh] 23) (.cells zE 43))
  have HR := Lib.hid (fun w => refRead_any lo hi nl nh a b p q hr w)
  clear hr
  cases p <;> cases q
  all_goals
    first | rw [if_pos rfl] at hl | rw [if_neg Bool.false_ne_true] at hl
    first | rw [if_pos rfl] at hh | rw [if_neg Bool.false_ne_true] at hh
    subst hl hh
    go_enter Tryz.func21, Tryz.ntmps21
    obtain ⟨⟨c0, c1, c2, c3⟩, ⟨c4, c5, c6, c7⟩, c8⟩ := cells4 b1.out
    go_wp2_with fail
    refine (HR.out _).mono ?_
    rintro e w1 ⟨rfl, hB⟩
    have Y1 := Lib.hid (b1.out.up hB)
    have X1 := Lib.hid (b2.out.up hB)
    have B1 := Lib.hid (nx H2.out hB)
    clear hB c0 c1 c2 c3 c4 c5 c6 c7 c8
    obtain ⟨⟨c0, c1, c2, c3⟩, ⟨c4, c5, c6, c7⟩, c8⟩ := cells4 Y1.out
    obtain ⟨x0, x1, x2, x3, x4⟩ := cells2 X1.out
    go_wp2_with fail
    exact bodyPost_ret (v := .agg #[.int .i64 _, .int .i64 _]) (results_cell_row Tryz.results21 _ _ (w.heap.size + 1) 43 #[.int .i64 _, .int .i64 _] (0, 0) _ rfl ((set2 (far4 X1.out (by omega) _ _ _ _) _ _).alloc _) Tryz.underlying43 rfl (by kernel_rfl)) rfl ⟨rfl, nx (Below.set2 (Below.set4 B1.out (by omega) _ _ _ _) (by omega) _ _) (below_box' _ _)⟩
theorem refEnds_any (lo hi : Int) (nl nh : Bool) (l h : Int) (hr : rd ⟨lo, hi, nl, nh⟩ = ⟨l, h⟩) (w : World) : Calls Tryz.prog 21 #[.agg #[.int .i64 lo, .int .i64 hi, .bool nl, .bool nh]] w (RetE w l h) := by
  rcases e : readX ⟨lo, hi, nl, nh⟩ with ⟨a, b, p, q⟩
  rw [← rd_read, e] at hr
  obtain ⟨h1, h2⟩ := e_eq hr
  exact ends_at lo hi nl nh a b p q e l h h1 h2 w
end Spc
end Go.Proofs.YtjhgjplhhhgfcaaGreat
