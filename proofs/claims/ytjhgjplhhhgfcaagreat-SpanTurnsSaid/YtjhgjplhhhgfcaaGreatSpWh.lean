/- The document's own floor, Low, NotZero. -/
import Derived.Test.YtjhgjplhhhgfcaaGreatSpWg
import Derived.Deep.RegionHeld3
namespace Go.Proofs.YtjhgjplhhhgfcaaGreat
open Go.ChangeShapes Go.WideShapes Go.ChangeAt Go.RowKit
open Spn
namespace Spc
set_option linter.unusedVariables false
set_option maxRecDepth 100000
theorem refFloor_any (v : Int) (w : World) : Calls Tryz.prog 62 #[.int .i64 v] w fun e w' => e = .returned (.int .i64 (v / 4294967296)) ∧ w = w' := by
  go_enter Tryz.func62, Tryz.ntmps62
  go_wp2_with fail
  go_ret
  exact ⟨rfl, rfl⟩
theorem sp_lit {l h : Int} (h0 : 0 ≤ l) (h1 : l ≤ h) (h2 : h ≤ 4294967295) : sp ⟨l, h⟩ = ⟨l, h, false, false⟩ := by
  unfold sp MX
  dsimp only
  rw [if_neg (by omega), if_neg (by omega), decide_eq_false (by omega), decide_eq_false (by omega), show min l 1152921504606846976 = l by omega, show max h (-1152921504606846976) = h by omega]
theorem low_lit {l h : Int} (h0 : 0 ≤ l) (h1 : l ≤ h) (h2 : h ≤ 4294967295) : lowE ⟨l, h⟩ = ⟨l, h⟩ := by
  unfold lowE
  dsimp only
  rw [if_pos (by omega), show l % 4294967296 = l by omega, show h % 4294967296 = h by omega]
theorem read_low {s : Sp} {l h : Int} (hr : rd s = ⟨l, h⟩) (h0 : 0 ≤ l) (h2 : h ≤ 4294967295) : readX s = sp (lowE ⟨l, h⟩) := by
  have hok := (rd_ok s).1
  rw [hr] at hok
  rw [low_lit h0 hok h2, sp_lit h0 hok h2]
  cases hs : soundB s with
  | false =>
    rw [rd_no s hs] at hr
    obtain ⟨rfl, rfl⟩ := e_eq (show (⟨LEAST, TOP⟩ : E) = _ from hr)
    exact absurd h0 (by decide)
  | true =>
    rw [rd_of s hs] at hr
    unfold readX
    rw [hs]
    obtain ⟨a, b, p, q⟩ := s
    obtain ⟨e1, e2⟩ := e_eq (show (⟨if p then LEAST else a, if q then TOP else b⟩ : E) = _ from hr)
    cases p
    · cases q
      · subst e1 e2; rfl
      · exact absurd (show TOP ≤ 4294967295 by rw [show TOP = h from e2]; exact h2) (by decide)
    · exact absurd (show 0 ≤ LEAST by rw [show LEAST = l from e1]; exact h0) (by decide)
/-- the memory of the document's Low -/
def LoW (w0 : World) (lo hi : Int) (nl nh : Bool) (g : Nat) (l h : Int) (w : World) : Prop :=
  Blk w w0.heap.size 23 #[.int .i64 lo, .int .i64 hi, .bool nl, .bool nh] ∧ Blk w (w0.heap.size + 1) 23 zS ∧ Blk w g 43 #[.int .i64 l, .int .i64 h] ∧ Below w0.heap.size w0 w
theorem LoW.up {w0 w w' : World} {lo hi : Int} {nl nh : Bool} {g : Nat} {l h : Int} (f : LoW w0 lo hi nl nh g l h w) (hb : Below w.heap.size w w') : LoW w0 lo hi nl nh g l h w' := ⟨f.1.up hb, f.2.1.up hb, f.2.2.1.up hb, nx f.2.2.2 hb⟩
theorem LoW.drew {w0 w : World} {lo hi : Int} {nl nh : Bool} {g : Nat} {l h : Int} (f : LoW w0 lo hi nl nh g l h w) : LoW w0 lo hi nl nh g l h w.drew := ⟨f.1.drew, f.2.1.drew, f.2.2.1.drew, f.2.2.2.drew⟩
theorem loS {w0 w : World} {lo hi : Int} {nl nh : Bool} {g : Nat} {l h : Int} (f : LoW w0 lo hi nl nh g l h w) : w.cell? ⟨g, 0, none⟩ = some (.int .i64 l) ∧ w.cell? ⟨g, 1, none⟩ = some (.int .i64 h) ∧ LoW w0 lo hi nl nh g l h w := by
  obtain ⟨a, b, -⟩ := cells2 f.2.2.1
  exact ⟨a, b, f⟩
theorem low_64' (x : Int) : I64 (x % 4294967296) := by unfold I64 LEAST TOP; omega
theorem half_64 : I64 4294967295 := by unfold I64 LEAST TOP; decide
theorem zero_64 : I64 0 := by unfold I64 LEAST TOP; decide
set_option maxHeartbeats 4000000 in
theorem refLow_any (lo hi : Int) (nl nh : Bool) (a b : Int) (p q : Bool) (hr : sp (lowE (rd ⟨lo, hi, nl, nh⟩)) = ⟨a, b, p, q⟩) (w : World) : Calls Tryz.prog 32 #[.agg #[.int .i64 lo, .int .i64 hi, .bool nl, .bool nh]] w (RetS w a b p q) := by
  have b1 := Lib.hid ((Blk.new w 23 #[.int .i64 lo, .int .i64 hi, .bool nl, .bool nh]).alloc (.cells zS 23))
  have b2 := Lib.hid (new2 w (.cells #[.int .i64 lo, .int .i64 hi, .bool nl, .bool nh] 23) 23 zS)
  have H2 := Lib.hid (box2 w (.cells #[.int .i64 lo, .int .i64 hi, .bool nl, .bool nh] 23) (.cells zS 23))
  rcases er : rd ⟨lo, hi, nl, nh⟩ with ⟨l, h⟩
  have HE := Lib.hid (fun w => refEnds_any lo hi nl nh l h er w)
  have hok := (rd_ok ⟨lo, hi, nl, nh⟩).1
  rw [er] at hr hok
  rcases (by omega : (0 ≤ l ∧ h ≤ 4294967295) ∨ (l < 0 ∧ l / 4294967296 = h / 4294967296) ∨ (l < 0 ∧ ¬ l / 4294967296 = h / 4294967296) ∨ (0 ≤ l ∧ 4294967295 < h ∧ l / 4294967296 = h / 4294967296) ∨ (0 ≤ l ∧ 4294967295 < h ∧ ¬ l / 4294967296 = h / 4294967296)) with ⟨h0, h1⟩ | ⟨h0, he⟩ | ⟨h0, he⟩ | ⟨h0, h1, he⟩ | ⟨h0, h1, he⟩
  · have HR := Lib.hid (fun w => refRead_any lo hi nl nh a b p q (by rw [read_low er h0 h1]; exact hr) w)
    have t0 : decide ((0 : Int) ≤ l) = true := decide_eq_true h0
    have t1 : decide (h ≤ 4294967295) = true := decide_eq_true h1
    clear hr er hok
    go_enter Tryz.func32, Tryz.ntmps32
    obtain ⟨⟨c0, c1, c2, c3⟩, -, c8⟩ := cells4 b1.out
    go_wp2_with fail
    refine (HE.out _).mono ?_
    rintro e w1 ⟨rfl, hB⟩
    have hb := nx hB (below_box' w1 (.cells #[.int .i64 l, .int .i64 h] 43))
    have W1 := Lib.hid (show LoW w lo hi nl nh w1.heap.size l h (w1.alloc (.cells #[.int .i64 l, .int .i64 h] 43)) from ⟨b1.out.up hb, b2.out.up hb, Blk.new w1 _ _, nx H2.out hb⟩)
    clear hB hb c0 c1 c2 c3 c8
    obtain ⟨⟨c0, c1, c2, c3⟩, -, c8⟩ := cells4 W1.out.1
    go_wp2_with fail
    refine (HR.out _).mono ?_
    rintro e w2 ⟨rfl, hB⟩
    have W2 := Lib.hid (W1.out.up hB)
    clear hB c0 c1 c2 c3 c8
    obtain ⟨⟨c0, c1, c2, c3⟩, ⟨c4, c5, c6, c7⟩, c8⟩ := cells4 W2.out.2.1
    go_wp2_with fail
    exact bodyPost_ret (v := .agg #[.int .i64 _, .int .i64 _, .bool _, .bool _]) (results_cell_row Tryz.results32 _ _ (w.heap.size + 1) 23 #[.int .i64 _, .int .i64 _, .bool _, .bool _] (0, 0) _ rfl (set4 W2.out.2.1 _ _ _ _) Tryz.underlying23 rfl (by kernel_rfl)) rfl ⟨rfl, Below.set4 W2.out.2.2.2 (by omega) _ _ _ _⟩
  · have HS := fun w => Span_any (l % 4294967296) (h % 4294967296) (low_64' l) (low_64' h) a b p q (by have : lowE ⟨l, h⟩ = ⟨l % 4294967296, h % 4294967296⟩ := if_pos he; rw [← this]; exact hr) w
    rw [← and32 l, ← and32 h] at HS
    have HS2 := Lib.hid HS
    clear HS
    have he2 : (l / 4294967296 == h / 4294967296) = true := by rw [he]; exact beq_self_eq_true _
    have HD := Lib.hid he2
    clear hr er hok he he2
    go_enter Tryz.func32, Tryz.ntmps32
    obtain ⟨⟨c0, c1, c2, c3⟩, -, c8⟩ := cells4 b1.out
    go_wp2_with fail
    refine (HE.out _).mono ?_
    rintro e w1 ⟨rfl, hB⟩
    have hb := nx hB (below_box' w1 (.cells #[.int .i64 l, .int .i64 h] 43))
    have W0 := Lib.hid (show LoW w lo hi nl nh w1.heap.size l h (w1.alloc (.cells #[.int .i64 l, .int .i64 h] 43)) from ⟨b1.out.up hb, b2.out.up hb, Blk.new w1 _ _, nx H2.out hb⟩)
    clear hB hb c0 c1 c2 c3 c8
    go_wp2_with fail
    have W1 := Lib.hid W0.out.drew
    go_region_held3 (fun w' => w'.cell? ⟨w1.heap.size, 0, none⟩ = some (.int .i64 l) ∧ w'.cell? ⟨w1.heap.size, 1, none⟩ = some (.int .i64 h) ∧ LoW w lo hi nl nh w1.heap.size l h w')
      (with_reducible exact loS W1.out)
      (first | (go_at_call 62; refine (refFloor_any _ _).mono ?_; rintro e w' ⟨rfl, rfl⟩))
    rename_i hq
    clear hq
    have he2 := HD.out
    obtain ⟨a0, a1, -⟩ := cells2 W1.out.2.2.1
    go_wp2_with fail
    refine (HS2.out _).mono ?_
    rintro e w2 ⟨rfl, hB⟩
    have W2 := Lib.hid (W1.out.up hB)
    clear hB a0 a1
    obtain ⟨⟨c0, c1, c2, c3⟩, ⟨c4, c5, c6, c7⟩, c8⟩ := cells4 W2.out.2.1
    go_wp2_with fail
    exact bodyPost_ret (v := .agg #[.int .i64 _, .int .i64 _, .bool _, .bool _]) (results_cell_row Tryz.results32 _ _ (w.heap.size + 1) 23 #[.int .i64 _, .int .i64 _, .bool _, .bool _] (0, 0) _ rfl (set4 W2.out.2.1 _ _ _ _) Tryz.underlying23 rfl (by kernel_rfl)) rfl ⟨rfl, Below.set4 W2.out.2.2.2 (by omega) _ _ _ _⟩
  · have HS2 := Lib.hid (fun w => Span_any 0 4294967295 zero_64 half_64 a b p q (by have : lowE ⟨l, h⟩ = ⟨0, 4294967295⟩ := if_neg he; rw [← this]; exact hr) w)
    have he2 : (l / 4294967296 == h / 4294967296) = false := beq_eq_false_iff_ne.2 he
    have HD := Lib.hid he2
    clear hr er hok he he2
    go_enter Tryz.func32, Tryz.ntmps32
    obtain ⟨⟨c0, c1, c2, c3⟩, -, c8⟩ := cells4 b1.out
    go_wp2_with fail
    refine (HE.out _).mono ?_
    rintro e w1 ⟨rfl, hB⟩
    have hb := nx hB (below_box' w1 (.cells #[.int .i64 l, .int .i64 h] 43))
    have W0 := Lib.hid (show LoW w lo hi nl nh w1.heap.size l h (w1.alloc (.cells #[.int .i64 l, .int .i64 h] 43)) from ⟨b1.out.up hb, b2.out.up hb, Blk.new w1 _ _, nx H2.out hb⟩)
    clear hB hb c0 c1 c2 c3 c8
    go_wp2_with fail
    have W1 := Lib.hid W0.out.drew
    go_region_held3 (fun w' => w'.cell? ⟨w1.heap.size, 0, none⟩ = some (.int .i64 l) ∧ w'.cell? ⟨w1.heap.size, 1, none⟩ = some (.int .i64 h) ∧ LoW w lo hi nl nh w1.heap.size l h w')
      (with_reducible exact loS W1.out)
      (first | (go_at_call 62; refine (refFloor_any _ _).mono ?_; rintro e w' ⟨rfl, rfl⟩))
    rename_i hq
    clear hq
    have he2 := HD.out
    obtain ⟨a0, a1, -⟩ := cells2 W1.out.2.2.1
    go_wp2_with fail
    refine (HS2.out _).mono ?_
    rintro e w2 ⟨rfl, hB⟩
    have W2 := Lib.hid (W1.out.up hB)
    clear hB a0 a1
    obtain ⟨⟨c0, c1, c2, c3⟩, ⟨c4, c5, c6, c7⟩, c8⟩ := cells4 W2.out.2.1
    go_wp2_with fail
    exact bodyPost_ret (v := .agg #[.int .i64 _, .int .i64 _, .bool _, .bool _]) (results_cell_row Tryz.results32 _ _ (w.heap.size + 1) 23 #[.int .i64 _, .int .i64 _, .bool _, .bool _] (0, 0) _ rfl (set4 W2.out.2.1 _ _ _ _) Tryz.underlying23 rfl (by kernel_rfl)) rfl ⟨rfl, Below.set4 W2.out.2.2.2 (by omega) _ _ _ _⟩
  · have HS := fun w => Span_any (l % 4294967296) (h % 4294967296) (low_64' l) (low_64' h) a b p q (by have : lowE ⟨l, h⟩ = ⟨l % 4294967296, h % 4294967296⟩ := if_pos he; rw [← this]; exact hr) w
    rw [← and32 l, ← and32 h] at HS
    have HS2 := Lib.hid HS
    clear HS
    have he2 : (l / 4294967296 == h / 4294967296) = true := by rw [he]; exact beq_self_eq_true _
    have HD := Lib.hid he2
    clear hr er hok he he2
    go_enter Tryz.func32, Tryz.ntmps32
    obtain ⟨⟨c0, c1, c2, c3⟩, -, c8⟩ := cells4 b1.out
    go_wp2_with fail
    refine (HE.out _).mono ?_
    rintro e w1 ⟨rfl, hB⟩
    have hb := nx hB (below_box' w1 (.cells #[.int .i64 l, .int .i64 h] 43))
    have W0 := Lib.hid (show LoW w lo hi nl nh w1.heap.size l h (w1.alloc (.cells #[.int .i64 l, .int .i64 h] 43)) from ⟨b1.out.up hb, b2.out.up hb, Blk.new w1 _ _, nx H2.out hb⟩)
    clear hB hb c0 c1 c2 c3 c8
    go_wp2_with fail
    have W1 := Lib.hid W0.out.drew
    go_region_held3 (fun w' => w'.cell? ⟨w1.heap.size, 0, none⟩ = some (.int .i64 l) ∧ w'.cell? ⟨w1.heap.size, 1, none⟩ = some (.int .i64 h) ∧ LoW w lo hi nl nh w1.heap.size l h w')
      (with_reducible exact loS W1.out)
      (first | (go_at_call 62; refine (refFloor_any _ _).mono ?_; rintro e w' ⟨rfl, rfl⟩))
    rename_i hq
    clear hq
    have he2 := HD.out
    obtain ⟨a0, a1, -⟩ := cells2 W1.out.2.2.1
    go_wp2_with fail
    refine (HS2.out _).mono ?_
    rintro e w2 ⟨rfl, hB⟩
    have W2 := Lib.hid (W1.out.up hB)
    clear hB a0 a1
    obtain ⟨⟨c0, c1, c2, c3⟩, ⟨c4, c5, c6, c7⟩, c8⟩ := cells4 W2.out.2.1
    go_wp2_with fail
    exact bodyPost_ret (v := .agg #[.int .i64 _, .int .i64 _, .bool _, .bool _]) (results_cell_row Tryz.results32 _ _ (w.heap.size + 1) 23 #[.int .i64 _, .int .i64 _, .bool _, .bool _] (0, 0) _ rfl (set4 W2.out.2.1 _ _ _ _) Tryz.underlying23 rfl (by kernel_rfl)) rfl ⟨rfl, Below.set4 W2.out.2.2.2 (by omega) _ _ _ _⟩
  · have HS2 := Lib.hid (fun w => Span_any 0 4294967295 zero_64 half_64 a b p q (by have : lowE ⟨l, h⟩ = ⟨0, 4294967295⟩ := if_neg he; rw [← this]; exact hr) w)
    have he2 : (l / 4294967296 == h / 4294967296) = false := beq_eq_false_iff_ne.2 he
    have HD := Lib.hid he2
    clear hr er hok he he2
    go_enter Tryz.func32, Tryz.ntmps32
    obtain ⟨⟨c0, c1, c2, c3⟩, -, c8⟩ := cells4 b1.out
    go_wp2_with fail
    refine (HE.out _).mono ?_
    rintro e w1 ⟨rfl, hB⟩
    have hb := nx hB (below_box' w1 (.cells #[.int .i64 l, .int .i64 h] 43))
    have W0 := Lib.hid (show LoW w lo hi nl nh w1.heap.size l h (w1.alloc (.cells #[.int .i64 l, .int .i64 h] 43)) from ⟨b1.out.up hb, b2.out.up hb, Blk.new w1 _ _, nx H2.out hb⟩)
    clear hB hb c0 c1 c2 c3 c8
    go_wp2_with fail
    have W1 := Lib.hid W0.out.drew
    go_region_held3 (fun w' => w'.cell? ⟨w1.heap.size, 0, none⟩ = some (.int .i64 l) ∧ w'.cell? ⟨w1.heap.size, 1, none⟩ = some (.int .i64 h) ∧ LoW w lo hi nl nh w1.heap.size l h w')
      (with_reducible exact loS W1.out)
      (first | (go_at_call 62; refine (refFloor_any _ _).mono ?_; rintro e w' ⟨rfl, rfl⟩))
    rename_i hq
    clear hq
    have he2 := HD.out
    obtain ⟨a0, a1, -⟩ := cells2 W1.out.2.2.1
    go_wp2_with fail
    refine (HS2.out _).mono ?_
    rintro e w2 ⟨rfl, hB⟩
    have W2 := Lib.hid (W1.out.up hB)
    clear hB a0 a1
    obtain ⟨⟨c0, c1, c2, c3⟩, ⟨c4, c5, c6, c7⟩, c8⟩ := cells4 W2.out.2.1
    go_wp2_with fail
    exact bodyPost_ret (v := .agg #[.int .i64 _, .int .i64 _, .bool _, .bool _]) (results_cell_row Tryz.results32 _ _ (w.heap.size + 1) 23 #[.int .i64 _, .int .i64 _, .bool _, .bool _] (0, 0) _ rfl (set4 W2.out.2.1 _ _ _ _) Tryz.underlying23 rfl (by kernel_rfl)) rfl ⟨rfl, Below.set4 W2.out.2.2.2 (by omega) _ _ _ _⟩
end Spc
end Go.Proofs.YtjhgjplhhhgfcaaGreat
