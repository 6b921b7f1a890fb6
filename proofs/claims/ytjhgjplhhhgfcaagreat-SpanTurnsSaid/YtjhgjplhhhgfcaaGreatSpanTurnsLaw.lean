/- SpanTurns: its walk. (Written by gen_spturns.py.) -/
import Derived.Test.YtjhgjplhhhgfcaaGreatSpWk
import Derived.Test.YtjhgjplhhhgfcaaGreatSpV
namespace Go.Proofs.YtjhgjplhhhgfcaaGreat
open Go.ChangeShapes Go.WideShapes Go.ChangeAt Go.RowKit
open Spn Spc
set_option linter.unusedVariables false
set_option maxRecDepth 100000
/-- the law's memory: its span -/
def MkW (w0 : World) (lo hi : Int) (nl nh : Bool) (w : World) : Prop := Blk w w0.heap.size 23 #[.int .i64 lo, .int .i64 hi, .bool nl, .bool nh] ∧ Below w0.heap.size w0 w
theorem MkW.up {w0 w w' : World} {lo hi : Int} {nl nh : Bool} (f : MkW w0 lo hi nl nh w) (hb : Below w.heap.size w w') : MkW w0 lo hi nl nh w' := ⟨f.1.up hb, nx f.2 hb⟩
theorem mkS {w0 w : World} {lo hi : Int} {nl nh : Bool} (f : MkW w0 lo hi nl nh w) : w.cell? ⟨w0.heap.size, 0, none⟩ = some (.int .i64 lo) ∧ w.cell? ⟨w0.heap.size, 1, none⟩ = some (.int .i64 hi) ∧ w.cell? ⟨w0.heap.size, 2, none⟩ = some (.bool nl) ∧ w.cell? ⟨w0.heap.size, 3, none⟩ = some (.bool nh) ∧ MkW w0 lo hi nl nh w := by
  obtain ⟨⟨a0, a1, a2, a3⟩, -, -⟩ := cells4 f.1
  exact ⟨a0, a1, a2, a3, f⟩
set_option maxHeartbeats 8000000 in
theorem spanTurns_walk (w : World) (k : Int) (hk : -9223372036854775808 ≤ k ∧ k ≤ 9223372036854775807) (g : Bool) (lo hi : Int) (nl nh : Bool) :
    Calls Tryz.prog 4 #[.int .i64 k, .bool g, .agg #[.int .i64 lo, .int .i64 hi, .bool nl, .bool nh]] w fun e w' => e = .returned (.bool true) ∧ Below w.heap.size w w' := by
  have W0 := Lib.hid (show MkW w lo hi nl nh (w.alloc (.cells #[.int .i64 lo, .int .i64 hi, .bool nl, .bool nh] 23)).drew from ⟨(Blk.new w _ _).drew, (below_box' w _).drew⟩)
  rcases e1 : swapS k g ⟨lo, hi, nl, nh⟩ with ⟨pa, pb, pn, pm⟩
  rcases e2 : extS k g ⟨lo, hi, nl, nh⟩ with ⟨qa, qb, qn, qm⟩
  have H0 := Lib.hid (fun w => Swap_any k g lo hi nl nh pa pb pn pm e1 w)
  have H1 := Lib.hid (fun w => refSwap06_any k g lo hi nl nh pa pb pn pm e1 w)
  have H2 := Lib.hid (fun w => Extend_any k g lo hi nl nh qa qb qn qm e2 w)
  have H3 := Lib.hid (fun w => refExtend06_any k g lo hi nl nh qa qb qn qm e2 w)
  have H4 := Lib.hid (fun w => awake_any w)
  clear e1 e2 hk
  go_enter Tryz.func4, Tryz.ntmps4
  go_wp2_with fail
  go_region_held3 (fun w' => w'.cell? ⟨w.heap.size, 0, none⟩ = some (.int .i64 lo) ∧ w'.cell? ⟨w.heap.size, 1, none⟩ = some (.int .i64 hi) ∧ w'.cell? ⟨w.heap.size, 2, none⟩ = some (.bool nl) ∧ w'.cell? ⟨w.heap.size, 3, none⟩ = some (.bool nh) ∧ MkW w lo hi nl nh w')
    (first | with_reducible exact mkS W0.out | with_reducible exact mkS W1.out | with_reducible exact mkS W2.out | with_reducible exact mkS W3.out | with_reducible exact mkS W4.out | with_reducible exact mkS W5.out)
    (first | (go_at_call 8; (with_reducible refine (H0.out _).mono ?_); rintro e w1 ⟨rfl, hB⟩; have W1 := Lib.hid (W0.out.up hB); clear hB)
                         | (go_at_call 9; (with_reducible refine (H1.out _).mono ?_); rintro e w2 ⟨rfl, hB⟩; have W2 := Lib.hid (W1.out.up hB); clear hB)
                         | (go_at_call 10; (with_reducible refine (H2.out _).mono ?_); rintro e w3 ⟨rfl, hB⟩; have W3 := Lib.hid (W2.out.up hB); clear hB)
                         | (go_at_call 11; (with_reducible refine (H3.out _).mono ?_); rintro e w4 ⟨rfl, hB⟩; have W4 := Lib.hid (W3.out.up hB); clear hB)
                         | (go_at_call 7; (with_reducible refine (H4.out _).mono ?_); rintro e w5 ⟨rfl, hB⟩; have W5 := Lib.hid (W4.out.up hB); clear hB))
  rename_i hq
  obtain ⟨-, -, -, -, hW⟩ := hq
  have V := Lib.hid hW
  clear hW
  go_wp2_with fail
  go_ret
  exact ⟨rfl, V.out.2⟩
end Go.Proofs.YtjhgjplhhhgfcaaGreat
