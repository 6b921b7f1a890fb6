/- Package code: need; what the end of parse leaves. -/
import Derived.Test.YtlodoinmippebaaDoorCodeQ
import Derived.Test.YtlodoinmippebaaDoorCodeSS
import Derived.StillTailTactics
namespace Go.Proofs.YtlodoinmippebaaDoor
open Go.ChangeShapes Go.WideShapes Go.ChangeAt Go.RowKit
open Cod Bits
set_option linter.unusedVariables false

theorem need_yes (x : Int) (w : World) : Calls Tryd.prog 65 #[.bool true, .int .i64 x] w fun e w' => e = .returned (.tuple #[]) ∧ w = w' := by
  go_enter Tryd.func65, Tryd.ntmps65
  go_wp2_with fail
  go_end0
  exact ⟨rfl, rfl⟩
theorem need_no (x : Int) (w : World) : Calls Tryd.prog 65 #[.bool false, .int .i64 x] w fun e w' => e = .panicked [{ v := .iface 34 (.int .i64 x), recovered := false }] ∧ w = w' := by
  go_enter Tryd.func65, Tryd.ntmps65
  go_wp2_with fail
  exact ⟨rfl, rfl, rfl⟩
theorem cell_kept {w : World} {o : Obj} {b k : Nat} {v : Value} (hb : b < w.heap.size) (h : w.cell? ⟨b, k, none⟩ = some v) : (w.alloc o).cell? ⟨b, k, none⟩ = some v := by
  rw [(below_box w o).cell (p := ⟨b, k, none⟩) hb]; exact h
theorem below_drew1 {B : Nat} {a w : World} (h : Below B a w) : Below B a w.drew := ⟨h.os, h.tape, h.output, h.size, h.block⟩
theorem parse_end (w W : World) (tmps : Array Value) (hp : tmps.getD 2 undef = .pointer (some ⟨w.heap.size, 0, none⟩)) (x0 x1 x2 x3 x4 y0 y1 y2 y3 y4 : Int)
    (hr : Blk W w.heap.size 106 #[.int .i64 x0, .int .i64 x1, .int .i64 x2, .int .i64 x3, .int .i64 x4]) (hB : Below w.heap.size w W)
    (h0 : x0 = y0) (h1 : x1 = y1) (h2 : x2 = y2) (h3 : x3 = y3) (h4 : x4 = y4) :
    bodyPost Tryd.prog Tryd.f116 (fun e w' => e = .returned (.agg #[.int .i64 y0, .int .i64 y1, .int .i64 y2, .int .i64 y3, .int .i64 y4]) ∧ Below w.heap.size w w') .ret { tmps := tmps, defers := [] } W := by
  subst h0 h1 h2 h3 h4
  exact bodyPost_ret (v := .agg #[.int .i64 x0, .int .i64 x1, .int .i64 x2, .int .i64 x3, .int .i64 x4]) (results_cell_row Tryd.results116 tmps W w.heap.size 106 #[.int .i64 x0, .int .i64 x1, .int .i64 x2, .int .i64 x3, .int .i64 x4] (0, 0) _ hp hr Tryd.underlying106 rfl (by kernel_rfl)) rfl ⟨rfl, hB⟩
theorem wpList_drewC {P : Program} {ops : Array Oper} {Q : Exit → Act → World → Prop} {l : List Oper} {a : Act} {W : World} (h : wpList P ops Q l a W.drew) :
    wpList P ops Q l a { heap := W.heap, tape := W.tape, drawn := W.drawn + 1, os := W.os, output := W.output } := h
theorem wpList_act {P : Program} {ops : Array Oper} {Q : Exit → Act → World → Prop} {l : List Oper} {w : World} {tm : Array Value} {d} (p2 p51 : Value)
    (h : ∀ (ops' : Array Oper) (tm' : Array Value), tm'.getD 2 undef = p2 → tm'.getD 51 undef = p51 → tm'[2]?.getD undef = p2 → tm'[51]?.getD undef = p51 → wpList P ops' Q l { tmps := tm', defers := d } w)
    (h2 : tm.getD 2 undef = p2) (h51 : tm.getD 51 undef = p51) : wpList P ops Q l { tmps := tm, defers := d } w :=
  h ops tm h2 h51 (by rw [← h2]; simp) (by rw [← h51]; simp)
end Go.Proofs.YtlodoinmippebaaDoor
