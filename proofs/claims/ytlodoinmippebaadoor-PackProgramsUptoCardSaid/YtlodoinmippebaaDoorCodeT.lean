/- Package code: parse. -/
import Derived.Test.YtlodoinmippebaaDoorCodeQR
namespace Go.Proofs.YtlodoinmippebaaDoor
open Go.ChangeShapes Go.WideShapes Go.ChangeAt Go.RowKit
open Cod Bits
set_option linter.unusedVariables false

theorem Blk.setRow {w : World} {g : Nat} {t : TypeId} {old : Array Value} (h : Blk w g t old) (cs : Array Value) : Blk (w.setRow g cs) g t cs := setRow_heap w g old cs t (0, 0) h
theorem Below.setRow {B g : Nat} {a w : World} (h : Below B a w) (hg : B ≤ g) (cs : Array Value) : Below B a (w.setRow g cs) :=
  ⟨h.os, h.tape, h.output, by rw [setRow_size]; exact h.size, fun k hk => (setRow_other w g k cs (by omega)).trans (h.block k hk)⟩
set_option maxRecDepth 100000 in
set_option maxHeartbeats 2000000 in
theorem parse_any (b off c : Nat) (b0 b1 b2 b3 b4 b5 b6 b7 : Int) (w : World) (hb : b < w.heap.size) (r8 : IsB b0) (r9 : IsB b1) (ra : IsB b2) (rb : IsB b3) (rc : IsB b4) (rd : IsB b5) (re : IsB b6) (rf : IsB b7)
    (c0 : w.cell? ⟨b, off, none⟩ = some (.int .u8 b0)) (c1 : w.cell? ⟨b, off + 1, none⟩ = some (.int .u8 b1)) (c2 : w.cell? ⟨b, off + 2, none⟩ = some (.int .u8 b2)) (c3 : w.cell? ⟨b, off + 3, none⟩ = some (.int .u8 b3)) (c4 : w.cell? ⟨b, off + 4, none⟩ = some (.int .u8 b4)) (c5 : w.cell? ⟨b, off + 5, none⟩ = some (.int .u8 b5)) (c6 : w.cell? ⟨b, off + 6, none⟩ = some (.int .u8 b6)) (c7 : w.cell? ⟨b, off + 7, none⟩ = some (.int .u8 b7)) :
    Calls Tryd.prog 116 #[.slice (some ⟨b, off, none⟩) 8 c] w fun e w' => e = .returned (.agg #[.int .i64 b0, .int .i64 (b1 % 16), .int .i64 (b1 / 16), .int .i64 (off16 b2 b3), .int .i64 (imm32 b4 b5 b6 b7)]) ∧ Below w.heap.size w w' := by
  have d0 := cell_kept (o := .cells #[.int .i64 0, .int .i64 0, .int .i64 0, .int .i64 0, .int .i64 0] 106) hb c0
  have d1 := cell_kept (o := .cells #[.int .i64 0, .int .i64 0, .int .i64 0, .int .i64 0, .int .i64 0] 106) hb c1
  have d2 := cell_kept (o := .cells #[.int .i64 0, .int .i64 0, .int .i64 0, .int .i64 0, .int .i64 0] 106) hb c2
  have d3 := cell_kept (o := .cells #[.int .i64 0, .int .i64 0, .int .i64 0, .int .i64 0, .int .i64 0] 106) hb c3
  have d4 := cell_kept (o := .cells #[.int .i64 0, .int .i64 0, .int .i64 0, .int .i64 0, .int .i64 0] 106) hb c4
  have d5 := cell_kept (o := .cells #[.int .i64 0, .int .i64 0, .int .i64 0, .int .i64 0, .int .i64 0] 106) hb c5
  have d6 := cell_kept (o := .cells #[.int .i64 0, .int .i64 0, .int .i64 0, .int .i64 0, .int .i64 0] 106) hb c6
  have d7 := cell_kept (o := .cells #[.int .i64 0, .int .i64 0, .int .i64 0, .int .i64 0, .int .i64 0] 106) hb c7
  have hbk := Blk.new w 106 #[.int .i64 0, .int .i64 0, .int .i64 0, .int .i64 0, .int .i64 0]
  have hB := below_box w (.cells #[.int .i64 0, .int .i64 0, .int .i64 0, .int .i64 0, .int .i64 0] 106)
  obtain ⟨n0, n1, n2, n3, n4, f0, f1, f2, f3, f4⟩ := cells5 hbk
  have HR := Lib.hid (fun x0 x1 x2 x3 x4 => (set5 hbk x0 x1 x2 x3 x4).drew)
  have hge : w.heap.size ≤ w.heap.size := Nat.le_refl _
  have HBB := Lib.hid (fun x0 x1 x2 x3 x4 => below_drew1 (((((hB.setCell (p := ⟨w.heap.size, 0, none⟩) hge x0).setCell (p := ⟨w.heap.size, 1, none⟩) hge x1).setCell (p := ⟨w.heap.size, 2, none⟩) hge x2).setCell (p := ⟨w.heap.size, 3, none⟩) hge x3).setCell (p := ⟨w.heap.size, 4, none⟩) hge x4))
  clear c0 c1 c2 c3 c4 c5 c6 c7 HR HBB
  go_enter Tryd.func116, Tryd.ntmps116
  go_wp2_with fail
  generalize (w.alloc (.cells #[.int .i64 0, .int .i64 0, .int .i64 0, .int .i64 0, .int .i64 0] 106)) = W1 at *
  refine wp_region_still_tail 49 (by kernel_rfl) (by kernel_rfl) ?_
  simp only [List.take_succ_cons, List.take_zero, List.drop_succ_cons, List.drop_zero]
  repeat still_step
  refine wpStill_nil ?_
  refine wpList_drewC ?_
  refine wpList_act (.pointer (some ⟨w.heap.size, 0, none⟩)) (.agg #[.int .i64 b0, .int .i64 (b1 % 16), .int .i64 (b1 / 16), .int .i64 (off16 b2 b3), .int .i64 (imm32 b4 b5 b6 b7)]) ?_ rfl (Eq.trans ?_ (unit_parsed b0 b1 b2 b3 b4 b5 b6 b7 r8 r9 ra rb rc rd re rf))
  · generalize hvo : off16 b2 b3 = vo
    have Hvo := Lib.hid hvo
    clear hvo
    generalize hvi : imm32 b4 b5 b6 b7 = vi
    have Hvi := Lib.hid hvi
    clear hvi
    generalize hvd : b1 % 16 = vd
    have Hvd := Lib.hid hvd
    clear hvd
    generalize hvs : b1 / 16 = vs
    have Hvs := Lib.hid hvs
    clear hvs
    clear n0 n1 n2 n3 n4 f0 f1 f2 f3 f4
    clear d0 d1 d2 d3 d4 d5 d6 d7 r8 r9 ra rb rc rd re rf
    intro ops tm h2 h51 k2 k51
    refine wpList_store_row rfl 106 (.tmp 2) (.tmp 51) rfl w.heap.size #[.int .i64 b0, .int .i64 vd, .int .i64 vs, .int .i64 vo, .int .i64 vi] h2 h51 106 #[.int .i64 0, .int .i64 0, .int .i64 0, .int .i64 0, .int .i64 0] hbk.drew (by kernel_rfl) rfl (by kernel_rfl) ?_
    go_wp2_with fail
    exact parse_end w _ tm h2 _ _ _ _ _ _ _ _ _ _ (Blk.setRow hbk.drew _) (Below.setRow (below_drew1 hB) (Nat.le_refl _) _) rfl Hvd.out.symm Hvs.out.symm Hvo.out.symm Hvi.out.symm
  · rfl
end Go.Proofs.YtlodoinmippebaaDoor
