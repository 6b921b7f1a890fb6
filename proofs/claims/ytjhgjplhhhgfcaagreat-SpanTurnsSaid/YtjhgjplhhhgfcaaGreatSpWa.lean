/- The document's wide numbers, as far as they are numbers of 64 bits: wide. -/
import Derived.Test.YtjhgjplhhhgfcaaGreatSpE
import Derived.Test.YtjhgjplhhhgfcaaGreatInv
import Derived.Deep.RegionHeld3
import Derived.Deep.DeepCutAuto
namespace Go.Proofs.YtjhgjplhhhgfcaaGreat
open Go.ChangeShapes Go.WideShapes Go.ChangeAt Go.RowKit
open Spn
namespace Spc
set_option linter.unusedVariables false
set_option maxRecDepth 100000
def absI (v : Int) : Int := if v < 0 then -v else v
/-- the cells of a wide number -/
abbrev cW (b : Bool) (d e : Int) : Array Value := #[.bool b, .int .u32 d, .int .u32 e, .int .u32 0, .int .u32 0]
def d0 (v : Int) : Int := absI v % 4294967296
def d1 (v : Int) : Int := absI v / 4294967296
theorem d_neg {v : Int} (h : I64 v) (h0 : v < 0) : IntKind.u64.wrap (-IntKind.u64.wrap v) % 4294967296 = d0 v ∧ IntKind.u64.wrap (-IntKind.u64.wrap v) / 4294967296 % 4294967296 = d1 v := by
  unfold I64 LEAST TOP at h
  have e : IntKind.u64.wrap (-IntKind.u64.wrap v) = -v := by rw [IntKind.wrap_u64, IntKind.wrap_u64]; omega
  have e2 : absI v = -v := by unfold absI; rw [if_pos h0]
  rw [e]
  unfold d0 d1
  rw [e2]
  omega
theorem d_pos {v : Int} (h : I64 v) (h0 : ¬ v < 0) : IntKind.u64.wrap v % 4294967296 = d0 v ∧ IntKind.u64.wrap v / 4294967296 % 4294967296 = d1 v := by
  unfold I64 LEAST TOP at h
  have e : IntKind.u64.wrap v = v := by rw [IntKind.wrap_u64]; omega
  have e2 : absI v = v := by unfold absI; rw [if_neg h0]
  rw [e]
  unfold d0 d1
  rw [e2]
  omega
def RetW (w : World) (b : Bool) (d e : Int) (en : Ending) (w' : World) : Prop := en = .returned (.agg (cW b d e)) ∧ Below w.heap.size w w'
def RetI (w : World) (i : Int) (e : Ending) (w' : World) : Prop := e = .returned (.int .i64 i) ∧ Below w.heap.size w w'
set_option maxHeartbeats 2000000 in
theorem wide_neg (v : Int) (h : I64 v) (h0 : v < 0) (w : World) : Calls Tryz.prog 46 #[.int .i64 v] w (RetW w true (d0 v) (d1 v)) := by
  obtain ⟨e1, e2⟩ := d_neg h h0
  have E1 := Lib.hid e1
  have E2 := Lib.hid e2
  have t0 : decide (v < 0) = true := decide_eq_true h0
  clear e1 e2
  go_enter Tryz.func46, Tryz.ntmps46
  go_wp2_with fail
  rw [E1.out, E2.out]
  exact bodyPost_ret (v := .agg #[.bool _, .int .u32 _, .int .u32 _, .int .u32 _, .int .u32 _]) (results_cell_row Tryz.results46 _ _ w.heap.size 67 #[.bool _, .int .u32 _, .int .u32 _, .int .u32 _, .int .u32 _] (0, 0) _ rfl ((Blk.new w _ _).alloc _) Tryz.underlying67 rfl (by kernel_rfl)) rfl ⟨rfl, box2 w _ _⟩
set_option maxHeartbeats 2000000 in
theorem wide_pos (v : Int) (h : I64 v) (h0 : ¬ v < 0) (w : World) : Calls Tryz.prog 46 #[.int .i64 v] w (RetW w false (d0 v) (d1 v)) := by
  obtain ⟨e1, e2⟩ := d_pos h h0
  have E1 := Lib.hid e1
  have E2 := Lib.hid e2
  have t0 : decide (v < 0) = false := decide_eq_false h0
  clear e1 e2
  go_enter Tryz.func46, Tryz.ntmps46
  go_wp2_with fail
  rw [E1.out, E2.out]
  exact bodyPost_ret (v := .agg #[.bool _, .int .u32 _, .int .u32 _, .int .u32 _, .int .u32 _]) (results_cell_row Tryz.results46 _ _ w.heap.size 67 #[.bool _, .int .u32 _, .int .u32 _, .int .u32 _, .int .u32 _] (0, 0) _ rfl ((Blk.new w _ _).alloc _) Tryz.underlying67 rfl (by kernel_rfl)) rfl ⟨rfl, box2 w _ _⟩
theorem wide_any' (v : Int) (h : I64 v) (w : World) : Calls Tryz.prog 46 #[.int .i64 v] w (RetW w (decide (v < 0)) (d0 v) (d1 v)) := by
  by_cases h0 : v < 0
  · rw [decide_eq_true h0]; exact wide_neg v h h0 w
  · rw [decide_eq_false h0]; exact wide_pos v h h0 w
/-! ### which magnitude is the greater one -/
theorem cells5 {w : World} {g : Nat} {t : TypeId} {a b c d e : Value} (h : Blk w g t #[a, b, c, d, e]) : w.cell? ⟨g, 0, none⟩ = some a ∧ w.cell? ⟨g, 1, none⟩ = some b ∧ w.cell? ⟨g, 2, none⟩ = some c ∧ w.cell? ⟨g, 3, none⟩ = some d ∧ w.cell? ⟨g, 4, none⟩ = some e :=
  ⟨h.cell 0, h.cell 1, h.cell 2, h.cell 3, h.cell 4⟩
def SzW (w0 : World) (ba bb : Bool) (a0 a1 b0 b1 : Int) (w : World) : Prop := Blk w w0.heap.size 67 (cW ba a0 a1) ∧ Blk w (w0.heap.size + 1) 67 (cW bb b0 b1) ∧ Below w0.heap.size w0 w
theorem SzW.start (w : World) (ba bb : Bool) (a0 a1 b0 b1 : Int) : SzW w ba bb a0 a1 b0 b1 ((w.alloc (.cells (cW ba a0 a1) 67)).alloc (.cells (cW bb b0 b1) 67)) := ⟨(Blk.new w _ _).alloc _, new2 w _ _ _, box2 w _ _⟩
theorem SzW.drew {w0 w : World} {ba bb : Bool} {a0 a1 b0 b1 : Int} (h : SzW w0 ba bb a0 a1 b0 b1 w) : SzW w0 ba bb a0 a1 b0 b1 w.drew := ⟨h.1.drew, h.2.1.drew, h.2.2.drew⟩
theorem SzW.up {w0 w w' : World} {ba bb : Bool} {a0 a1 b0 b1 : Int} (h : SzW w0 ba bb a0 a1 b0 b1 w) (hb : Below w.heap.size w w') : SzW w0 ba bb a0 a1 b0 b1 w' := ⟨h.1.up hb, h.2.1.up hb, nx h.2.2 hb⟩
abbrev SzS (w0 : World) (ba bb : Bool) (a0 a1 b0 b1 : Int) (w : World) : Prop :=
  w.cell? ⟨w0.heap.size, 0, none⟩ = some (.bool ba) ∧ w.cell? ⟨w0.heap.size, 1, none⟩ = some (.int .u32 a0) ∧ w.cell? ⟨w0.heap.size, 2, none⟩ = some (.int .u32 a1) ∧ w.cell? ⟨w0.heap.size, 3, none⟩ = some (.int .u32 0) ∧ w.cell? ⟨w0.heap.size, 4, none⟩ = some (.int .u32 0) ∧
  w.cell? ⟨w0.heap.size + 1, 0, none⟩ = some (.bool bb) ∧ w.cell? ⟨w0.heap.size + 1, 1, none⟩ = some (.int .u32 b0) ∧ w.cell? ⟨w0.heap.size + 1, 2, none⟩ = some (.int .u32 b1) ∧ w.cell? ⟨w0.heap.size + 1, 3, none⟩ = some (.int .u32 0) ∧ w.cell? ⟨w0.heap.size + 1, 4, none⟩ = some (.int .u32 0) ∧ SzW w0 ba bb a0 a1 b0 b1 w
theorem szS {w0 w : World} {ba bb : Bool} {a0 a1 b0 b1 : Int} (h : SzW w0 ba bb a0 a1 b0 b1 w) : SzS w0 ba bb a0 a1 b0 b1 w := by
  obtain ⟨x0, x1, x2, x3, x4⟩ := cells5 h.1
  obtain ⟨y0, y1, y2, y3, y4⟩ := cells5 h.2.1
  exact ⟨x0, x1, x2, x3, x4, y0, y1, y2, y3, y4, h⟩
def szX (a0 a1 b0 b1 : Int) : Int := if a1 < b1 then -1 else if b1 < a1 then 1 else if a0 < b0 then -1 else if b0 < a0 then 1 else 0
theorem sz_lt1 {a0 a1 b0 b1 : Int} (h : a1 < b1) : szX a0 a1 b0 b1 = -1 := by unfold szX; rw [if_pos h]
theorem sz_gt1 {a0 a1 b0 b1 : Int} (h : b1 < a1) : szX a0 a1 b0 b1 = 1 := by unfold szX; rw [if_neg (by omega), if_pos h]
theorem sz_lt0 {a0 a1 b0 b1 : Int} (h1 : a1 = b1) (h : a0 < b0) : szX a0 a1 b0 b1 = -1 := by unfold szX; rw [if_neg (by omega), if_neg (by omega), if_pos h]
theorem sz_gt0 {a0 a1 b0 b1 : Int} (h1 : a1 = b1) (h : b0 < a0) : szX a0 a1 b0 b1 = 1 := by unfold szX; rw [if_neg (by omega), if_neg (by omega), if_neg (by omega), if_pos h]
theorem sz_eq {a0 a1 b0 b1 : Int} (h1 : a1 = b1) (h : a0 = b0) : szX a0 a1 b0 b1 = 0 := by unfold szX; rw [if_neg (by omega), if_neg (by omega), if_neg (by omega), if_neg (by omega)]
set_option maxHeartbeats 4000000 in
theorem size_any (ba bb : Bool) (a0 a1 b0 b1 : Int) (w : World) : Calls Tryz.prog 77 #[.agg (cW ba a0 a1), .agg (cW bb b0 b1)] w (RetI w (szX a0 a1 b0 b1)) := by
  have W0 := Lib.hid (SzW.start w ba bb a0 a1 b0 b1)
  go_enter Tryz.func77, Tryz.ntmps77
  go_wp2_with fail
  go_loopw [5] (fun i wr => (i = .int .i64 3 ∨ i = .int .i64 2 ∨ i = .int .i64 1 ∨ (i = .int .i64 0 ∧ a1 = b1) ∨ (i = .int .i64 (-1) ∧ a1 = b1 ∧ a0 = b0)) ∧ SzW w ba bb a0 a1 b0 b1 wr) (fun i _ => (intOf i + 1).toNat)
  case atStart => exact ⟨.inl rfl, W0.out⟩
  case round =>
    obtain ⟨hi, hW⟩ := hrel
    have HW := Lib.hid hW.drew
    clear W0
    have HW2 := Lib.hid HW.out.drew
    rcases hi with rfl | rfl | rfl | ⟨rfl, h1⟩ | ⟨rfl, h1, h0⟩
    · go_wp2_with fail
      go_region_held3 (fun w' => w'.cell? ⟨w.heap.size, 0, none⟩ = some (.bool ba) ∧ w'.cell? ⟨w.heap.size, 1, none⟩ = some (.int .u32 a0) ∧ w'.cell? ⟨w.heap.size, 2, none⟩ = some (.int .u32 a1) ∧ w'.cell? ⟨w.heap.size, 3, none⟩ = some (.int .u32 0) ∧ w'.cell? ⟨w.heap.size, 4, none⟩ = some (.int .u32 0) ∧ w'.cell? ⟨w.heap.size + 1, 0, none⟩ = some (.bool bb) ∧ w'.cell? ⟨w.heap.size + 1, 1, none⟩ = some (.int .u32 b0) ∧ w'.cell? ⟨w.heap.size + 1, 2, none⟩ = some (.int .u32 b1) ∧ w'.cell? ⟨w.heap.size + 1, 3, none⟩ = some (.int .u32 0) ∧ w'.cell? ⟨w.heap.size + 1, 4, none⟩ = some (.int .u32 0) ∧ SzW w ba bb a0 a1 b0 b1 w') (with_reducible exact szS HW.out) (first | fail)
      rename_i hh
      clear hh
      go_wp2_with fail
      go_region_held3 (fun w' => w'.cell? ⟨w.heap.size, 0, none⟩ = some (.bool ba) ∧ w'.cell? ⟨w.heap.size, 1, none⟩ = some (.int .u32 a0) ∧ w'.cell? ⟨w.heap.size, 2, none⟩ = some (.int .u32 a1) ∧ w'.cell? ⟨w.heap.size, 3, none⟩ = some (.int .u32 0) ∧ w'.cell? ⟨w.heap.size, 4, none⟩ = some (.int .u32 0) ∧ w'.cell? ⟨w.heap.size + 1, 0, none⟩ = some (.bool bb) ∧ w'.cell? ⟨w.heap.size + 1, 1, none⟩ = some (.int .u32 b0) ∧ w'.cell? ⟨w.heap.size + 1, 2, none⟩ = some (.int .u32 b1) ∧ w'.cell? ⟨w.heap.size + 1, 3, none⟩ = some (.int .u32 0) ∧ w'.cell? ⟨w.heap.size + 1, 4, none⟩ = some (.int .u32 0) ∧ SzW w ba bb a0 a1 b0 b1 w') (with_reducible exact szS HW2.out) (first | fail)
      rename_i hh
      clear hh
      go_wp2_with fail
      go_roundw
      case rel => exact ⟨.inr (.inl rfl), HW2.out⟩
      case measure => simp [intOf]
    · go_wp2_with fail
      go_region_held3 (fun w' => w'.cell? ⟨w.heap.size, 0, none⟩ = some (.bool ba) ∧ w'.cell? ⟨w.heap.size, 1, none⟩ = some (.int .u32 a0) ∧ w'.cell? ⟨w.heap.size, 2, none⟩ = some (.int .u32 a1) ∧ w'.cell? ⟨w.heap.size, 3, none⟩ = some (.int .u32 0) ∧ w'.cell? ⟨w.heap.size, 4, none⟩ = some (.int .u32 0) ∧ w'.cell? ⟨w.heap.size + 1, 0, none⟩ = some (.bool bb) ∧ w'.cell? ⟨w.heap.size + 1, 1, none⟩ = some (.int .u32 b0) ∧ w'.cell? ⟨w.heap.size + 1, 2, none⟩ = some (.int .u32 b1) ∧ w'.cell? ⟨w.heap.size + 1, 3, none⟩ = some (.int .u32 0) ∧ w'.cell? ⟨w.heap.size + 1, 4, none⟩ = some (.int .u32 0) ∧ SzW w ba bb a0 a1 b0 b1 w') (with_reducible exact szS HW.out) (first | fail)
      rename_i hh
      clear hh
      go_wp2_with fail
      go_region_held3 (fun w' => w'.cell? ⟨w.heap.size, 0, none⟩ = some (.bool ba) ∧ w'.cell? ⟨w.heap.size, 1, none⟩ = some (.int .u32 a0) ∧ w'.cell? ⟨w.heap.size, 2, none⟩ = some (.int .u32 a1) ∧ w'.cell? ⟨w.heap.size, 3, none⟩ = some (.int .u32 0) ∧ w'.cell? ⟨w.heap.size, 4, none⟩ = some (.int .u32 0) ∧ w'.cell? ⟨w.heap.size + 1, 0, none⟩ = some (.bool bb) ∧ w'.cell? ⟨w.heap.size + 1, 1, none⟩ = some (.int .u32 b0) ∧ w'.cell? ⟨w.heap.size + 1, 2, none⟩ = some (.int .u32 b1) ∧ w'.cell? ⟨w.heap.size + 1, 3, none⟩ = some (.int .u32 0) ∧ w'.cell? ⟨w.heap.size + 1, 4, none⟩ = some (.int .u32 0) ∧ SzW w ba bb a0 a1 b0 b1 w') (with_reducible exact szS HW2.out) (first | fail)
      rename_i hh
      clear hh
      go_wp2_with fail
      go_roundw
      case rel => exact ⟨.inr (.inr (.inl rfl)), HW2.out⟩
      case measure => simp [intOf]
    · rcases (by omega : a1 < b1 ∨ b1 < a1 ∨ a1 = b1) with hl | hl | hl
      · go_wp2_with fail
        go_region_held3 (fun w' => w'.cell? ⟨w.heap.size, 0, none⟩ = some (.bool ba) ∧ w'.cell? ⟨w.heap.size, 1, none⟩ = some (.int .u32 a0) ∧ w'.cell? ⟨w.heap.size, 2, none⟩ = some (.int .u32 a1) ∧ w'.cell? ⟨w.heap.size, 3, none⟩ = some (.int .u32 0) ∧ w'.cell? ⟨w.heap.size, 4, none⟩ = some (.int .u32 0) ∧ w'.cell? ⟨w.heap.size + 1, 0, none⟩ = some (.bool bb) ∧ w'.cell? ⟨w.heap.size + 1, 1, none⟩ = some (.int .u32 b0) ∧ w'.cell? ⟨w.heap.size + 1, 2, none⟩ = some (.int .u32 b1) ∧ w'.cell? ⟨w.heap.size + 1, 3, none⟩ = some (.int .u32 0) ∧ w'.cell? ⟨w.heap.size + 1, 4, none⟩ = some (.int .u32 0) ∧ SzW w ba bb a0 a1 b0 b1 w') (with_reducible exact szS HW.out) (first | fail)
        rename_i hh
        clear hh
        go_wp2_with fail
        go_ret
        exact ⟨by rw [sz_lt1 hl]; rfl, HW.out.2.2⟩
      · have hn : ¬ a1 < b1 := by omega
        go_wp2_with fail
        go_region_held3 (fun w' => w'.cell? ⟨w.heap.size, 0, none⟩ = some (.bool ba) ∧ w'.cell? ⟨w.heap.size, 1, none⟩ = some (.int .u32 a0) ∧ w'.cell? ⟨w.heap.size, 2, none⟩ = some (.int .u32 a1) ∧ w'.cell? ⟨w.heap.size, 3, none⟩ = some (.int .u32 0) ∧ w'.cell? ⟨w.heap.size, 4, none⟩ = some (.int .u32 0) ∧ w'.cell? ⟨w.heap.size + 1, 0, none⟩ = some (.bool bb) ∧ w'.cell? ⟨w.heap.size + 1, 1, none⟩ = some (.int .u32 b0) ∧ w'.cell? ⟨w.heap.size + 1, 2, none⟩ = some (.int .u32 b1) ∧ w'.cell? ⟨w.heap.size + 1, 3, none⟩ = some (.int .u32 0) ∧ w'.cell? ⟨w.heap.size + 1, 4, none⟩ = some (.int .u32 0) ∧ SzW w ba bb a0 a1 b0 b1 w') (with_reducible exact szS HW.out) (first | fail)
        rename_i hh
        clear hh
        go_wp2_with fail
        go_region_held3 (fun w' => w'.cell? ⟨w.heap.size, 0, none⟩ = some (.bool ba) ∧ w'.cell? ⟨w.heap.size, 1, none⟩ = some (.int .u32 a0) ∧ w'.cell? ⟨w.heap.size, 2, none⟩ = some (.int .u32 a1) ∧ w'.cell? ⟨w.heap.size, 3, none⟩ = some (.int .u32 0) ∧ w'.cell? ⟨w.heap.size, 4, none⟩ = some (.int .u32 0) ∧ w'.cell? ⟨w.heap.size + 1, 0, none⟩ = some (.bool bb) ∧ w'.cell? ⟨w.heap.size + 1, 1, none⟩ = some (.int .u32 b0) ∧ w'.cell? ⟨w.heap.size + 1, 2, none⟩ = some (.int .u32 b1) ∧ w'.cell? ⟨w.heap.size + 1, 3, none⟩ = some (.int .u32 0) ∧ w'.cell? ⟨w.heap.size + 1, 4, none⟩ = some (.int .u32 0) ∧ SzW w ba bb a0 a1 b0 b1 w') (with_reducible exact szS HW2.out) (first | fail)
        rename_i hh
        clear hh
        go_wp2_with fail
        go_ret
        exact ⟨by rw [sz_gt1 hl]; rfl, HW2.out.2.2⟩
      · have HE := Lib.hid hl
        have hn : ¬ a1 < b1 := by omega
        have hn2 : ¬ b1 < a1 := by omega
        clear hl
        go_wp2_with fail
        go_region_held3 (fun w' => w'.cell? ⟨w.heap.size, 0, none⟩ = some (.bool ba) ∧ w'.cell? ⟨w.heap.size, 1, none⟩ = some (.int .u32 a0) ∧ w'.cell? ⟨w.heap.size, 2, none⟩ = some (.int .u32 a1) ∧ w'.cell? ⟨w.heap.size, 3, none⟩ = some (.int .u32 0) ∧ w'.cell? ⟨w.heap.size, 4, none⟩ = some (.int .u32 0) ∧ w'.cell? ⟨w.heap.size + 1, 0, none⟩ = some (.bool bb) ∧ w'.cell? ⟨w.heap.size + 1, 1, none⟩ = some (.int .u32 b0) ∧ w'.cell? ⟨w.heap.size + 1, 2, none⟩ = some (.int .u32 b1) ∧ w'.cell? ⟨w.heap.size + 1, 3, none⟩ = some (.int .u32 0) ∧ w'.cell? ⟨w.heap.size + 1, 4, none⟩ = some (.int .u32 0) ∧ SzW w ba bb a0 a1 b0 b1 w') (with_reducible exact szS HW.out) (first | fail)
        rename_i hh
        clear hh
        go_wp2_with fail
        go_region_held3 (fun w' => w'.cell? ⟨w.heap.size, 0, none⟩ = some (.bool ba) ∧ w'.cell? ⟨w.heap.size, 1, none⟩ = some (.int .u32 a0) ∧ w'.cell? ⟨w.heap.size, 2, none⟩ = some (.int .u32 a1) ∧ w'.cell? ⟨w.heap.size, 3, none⟩ = some (.int .u32 0) ∧ w'.cell? ⟨w.heap.size, 4, none⟩ = some (.int .u32 0) ∧ w'.cell? ⟨w.heap.size + 1, 0, none⟩ = some (.bool bb) ∧ w'.cell? ⟨w.heap.size + 1, 1, none⟩ = some (.int .u32 b0) ∧ w'.cell? ⟨w.heap.size + 1, 2, none⟩ = some (.int .u32 b1) ∧ w'.cell? ⟨w.heap.size + 1, 3, none⟩ = some (.int .u32 0) ∧ w'.cell? ⟨w.heap.size + 1, 4, none⟩ = some (.int .u32 0) ∧ SzW w ba bb a0 a1 b0 b1 w') (with_reducible exact szS HW2.out) (first | fail)
        rename_i hh
        clear hh
        go_wp2_with fail
        go_roundw
        case rel => exact ⟨.inr (.inr (.inr (.inl ⟨rfl, HE.out⟩))), HW2.out⟩
        case measure => simp [intOf]
    · have H1 := Lib.hid h1
      clear h1
      rcases (by omega : a0 < b0 ∨ b0 < a0 ∨ a0 = b0) with hl | hl | hl
      · go_wp2_with fail
        go_region_held3 (fun w' => w'.cell? ⟨w.heap.size, 0, none⟩ = some (.bool ba) ∧ w'.cell? ⟨w.heap.size, 1, none⟩ = some (.int .u32 a0) ∧ w'.cell? ⟨w.heap.size, 2, none⟩ = some (.int .u32 a1) ∧ w'.cell? ⟨w.heap.size, 3, none⟩ = some (.int .u32 0) ∧ w'.cell? ⟨w.heap.size, 4, none⟩ = some (.int .u32 0) ∧ w'.cell? ⟨w.heap.size + 1, 0, none⟩ = some (.bool bb) ∧ w'.cell? ⟨w.heap.size + 1, 1, none⟩ = some (.int .u32 b0) ∧ w'.cell? ⟨w.heap.size + 1, 2, none⟩ = some (.int .u32 b1) ∧ w'.cell? ⟨w.heap.size + 1, 3, none⟩ = some (.int .u32 0) ∧ w'.cell? ⟨w.heap.size + 1, 4, none⟩ = some (.int .u32 0) ∧ SzW w ba bb a0 a1 b0 b1 w') (with_reducible exact szS HW.out) (first | fail)
        rename_i hh
        clear hh
        go_wp2_with fail
        go_ret
        exact ⟨by rw [sz_lt0 H1.out hl]; rfl, HW.out.2.2⟩
      · have hn : ¬ a0 < b0 := by omega
        go_wp2_with fail
        go_region_held3 (fun w' => w'.cell? ⟨w.heap.size, 0, none⟩ = some (.bool ba) ∧ w'.cell? ⟨w.heap.size, 1, none⟩ = some (.int .u32 a0) ∧ w'.cell? ⟨w.heap.size, 2, none⟩ = some (.int .u32 a1) ∧ w'.cell? ⟨w.heap.size, 3, none⟩ = some (.int .u32 0) ∧ w'.cell? ⟨w.heap.size, 4, none⟩ = some (.int .u32 0) ∧ w'.cell? ⟨w.heap.size + 1, 0, none⟩ = some (.bool bb) ∧ w'.cell? ⟨w.heap.size + 1, 1, none⟩ = some (.int .u32 b0) ∧ w'.cell? ⟨w.heap.size + 1, 2, none⟩ = some (.int .u32 b1) ∧ w'.cell? ⟨w.heap.size + 1, 3, none⟩ = some (.int .u32 0) ∧ w'.cell? ⟨w.heap.size + 1, 4, none⟩ = some (.int .u32 0) ∧ SzW w ba bb a0 a1 b0 b1 w') (with_reducible exact szS HW.out) (first | fail)
        rename_i hh
        clear hh
        go_wp2_with fail
        go_region_held3 (fun w' => w'.cell? ⟨w.heap.size, 0, none⟩ = some (.bool ba) ∧ w'.cell? ⟨w.heap.size, 1, none⟩ = some (.int .u32 a0) ∧ w'.cell? ⟨w.heap.size, 2, none⟩ = some (.int .u32 a1) ∧ w'.cell? ⟨w.heap.size, 3, none⟩ = some (.int .u32 0) ∧ w'.cell? ⟨w.heap.size, 4, none⟩ = some (.int .u32 0) ∧ w'.cell? ⟨w.heap.size + 1, 0, none⟩ = some (.bool bb) ∧ w'.cell? ⟨w.heap.size + 1, 1, none⟩ = some (.int .u32 b0) ∧ w'.cell? ⟨w.heap.size + 1, 2, none⟩ = some (.int .u32 b1) ∧ w'.cell? ⟨w.heap.size + 1, 3, none⟩ = some (.int .u32 0) ∧ w'.cell? ⟨w.heap.size + 1, 4, none⟩ = some (.int .u32 0) ∧ SzW w ba bb a0 a1 b0 b1 w') (with_reducible exact szS HW2.out) (first | fail)
        rename_i hh
        clear hh
        go_wp2_with fail
        go_ret
        exact ⟨by rw [sz_gt0 H1.out hl]; rfl, HW2.out.2.2⟩
      · have HE := Lib.hid hl
        have hn : ¬ a0 < b0 := by omega
        have hn2 : ¬ b0 < a0 := by omega
        clear hl
        go_wp2_with fail
        go_region_held3 (fun w' => w'.cell? ⟨w.heap.size, 0, none⟩ = some (.bool ba) ∧ w'.cell? ⟨w.heap.size, 1, none⟩ = some (.int .u32 a0) ∧ w'.cell? ⟨w.heap.size, 2, none⟩ = some (.int .u32 a1) ∧ w'.cell? ⟨w.heap.size, 3, none⟩ = some (.int .u32 0) ∧ w'.cell? ⟨w.heap.size, 4, none⟩ = some (.int .u32 0) ∧ w'.cell? ⟨w.heap.size + 1, 0, none⟩ = some (.bool bb) ∧ w'.cell? ⟨w.heap.size + 1, 1, none⟩ = some (.int .u32 b0) ∧ w'.cell? ⟨w.heap.size + 1, 2, none⟩ = some (.int .u32 b1) ∧ w'.cell? ⟨w.heap.size + 1, 3, none⟩ = some (.int .u32 0) ∧ w'.cell? ⟨w.heap.size + 1, 4, none⟩ = some (.int .u32 0) ∧ SzW w ba bb a0 a1 b0 b1 w') (with_reducible exact szS HW.out) (first | fail)
        rename_i hh
        clear hh
        go_wp2_with fail
        go_region_held3 (fun w' => w'.cell? ⟨w.heap.size, 0, none⟩ = some (.bool ba) ∧ w'.cell? ⟨w.heap.size, 1, none⟩ = some (.int .u32 a0) ∧ w'.cell? ⟨w.heap.size, 2, none⟩ = some (.int .u32 a1) ∧ w'.cell? ⟨w.heap.size, 3, none⟩ = some (.int .u32 0) ∧ w'.cell? ⟨w.heap.size, 4, none⟩ = some (.int .u32 0) ∧ w'.cell? ⟨w.heap.size + 1, 0, none⟩ = some (.bool bb) ∧ w'.cell? ⟨w.heap.size + 1, 1, none⟩ = some (.int .u32 b0) ∧ w'.cell? ⟨w.heap.size + 1, 2, none⟩ = some (.int .u32 b1) ∧ w'.cell? ⟨w.heap.size + 1, 3, none⟩ = some (.int .u32 0) ∧ w'.cell? ⟨w.heap.size + 1, 4, none⟩ = some (.int .u32 0) ∧ SzW w ba bb a0 a1 b0 b1 w') (with_reducible exact szS HW2.out) (first | fail)
        rename_i hh
        clear hh
        go_wp2_with fail
        go_roundw
        case rel => exact ⟨.inr (.inr (.inr (.inr ⟨rfl, H1.out, HE.out⟩))), HW2.out⟩
        case measure => simp [intOf]
    · have H1 := Lib.hid h1
      have H0 := Lib.hid h0
      clear h1 h0
      go_wp2_with fail
      go_ret
      exact ⟨by rw [sz_eq H1.out H0.out]; rfl, hW.2.2⟩
end Spc
end Go.Proofs.YtjhgjplhhhgfcaaGreat
