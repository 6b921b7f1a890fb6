/- sync.Once, one goroutine: the closure that writes the helpers' table, the slow road, Do; the roll of helpers. -/
import Derived.Test.YtjjoblomfjfgfaaHC
namespace Go.Proofs.Ytjjoblomfjfgfaa
open Go.ChangeShapes Go.WideShapes Go.ChangeAt Go.RowKit
set_option linter.unusedVariables false
set_option linter.unusedSimpArgs false

/-- behind the table's making: the closure's two blocks still stand -/
def FillS (w : World) (p g : Nat) (W : World) : Prop := Blk W p 52 #[.pointer (some ⟨g, 0, none⟩)] ∧ Below w.heap.size w W
/-- the closure that writes the table -/
theorem fill_any (w : World) (p g : Nat) (x : Value) (hp : Blk w p 52 #[.pointer (some ⟨g, 0, none⟩)]) (d st se : Value) (hg : Blk w g 67 #[d, st, se, x]) :
    Calls Try.prog 40 #[.pointer (some ⟨p, 0, none⟩)] w fun e w' => e = .returned (.tuple #[]) ∧ w' = ((w.alloc (.cells rollCells 69)).setCell ⟨g, 3, none⟩ (.slice (some ⟨w.heap.size, 0, none⟩) 9 9)).drew := by
  have hc0 : w.cell? ⟨p, 0, none⟩ = some (.pointer (some ⟨g, 0, none⟩)) := hp.cell 0
  have hc1 : ∀ o, (w.alloc o).cell? ⟨p, 0, none⟩ = some (.pointer (some ⟨g, 0, none⟩)) := fun o => (hp.alloc o).cell 0
  have hx1 : ∀ o, (w.alloc o).cell? ⟨g, 3, none⟩ = some x := fun o => (hg.alloc o).cell 3
  have hf1 : ∀ o, (w.alloc o).frozen? ⟨g, 3, none⟩ = false := fun o => (hg.alloc o).frozen 3
  have hne : p ≠ g := hp.ne_ hg (by decide)
  have hc2 : ∀ o v, ((w.alloc o).setCell ⟨g, 3, none⟩ v).drew.cell? ⟨p, 0, none⟩ = some (.pointer (some ⟨g, 0, none⟩)) := fun o v => (((hp.alloc o).far (p := ⟨g, 3, none⟩) hne v).drew).cell 0
  have hal := all_any
  generalize rollCells = R at *
  go_enter Try.func40, Try.ntmps40
  go_upto_region 0 with (fail)
  go_region_held3 (fun W => W.cell? ⟨p, 0, none⟩ = some (.pointer (some ⟨g, 0, none⟩)))
    (first | exact hc0 | exact hc1 _ | exact hc2 _ _)
    (first | (go_at_call 41; refine (hal _).mono ?_; rintro e w1 ⟨rfl, rfl⟩; have hcx := hx1 (.cells R 69); have hfx := hf1 (.cells R 69)) | fail)
  all_goals (go_end0; exact ⟨rfl, rfl⟩)

theorem runNot (x : Bool) (w : World) : (Op.unary .not (.bool x)).run Try.prog w = .ok (.bool (!x)) w := rfl

/-- the roll's block, written -/
def Written (w : World) (g k : Nat) : Prop := Blk w g 67 #[.int .u32 1, .int .i32 0, .int .u32 0, .slice (some ⟨k, 0, none⟩) 9 9] ∧ Blk w k 69 rollCells ∧ k ≠ g
/-- the roll's block, not yet written -/
def Unwritten (w : World) (g : Nat) : Prop := Blk w g 67 #[.int .u32 0, .int .i32 0, .int .u32 0, .slice none 0 0]

set_option maxRecDepth 100000 in
set_option maxHeartbeats 1600000 in
theorem slow_any (p g : Nat) (w : World) (hp : Blk w p 52 #[.pointer (some ⟨g, 0, none⟩)]) (hg : Unwritten w g) (base : Nat) (hbase : base ≤ g) :
    Calls Try.prog 43 #[.pointer (some ⟨g, 0, none⟩), .func (.func 40) #[] #[.pointer (some ⟨p, 0, none⟩)]] w fun e w' => e = .returned (.tuple #[]) ∧
      ∃ k, Written w' g k ∧ base ≤ k ∧ Blk w' p 52 #[.pointer (some ⟨g, 0, none⟩)] ∧ Below base w w' := by
  have hne : p ≠ g := hp.ne_ hg (by decide)
  have hlt := hg.lt
  have hlk := lock_free ⟨g, 1, none⟩ w (hg.cell 1) (hg.frozen 1)
  have hg1 : Blk (w.setCell ⟨g, 1, none⟩ (.int .i32 1)) g 67 #[.int .u32 0, .int .i32 1, .int .u32 0, .slice none 0 0] := hg.set_ 1 _
  have hp1 : Blk (w.setCell ⟨g, 1, none⟩ (.int .i32 1)) p 52 #[.pointer (some ⟨g, 0, none⟩)] := hp.far (p := ⟨g, 1, none⟩) hne _
  have hB1 : Below base w (w.setCell ⟨g, 1, none⟩ (.int .i32 1)) := (Below.refl _ _).setCell hbase _
  clear hg hp
  generalize w.setCell ⟨g, 1, none⟩ (.int .i32 1) = w1 at *
  have hl := run_call_load (P := Try.prog) Try.func44 (by kernel_rfl) (by kernel_rfl) (by kernel_rfl) .u32 (by kernel_rfl) (w := w1) (a := ⟨g, 0, none⟩) (x := 0) (hg1.cell 0)
  have hfill := fill_any w1 p g _ hp1 _ _ _ hg1
  have hnot := runNot
  go_enter_defers Try.func43, Try.ntmps43
  go_wp2_with (first | (go_at_call 45; refine hlk.mono ?_; rintro e w' ⟨rfl, rfl⟩) | (go_at_call 42; go_in))
  refine hfill.mono ?_
  rintro e W2 ⟨rfl, hW2⟩
  have hlt1 := hg1.lt
  have hltp := hp1.lt
  have hgk : w'.heap.size ≠ g := by omega
  have hpk : p ≠ w'.heap.size := by omega
  have hg2 : Blk W2 g 67 #[.int .u32 0, .int .i32 1, .int .u32 0, .slice (some ⟨w'.heap.size, 0, none⟩) 9 9] := by
    rw [hW2]; exact ((hg1.alloc _).set_ 3 _).drew
  have hk2 : Blk W2 w'.heap.size 69 rollCells := by
    rw [hW2]; exact ((Blk.new w' _ _).far (p := ⟨g, 3, none⟩) hgk _).drew
  have hp2 : Blk W2 p 52 #[.pointer (some ⟨g, 0, none⟩)] := by
    rw [hW2]; exact ((hp1.alloc _).far (p := ⟨g, 3, none⟩) hne _).drew
  have hB2 : Below base w W2 := by
    rw [hW2]; exact ((hB1.alloc (by omega) _).setCell hbase _).drew
  have hbk : base ≤ w'.heap.size := by omega
  generalize w'.heap.size = k at *
  clear hW2 hfill hg1 hp1 hB1 hl hlk
  go_wp2
  refine leaves_cons (f := 47) (args := #[.pointer (some ⟨g, 0, none⟩), .bool true]) (by simp) (by simp [go_sem]) ?_
  refine (store_deferred ⟨g, 0, none⟩ (.int .u32 0) .returning _ (hg2.cell 0) (hg2.frozen 0)).mono ?_
  rintro e u' w3 ⟨rfl, rfl, hW3⟩
  have hg3 : Blk w3 g 67 #[.int .u32 1, .int .i32 1, .int .u32 0, .slice (some ⟨k, 0, none⟩) 9 9] := by
    rw [hW3]; exact hg2.drew.set_ 0 _
  have hk3 : Blk w3 k 69 rollCells := by
    rw [hW3]; exact hk2.drew.far (p := ⟨g, 0, none⟩) hgk _
  have hp3 : Blk w3 p 52 #[.pointer (some ⟨g, 0, none⟩)] := by
    rw [hW3]; exact hp2.drew.far (p := ⟨g, 0, none⟩) hne _
  have hB3 : Below base w w3 := by
    rw [hW3]; exact hB2.drew.setCell hbase _
  refine leaves_cons (f := 46) (args := #[.pointer (some ⟨g, 1, none⟩)]) (by simp [settle]) (by simp [go_sem]) ?_
  refine (unlock_deferred ⟨g, 1, none⟩ _ _ (hg3.cell 1) (hg3.frozen 1)).mono ?_
  rintro e u' w4 ⟨rfl, rfl, hW4⟩
  have hg4 : Blk w4 g 67 #[.int .u32 1, .int .i32 0, .int .u32 0, .slice (some ⟨k, 0, none⟩) 9 9] := by
    rw [hW4]; exact hg3.set_ 1 _
  have hk4 : Blk w4 k 69 rollCells := by
    rw [hW4]; exact hk3.far (p := ⟨g, 1, none⟩) hgk _
  have hp4 : Blk w4 p 52 #[.pointer (some ⟨g, 0, none⟩)] := by
    rw [hW4]; exact hp3.far (p := ⟨g, 1, none⟩) hne _
  have hB4 : Below base w w4 := by
    rw [hW4]; exact hB3.setCell hbase _
  have hfin : ∃ k, Written w4 g k ∧ base ≤ k ∧ Blk w4 p 52 #[.pointer (some ⟨g, 0, none⟩)] ∧ Below base w w4 := ⟨k, ⟨hg4, hk4, hgk⟩, hbk, hp4, hB4⟩
  clear hg4 hk4 hp4 hB4 hW4 hg3 hk3 hp3 hB3 hg2 hk2 hp2 hB2 hW3
  simp [Leaves, settle, results, Try.results43]
  exact hfin
end Go.Proofs.Ytjjoblomfjfgfaa
