/- Package code: first: what it holds of memory. -/
import Derived.Test.YthibideapapcbaaDoorCodeI
namespace Go.Proofs.YthibideapapcbaaDoor
open Go.ChangeShapes Go.WideShapes Go.ChangeAt Go.RowKit
open Cod
set_option linter.unusedVariables false

theorem hold_box (w : World) (op : Int) (nar reg : Bool) (size dst src off imm : Int) (ht : Tabs w) : Hold w w.heap.size ⟨op, nar, reg, size, dst, src, off, imm⟩ (w.alloc (.cells #[.int .i64 op, .bool nar, .bool reg, .int .i64 size, .int .i64 dst, .int .i64 src, .int .i64 off, .int .i64 imm] 41)) := Hold.box w ⟨op, nar, reg, size, dst, src, off, imm⟩ ht
/-- what first holds of memory: the box, the tables, the block of its answer -/
def Hold2 (w0 : World) (g gr : Nat) (i : Ins) (w : World) : Prop := Hold w0 g i w ∧ Blk w gr 76 #[.int .i64 0, .int .i64 0, .int .i64 0, .int .i64 0, .int .i64 0] ∧ gr = g + 1 ∧ w0.heap.size = g ∧ 4 ≤ g
theorem Hold2.below {w0 wa wb : World} {g gr : Nat} {i : Ins} (h : Hold2 w0 g gr i wa) (hb : Below wa.heap.size wa wb) : Hold2 w0 g gr i wb := ⟨h.1.below hb, h.2.1.below hb h.2.1.lt, h.2.2⟩
theorem Hold2.drew {w0 w : World} {g gr : Nat} {i : Ins} (h : Hold2 w0 g gr i w) : Hold2 w0 g gr i w.drew := ⟨h.1.drew, h.2.1.drew, h.2.2⟩
theorem Hold2.alloc {w0 w : World} {g gr : Nat} {i : Ins} (h : Hold2 w0 g gr i w) (o : Obj) : Hold2 w0 g gr i (w.alloc o) := h.below (below_box _ _)
theorem Hold2.alloc_drew {w0 w : World} {g gr : Nat} {i : Ins} (h : Hold2 w0 g gr i w) (o : Obj) : Hold2 w0 g gr i (w.alloc o).drew := (h.alloc o).drew
theorem Hold2.setCell {w0 w : World} {g gr : Nat} {i : Ins} (h : Hold2 w0 g gr i w) {p : Addr} (hp : gr < p.block) (v : Value) : Hold2 w0 g gr i (w.setCell p v) := by
  obtain ⟨⟨h1, h2, h3, h4⟩, h5, h6, h7, h8⟩ := h
  have k : ∀ b, b < p.block → (w.setCell p v).heap[b]? = w.heap[b]? := fun b hb => Below.heap_setCell w p v b (by omega)
  have kc : ∀ b o, b < p.block → (w.setCell p v).cell? ⟨b, o, none⟩ = w.cell? ⟨b, o, none⟩ := fun b o hb => World.cell?_of_block (w := w) (k b hb)
  have hgp : g < p.block := by omega
  refine ⟨⟨?_, (k g hgp).trans h2, ⟨by simpa [World.setCell] using h3.lt, fun i hi => ?_, fun i hi => ?_, fun i hi => ?_⟩, h4.setCell (by omega) v⟩, (k gr hp).trans h5, h6, h7, h8⟩
  · obtain ⟨a0, a1, a2, a3, a4, a5, a6, a7⟩ := h1
    exact ⟨(kc _ _ hgp).trans a0, (kc _ _ hgp).trans a1, (kc _ _ hgp).trans a2, (kc _ _ hgp).trans a3, (kc _ _ hgp).trans a4, (kc _ _ hgp).trans a5, (kc _ _ hgp).trans a6, (kc _ _ hgp).trans a7⟩
  · rw [kc _ _ (by show 3 < _; omega)]; exact h3.sizes i hi
  · rw [kc _ _ (by show 1 < _; omega)]; exact h3.joins i hi
  · rw [kc _ _ (by show 2 < _; omega)]; exact h3.jumps i hi
theorem Hold2.set5 {w0 w : World} {g gr g2 : Nat} {i : Ins} (h : Hold2 w0 g gr i w) (hp : gr < g2) (a b c d e : Value) : Hold2 w0 g gr i (((((w.setCell ⟨g2, 0, none⟩ a).setCell ⟨g2, 1, none⟩ b).setCell ⟨g2, 2, none⟩ c).setCell ⟨g2, 3, none⟩ d).setCell ⟨g2, 4, none⟩ e) :=
  ((((h.setCell (p := ⟨g2, 0, none⟩) hp a).setCell (p := ⟨g2, 1, none⟩) hp b).setCell (p := ⟨g2, 2, none⟩) hp c).setCell (p := ⟨g2, 3, none⟩) hp d).setCell (p := ⟨g2, 4, none⟩) hp e
theorem hold9 {op : Int} {nar reg : Bool} {size dst src off imm : Int} {w0 w : World} {g gr : Nat} (h : Hold2 w0 g gr ⟨op, nar, reg, size, dst, src, off, imm⟩ w) :
    w.cell? ⟨g, 0, none⟩ = some (.int .i64 op) ∧ w.cell? ⟨g, 1, none⟩ = some (.bool nar) ∧ w.cell? ⟨g, 2, none⟩ = some (.bool reg) ∧ w.cell? ⟨g, 3, none⟩ = some (.int .i64 size) ∧ w.cell? ⟨g, 4, none⟩ = some (.int .i64 dst) ∧ w.cell? ⟨g, 5, none⟩ = some (.int .i64 src) ∧ w.cell? ⟨g, 6, none⟩ = some (.int .i64 off) ∧ w.cell? ⟨g, 7, none⟩ = some (.int .i64 imm) ∧ Hold2 w0 g gr ⟨op, nar, reg, size, dst, src, off, imm⟩ w := by
  obtain ⟨h0, h1, h2, h3, h4, h5, h6, h7, _⟩ := hold8 h.1
  exact ⟨h0, h1, h2, h3, h4, h5, h6, h7, h⟩
theorem opcode_h {w0 w : World} {g gr : Nat} {op : Int} {nar reg : Bool} {size dst src off imm : Int} (hop : 1 ≤ op ∧ op ≤ 39) (hs : 22 ≤ op → op ≤ 25 → size = 1 ∨ size = 2 ∨ size = 4 ∨ size = 8) (h : Hold2 w0 g gr ⟨op, nar, reg, size, dst, src, off, imm⟩ w) :
    Calls Tryd.prog 79 #[.agg #[.int .i64 op, .bool nar, .bool reg, .int .i64 size, .int .i64 dst, .int .i64 src, .int .i64 off, .int .i64 imm]] w fun e w' => e = .returned (.int .i64 (opcodeL op nar reg size)) ∧ Hold2 w0 g gr ⟨op, nar, reg, size, dst, src, off, imm⟩ w' ∧ Below w.heap.size w w' :=
  (opcode_any op nar reg size dst src off imm hop hs w h.1.2.2.1).mono fun _ _ ⟨h1, h2⟩ => ⟨h1, h.below h2, h2⟩
theorem cells5 {w : World} {g : Nat} {t : TypeId} {a b c d e : Value} (h : Blk w g t #[a, b, c, d, e]) :
    w.cell? ⟨g, 0, none⟩ = some a ∧ w.cell? ⟨g, 1, none⟩ = some b ∧ w.cell? ⟨g, 2, none⟩ = some c ∧ w.cell? ⟨g, 3, none⟩ = some d ∧ w.cell? ⟨g, 4, none⟩ = some e ∧
    w.frozen? ⟨g, 0, none⟩ = false ∧ w.frozen? ⟨g, 1, none⟩ = false ∧ w.frozen? ⟨g, 2, none⟩ = false ∧ w.frozen? ⟨g, 3, none⟩ = false ∧ w.frozen? ⟨g, 4, none⟩ = false := by
  refine ⟨?_, ?_, ?_, ?_, ?_, h.frozen 0, h.frozen 1, h.frozen 2, h.frozen 3, h.frozen 4⟩ <;> rw [h.cell] <;> rfl
/-- a block of five numbers that was made ahead of a call -/
theorem blk5 {w w1 : World} {g : Nat} (hg : w.heap.size = g) {t : TypeId} {a b c d e : Value} (hB : Below (w.alloc (.cells #[a, b, c, d, e] t)).drew.heap.size (w.alloc (.cells #[a, b, c, d, e] t)).drew w1) : Blk w1 g t #[a, b, c, d, e] := by
  subst hg
  exact (Blk.new w t #[a, b, c, d, e]).drew.below hB (by simp)
theorem set5 {w : World} {g : Nat} {t : TypeId} {a0 b0 c0 d0 e0 : Value} (h : Blk w g t #[a0, b0, c0, d0, e0]) (a b c d e : Value) : Blk (((((w.setCell ⟨g, 0, none⟩ a).setCell ⟨g, 1, none⟩ b).setCell ⟨g, 2, none⟩ c).setCell ⟨g, 3, none⟩ d).setCell ⟨g, 4, none⟩ e) g t #[a, b, c, d, e] :=
  ((((h.set_ 0 a).set_ 1 b).set_ 2 c).set_ 3 d).set_ 4 e
theorem hold2_start (w : World) (op : Int) (nar reg : Bool) (size dst src off imm : Int) (ht : Tabs w) : Hold2 w w.heap.size (w.heap.size + 1) ⟨op, nar, reg, size, dst, src, off, imm⟩ ((w.alloc (.cells #[.int .i64 op, .bool nar, .bool reg, .int .i64 size, .int .i64 dst, .int .i64 src, .int .i64 off, .int .i64 imm] 41)).alloc (.cells #[.int .i64 0, .int .i64 0, .int .i64 0, .int .i64 0, .int .i64 0] 76)) := by
  refine ⟨(hold_box w op nar reg size dst src off imm ht).below (below_box _ _), ?_, rfl, rfl, ht.lt⟩
  have := Blk.new (w.alloc (.cells #[.int .i64 op, .bool nar, .bool reg, .int .i64 size, .int .i64 dst, .int .i64 src, .int .i64 off, .int .i64 imm] 41)) 76 #[.int .i64 0, .int .i64 0, .int .i64 0, .int .i64 0, .int .i64 0]
  simpa using this
/-- what first has done when its unit stands in a block of its own -/
def Mid (w0 : World) (i : Ins) (oc : Int) (g2 : Nat) (w : World) : Prop := Hold2 w0 w0.heap.size (w0.heap.size + 1) i w ∧ Blk w g2 76 #[.int .i64 oc, .int .i64 i.dst, .int .i64 i.src, .int .i64 i.off, .int .i64 i.imm] ∧ w0.heap.size + 1 < g2
end Go.Proofs.YthibideapapcbaaDoor
