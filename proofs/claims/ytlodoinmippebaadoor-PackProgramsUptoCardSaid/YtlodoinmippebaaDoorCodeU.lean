/- Package code: touching, told, operation. -/
import Derived.Test.YtlodoinmippebaaDoorCodeV
import Derived.Test.YtlodoinmippebaaDoorCodeQR
namespace Go.Proofs.YtlodoinmippebaaDoor
open Go.ChangeShapes Go.WideShapes Go.ChangeAt Go.RowKit
open Cod Bits
set_option linter.unusedVariables false

def chk5 : Bool := (List.range 256).all fun c => (bits BinOp.and IntKind.i64 (c : Int) 24 / 8 == (c : Int) / 8 % 4) && (bits BinOp.andNot IntKind.i64 (c : Int) 24 == (c : Int) - 8 * ((c : Int) / 8 % 4)) && ((bits BinOp.and IntKind.i64 (c : Int) 8 != 0) == ((c : Int) / 8 % 2 == 1)) && (bits BinOp.and IntKind.i64 (c : Int) 7 == (c : Int) % 8)
theorem chk5_ok : chk5 = true := by kernel_rfl
theorem oc_bits {c : Int} (h : 0 ≤ c ∧ c < 256) : bits BinOp.and IntKind.i64 c 24 / 8 = c / 8 % 4 ∧ bits BinOp.andNot IntKind.i64 c 24 = c - 8 * (c / 8 % 4) ∧ (bits BinOp.and IntKind.i64 c 8 != 0) = (c / 8 % 2 == 1) ∧ bits BinOp.and IntKind.i64 c 7 = c % 8 := by
  have h3 := chk5_ok
  unfold chk5 at h3
  rw [List.all_eq_true] at h3
  obtain ⟨n, rfl⟩ := Int.eq_ofNat_of_zero_le h.1
  have h4 := h3 n (List.mem_range.2 (by omega))
  rw [Bool.and_eq_true, Bool.and_eq_true, Bool.and_eq_true] at h4
  exact ⟨eq_of_beq h4.1.1.1, eq_of_beq h4.1.1.2, eq_of_beq h4.1.2, eq_of_beq h4.2⟩
theorem set8 {w : World} {g : Nat} {t : TypeId} {a0 b0 c0 d0 e0 f0 g0 h0 : Value} (h : Blk w g t #[a0, b0, c0, d0, e0, f0, g0, h0]) (a b c d e f k l : Value) : Blk ((((((((w.setCell ⟨g, 0, none⟩ a).setCell ⟨g, 1, none⟩ b).setCell ⟨g, 2, none⟩ c).setCell ⟨g, 3, none⟩ d).setCell ⟨g, 4, none⟩ e).setCell ⟨g, 5, none⟩ f).setCell ⟨g, 6, none⟩ k).setCell ⟨g, 7, none⟩ l) g t #[a, b, c, d, e, f, k, l] := by
  have h1 : Blk (w.setCell ⟨g, 0, none⟩ a) g t #[a, b0, c0, d0, e0, f0, g0, h0] := h.set_ 0 a
  have h2 : Blk ((w.setCell ⟨g, 0, none⟩ a).setCell ⟨g, 1, none⟩ b) g t #[a, b, c0, d0, e0, f0, g0, h0] := h1.set_ 1 b
  generalize ((w.setCell ⟨g, 0, none⟩ a).setCell ⟨g, 1, none⟩ b) = w2 at *
  have h3 : Blk (w2.setCell ⟨g, 2, none⟩ c) g t #[a, b, c, d0, e0, f0, g0, h0] := h2.set_ 2 c
  have h4 : Blk ((w2.setCell ⟨g, 2, none⟩ c).setCell ⟨g, 3, none⟩ d) g t #[a, b, c, d, e0, f0, g0, h0] := h3.set_ 3 d
  generalize ((w2.setCell ⟨g, 2, none⟩ c).setCell ⟨g, 3, none⟩ d) = w4 at *
  have h5 : Blk (w4.setCell ⟨g, 4, none⟩ e) g t #[a, b, c, d, e, f0, g0, h0] := h4.set_ 4 e
  have h6 : Blk ((w4.setCell ⟨g, 4, none⟩ e).setCell ⟨g, 5, none⟩ f) g t #[a, b, c, d, e, f, g0, h0] := h5.set_ 5 f
  generalize ((w4.setCell ⟨g, 4, none⟩ e).setCell ⟨g, 5, none⟩ f) = w6 at *
  have h7 : Blk (w6.setCell ⟨g, 6, none⟩ k) g t #[a, b, c, d, e, f, k, h0] := h6.set_ 6 k
  exact h7.set_ 7 l
theorem below8 {B g : Nat} {a w : World} (h : Below B a w) (hg : B ≤ g) (x0 x1 x2 x3 x4 x5 x6 x7 : Value) : Below B a ((((((((w.setCell ⟨g, 0, none⟩ x0).setCell ⟨g, 1, none⟩ x1).setCell ⟨g, 2, none⟩ x2).setCell ⟨g, 3, none⟩ x3).setCell ⟨g, 4, none⟩ x4).setCell ⟨g, 5, none⟩ x5).setCell ⟨g, 6, none⟩ x6).setCell ⟨g, 7, none⟩ x7) :=
  (((((((h.setCell (p := ⟨g, 0, none⟩) hg x0).setCell (p := ⟨g, 1, none⟩) hg x1).setCell (p := ⟨g, 2, none⟩) hg x2).setCell (p := ⟨g, 3, none⟩) hg x3).setCell (p := ⟨g, 4, none⟩) hg x4).setCell (p := ⟨g, 5, none⟩) hg x5).setCell (p := ⟨g, 6, none⟩) hg x6).setCell (p := ⟨g, 7, none⟩) hg x7
theorem cells8 {w : World} {g : Nat} {t : TypeId} {a b c d e f k l : Value} (h : Blk w g t #[a, b, c, d, e, f, k, l]) :
    (w.cell? ⟨g, 0, none⟩ = some a ∧ w.cell? ⟨g, 1, none⟩ = some b ∧ w.cell? ⟨g, 2, none⟩ = some c ∧ w.cell? ⟨g, 3, none⟩ = some d ∧ w.cell? ⟨g, 4, none⟩ = some e ∧ w.cell? ⟨g, 5, none⟩ = some f ∧ w.cell? ⟨g, 6, none⟩ = some k ∧ w.cell? ⟨g, 7, none⟩ = some l) ∧
    (w.frozen? ⟨g, 0, none⟩ = false ∧ w.frozen? ⟨g, 1, none⟩ = false ∧ w.frozen? ⟨g, 2, none⟩ = false ∧ w.frozen? ⟨g, 3, none⟩ = false ∧ w.frozen? ⟨g, 4, none⟩ = false ∧ w.frozen? ⟨g, 5, none⟩ = false ∧ w.frozen? ⟨g, 6, none⟩ = false ∧ w.frozen? ⟨g, 7, none⟩ = false) := by
  refine ⟨⟨?_, ?_, ?_, ?_, ?_, ?_, ?_, ?_⟩, ⟨h.frozen 0, h.frozen 1, h.frozen 2, h.frozen 3, h.frozen 4, h.frozen 5, h.frozen 6, h.frozen 7⟩⟩ <;> rw [h.cell] <;> rfl
abbrev ins8 (op : Int) (nar reg : Bool) (size dst src off imm : Int) : Array Value := #[.int .i64 op, .bool nar, .bool reg, .int .i64 size, .int .i64 dst, .int .i64 src, .int .i64 off, .int .i64 imm]

theorem below_box2 (w : World) (o o2 : Obj) : Below w.heap.size w ((w.alloc o).alloc o2) := (below_box w o).alloc (by simp) o2
set_option maxHeartbeats 1000000 in
theorem touching_core (c : Int) (k : Nat) (hk : k < 4) (m s : Int) (h1 : bits BinOp.and IntKind.i64 c 24 / 8 = (k : Int)) (h2 : bits BinOp.andNot IntKind.i64 c 24 = m) (hs : sizeT.getD k 0 = s) (w : World) (ht : Tabs w) :
    Calls Tryd.prog 126 #[.int .i64 c] w fun e w' => e = .returned (.agg (ins8 (touchOp m) false (m == 99) s 0 0 0 0)) ∧ Below w.heap.size w w' := by
  have hcell := ht.sizes k hk
  rw [hs] at hcell
  have hlt := ht.lt
  have hk0 : (0 : Int) ≤ (k : Int) := by omega
  have hk4 : (k : Int) < 4 := by omega
  have hc1 := cell_kept (o := .cells (ins8 0 false false 0 0 0 0 0) 71) (by omega : 0 < w.heap.size) hcell
  clear ht hcell
  go_enter Tryd.func126, Tryd.ntmps126
  by_cases e97 : m = 97
  · subst e97
    go_wp2_with fail
    exact bodyPost_ret (v := .agg (ins8 22 false false s 0 0 0 0)) (results_cell_row Tryd.results126 _ _ w.heap.size 71 (ins8 22 false false s 0 0 0 0) (0, 0) _ rfl ((Blk.new w _ _).alloc _) Tryd.underlying71 rfl (by kernel_rfl)) rfl ⟨rfl, below_box2 w _ _⟩
  by_cases e129 : m = 129
  · subst e129
    go_wp2_with fail
    exact bodyPost_ret (v := .agg (ins8 23 false false s 0 0 0 0)) (results_cell_row Tryd.results126 _ _ w.heap.size 71 (ins8 23 false false s 0 0 0 0) (0, 0) _ rfl ((Blk.new w _ _).alloc _) Tryd.underlying71 rfl (by kernel_rfl)) rfl ⟨rfl, below_box2 w _ _⟩
  by_cases e98 : m = 98
  · subst e98
    go_wp2_with fail
    exact bodyPost_ret (v := .agg (ins8 24 false false s 0 0 0 0)) (results_cell_row Tryd.results126 _ _ w.heap.size 71 (ins8 24 false false s 0 0 0 0) (0, 0) _ rfl ((Blk.new w _ _).alloc _) Tryd.underlying71 rfl (by kernel_rfl)) rfl ⟨rfl, below_box2 w _ _⟩
  by_cases e99 : m = 99
  · subst e99
    go_wp2_with fail
    exact bodyPost_ret (v := .agg (ins8 24 false true s 0 0 0 0)) (results_cell_row Tryd.results126 _ _ w.heap.size 71 (ins8 24 false true s 0 0 0 0) (0, 0) _ rfl ((Blk.new w _ _).alloc _) Tryd.underlying71 rfl (by kernel_rfl)) rfl ⟨rfl, below_box2 w _ _⟩
  by_cases e195 : m = 195
  · subst e195
    go_wp2_with fail
    exact bodyPost_ret (v := .agg (ins8 25 false false s 0 0 0 0)) (results_cell_row Tryd.results126 _ _ w.heap.size 71 (ins8 25 false false s 0 0 0 0) (0, 0) _ rfl ((Blk.new w _ _).alloc _) Tryd.underlying71 rfl (by kernel_rfl)) rfl ⟨rfl, below_box2 w _ _⟩
  have t97 : (m == 97) = false := by rw [beq_eq_false_iff_ne]; exact e97
  have t129 : (m == 129) = false := by rw [beq_eq_false_iff_ne]; exact e129
  have t98 : (m == 98) = false := by rw [beq_eq_false_iff_ne]; exact e98
  have t99 : (m == 99) = false := by rw [beq_eq_false_iff_ne]; exact e99
  have t195 : (m == 195) = false := by rw [beq_eq_false_iff_ne]; exact e195
  have ht0 : touchOp m = 0 := by unfold touchOp; rw [if_neg e97, if_neg e129, if_neg e98, if_neg e99, if_neg e195]
  rw [ht0, t99]
  clear ht0 e97 e129 e98 e99 e195
  go_wp2_with fail
  exact bodyPost_ret (v := .agg (ins8 0 false false s 0 0 0 0)) (results_cell_row Tryd.results126 _ _ w.heap.size 71 (ins8 0 false false s 0 0 0 0) (0, 0) _ rfl ((Blk.new w _ _).alloc _) Tryd.underlying71 rfl (by kernel_rfl)) rfl ⟨rfl, below_box2 w _ _⟩

set_option maxHeartbeats 1000000 in
theorem told_arith (c : Int) (dn : Nat) (kk : Int) (reg : Bool) (hkk : kk = 4 ∨ kk = 7) (hd : dn < 13) (op : Int) (hop : joinT.getD dn 0 = op) (h1 : (bits BinOp.and IntKind.i64 c 8 != 0) = reg) (h2 : bits BinOp.and IntKind.i64 c 7 = kk) (h3 : c / 16 = (dn : Int)) (w : World) (ht : Tabs w) :
    Calls Tryd.prog 117 #[.int .i64 c] w fun e w' => e = .returned (.agg (ins8 op (kk == 4) reg 0 0 0 0 0)) ∧ Below w.heap.size w w' := by
  have hcell := ht.joins dn hd
  rw [hop] at hcell
  have hlt := ht.lt
  have hk0 : (0 : Int) ≤ (dn : Int) := by omega
  have hk4 : (dn : Int) < 13 := by omega
  have hc1 := cell_kept (o := .cells (ins8 0 false false 0 0 0 0 0) 71) (by omega : 1 < w.heap.size) hcell
  clear ht hcell hop
  rcases hkk with rfl | rfl <;> cases reg
  · go_enter Tryd.func117, Tryd.ntmps117
    go_wp2_with fail
    exact bodyPost_ret (v := .agg (ins8 op true false 0 0 0 0 0)) (results_cell_row Tryd.results117 _ _ w.heap.size 71 (ins8 op true false 0 0 0 0 0) (0, 0) _ rfl (Blk.new w _ _) Tryd.underlying71 rfl (by kernel_rfl)) rfl ⟨rfl, below_box w _⟩
  · go_enter Tryd.func117, Tryd.ntmps117
    go_wp2_with fail
    exact bodyPost_ret (v := .agg (ins8 op true true 0 0 0 0 0)) (results_cell_row Tryd.results117 _ _ w.heap.size 71 (ins8 op true true 0 0 0 0 0) (0, 0) _ rfl (Blk.new w _ _) Tryd.underlying71 rfl (by kernel_rfl)) rfl ⟨rfl, below_box w _⟩
  · go_enter Tryd.func117, Tryd.ntmps117
    go_wp2_with fail
    exact bodyPost_ret (v := .agg (ins8 op false false 0 0 0 0 0)) (results_cell_row Tryd.results117 _ _ w.heap.size 71 (ins8 op false false 0 0 0 0 0) (0, 0) _ rfl (Blk.new w _ _) Tryd.underlying71 rfl (by kernel_rfl)) rfl ⟨rfl, below_box w _⟩
  · go_enter Tryd.func117, Tryd.ntmps117
    go_wp2_with fail
    exact bodyPost_ret (v := .agg (ins8 op false true 0 0 0 0 0)) (results_cell_row Tryd.results117 _ _ w.heap.size 71 (ins8 op false true 0 0 0 0 0) (0, 0) _ rfl (Blk.new w _ _) Tryd.underlying71 rfl (by kernel_rfl)) rfl ⟨rfl, below_box w _⟩
set_option maxHeartbeats 1000000 in
theorem told_jump (c : Int) (dn : Nat) (kk : Int) (reg : Bool) (hkk : kk = 5 ∨ kk = 6) (hd : dn < 14) (op : Int) (hop : jumpT.getD dn 0 = op) (h1 : (bits BinOp.and IntKind.i64 c 8 != 0) = reg) (h2 : bits BinOp.and IntKind.i64 c 7 = kk) (h3 : c / 16 = (dn : Int)) (w : World) (ht : Tabs w) :
    Calls Tryd.prog 117 #[.int .i64 c] w fun e w' => e = .returned (.agg (ins8 op (kk == 6) reg 0 0 0 0 0)) ∧ Below w.heap.size w w' := by
  have hcell := ht.jumps dn hd
  rw [hop] at hcell
  have hlt := ht.lt
  have hk0 : (0 : Int) ≤ (dn : Int) := by omega
  have hk4 : (dn : Int) < 14 := by omega
  have hc1 := cell_kept (o := .cells (ins8 0 false false 0 0 0 0 0) 71) (by omega : 2 < w.heap.size) hcell
  clear ht hcell hop
  rcases hkk with rfl | rfl <;> cases reg
  · go_enter Tryd.func117, Tryd.ntmps117
    go_wp2_with fail
    exact bodyPost_ret (v := .agg (ins8 op false false 0 0 0 0 0)) (results_cell_row Tryd.results117 _ _ w.heap.size 71 (ins8 op false false 0 0 0 0 0) (0, 0) _ rfl (Blk.new w _ _) Tryd.underlying71 rfl (by kernel_rfl)) rfl ⟨rfl, below_box w _⟩
  · go_enter Tryd.func117, Tryd.ntmps117
    go_wp2_with fail
    exact bodyPost_ret (v := .agg (ins8 op false true 0 0 0 0 0)) (results_cell_row Tryd.results117 _ _ w.heap.size 71 (ins8 op false true 0 0 0 0 0) (0, 0) _ rfl (Blk.new w _ _) Tryd.underlying71 rfl (by kernel_rfl)) rfl ⟨rfl, below_box w _⟩
  · go_enter Tryd.func117, Tryd.ntmps117
    go_wp2_with fail
    exact bodyPost_ret (v := .agg (ins8 op true false 0 0 0 0 0)) (results_cell_row Tryd.results117 _ _ w.heap.size 71 (ins8 op true false 0 0 0 0 0) (0, 0) _ rfl (Blk.new w _ _) Tryd.underlying71 rfl (by kernel_rfl)) rfl ⟨rfl, below_box w _⟩
  · go_enter Tryd.func117, Tryd.ntmps117
    go_wp2_with fail
    exact bodyPost_ret (v := .agg (ins8 op true true 0 0 0 0 0)) (results_cell_row Tryd.results117 _ _ w.heap.size 71 (ins8 op true true 0 0 0 0 0) (0, 0) _ rfl (Blk.new w _ _) Tryd.underlying71 rfl (by kernel_rfl)) rfl ⟨rfl, below_box w _⟩

set_option maxHeartbeats 1000000 in
theorem told_none (c : Int) (kk d : Int) (hkk : (kk = 4 ∨ kk = 7) ∧ ¬ d < 13 ∨ (kk = 5 ∨ kk = 6) ∧ ¬ d < 14) (h2 : bits BinOp.and IntKind.i64 c 7 = kk) (h3 : c / 16 = d) (w : World) :
    Calls Tryd.prog 117 #[.int .i64 c] w fun e w' => e = .returned (.agg (ins8 0 false false 0 0 0 0 0)) ∧ Below w.heap.size w w' := by
  rcases hkk with ⟨rfl | rfl, h⟩ | ⟨rfl | rfl, h⟩
  · have hdd : decide (d < 13) = false := decide_eq_false h
    go_enter Tryd.func117, Tryd.ntmps117
    go_wp2_with fail
    exact bodyPost_ret (v := .agg (ins8 0 false false 0 0 0 0 0)) (results_cell_row Tryd.results117 _ _ w.heap.size 71 (ins8 0 false false 0 0 0 0 0) (0, 0) _ rfl (Blk.new w _ _) Tryd.underlying71 rfl (by kernel_rfl)) rfl ⟨rfl, below_box w _⟩
  · have hdd : decide (d < 13) = false := decide_eq_false h
    go_enter Tryd.func117, Tryd.ntmps117
    go_wp2_with fail
    exact bodyPost_ret (v := .agg (ins8 0 false false 0 0 0 0 0)) (results_cell_row Tryd.results117 _ _ w.heap.size 71 (ins8 0 false false 0 0 0 0 0) (0, 0) _ rfl (Blk.new w _ _) Tryd.underlying71 rfl (by kernel_rfl)) rfl ⟨rfl, below_box w _⟩
  · have hdd : decide (d < 14) = false := decide_eq_false h
    go_enter Tryd.func117, Tryd.ntmps117
    go_wp2_with fail
    exact bodyPost_ret (v := .agg (ins8 0 false false 0 0 0 0 0)) (results_cell_row Tryd.results117 _ _ w.heap.size 71 (ins8 0 false false 0 0 0 0 0) (0, 0) _ rfl (Blk.new w _ _) Tryd.underlying71 rfl (by kernel_rfl)) rfl ⟨rfl, below_box w _⟩
  · have hdd : decide (d < 14) = false := decide_eq_false h
    go_enter Tryd.func117, Tryd.ntmps117
    go_wp2_with fail
    exact bodyPost_ret (v := .agg (ins8 0 false false 0 0 0 0 0)) (results_cell_row Tryd.results117 _ _ w.heap.size 71 (ins8 0 false false 0 0 0 0 0) (0, 0) _ rfl (Blk.new w _ _) Tryd.underlying71 rfl (by kernel_rfl)) rfl ⟨rfl, below_box w _⟩

set_option maxHeartbeats 1000000 in
theorem told_touch (c : Int) (kk : Int) (hkk : kk ≠ 4 ∧ kk ≠ 7 ∧ kk ≠ 5 ∧ kk ≠ 6) (op : Int) (reg : Bool) (s : Int) (h2 : bits BinOp.and IntKind.i64 c 7 = kk) (w : World)
    (hT : ∀ w1, Below w.heap.size w w1 → w.heap.size ≤ w1.heap.size → Calls Tryd.prog 126 #[.int .i64 c] w1 fun e w' => e = .returned (.agg (ins8 op false reg s 0 0 0 0)) ∧ Below w1.heap.size w1 w') :
    Calls Tryd.prog 117 #[.int .i64 c] w fun e w' => e = .returned (.agg (ins8 op false reg s 0 0 0 0)) ∧ Below w.heap.size w w' := by
  have HT := Lib.hid (hT (w.alloc (.cells (ins8 0 false false 0 0 0 0 0) 71)) (below_box _ _) (by simp))
  have t4 : (kk == 4) = false := by rw [beq_eq_false_iff_ne]; exact hkk.1
  have t7 : (kk == 7) = false := by rw [beq_eq_false_iff_ne]; exact hkk.2.1
  have t5 : (kk == 5) = false := by rw [beq_eq_false_iff_ne]; exact hkk.2.2.1
  have t6 : (kk == 6) = false := by rw [beq_eq_false_iff_ne]; exact hkk.2.2.2
  have HB := Lib.hid (Blk.new w 71 (ins8 0 false false 0 0 0 0 0))
  clear hT hkk
  go_enter Tryd.func117, Tryd.ntmps117
  go_wp2_with fail
  go_at_call 126
  refine HT.out.mono ?_
  rintro e w1 ⟨rfl, hB⟩
  have hb := HB.out.below hB (by simp)
  obtain ⟨⟨c0, c1, c2, c3, c4, c5, c6, c7⟩, f0, f1, f2, f3, f4, f5, f6, f7⟩ := cells8 hb
  have HR := Lib.hid (fun a b c d e f k l => set8 hb a b c d e f k l)
  have HW := Lib.hid (below8 (g := w.heap.size) (Below.box hB) (Nat.le_refl _))
  clear hb hB HB HT
  go_wp2_with fail
  exact bodyPost_ret (v := .agg (ins8 op false reg s 0 0 0 0)) (results_cell_row Tryd.results117 _ _ w.heap.size 71 (ins8 op false reg s 0 0 0 0) (0, 0) _ rfl (HR.out _ _ _ _ _ _ _ _) Tryd.underlying71 rfl (by kernel_rfl)) rfl ⟨rfl, HW.out _ _ _ _ _ _ _ _⟩

def Ins.arr (i : Ins) : Array Value := ins8 i.op i.nar i.reg i.size i.dst i.src i.off i.imm
theorem told_any (c : Int) (hc : 0 ≤ c ∧ c < 256) (w : World) (ht : Tabs w) :
    Calls Tryd.prog 117 #[.int .i64 c] w fun e w' => e = .returned (.agg (toldL c).arr) ∧ Below w.heap.size w w' := by
  obtain ⟨h1, h2, h3, h4⟩ := oc_bits hc
  obtain ⟨dn, hdn⟩ := Int.eq_ofNat_of_zero_le (show 0 ≤ c / 16 by omega)
  have hdt : (c / 16).toNat = dn := by omega
  unfold toldL
  by_cases k1 : c % 8 = 4 ∨ c % 8 = 7
  · rw [if_pos k1]
    by_cases d1 : c / 16 < 13
    · rw [if_pos d1, hdt]
      exact told_arith c dn (c % 8) (c / 8 % 2 == 1) k1 (by omega) _ rfl h3 h4 hdn w ht
    · rw [if_neg d1]
      exact told_none c (c % 8) (c / 16) (.inl ⟨k1, d1⟩) h4 rfl w
  · rw [if_neg k1]
    by_cases k2 : c % 8 = 5 ∨ c % 8 = 6
    · rw [if_pos k2]
      by_cases d1 : c / 16 < 14
      · rw [if_pos d1, hdt]
        exact told_jump c dn (c % 8) (c / 8 % 2 == 1) k2 (by omega) _ rfl h3 h4 hdn w ht
      · rw [if_neg d1]
        exact told_none c (c % 8) (c / 16) (.inr ⟨k2, d1⟩) h4 rfl w
    · rw [if_neg k2]
      obtain ⟨kn, hkn⟩ := Int.eq_ofNat_of_zero_le (show 0 ≤ c / 8 % 4 by omega)
      have hkt : (c / 8 % 4).toNat = kn := by omega
      unfold touchL
      rw [hkt]
      refine told_touch c (c % 8) (by omega) _ _ _ h4 w fun w1 hB hs => ?_
      exact touching_core c kn (by omega) (c - 8 * (c / 8 % 4)) _ (h1.trans hkn) h2 rfl w1 (ht.below hB)
set_option maxHeartbeats 2000000 in
theorem operation_else (c : Int) (hn : c ≠ 24 ∧ c ≠ 212 ∧ c ≠ 220 ∧ c ≠ 215) (op : Int) (nar reg : Bool) (size dst src off imm : Int) (w : World)
    (hT : Calls Tryd.prog 117 #[.int .i64 c] (w.alloc (.cells (ins8 0 false false 0 0 0 0 0) 71)) fun e w' => e = .returned (.agg (ins8 op nar reg size dst src off imm)) ∧ Below (w.alloc (.cells (ins8 0 false false 0 0 0 0 0) 71)).heap.size (w.alloc (.cells (ins8 0 false false 0 0 0 0 0) 71)) w') :
    Calls Tryd.prog 92 #[.int .i64 c] w fun e w' => e = .returned (.agg (if operatesL op nar reg size = true then ins8 op nar reg size dst src off imm else ins8 0 false false 0 0 0 0 0)) ∧ Below w.heap.size w w' := by
  have HT := Lib.hid hT
  have t4 : (c == 24) = false := by rw [beq_eq_false_iff_ne]; exact hn.1
  have t7 : (c == 212) = false := by rw [beq_eq_false_iff_ne]; exact hn.2.1
  have t5 : (c == 220) = false := by rw [beq_eq_false_iff_ne]; exact hn.2.2.1
  have t6 : (c == 215) = false := by rw [beq_eq_false_iff_ne]; exact hn.2.2.2
  have HB := Lib.hid (Blk.new w 71 (ins8 0 false false 0 0 0 0 0))
  have HO := Lib.hid (fun w => operates_any op nar reg size dst src off imm w)
  clear hT hn
  generalize hl : operatesL op nar reg size = ok at *
  clear hl
  go_enter Tryd.func92, Tryd.ntmps92
  go_wp2_with fail
  go_at_call 117
  refine HT.out.mono ?_
  rintro e w1 ⟨rfl, hB⟩
  have hb := HB.out.below hB (by simp)
  have hBB := Below.box hB
  have hb1 := Blk.new w1 71 (ins8 op nar reg size dst src off imm)
  have HB1 := Lib.hid hb
  have HB2 := Lib.hid hb1
  have HBB := Lib.hid hBB
  clear hb hb1 hB hBB HT HB
  go_wp2_with fail
  go_at_call 103
  refine (HO.out _).mono ?_
  rintro e w2 ⟨rfl, hB⟩
  have hlt := HB1.out.lt
  have hb := (HB1.out.alloc _).below hB (by simp; omega)
  have hb1 := HB2.out.below hB (by simp)
  have hBB := HBB.out.trans (((below_box w1 _).trans (hB.mono (by simp))).mono HBB.out.size)
  obtain ⟨⟨c0, c1, c2, c3, c4, c5, c6, c7⟩, f0, f1, f2, f3, f4, f5, f6, f7⟩ := cells8 hb
  obtain ⟨⟨d0, d1, d2, d3, d4, d5, d6, d7⟩, k0, k1, k2, k3, k4, k5, k6, k7⟩ := cells8 hb1
  have HR := Lib.hid (fun a b c d e f k l => set8 hb a b c d e f k l)
  have HW := Lib.hid (below8 (g := w.heap.size) hBB (Nat.le_refl _))
  clear hb hb1 hBB hB HO HB1 HB2 HBB hlt
  cases ok
  · go_wp2_with fail
    exact bodyPost_ret (v := .agg (ins8 0 false false 0 0 0 0 0)) (results_cell_row Tryd.results92 _ _ w.heap.size 71 (ins8 0 false false 0 0 0 0 0) (0, 0) _ rfl (HR.out _ _ _ _ _ _ _ _) Tryd.underlying71 rfl (by kernel_rfl)) rfl ⟨rfl, HW.out _ _ _ _ _ _ _ _⟩
  · go_wp2_with fail
    exact bodyPost_ret (v := .agg (ins8 op nar reg size dst src off imm)) (results_cell_row Tryd.results92 _ _ w.heap.size 71 (ins8 op nar reg size dst src off imm) (0, 0) _ rfl (HR.out _ _ _ _ _ _ _ _) Tryd.underlying71 rfl (by kernel_rfl)) rfl ⟨rfl, HW.out _ _ _ _ _ _ _ _⟩
set_option maxHeartbeats 1000000 in
theorem operation_fix (c : Int) (op : Int) (h : (c = 24 ∧ op = 20) ∨ (c = 212 ∧ op = 17) ∨ (c = 220 ∧ op = 18) ∨ (c = 215 ∧ op = 19)) (w : World) :
    Calls Tryd.prog 92 #[.int .i64 c] w fun e w' => e = .returned (.agg (ins8 op false false 0 0 0 0 0)) ∧ Below w.heap.size w w' := by
  rcases h with ⟨rfl, rfl⟩ | ⟨rfl, rfl⟩ | ⟨rfl, rfl⟩ | ⟨rfl, rfl⟩
  · go_enter Tryd.func92, Tryd.ntmps92
    go_wp2_with fail
    exact bodyPost_ret (v := .agg (ins8 20 false false 0 0 0 0 0)) (results_cell_row Tryd.results92 _ _ w.heap.size 71 (ins8 20 false false 0 0 0 0 0) (0, 0) _ rfl (Blk.new w _ _) Tryd.underlying71 rfl (by kernel_rfl)) rfl ⟨rfl, below_box w _⟩
  · go_enter Tryd.func92, Tryd.ntmps92
    go_wp2_with fail
    exact bodyPost_ret (v := .agg (ins8 17 false false 0 0 0 0 0)) (results_cell_row Tryd.results92 _ _ w.heap.size 71 (ins8 17 false false 0 0 0 0 0) (0, 0) _ rfl (Blk.new w _ _) Tryd.underlying71 rfl (by kernel_rfl)) rfl ⟨rfl, below_box w _⟩
  · go_enter Tryd.func92, Tryd.ntmps92
    go_wp2_with fail
    exact bodyPost_ret (v := .agg (ins8 18 false false 0 0 0 0 0)) (results_cell_row Tryd.results92 _ _ w.heap.size 71 (ins8 18 false false 0 0 0 0 0) (0, 0) _ rfl (Blk.new w _ _) Tryd.underlying71 rfl (by kernel_rfl)) rfl ⟨rfl, below_box w _⟩
  · go_enter Tryd.func92, Tryd.ntmps92
    go_wp2_with fail
    exact bodyPost_ret (v := .agg (ins8 19 false false 0 0 0 0 0)) (results_cell_row Tryd.results92 _ _ w.heap.size 71 (ins8 19 false false 0 0 0 0 0) (0, 0) _ rfl (Blk.new w _ _) Tryd.underlying71 rfl (by kernel_rfl)) rfl ⟨rfl, below_box w _⟩
theorem operation_any (c : Int) (hc : 0 ≤ c ∧ c < 256) (w : World) (ht : Tabs w) :
    Calls Tryd.prog 92 #[.int .i64 c] w fun e w' => e = .returned (.agg (opL c).arr) ∧ Below w.heap.size w w' := by
  unfold opL
  by_cases h1 : c = 24
  · rw [if_pos h1]; exact operation_fix c 20 (.inl ⟨h1, rfl⟩) w
  by_cases h2 : c = 212
  · rw [if_neg h1, if_pos h2]; exact operation_fix c 17 (.inr (.inl ⟨h2, rfl⟩)) w
  by_cases h3 : c = 220
  · rw [if_neg h1, if_neg h2, if_pos h3]; exact operation_fix c 18 (.inr (.inr (.inl ⟨h3, rfl⟩))) w
  by_cases h4 : c = 215
  · rw [if_neg h1, if_neg h2, if_neg h3, if_pos h4]; exact operation_fix c 19 (.inr (.inr (.inr ⟨h4, rfl⟩))) w
  rw [if_neg h1, if_neg h2, if_neg h3, if_neg h4]
  have h := operation_else c ⟨h1, h2, h3, h4⟩ (toldL c).op (toldL c).nar (toldL c).reg (toldL c).size (toldL c).dst (toldL c).src (toldL c).off (toldL c).imm w (told_any c hc _ (ht.below (below_box _ _)))
  refine h.mono fun e w' ⟨h5, h6⟩ => ⟨?_, h6⟩
  rw [h5]
  split <;> rfl
end Go.Proofs.YtlodoinmippebaaDoor
