/- Package help: the document's Sig, and what both say of each helper. -/
import Derived.Test.YtjjoblomfjfgfaaLdG
namespace Go.Proofs.Ytjjoblomfjfgfaa
open Go.ChangeShapes Go.WideShapes Go.ChangeAt Go.RowKit
open Bits HM
set_option linter.unusedVariables false
set_option linter.unusedSimpArgs false

theorem ownI_new (w : World) (base : Nat) (hb : base ≤ w.heap.size) (L : List Int) (n : Nat) (hn : L.length = n) (hm : n ≤ 1000) : OwnI (w.alloc (.cells (L.map (Value.int .i64)).toArray 3)) base (.slice (some ⟨w.heap.size, 0, none⟩) n n) L := by
  subst hn
  refine ⟨by simp, .inr ⟨w.heap.size, L.length, _, rfl, hb, heap_alloc_new w _, Nat.le_refl _, by unfold maxLen; omega, by simp, by simp [List.take_of_length_le]⟩⟩

set_option maxRecDepth 100000 in
set_option maxHeartbeats 4000000 in
theorem refSig_1 (w : World) : Calls Try.prog 11 #[.int .i64 1] w (SigIs w [2, 4, 1, 0, 0] 0 65535 false false) := by
  have hR := Lib.hid (show ∀ a b c, Blk ((((w.alloc (.cells #[.slice (some ⟨w.heap.size + 1 + 1 + 1, 0, none⟩) 5 5, .int .i64 0, .int .i64 65535, .bool false, .bool false] 40)).alloc a).alloc b).alloc c) w.heap.size 40 #[.slice (some ⟨w.heap.size + 1 + 1 + 1, 0, none⟩) 5 5, .int .i64 0, .int .i64 65535, .bool false, .bool false] from fun a b c => (((Blk.new w _ _).alloc a).alloc b).alloc c)
  have hR3 := Lib.hid (show ∀ a b, Blk (((w.alloc (.cells #[.slice (some ⟨w.heap.size + 1 + 1 + 1, 0, none⟩) 5 5, .int .i64 0, .int .i64 65535, .bool false, .bool false] 40)).alloc a).alloc b) w.heap.size 40 #[.slice (some ⟨w.heap.size + 1 + 1 + 1, 0, none⟩) 5 5, .int .i64 0, .int .i64 65535, .bool false, .bool false] from fun a b => ((Blk.new w _ _).alloc a).alloc b)
  have hB := Lib.hid (show ∀ o a b c, Below w.heap.size w ((((w.alloc o).alloc a).alloc b).alloc c) from fun o a b c => (((((Below.refl _ w).alloc (Nat.le_refl _) o).alloc (by simp) a).alloc (by simp; omega) b).alloc (by simp; omega) c))
  have hB3 := Lib.hid (show ∀ o a b, Below w.heap.size w (((w.alloc o).alloc a).alloc b) from fun o a b => ((((Below.refl _ w).alloc (Nat.le_refl _) o).alloc (by simp) a).alloc (by simp; omega) b))
  have hO := Lib.hid (show ∀ o a b, OwnI ((((w.alloc o).alloc a).alloc b).alloc (.cells #[.int .i64 2, .int .i64 4, .int .i64 1, .int .i64 0, .int .i64 0] 3)) w.heap.size (.slice (some ⟨w.heap.size + 1 + 1 + 1, 0, none⟩) 5 5) [2, 4, 1, 0, 0] from fun o a b => by
    have := ownI_new (((w.alloc o).alloc a).alloc b) w.heap.size (by simp; omega) [2, 4, 1, 0, 0] 5 rfl (by decide)
    simpa using this)
  go_enter Try.func11, Try.ntmps11
  go_wp2_with fail
  exact bodyPost_ret (v := .tuple #[.agg #[.slice (some ⟨w.heap.size + 1 + 1 + 1, 0, none⟩) 5 5, .int .i64 0, .int .i64 65535, .bool false, .bool false], .bool true]) (results_cell_tmp Try.results11 _ _ w.heap.size 40 #[.slice (some ⟨w.heap.size + 1 + 1 + 1, 0, none⟩) 5 5, .int .i64 0, .int .i64 65535, .bool false, .bool false] (0, 0) _ _ rfl rfl (hR.out _ _ _) Try.underlying40 rfl sigSize) rfl ⟨_, rfl, hO.out _ _ _, hB.out _ _ _ _⟩
set_option maxRecDepth 100000 in
set_option maxHeartbeats 4000000 in
theorem refSig_2 (w : World) : Calls Try.prog 11 #[.int .i64 2] w (SigIs w [3, 2, 4, 0, 0] 0 0 false false) := by
  have hR := Lib.hid (show ∀ a b c, Blk ((((w.alloc (.cells #[.slice (some ⟨w.heap.size + 1 + 1 + 1, 0, none⟩) 5 5, .int .i64 0, .int .i64 0, .bool false, .bool false] 40)).alloc a).alloc b).alloc c) w.heap.size 40 #[.slice (some ⟨w.heap.size + 1 + 1 + 1, 0, none⟩) 5 5, .int .i64 0, .int .i64 0, .bool false, .bool false] from fun a b c => (((Blk.new w _ _).alloc a).alloc b).alloc c)
  have hR3 := Lib.hid (show ∀ a b, Blk (((w.alloc (.cells #[.slice (some ⟨w.heap.size + 1 + 1 + 1, 0, none⟩) 5 5, .int .i64 0, .int .i64 0, .bool false, .bool false] 40)).alloc a).alloc b) w.heap.size 40 #[.slice (some ⟨w.heap.size + 1 + 1 + 1, 0, none⟩) 5 5, .int .i64 0, .int .i64 0, .bool false, .bool false] from fun a b => ((Blk.new w _ _).alloc a).alloc b)
  have hB := Lib.hid (show ∀ o a b c, Below w.heap.size w ((((w.alloc o).alloc a).alloc b).alloc c) from fun o a b c => (((((Below.refl _ w).alloc (Nat.le_refl _) o).alloc (by simp) a).alloc (by simp; omega) b).alloc (by simp; omega) c))
  have hB3 := Lib.hid (show ∀ o a b, Below w.heap.size w (((w.alloc o).alloc a).alloc b) from fun o a b => ((((Below.refl _ w).alloc (Nat.le_refl _) o).alloc (by simp) a).alloc (by simp; omega) b))
  have hO := Lib.hid (show ∀ o a b, OwnI ((((w.alloc o).alloc a).alloc b).alloc (.cells #[.int .i64 3, .int .i64 2, .int .i64 4, .int .i64 0, .int .i64 0] 3)) w.heap.size (.slice (some ⟨w.heap.size + 1 + 1 + 1, 0, none⟩) 5 5) [3, 2, 4, 0, 0] from fun o a b => by
    have := ownI_new (((w.alloc o).alloc a).alloc b) w.heap.size (by simp; omega) [3, 2, 4, 0, 0] 5 rfl (by decide)
    simpa using this)
  go_enter Try.func11, Try.ntmps11
  go_wp2_with fail
  exact bodyPost_ret (v := .tuple #[.agg #[.slice (some ⟨w.heap.size + 1 + 1 + 1, 0, none⟩) 5 5, .int .i64 0, .int .i64 0, .bool false, .bool false], .bool true]) (results_cell_tmp Try.results11 _ _ w.heap.size 40 #[.slice (some ⟨w.heap.size + 1 + 1 + 1, 0, none⟩) 5 5, .int .i64 0, .int .i64 0, .bool false, .bool false] (0, 0) _ _ rfl rfl (hR.out _ _ _) Try.underlying40 rfl sigSize) rfl ⟨_, rfl, hO.out _ _ _, hB.out _ _ _ _⟩
set_option maxRecDepth 100000 in
set_option maxHeartbeats 4000000 in
theorem refSig_3 (w : World) : Calls Try.prog 11 #[.int .i64 3] w (SigIs w [3, 1, 4, 0, 0] 0 0 false false) := by
  have hR := Lib.hid (show ∀ a b c, Blk ((((w.alloc (.cells #[.slice (some ⟨w.heap.size + 1 + 1 + 1, 0, none⟩) 5 5, .int .i64 0, .int .i64 0, .bool false, .bool false] 40)).alloc a).alloc b).alloc c) w.heap.size 40 #[.slice (some ⟨w.heap.size + 1 + 1 + 1, 0, none⟩) 5 5, .int .i64 0, .int .i64 0, .bool false, .bool false] from fun a b c => (((Blk.new w _ _).alloc a).alloc b).alloc c)
  have hR3 := Lib.hid (show ∀ a b, Blk (((w.alloc (.cells #[.slice (some ⟨w.heap.size + 1 + 1 + 1, 0, none⟩) 5 5, .int .i64 0, .int .i64 0, .bool false, .bool false] 40)).alloc a).alloc b) w.heap.size 40 #[.slice (some ⟨w.heap.size + 1 + 1 + 1, 0, none⟩) 5 5, .int .i64 0, .int .i64 0, .bool false, .bool false] from fun a b => ((Blk.new w _ _).alloc a).alloc b)
  have hB := Lib.hid (show ∀ o a b c, Below w.heap.size w ((((w.alloc o).alloc a).alloc b).alloc c) from fun o a b c => (((((Below.refl _ w).alloc (Nat.le_refl _) o).alloc (by simp) a).alloc (by simp; omega) b).alloc (by simp; omega) c))
  have hB3 := Lib.hid (show ∀ o a b, Below w.heap.size w (((w.alloc o).alloc a).alloc b) from fun o a b => ((((Below.refl _ w).alloc (Nat.le_refl _) o).alloc (by simp) a).alloc (by simp; omega) b))
  have hO := Lib.hid (show ∀ o a b, OwnI ((((w.alloc o).alloc a).alloc b).alloc (.cells #[.int .i64 3, .int .i64 1, .int .i64 4, .int .i64 0, .int .i64 0] 3)) w.heap.size (.slice (some ⟨w.heap.size + 1 + 1 + 1, 0, none⟩) 5 5) [3, 1, 4, 0, 0] from fun o a b => by
    have := ownI_new (((w.alloc o).alloc a).alloc b) w.heap.size (by simp; omega) [3, 1, 4, 0, 0] 5 rfl (by decide)
    simpa using this)
  go_enter Try.func11, Try.ntmps11
  go_wp2_with fail
  exact bodyPost_ret (v := .tuple #[.agg #[.slice (some ⟨w.heap.size + 1 + 1 + 1, 0, none⟩) 5 5, .int .i64 0, .int .i64 0, .bool false, .bool false], .bool true]) (results_cell_tmp Try.results11 _ _ w.heap.size 40 #[.slice (some ⟨w.heap.size + 1 + 1 + 1, 0, none⟩) 5 5, .int .i64 0, .int .i64 0, .bool false, .bool false] (0, 0) _ _ rfl rfl (hR.out _ _ _) Try.underlying40 rfl sigSize) rfl ⟨_, rfl, hO.out _ _ _, hB.out _ _ _ _⟩
set_option maxRecDepth 100000 in
set_option maxHeartbeats 4000000 in
theorem refSig_4 (w : World) : Calls Try.prog 11 #[.int .i64 4] w (SigIs w [2, 2, 4, 0, 0] (-1) 1 false false) := by
  have hR := Lib.hid (show ∀ a b c, Blk ((((w.alloc (.cells #[.slice (some ⟨w.heap.size + 1 + 1 + 1, 0, none⟩) 5 5, .int .i64 (-1), .int .i64 1, .bool false, .bool false] 40)).alloc a).alloc b).alloc c) w.heap.size 40 #[.slice (some ⟨w.heap.size + 1 + 1 + 1, 0, none⟩) 5 5, .int .i64 (-1), .int .i64 1, .bool false, .bool false] from fun a b c => (((Blk.new w _ _).alloc a).alloc b).alloc c)
  have hR3 := Lib.hid (show ∀ a b, Blk (((w.alloc (.cells #[.slice (some ⟨w.heap.size + 1 + 1 + 1, 0, none⟩) 5 5, .int .i64 (-1), .int .i64 1, .bool false, .bool false] 40)).alloc a).alloc b) w.heap.size 40 #[.slice (some ⟨w.heap.size + 1 + 1 + 1, 0, none⟩) 5 5, .int .i64 (-1), .int .i64 1, .bool false, .bool false] from fun a b => ((Blk.new w _ _).alloc a).alloc b)
  have hB := Lib.hid (show ∀ o a b c, Below w.heap.size w ((((w.alloc o).alloc a).alloc b).alloc c) from fun o a b c => (((((Below.refl _ w).alloc (Nat.le_refl _) o).alloc (by simp) a).alloc (by simp; omega) b).alloc (by simp; omega) c))
  have hB3 := Lib.hid (show ∀ o a b, Below w.heap.size w (((w.alloc o).alloc a).alloc b) from fun o a b => ((((Below.refl _ w).alloc (Nat.le_refl _) o).alloc (by simp) a).alloc (by simp; omega) b))
  have hO := Lib.hid (show ∀ o a b, OwnI ((((w.alloc o).alloc a).alloc b).alloc (.cells #[.int .i64 2, .int .i64 2, .int .i64 4, .int .i64 0, .int .i64 0] 3)) w.heap.size (.slice (some ⟨w.heap.size + 1 + 1 + 1, 0, none⟩) 5 5) [2, 2, 4, 0, 0] from fun o a b => by
    have := ownI_new (((w.alloc o).alloc a).alloc b) w.heap.size (by simp; omega) [2, 2, 4, 0, 0] 5 rfl (by decide)
    simpa using this)
  go_enter Try.func11, Try.ntmps11
  go_wp2_with fail
  exact bodyPost_ret (v := .tuple #[.agg #[.slice (some ⟨w.heap.size + 1 + 1 + 1, 0, none⟩) 5 5, .int .i64 (-1), .int .i64 1, .bool false, .bool false], .bool true]) (results_cell_tmp Try.results11 _ _ w.heap.size 40 #[.slice (some ⟨w.heap.size + 1 + 1 + 1, 0, none⟩) 5 5, .int .i64 (-1), .int .i64 1, .bool false, .bool false] (0, 0) _ _ rfl rfl (hR.out _ _ _) Try.underlying40 rfl sigSize) rfl ⟨_, rfl, hO.out _ _ _, hB.out _ _ _ _⟩
set_option maxRecDepth 100000 in
set_option maxHeartbeats 4000000 in
theorem refSig_5 (w : World) : Calls Try.prog 11 #[.int .i64 5] w (SigIs w [2, 4, 1, 0, 0] (-1) 65534 false false) := by
  have hR := Lib.hid (show ∀ a b c, Blk ((((w.alloc (.cells #[.slice (some ⟨w.heap.size + 1 + 1 + 1, 0, none⟩) 5 5, .int .i64 (-1), .int .i64 65534, .bool false, .bool false] 40)).alloc a).alloc b).alloc c) w.heap.size 40 #[.slice (some ⟨w.heap.size + 1 + 1 + 1, 0, none⟩) 5 5, .int .i64 (-1), .int .i64 65534, .bool false, .bool false] from fun a b c => (((Blk.new w _ _).alloc a).alloc b).alloc c)
  have hR3 := Lib.hid (show ∀ a b, Blk (((w.alloc (.cells #[.slice (some ⟨w.heap.size + 1 + 1 + 1, 0, none⟩) 5 5, .int .i64 (-1), .int .i64 65534, .bool false, .bool false] 40)).alloc a).alloc b) w.heap.size 40 #[.slice (some ⟨w.heap.size + 1 + 1 + 1, 0, none⟩) 5 5, .int .i64 (-1), .int .i64 65534, .bool false, .bool false] from fun a b => ((Blk.new w _ _).alloc a).alloc b)
  have hB := Lib.hid (show ∀ o a b c, Below w.heap.size w ((((w.alloc o).alloc a).alloc b).alloc c) from fun o a b c => (((((Below.refl _ w).alloc (Nat.le_refl _) o).alloc (by simp) a).alloc (by simp; omega) b).alloc (by simp; omega) c))
  have hB3 := Lib.hid (show ∀ o a b, Below w.heap.size w (((w.alloc o).alloc a).alloc b) from fun o a b => ((((Below.refl _ w).alloc (Nat.le_refl _) o).alloc (by simp) a).alloc (by simp; omega) b))
  have hO := Lib.hid (show ∀ o a b, OwnI ((((w.alloc o).alloc a).alloc b).alloc (.cells #[.int .i64 2, .int .i64 4, .int .i64 1, .int .i64 0, .int .i64 0] 3)) w.heap.size (.slice (some ⟨w.heap.size + 1 + 1 + 1, 0, none⟩) 5 5) [2, 4, 1, 0, 0] from fun o a b => by
    have := ownI_new (((w.alloc o).alloc a).alloc b) w.heap.size (by simp; omega) [2, 4, 1, 0, 0] 5 rfl (by decide)
    simpa using this)
  go_enter Try.func11, Try.ntmps11
  go_wp2_with fail
  exact bodyPost_ret (v := .tuple #[.agg #[.slice (some ⟨w.heap.size + 1 + 1 + 1, 0, none⟩) 5 5, .int .i64 (-1), .int .i64 65534, .bool false, .bool false], .bool true]) (results_cell_tmp Try.results11 _ _ w.heap.size 40 #[.slice (some ⟨w.heap.size + 1 + 1 + 1, 0, none⟩) 5 5, .int .i64 (-1), .int .i64 65534, .bool false, .bool false] (0, 0) _ _ rfl rfl (hR.out _ _ _) Try.underlying40 rfl sigSize) rfl ⟨_, rfl, hO.out _ _ _, hB.out _ _ _ _⟩
set_option maxRecDepth 100000 in
set_option maxHeartbeats 4000000 in
theorem refSig_6 (w : World) : Calls Try.prog 11 #[.int .i64 6] w (SigIs w [1, 0, 0, 0, 0] (-1) 0 false false) := by
  have hR := Lib.hid (show ∀ a b c, Blk ((((w.alloc (.cells #[.slice (some ⟨w.heap.size + 1, 0, none⟩) 5 5, .int .i64 (-1), .int .i64 0, .bool false, .bool false] 40)).alloc a).alloc b).alloc c) w.heap.size 40 #[.slice (some ⟨w.heap.size + 1, 0, none⟩) 5 5, .int .i64 (-1), .int .i64 0, .bool false, .bool false] from fun a b c => (((Blk.new w _ _).alloc a).alloc b).alloc c)
  have hR3 := Lib.hid (show ∀ a b, Blk (((w.alloc (.cells #[.slice (some ⟨w.heap.size + 1, 0, none⟩) 5 5, .int .i64 (-1), .int .i64 0, .bool false, .bool false] 40)).alloc a).alloc b) w.heap.size 40 #[.slice (some ⟨w.heap.size + 1, 0, none⟩) 5 5, .int .i64 (-1), .int .i64 0, .bool false, .bool false] from fun a b => ((Blk.new w _ _).alloc a).alloc b)
  have hB := Lib.hid (show ∀ o a b c, Below w.heap.size w ((((w.alloc o).alloc a).alloc b).alloc c) from fun o a b c => (((((Below.refl _ w).alloc (Nat.le_refl _) o).alloc (by simp) a).alloc (by simp; omega) b).alloc (by simp; omega) c))
  have hB3 := Lib.hid (show ∀ o a b, Below w.heap.size w (((w.alloc o).alloc a).alloc b) from fun o a b => ((((Below.refl _ w).alloc (Nat.le_refl _) o).alloc (by simp) a).alloc (by simp; omega) b))
  have hO := Lib.hid (show ∀ o b, OwnI (((w.alloc o).alloc (.cells #[.int .i64 1, .int .i64 0, .int .i64 0, .int .i64 0, .int .i64 0] 3)).alloc b) w.heap.size (.slice (some ⟨w.heap.size + 1, 0, none⟩) 5 5) [1, 0, 0, 0, 0] from fun o b => by
    have := ownI_new (w.alloc o) w.heap.size (by simp) [1, 0, 0, 0, 0] 5 rfl (by decide)
    have h2 : OwnI ((w.alloc o).alloc (.cells #[.int .i64 1, .int .i64 0, .int .i64 0, .int .i64 0, .int .i64 0] 3)) w.heap.size (.slice (some ⟨w.heap.size + 1, 0, none⟩) 5 5) [1, 0, 0, 0, 0] := by simpa using this
    exact World.ownsRow.alloc h2 b)
  go_enter Try.func11, Try.ntmps11
  go_wp2_with fail
  exact bodyPost_ret (v := .tuple #[.agg #[.slice (some ⟨w.heap.size + 1, 0, none⟩) 5 5, .int .i64 (-1), .int .i64 0, .bool false, .bool false], .bool true]) (results_cell_tmp Try.results11 _ _ w.heap.size 40 #[.slice (some ⟨w.heap.size + 1, 0, none⟩) 5 5, .int .i64 (-1), .int .i64 0, .bool false, .bool false] (0, 0) _ _ rfl rfl (hR3.out _ _) Try.underlying40 rfl sigSize) rfl ⟨_, rfl, hO.out _ _, hB3.out _ _ _⟩
set_option maxRecDepth 100000 in
set_option maxHeartbeats 4000000 in
theorem refSig_7 (w : World) : Calls Try.prog 11 #[.int .i64 7] w (SigIs w [1, 1, 0, 0, 0] 0 0 false false) := by
  have hR := Lib.hid (show ∀ a b c, Blk ((((w.alloc (.cells #[.slice (some ⟨w.heap.size + 1, 0, none⟩) 5 5, .int .i64 0, .int .i64 0, .bool false, .bool false] 40)).alloc a).alloc b).alloc c) w.heap.size 40 #[.slice (some ⟨w.heap.size + 1, 0, none⟩) 5 5, .int .i64 0, .int .i64 0, .bool false, .bool false] from fun a b c => (((Blk.new w _ _).alloc a).alloc b).alloc c)
  have hR3 := Lib.hid (show ∀ a b, Blk (((w.alloc (.cells #[.slice (some ⟨w.heap.size + 1, 0, none⟩) 5 5, .int .i64 0, .int .i64 0, .bool false, .bool false] 40)).alloc a).alloc b) w.heap.size 40 #[.slice (some ⟨w.heap.size + 1, 0, none⟩) 5 5, .int .i64 0, .int .i64 0, .bool false, .bool false] from fun a b => ((Blk.new w _ _).alloc a).alloc b)
  have hB := Lib.hid (show ∀ o a b c, Below w.heap.size w ((((w.alloc o).alloc a).alloc b).alloc c) from fun o a b c => (((((Below.refl _ w).alloc (Nat.le_refl _) o).alloc (by simp) a).alloc (by simp; omega) b).alloc (by simp; omega) c))
  have hB3 := Lib.hid (show ∀ o a b, Below w.heap.size w (((w.alloc o).alloc a).alloc b) from fun o a b => ((((Below.refl _ w).alloc (Nat.le_refl _) o).alloc (by simp) a).alloc (by simp; omega) b))
  have hO := Lib.hid (show ∀ o b, OwnI (((w.alloc o).alloc (.cells #[.int .i64 1, .int .i64 1, .int .i64 0, .int .i64 0, .int .i64 0] 3)).alloc b) w.heap.size (.slice (some ⟨w.heap.size + 1, 0, none⟩) 5 5) [1, 1, 0, 0, 0] from fun o b => by
    have := ownI_new (w.alloc o) w.heap.size (by simp) [1, 1, 0, 0, 0] 5 rfl (by decide)
    have h2 : OwnI ((w.alloc o).alloc (.cells #[.int .i64 1, .int .i64 1, .int .i64 0, .int .i64 0, .int .i64 0] 3)) w.heap.size (.slice (some ⟨w.heap.size + 1, 0, none⟩) 5 5) [1, 1, 0, 0, 0] := by simpa using this
    exact World.ownsRow.alloc h2 b)
  go_enter Try.func11, Try.ntmps11
  go_wp2_with fail
  exact bodyPost_ret (v := .tuple #[.agg #[.slice (some ⟨w.heap.size + 1, 0, none⟩) 5 5, .int .i64 0, .int .i64 0, .bool false, .bool false], .bool true]) (results_cell_tmp Try.results11 _ _ w.heap.size 40 #[.slice (some ⟨w.heap.size + 1, 0, none⟩) 5 5, .int .i64 0, .int .i64 0, .bool false, .bool false] (0, 0) _ _ rfl rfl (hR3.out _ _) Try.underlying40 rfl sigSize) rfl ⟨_, rfl, hO.out _ _, hB3.out _ _ _⟩
set_option maxRecDepth 100000 in
set_option maxHeartbeats 4000000 in
theorem refSig_8 (w : World) : Calls Try.prog 11 #[.int .i64 8] w (SigIs w [1, 1, 0, 0, 0] 0 0 true true) := by
  have hR := Lib.hid (show ∀ a b c, Blk ((((w.alloc (.cells #[.slice (some ⟨w.heap.size + 1, 0, none⟩) 5 5, .int .i64 0, .int .i64 0, .bool true, .bool true] 40)).alloc a).alloc b).alloc c) w.heap.size 40 #[.slice (some ⟨w.heap.size + 1, 0, none⟩) 5 5, .int .i64 0, .int .i64 0, .bool true, .bool true] from fun a b c => (((Blk.new w _ _).alloc a).alloc b).alloc c)
  have hR3 := Lib.hid (show ∀ a b, Blk (((w.alloc (.cells #[.slice (some ⟨w.heap.size + 1, 0, none⟩) 5 5, .int .i64 0, .int .i64 0, .bool true, .bool true] 40)).alloc a).alloc b) w.heap.size 40 #[.slice (some ⟨w.heap.size + 1, 0, none⟩) 5 5, .int .i64 0, .int .i64 0, .bool true, .bool true] from fun a b => ((Blk.new w _ _).alloc a).alloc b)
  have hB := Lib.hid (show ∀ o a b c, Below w.heap.size w ((((w.alloc o).alloc a).alloc b).alloc c) from fun o a b c => (((((Below.refl _ w).alloc (Nat.le_refl _) o).alloc (by simp) a).alloc (by simp; omega) b).alloc (by simp; omega) c))
  have hB3 := Lib.hid (show ∀ o a b, Below w.heap.size w (((w.alloc o).alloc a).alloc b) from fun o a b => ((((Below.refl _ w).alloc (Nat.le_refl _) o).alloc (by simp) a).alloc (by simp; omega) b))
  have hO := Lib.hid (show ∀ o b, OwnI (((w.alloc o).alloc (.cells #[.int .i64 1, .int .i64 1, .int .i64 0, .int .i64 0, .int .i64 0] 3)).alloc b) w.heap.size (.slice (some ⟨w.heap.size + 1, 0, none⟩) 5 5) [1, 1, 0, 0, 0] from fun o b => by
    have := ownI_new (w.alloc o) w.heap.size (by simp) [1, 1, 0, 0, 0] 5 rfl (by decide)
    have h2 : OwnI ((w.alloc o).alloc (.cells #[.int .i64 1, .int .i64 1, .int .i64 0, .int .i64 0, .int .i64 0] 3)) w.heap.size (.slice (some ⟨w.heap.size + 1, 0, none⟩) 5 5) [1, 1, 0, 0, 0] := by simpa using this
    exact World.ownsRow.alloc h2 b)
  go_enter Try.func11, Try.ntmps11
  go_wp2_with fail
  exact bodyPost_ret (v := .tuple #[.agg #[.slice (some ⟨w.heap.size + 1, 0, none⟩) 5 5, .int .i64 0, .int .i64 0, .bool true, .bool true], .bool true]) (results_cell_tmp Try.results11 _ _ w.heap.size 40 #[.slice (some ⟨w.heap.size + 1, 0, none⟩) 5 5, .int .i64 0, .int .i64 0, .bool true, .bool true] (0, 0) _ _ rfl rfl (hR3.out _ _) Try.underlying40 rfl sigSize) rfl ⟨_, rfl, hO.out _ _, hB3.out _ _ _⟩
set_option maxRecDepth 100000 in
set_option maxHeartbeats 4000000 in
theorem refSig_no (id : Int) (hid : id < 1 ∨ 8 < id) (w : World) : Calls Try.prog 11 #[.int .i64 id] w (SigNo w) := by
  have hR3 := Lib.hid (show ∀ a b, Blk (((w.alloc (.cells #[.slice none 0 0, .int .i64 0, .int .i64 0, .bool false, .bool false] 40)).alloc a).alloc b) w.heap.size 40 #[.slice none 0 0, .int .i64 0, .int .i64 0, .bool false, .bool false] from fun a b => ((Blk.new w _ _).alloc a).alloc b)
  have hB3 := Lib.hid (show ∀ o a b, Below w.heap.size w (((w.alloc o).alloc a).alloc b) from fun o a b => ((((Below.refl _ w).alloc (Nat.le_refl _) o).alloc (by simp) a).alloc (by simp; omega) b))
  have k1 : (id == 1) = false := by simp; omega
  have k2 : (id == 2) = false := by simp; omega
  have k3 : (id == 3) = false := by simp; omega
  have k4 : (id == 4) = false := by simp; omega
  have k5 : (id == 5) = false := by simp; omega
  have k6 : (id == 6) = false := by simp; omega
  have k7 : (id == 7) = false := by simp; omega
  have k8 : (id == 8) = false := by simp; omega
  clear hid
  go_enter Try.func11, Try.ntmps11
  go_wp2_with fail
  exact bodyPost_ret (v := .tuple #[.agg #[.slice none 0 0, .int .i64 0, .int .i64 0, .bool false, .bool false], .bool false]) (results_cell_tmp Try.results11 _ _ w.heap.size 40 #[.slice none 0 0, .int .i64 0, .int .i64 0, .bool false, .bool false] (0, 0) _ _ rfl rfl (hR3.out _ _) Try.underlying40 rfl sigSize) rfl ⟨rfl, hB3.out _ _ _⟩
/-- what is said of a helper: its list, its span; of no helper nothing -/
def sigP (id : Int) : Option (List Int × Int × Int × Bool × Bool) :=
  if id = 1 then some ([2, 4, 1, 0, 0], 0, 65535, false, false) else if id = 2 then some ([3, 2, 4, 0, 0], 0, 0, false, false) else if id = 3 then some ([3, 1, 4, 0, 0], 0, 0, false, false) else if id = 4 then some ([2, 2, 4, 0, 0], (-1), 1, false, false) else if id = 5 then some ([2, 4, 1, 0, 0], (-1), 65534, false, false) else if id = 6 then some ([1, 0, 0, 0, 0], (-1), 0, false, false) else if id = 7 then some ([1, 1, 0, 0, 0], 0, 0, false, false) else if id = 8 then some ([1, 1, 0, 0, 0], 0, 0, true, true) else none
/-- what Sig answers: memory of its own -/
def SigOf (w : World) (id : Int) (e : Ending) (w' : World) : Prop :=
  ∃ A n c L l h nl nh is, e = .returned (.tuple #[.agg #[.slice A n c, .int .i64 l, .int .i64 h, .bool nl, .bool nh], .bool is]) ∧ (L, l, h, nl, nh, is) = (match sigP id with | some (L, l, h, nl, nh) => (L, l, h, nl, nh, true) | none => ([], 0, 0, false, false, false)) ∧ L.length = n ∧ n ≤ 5 ∧ OwnI w' w.heap.size (.slice A n c) L ∧ Below w.heap.size w w'
theorem SigIs.of {w : World} {L : List Int} {l h : Int} {nl nh : Bool} {id : Int} {e : Ending} {w' : World} (hs : SigIs w L l h nl nh e w') (hp : sigP id = some (L, l, h, nl, nh)) (hL : L.length ≤ 5) : SigOf w id e w' := by
  obtain ⟨v, rfl, hown, hB⟩ := hs
  obtain ⟨A, c, rfl, -⟩ := hown.form
  exact ⟨A, _, c, L, l, h, nl, nh, true, rfl, by rw [hp], rfl, hL, hown, hB⟩
theorem SigNo.of {w : World} {id : Int} {e : Ending} {w' : World} (hs : SigNo w e w') (hp : sigP id = none) : SigOf w id e w' := by
  obtain ⟨rfl, hB⟩ := hs
  exact ⟨none, 0, 0, [], 0, 0, false, false, false, rfl, by rw [hp], rfl, by decide, OwnI.nil _ _, hB⟩
theorem sig_cases (id : Int) : (id < 1 ∨ 8 < id) ∨ id = 1 ∨ id = 2 ∨ id = 3 ∨ id = 4 ∨ id = 5 ∨ id = 6 ∨ id = 7 ∨ id = 8 := by omega
theorem sigP_no {id : Int} (h : id < 1 ∨ 8 < id) : sigP id = none := by
  unfold sigP
  rw [if_neg (show ¬ id = 1 by omega), if_neg (show ¬ id = 2 by omega), if_neg (show ¬ id = 3 by omega), if_neg (show ¬ id = 4 by omega), if_neg (show ¬ id = 5 by omega), if_neg (show ¬ id = 6 by omega), if_neg (show ¬ id = 7 by omega), if_neg (show ¬ id = 8 by omega)]
theorem refSig_any (id : Int) (w : World) : Calls Try.prog 11 #[.int .i64 id] w (SigOf w id) := by
  rcases sig_cases id with h | rfl | rfl | rfl | rfl | rfl | rfl | rfl | rfl
  · exact (refSig_no id h w).mono fun e w' hs => hs.of (sigP_no h)
  · exact (refSig_1 w).mono fun e w' hs => hs.of rfl (by decide)
  · exact (refSig_2 w).mono fun e w' hs => hs.of rfl (by decide)
  · exact (refSig_3 w).mono fun e w' hs => hs.of rfl (by decide)
  · exact (refSig_4 w).mono fun e w' hs => hs.of rfl (by decide)
  · exact (refSig_5 w).mono fun e w' hs => hs.of rfl (by decide)
  · exact (refSig_6 w).mono fun e w' hs => hs.of rfl (by decide)
  · exact (refSig_7 w).mono fun e w' hs => hs.of rfl (by decide)
  · exact (refSig_8 w).mono fun e w' hs => hs.of rfl (by decide)
theorem sig_any (id : Int) (w : World) : Calls Try.prog 12 #[.int .i64 id] w (SigOf w id) := by
  rcases sig_cases id with h | rfl | rfl | rfl | rfl | rfl | rfl | rfl | rfl
  · exact (sig_no id h w).mono fun e w' hs => hs.of (sigP_no h)

  · exact (sig_row 1 (by decide) (by decide) _ 2 4 1 0 0 0 65535 false false rfl _ _ rfl (.inl ⟨rfl, rfl, rfl, rfl⟩) w).mono fun e w' hs => hs.of rfl (by decide)
  · exact (sig_row 2 (by decide) (by decide) _ 3 2 4 0 0 0 0 false false rfl _ _ rfl (.inl ⟨rfl, rfl, rfl, rfl⟩) w).mono fun e w' hs => hs.of rfl (by decide)
  · exact (sig_row 3 (by decide) (by decide) _ 3 1 4 0 0 0 0 false false rfl _ _ rfl (.inl ⟨rfl, rfl, rfl, rfl⟩) w).mono fun e w' hs => hs.of rfl (by decide)
  · exact (sig_row 4 (by decide) (by decide) _ 2 2 4 0 0 (-1) 1 false false rfl _ _ rfl (.inl ⟨rfl, rfl, rfl, rfl⟩) w).mono fun e w' hs => hs.of rfl (by decide)
  · exact (sig_row 5 (by decide) (by decide) _ 2 4 1 0 0 (-1) 65534 false false rfl _ _ rfl (.inl ⟨rfl, rfl, rfl, rfl⟩) w).mono fun e w' hs => hs.of rfl (by decide)
  · exact (sig_row 6 (by decide) (by decide) _ 1 0 0 0 0 (-1) 0 false false rfl _ _ rfl (.inl ⟨rfl, rfl, rfl, rfl⟩) w).mono fun e w' hs => hs.of rfl (by decide)
  · exact (sig_row 7 (by decide) (by decide) _ 1 1 0 0 0 0 0 false false rfl _ _ rfl (.inl ⟨rfl, rfl, rfl, rfl⟩) w).mono fun e w' hs => hs.of rfl (by decide)
  · exact (sig_row 8 (by decide) (by decide) _ 1 1 0 0 0 0 0 true true rfl _ _ rfl (.inr ⟨rfl, rfl, rfl, rfl, rfl, rfl⟩) w).mono fun e w' hs => hs.of rfl (by decide)
end Go.Proofs.Ytjjoblomfjfgfaa
