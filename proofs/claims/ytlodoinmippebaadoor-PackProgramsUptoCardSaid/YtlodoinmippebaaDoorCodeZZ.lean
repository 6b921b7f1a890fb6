/- Texts in one: CodeZ CodeZ2. -/
import Derived.Test.YtlodoinmippebaaDoorCodeXY
/- Package code: filled. -/
namespace Go.Proofs.YtlodoinmippebaaDoor
open Go.ChangeShapes Go.WideShapes Go.ChangeAt Go.RowKit
open Cod Bits
set_option linter.unusedVariables false

theorem blk_new4 (w : World) (a b c : Obj) (t : TypeId) (cs : Array Value) : Blk ((((w.alloc a).alloc b).alloc c).alloc (.cells cs t)) (w.heap.size + 1 + 1 + 1) t cs := by
  have h := Blk.new (((w.alloc a).alloc b).alloc c) t cs
  simpa using h
theorem below_box4 (w : World) (a b c d : Obj) : Below w.heap.size w ((((w.alloc a).alloc b).alloc c).alloc d) := (below_box3 w a b c).alloc (by simp; omega) d
theorem blk_new2 (w : World) (a : Obj) (t : TypeId) (cs : Array Value) : Blk ((w.alloc a).alloc (.cells cs t)) (w.heap.size + 1) t cs := by
  have h := Blk.new (w.alloc a) t cs
  simpa using h

set_option maxHeartbeats 4000000 in
theorem filled_else (op : Int) (h39 : (1 : Int) ≤ op ∧ (op : Int) ≤ 39) (nar reg : Bool) (size dst src off imm oc ud us uo ui vc vd vs vo vi p : Int) (a4 a8 a16 a32 : Bool) (hp : namedL op nar reg = p) (h4 : (bits BinOp.and IntKind.i64 p 4 != 0) = a4) (h8 : (bits BinOp.and IntKind.i64 p 8 != 0) = a8) (h16 : (bits BinOp.and IntKind.i64 p 16 != 0) = a16) (h32 : (bits BinOp.and IntKind.i64 p 32 != 0) = a32) (hn : op ≠ 20 ∧ op ≠ 21) (w : World) :
    Calls Tryd.prog 93 #[.agg (ins8 op nar reg size dst src off imm), .agg (un5 oc ud us uo ui), .agg (un5 vc vd vs vo vi)] w fun e w' => e = .returned (.agg (ins8 op nar reg size (if a4 = true then ud else dst) (if a8 = true then us else src) (if a16 = true then uo else off) (if a32 = true then ui else imm))) ∧ Below w.heap.size w w' := by
  have HO := Lib.hid (fun w => named_any op nar reg size dst src off imm h39 w)
  rw [hp] at HO
  have HI := Lib.hid ((((Blk.new w 71 (ins8 op nar reg size dst src off imm)).alloc (.cells (un5 oc ud us uo ui) 106)).alloc (.cells (un5 vc vd vs vo vi) 106)).alloc (.cells (ins8 0 false false 0 0 0 0 0) 71))
  have HU := Lib.hid (((blk_new2 w (.cells (ins8 op nar reg size dst src off imm) 71) 106 (un5 oc ud us uo ui)).alloc (.cells (un5 vc vd vs vo vi) 106)).alloc (.cells (ins8 0 false false 0 0 0 0 0) 71))
  have HV := Lib.hid ((blk_new3 w (.cells (ins8 op nar reg size dst src off imm) 71) (.cells (un5 oc ud us uo ui) 106) 106 (un5 vc vd vs vo vi)).alloc (.cells (ins8 0 false false 0 0 0 0 0) 71))
  have HR := Lib.hid (blk_new4 w (.cells (ins8 op nar reg size dst src off imm) 71) (.cells (un5 oc ud us uo ui) 106) (.cells (un5 vc vd vs vo vi) 106) 71 (ins8 0 false false 0 0 0 0 0))
  have HB := Lib.hid (below_box4 w (.cells (ins8 op nar reg size dst src off imm) 71) (.cells (un5 oc ud us uo ui) 106) (.cells (un5 vc vd vs vo vi) 106) (.cells (ins8 0 false false 0 0 0 0 0) 71))
  have t20 : (op == 20) = false := by rw [beq_eq_false_iff_ne]; exact hn.1
  have t21 : (op == 21) = false := by rw [beq_eq_false_iff_ne]; exact hn.2
  clear hn
  clear hp h39
  go_enter Tryd.func93, Tryd.ntmps93
  go_wp2_with fail
  go_at_call 118
  refine (HO.out _).mono ?_
  rintro e w1 ⟨rfl, hB1⟩
  have hi := HI.out.below hB1 HI.out.lt
  have hu := HU.out.below hB1 HU.out.lt
  have hv := HV.out.below hB1 HV.out.lt
  have hr := HR.out.below hB1 HR.out.lt
  have hB := HB.out.trans (hB1.mono HB.out.size)
  clear HO HI HU HV HR HB hB1
  generalize hg0 : w.heap.size = g0 at *
  obtain ⟨g3, hg3⟩ : ∃ g3, g0 + 1 + 1 + 1 = g3 := ⟨_, rfl⟩
  obtain ⟨g2, hg2⟩ : ∃ g2, g0 + 1 + 1 = g2 := ⟨_, rfl⟩
  obtain ⟨g1, hg1⟩ : ∃ g1, g0 + 1 = g1 := ⟨_, rfl⟩
  rw [hg3] at hr ⊢
  rw [hg2] at hv ⊢
  rw [hg1] at hu ⊢
  have n1 : g0 ≠ g1 := by omega
  have n2 : g0 ≠ g2 := by omega
  have n3 : g3 ≠ g0 := by omega
  have n4 : g0 ≠ g3 := by omega
  have n5 : g0 ≤ g3 := by omega
  clear hg3 hg2 hg1
  subst hg0
  obtain ⟨⟨c0, c1, c2, c3, c4, c5, c6, c7⟩, f0, f1, f2, f3, f4, f5, f6, f7⟩ := cells8 hr
  obtain ⟨⟨d0, d1, d2, d3, d4, d5, d6, d7⟩, k0, k1, k2, k3, k4, k5, k6, k7⟩ := cells8 hi
  obtain ⟨u0, u1, u2, u3, u4, q0, q1, q2, q3, q4⟩ := cells5 hu
  obtain ⟨v0, v1, v2, v3, v4, r0, r1, r2, r3, r4⟩ := cells5 hv
  have HR := Lib.hid hr
  have HB := Lib.hid hB
  clear hi hu hv hr hB
  cases a4 <;> cases a8 <;> cases a16 <;> cases a32
  · go_wp2_with fail
    exact bodyPost_ret (v := .agg (ins8 op nar reg size dst src off imm)) (results_cell_row Tryd.results93 _ _ g3 71 (ins8 op nar reg size dst src off imm) (0, 0) _ rfl (set8 HR.out _ _ _ _ _ _ _ _) Tryd.underlying71 rfl (by kernel_rfl)) rfl ⟨rfl, below8 HB.out n5 _ _ _ _ _ _ _ _⟩
  · go_wp2_with fail
    exact bodyPost_ret (v := .agg (ins8 op nar reg size dst src off ui)) (results_cell_row Tryd.results93 _ _ g3 71 (ins8 op nar reg size dst src off ui) (0, 0) _ rfl (set8 (HR.out.far (p := ⟨w.heap.size, 7, none⟩) n3 _) _ _ _ _ _ _ _ _) Tryd.underlying71 rfl (by kernel_rfl)) rfl ⟨rfl, below8 (HB.out.setCell (p := ⟨w.heap.size, 7, none⟩) (Nat.le_refl _) _) n5 _ _ _ _ _ _ _ _⟩
  · go_wp2_with fail
    exact bodyPost_ret (v := .agg (ins8 op nar reg size dst src uo imm)) (results_cell_row Tryd.results93 _ _ g3 71 (ins8 op nar reg size dst src uo imm) (0, 0) _ rfl (set8 (HR.out.far (p := ⟨w.heap.size, 6, none⟩) n3 _) _ _ _ _ _ _ _ _) Tryd.underlying71 rfl (by kernel_rfl)) rfl ⟨rfl, below8 (HB.out.setCell (p := ⟨w.heap.size, 6, none⟩) (Nat.le_refl _) _) n5 _ _ _ _ _ _ _ _⟩
  · go_wp2_with fail
    exact bodyPost_ret (v := .agg (ins8 op nar reg size dst src uo ui)) (results_cell_row Tryd.results93 _ _ g3 71 (ins8 op nar reg size dst src uo ui) (0, 0) _ rfl (set8 ((HR.out.far (p := ⟨w.heap.size, 6, none⟩) n3 _).far (p := ⟨w.heap.size, 7, none⟩) n3 _) _ _ _ _ _ _ _ _) Tryd.underlying71 rfl (by kernel_rfl)) rfl ⟨rfl, below8 ((HB.out.setCell (p := ⟨w.heap.size, 6, none⟩) (Nat.le_refl _) _).setCell (p := ⟨w.heap.size, 7, none⟩) (Nat.le_refl _) _) n5 _ _ _ _ _ _ _ _⟩
  · go_wp2_with fail
    exact bodyPost_ret (v := .agg (ins8 op nar reg size dst us off imm)) (results_cell_row Tryd.results93 _ _ g3 71 (ins8 op nar reg size dst us off imm) (0, 0) _ rfl (set8 (HR.out.far (p := ⟨w.heap.size, 5, none⟩) n3 _) _ _ _ _ _ _ _ _) Tryd.underlying71 rfl (by kernel_rfl)) rfl ⟨rfl, below8 (HB.out.setCell (p := ⟨w.heap.size, 5, none⟩) (Nat.le_refl _) _) n5 _ _ _ _ _ _ _ _⟩
  · go_wp2_with fail
    exact bodyPost_ret (v := .agg (ins8 op nar reg size dst us off ui)) (results_cell_row Tryd.results93 _ _ g3 71 (ins8 op nar reg size dst us off ui) (0, 0) _ rfl (set8 ((HR.out.far (p := ⟨w.heap.size, 5, none⟩) n3 _).far (p := ⟨w.heap.size, 7, none⟩) n3 _) _ _ _ _ _ _ _ _) Tryd.underlying71 rfl (by kernel_rfl)) rfl ⟨rfl, below8 ((HB.out.setCell (p := ⟨w.heap.size, 5, none⟩) (Nat.le_refl _) _).setCell (p := ⟨w.heap.size, 7, none⟩) (Nat.le_refl _) _) n5 _ _ _ _ _ _ _ _⟩
  · go_wp2_with fail
    exact bodyPost_ret (v := .agg (ins8 op nar reg size dst us uo imm)) (results_cell_row Tryd.results93 _ _ g3 71 (ins8 op nar reg size dst us uo imm) (0, 0) _ rfl (set8 ((HR.out.far (p := ⟨w.heap.size, 5, none⟩) n3 _).far (p := ⟨w.heap.size, 6, none⟩) n3 _) _ _ _ _ _ _ _ _) Tryd.underlying71 rfl (by kernel_rfl)) rfl ⟨rfl, below8 ((HB.out.setCell (p := ⟨w.heap.size, 5, none⟩) (Nat.le_refl _) _).setCell (p := ⟨w.heap.size, 6, none⟩) (Nat.le_refl _) _) n5 _ _ _ _ _ _ _ _⟩
  · go_wp2_with fail
    exact bodyPost_ret (v := .agg (ins8 op nar reg size dst us uo ui)) (results_cell_row Tryd.results93 _ _ g3 71 (ins8 op nar reg size dst us uo ui) (0, 0) _ rfl (set8 (((HR.out.far (p := ⟨w.heap.size, 5, none⟩) n3 _).far (p := ⟨w.heap.size, 6, none⟩) n3 _).far (p := ⟨w.heap.size, 7, none⟩) n3 _) _ _ _ _ _ _ _ _) Tryd.underlying71 rfl (by kernel_rfl)) rfl ⟨rfl, below8 (((HB.out.setCell (p := ⟨w.heap.size, 5, none⟩) (Nat.le_refl _) _).setCell (p := ⟨w.heap.size, 6, none⟩) (Nat.le_refl _) _).setCell (p := ⟨w.heap.size, 7, none⟩) (Nat.le_refl _) _) n5 _ _ _ _ _ _ _ _⟩
  · go_wp2_with fail
    exact bodyPost_ret (v := .agg (ins8 op nar reg size ud src off imm)) (results_cell_row Tryd.results93 _ _ g3 71 (ins8 op nar reg size ud src off imm) (0, 0) _ rfl (set8 (HR.out.far (p := ⟨w.heap.size, 4, none⟩) n3 _) _ _ _ _ _ _ _ _) Tryd.underlying71 rfl (by kernel_rfl)) rfl ⟨rfl, below8 (HB.out.setCell (p := ⟨w.heap.size, 4, none⟩) (Nat.le_refl _) _) n5 _ _ _ _ _ _ _ _⟩
  · go_wp2_with fail
    exact bodyPost_ret (v := .agg (ins8 op nar reg size ud src off ui)) (results_cell_row Tryd.results93 _ _ g3 71 (ins8 op nar reg size ud src off ui) (0, 0) _ rfl (set8 ((HR.out.far (p := ⟨w.heap.size, 4, none⟩) n3 _).far (p := ⟨w.heap.size, 7, none⟩) n3 _) _ _ _ _ _ _ _ _) Tryd.underlying71 rfl (by kernel_rfl)) rfl ⟨rfl, below8 ((HB.out.setCell (p := ⟨w.heap.size, 4, none⟩) (Nat.le_refl _) _).setCell (p := ⟨w.heap.size, 7, none⟩) (Nat.le_refl _) _) n5 _ _ _ _ _ _ _ _⟩
  · go_wp2_with fail
    exact bodyPost_ret (v := .agg (ins8 op nar reg size ud src uo imm)) (results_cell_row Tryd.results93 _ _ g3 71 (ins8 op nar reg size ud src uo imm) (0, 0) _ rfl (set8 ((HR.out.far (p := ⟨w.heap.size, 4, none⟩) n3 _).far (p := ⟨w.heap.size, 6, none⟩) n3 _) _ _ _ _ _ _ _ _) Tryd.underlying71 rfl (by kernel_rfl)) rfl ⟨rfl, below8 ((HB.out.setCell (p := ⟨w.heap.size, 4, none⟩) (Nat.le_refl _) _).setCell (p := ⟨w.heap.size, 6, none⟩) (Nat.le_refl _) _) n5 _ _ _ _ _ _ _ _⟩
  · go_wp2_with fail
    exact bodyPost_ret (v := .agg (ins8 op nar reg size ud src uo ui)) (results_cell_row Tryd.results93 _ _ g3 71 (ins8 op nar reg size ud src uo ui) (0, 0) _ rfl (set8 (((HR.out.far (p := ⟨w.heap.size, 4, none⟩) n3 _).far (p := ⟨w.heap.size, 6, none⟩) n3 _).far (p := ⟨w.heap.size, 7, none⟩) n3 _) _ _ _ _ _ _ _ _) Tryd.underlying71 rfl (by kernel_rfl)) rfl ⟨rfl, below8 (((HB.out.setCell (p := ⟨w.heap.size, 4, none⟩) (Nat.le_refl _) _).setCell (p := ⟨w.heap.size, 6, none⟩) (Nat.le_refl _) _).setCell (p := ⟨w.heap.size, 7, none⟩) (Nat.le_refl _) _) n5 _ _ _ _ _ _ _ _⟩
  · go_wp2_with fail
    exact bodyPost_ret (v := .agg (ins8 op nar reg size ud us off imm)) (results_cell_row Tryd.results93 _ _ g3 71 (ins8 op nar reg size ud us off imm) (0, 0) _ rfl (set8 ((HR.out.far (p := ⟨w.heap.size, 4, none⟩) n3 _).far (p := ⟨w.heap.size, 5, none⟩) n3 _) _ _ _ _ _ _ _ _) Tryd.underlying71 rfl (by kernel_rfl)) rfl ⟨rfl, below8 ((HB.out.setCell (p := ⟨w.heap.size, 4, none⟩) (Nat.le_refl _) _).setCell (p := ⟨w.heap.size, 5, none⟩) (Nat.le_refl _) _) n5 _ _ _ _ _ _ _ _⟩
  · go_wp2_with fail
    exact bodyPost_ret (v := .agg (ins8 op nar reg size ud us off ui)) (results_cell_row Tryd.results93 _ _ g3 71 (ins8 op nar reg size ud us off ui) (0, 0) _ rfl (set8 (((HR.out.far (p := ⟨w.heap.size, 4, none⟩) n3 _).far (p := ⟨w.heap.size, 5, none⟩) n3 _).far (p := ⟨w.heap.size, 7, none⟩) n3 _) _ _ _ _ _ _ _ _) Tryd.underlying71 rfl (by kernel_rfl)) rfl ⟨rfl, below8 (((HB.out.setCell (p := ⟨w.heap.size, 4, none⟩) (Nat.le_refl _) _).setCell (p := ⟨w.heap.size, 5, none⟩) (Nat.le_refl _) _).setCell (p := ⟨w.heap.size, 7, none⟩) (Nat.le_refl _) _) n5 _ _ _ _ _ _ _ _⟩
  · go_wp2_with fail
    exact bodyPost_ret (v := .agg (ins8 op nar reg size ud us uo imm)) (results_cell_row Tryd.results93 _ _ g3 71 (ins8 op nar reg size ud us uo imm) (0, 0) _ rfl (set8 (((HR.out.far (p := ⟨w.heap.size, 4, none⟩) n3 _).far (p := ⟨w.heap.size, 5, none⟩) n3 _).far (p := ⟨w.heap.size, 6, none⟩) n3 _) _ _ _ _ _ _ _ _) Tryd.underlying71 rfl (by kernel_rfl)) rfl ⟨rfl, below8 (((HB.out.setCell (p := ⟨w.heap.size, 4, none⟩) (Nat.le_refl _) _).setCell (p := ⟨w.heap.size, 5, none⟩) (Nat.le_refl _) _).setCell (p := ⟨w.heap.size, 6, none⟩) (Nat.le_refl _) _) n5 _ _ _ _ _ _ _ _⟩
  · go_wp2_with fail
    exact bodyPost_ret (v := .agg (ins8 op nar reg size ud us uo ui)) (results_cell_row Tryd.results93 _ _ g3 71 (ins8 op nar reg size ud us uo ui) (0, 0) _ rfl (set8 ((((HR.out.far (p := ⟨w.heap.size, 4, none⟩) n3 _).far (p := ⟨w.heap.size, 5, none⟩) n3 _).far (p := ⟨w.heap.size, 6, none⟩) n3 _).far (p := ⟨w.heap.size, 7, none⟩) n3 _) _ _ _ _ _ _ _ _) Tryd.underlying71 rfl (by kernel_rfl)) rfl ⟨rfl, below8 ((((HB.out.setCell (p := ⟨w.heap.size, 4, none⟩) (Nat.le_refl _) _).setCell (p := ⟨w.heap.size, 5, none⟩) (Nat.le_refl _) _).setCell (p := ⟨w.heap.size, 6, none⟩) (Nat.le_refl _) _).setCell (p := ⟨w.heap.size, 7, none⟩) (Nat.le_refl _) _) n5 _ _ _ _ _ _ _ _⟩
end Go.Proofs.YtlodoinmippebaaDoor
/- Package code: filled, the wide ones; all. -/
namespace Go.Proofs.YtlodoinmippebaaDoor
open Go.ChangeShapes Go.WideShapes Go.ChangeAt Go.RowKit
open Cod Bits
set_option linter.unusedVariables false

set_option maxHeartbeats 4000000 in
theorem filled_21 (h39 : (1 : Int) ≤ 21 ∧ (21 : Int) ≤ 39) (nar reg : Bool) (size dst src off imm oc ud us uo ui vc vd vs vo vi p : Int) (hp : namedL 21 nar reg = p) (h4 : (bits BinOp.and IntKind.i64 p 4 != 0) = true) (h8 : (bits BinOp.and IntKind.i64 p 8 != 0) = false) (h16 : (bits BinOp.and IntKind.i64 p 16 != 0) = false) (w : World) :
    Calls Tryd.prog 93 #[.agg (ins8 21 nar reg size dst src off imm), .agg (un5 oc ud us uo ui), .agg (un5 vc vd vs vo vi)] w fun e w' => e = .returned (.agg (ins8 21 nar reg size ud src off vi)) ∧ Below w.heap.size w w' := by
  have HO := Lib.hid (fun w => named_any 21 nar reg size dst src off imm h39 w)
  rw [hp] at HO
  have HI := Lib.hid ((((Blk.new w 71 (ins8 21 nar reg size dst src off imm)).alloc (.cells (un5 oc ud us uo ui) 106)).alloc (.cells (un5 vc vd vs vo vi) 106)).alloc (.cells (ins8 0 false false 0 0 0 0 0) 71))
  have HU := Lib.hid (((blk_new2 w (.cells (ins8 21 nar reg size dst src off imm) 71) 106 (un5 oc ud us uo ui)).alloc (.cells (un5 vc vd vs vo vi) 106)).alloc (.cells (ins8 0 false false 0 0 0 0 0) 71))
  have HV := Lib.hid ((blk_new3 w (.cells (ins8 21 nar reg size dst src off imm) 71) (.cells (un5 oc ud us uo ui) 106) 106 (un5 vc vd vs vo vi)).alloc (.cells (ins8 0 false false 0 0 0 0 0) 71))
  have HR := Lib.hid (blk_new4 w (.cells (ins8 21 nar reg size dst src off imm) 71) (.cells (un5 oc ud us uo ui) 106) (.cells (un5 vc vd vs vo vi) 106) 71 (ins8 0 false false 0 0 0 0 0))
  have HB := Lib.hid (below_box4 w (.cells (ins8 21 nar reg size dst src off imm) 71) (.cells (un5 oc ud us uo ui) 106) (.cells (un5 vc vd vs vo vi) 106) (.cells (ins8 0 false false 0 0 0 0 0) 71))
  clear hp h39
  go_enter Tryd.func93, Tryd.ntmps93
  go_wp2_with fail
  go_at_call 118
  refine (HO.out _).mono ?_
  rintro e w1 ⟨rfl, hB1⟩
  have hi := HI.out.below hB1 HI.out.lt
  have hu := HU.out.below hB1 HU.out.lt
  have hv := HV.out.below hB1 HV.out.lt
  have hr := HR.out.below hB1 HR.out.lt
  have hB := HB.out.trans (hB1.mono HB.out.size)
  clear HO HI HU HV HR HB hB1
  generalize hg0 : w.heap.size = g0 at *
  obtain ⟨g3, hg3⟩ : ∃ g3, g0 + 1 + 1 + 1 = g3 := ⟨_, rfl⟩
  obtain ⟨g2, hg2⟩ : ∃ g2, g0 + 1 + 1 = g2 := ⟨_, rfl⟩
  obtain ⟨g1, hg1⟩ : ∃ g1, g0 + 1 = g1 := ⟨_, rfl⟩
  rw [hg3] at hr ⊢
  rw [hg2] at hv ⊢
  rw [hg1] at hu ⊢
  have n1 : g0 ≠ g1 := by omega
  have n2 : g0 ≠ g2 := by omega
  have n3 : g3 ≠ g0 := by omega
  have n4 : g0 ≠ g3 := by omega
  have n5 : g0 ≤ g3 := by omega
  clear hg3 hg2 hg1
  subst hg0
  obtain ⟨⟨c0, c1, c2, c3, c4, c5, c6, c7⟩, f0, f1, f2, f3, f4, f5, f6, f7⟩ := cells8 hr
  obtain ⟨⟨d0, d1, d2, d3, d4, d5, d6, d7⟩, k0, k1, k2, k3, k4, k5, k6, k7⟩ := cells8 hi
  obtain ⟨u0, u1, u2, u3, u4, q0, q1, q2, q3, q4⟩ := cells5 hu
  obtain ⟨v0, v1, v2, v3, v4, r0, r1, r2, r3, r4⟩ := cells5 hv
  have HR := Lib.hid hr
  have HB := Lib.hid hB
  clear hi hu hv hr hB
  go_wp2_with fail
  exact bodyPost_ret (v := .agg (ins8 21 nar reg size ud src off vi)) (results_cell_row Tryd.results93 _ _ g3 71 (ins8 21 nar reg size ud src off vi) (0, 0) _ rfl (set8 ((HR.out.far (p := ⟨w.heap.size, 4, none⟩) n3 _).far (p := ⟨w.heap.size, 7, none⟩) n3 _) _ _ _ _ _ _ _ _) Tryd.underlying71 rfl (by kernel_rfl)) rfl ⟨rfl, below8 ((HB.out.setCell (p := ⟨w.heap.size, 4, none⟩) (Nat.le_refl _) _).setCell (p := ⟨w.heap.size, 7, none⟩) (Nat.le_refl _) _) n5 _ _ _ _ _ _ _ _⟩
set_option maxHeartbeats 4000000 in
theorem filled_20 (h39 : (1 : Int) ≤ 20 ∧ (20 : Int) ≤ 39) (nar reg : Bool) (size dst src off imm oc ud us uo ui vc vd vs vo vi p : Int) (hp : namedL 20 nar reg = p) (h4 : (bits BinOp.and IntKind.i64 p 4 != 0) = true) (h8 : (bits BinOp.and IntKind.i64 p 8 != 0) = false) (h16 : (bits BinOp.and IntKind.i64 p 16 != 0) = false) (m : Int) (hm : bits BinOp.or IntKind.i64 (wrap64 (vi * 4294967296)) (ui % 4294967296) = m) (w : World) :
    Calls Tryd.prog 93 #[.agg (ins8 20 nar reg size dst src off imm), .agg (un5 oc ud us uo ui), .agg (un5 vc vd vs vo vi)] w fun e w' => e = .returned (.agg (ins8 20 nar reg size ud src off m)) ∧ Below w.heap.size w w' := by
  have HO := Lib.hid (fun w => named_any 20 nar reg size dst src off imm h39 w)
  rw [hp] at HO
  have HI := Lib.hid ((((Blk.new w 71 (ins8 20 nar reg size dst src off imm)).alloc (.cells (un5 oc ud us uo ui) 106)).alloc (.cells (un5 vc vd vs vo vi) 106)).alloc (.cells (ins8 0 false false 0 0 0 0 0) 71))
  have HU := Lib.hid (((blk_new2 w (.cells (ins8 20 nar reg size dst src off imm) 71) 106 (un5 oc ud us uo ui)).alloc (.cells (un5 vc vd vs vo vi) 106)).alloc (.cells (ins8 0 false false 0 0 0 0 0) 71))
  have HV := Lib.hid ((blk_new3 w (.cells (ins8 20 nar reg size dst src off imm) 71) (.cells (un5 oc ud us uo ui) 106) 106 (un5 vc vd vs vo vi)).alloc (.cells (ins8 0 false false 0 0 0 0 0) 71))
  have HR := Lib.hid (blk_new4 w (.cells (ins8 20 nar reg size dst src off imm) 71) (.cells (un5 oc ud us uo ui) 106) (.cells (un5 vc vd vs vo vi) 106) 71 (ins8 0 false false 0 0 0 0 0))
  have HB := Lib.hid (below_box4 w (.cells (ins8 20 nar reg size dst src off imm) 71) (.cells (un5 oc ud us uo ui) 106) (.cells (un5 vc vd vs vo vi) 106) (.cells (ins8 0 false false 0 0 0 0 0) 71))
  clear hp h39
  go_enter Tryd.func93, Tryd.ntmps93
  go_wp2_with fail
  go_at_call 118
  refine (HO.out _).mono ?_
  rintro e w1 ⟨rfl, hB1⟩
  have hi := HI.out.below hB1 HI.out.lt
  have hu := HU.out.below hB1 HU.out.lt
  have hv := HV.out.below hB1 HV.out.lt
  have hr := HR.out.below hB1 HR.out.lt
  have hB := HB.out.trans (hB1.mono HB.out.size)
  clear HO HI HU HV HR HB hB1
  generalize hg0 : w.heap.size = g0 at *
  obtain ⟨g3, hg3⟩ : ∃ g3, g0 + 1 + 1 + 1 = g3 := ⟨_, rfl⟩
  obtain ⟨g2, hg2⟩ : ∃ g2, g0 + 1 + 1 = g2 := ⟨_, rfl⟩
  obtain ⟨g1, hg1⟩ : ∃ g1, g0 + 1 = g1 := ⟨_, rfl⟩
  rw [hg3] at hr ⊢
  rw [hg2] at hv ⊢
  rw [hg1] at hu ⊢
  have n1 : g0 ≠ g1 := by omega
  have n2 : g0 ≠ g2 := by omega
  have n3 : g3 ≠ g0 := by omega
  have n4 : g0 ≠ g3 := by omega
  have n5 : g0 ≤ g3 := by omega
  clear hg3 hg2 hg1
  subst hg0
  obtain ⟨⟨c0, c1, c2, c3, c4, c5, c6, c7⟩, f0, f1, f2, f3, f4, f5, f6, f7⟩ := cells8 hr
  obtain ⟨⟨d0, d1, d2, d3, d4, d5, d6, d7⟩, k0, k1, k2, k3, k4, k5, k6, k7⟩ := cells8 hi
  obtain ⟨u0, u1, u2, u3, u4, q0, q1, q2, q3, q4⟩ := cells5 hu
  obtain ⟨v0, v1, v2, v3, v4, r0, r1, r2, r3, r4⟩ := cells5 hv
  have HR := Lib.hid hr
  have HB := Lib.hid hB
  clear hi hu hv hr hB
  go_wp2_with fail
  exact bodyPost_ret (v := .agg (ins8 20 nar reg size ud src off m)) (results_cell_row Tryd.results93 _ _ g3 71 (ins8 20 nar reg size ud src off m) (0, 0) _ rfl (set8 ((HR.out.far (p := ⟨w.heap.size, 4, none⟩) n3 _).far (p := ⟨w.heap.size, 7, none⟩) n3 _) _ _ _ _ _ _ _ _) Tryd.underlying71 rfl (by kernel_rfl)) rfl ⟨rfl, below8 ((HB.out.setCell (p := ⟨w.heap.size, 4, none⟩) (Nat.le_refl _) _).setCell (p := ⟨w.heap.size, 7, none⟩) (Nat.le_refl _) _) n5 _ _ _ _ _ _ _ _⟩

theorem bits_ne {op : Int} (h : 1 ≤ op ∧ op ≤ 39) (nar reg : Bool) : (bits BinOp.and IntKind.i64 (namedL op nar reg) 4 != 0) = (namedL op nar reg / 4 % 2 == 1) ∧ (bits BinOp.and IntKind.i64 (namedL op nar reg) 8 != 0) = (namedL op nar reg / 8 % 2 == 1) ∧ (bits BinOp.and IntKind.i64 (namedL op nar reg) 16 != 0) = (namedL op nar reg / 16 % 2 == 1) ∧ (bits BinOp.and IntKind.i64 (namedL op nar reg) 32 != 0) = (namedL op nar reg / 32 % 2 == 1) := by
  have h1 := named_bits h nar reg
  refine ⟨h1.2.2.1, h1.2.2.2.1, h1.2.2.2.2.1, ?_⟩
  rw [bne, h1.2.2.2.2.2]
  by_cases h2 : namedL op nar reg / 32 % 2 = 0
  · simp [h2]
  · have h3 : namedL op nar reg / 32 % 2 = 1 := by omega
    simp [h3]
theorem or_i64 (x y : Int) (p q : Nat) (hx : x % 18446744073709551616 = p) (hy : y % 18446744073709551616 = q) : bits BinOp.or IntKind.i64 x y = IntKind.i64.wrap ((p ||| q : Nat) : Int) := by
  show IntKind.i64.wrap (((BitVec.ofInt 64 x ||| BitVec.ofInt 64 y).toNat : Nat) : Int) = _
  rw [BitVec.toNat_or, BitVec.toNat_ofInt, BitVec.toNat_ofInt]
  have e1 : (x % ((2 ^ 64 : Nat) : Int)).toNat = p := by
    rw [show ((2 ^ 64 : Nat) : Int) = 18446744073709551616 from rfl, hx]; rfl
  have e2 : (y % ((2 ^ 64 : Nat) : Int)).toNat = q := by
    rw [show ((2 ^ 64 : Nat) : Int) = 18446744073709551616 from rfl, hy]; rfl
  rw [e1, e2]
theorem w64 (x : Int) : IntKind.i64.wrap x = (x + 9223372036854775808) % 18446744073709551616 - 9223372036854775808 := IntKind.wrap_i64 x
theorem wide_or (v u : Int) (hv : -2147483648 ≤ v ∧ v ≤ 2147483647) : bits BinOp.or IntKind.i64 (wrap64 (v * 4294967296)) (u % 4294967296) = v * 4294967296 + u % 4294967296 := by
  obtain ⟨p, hp⟩ := Int.eq_ofNat_of_zero_le (show 0 ≤ v % 4294967296 by omega)
  obtain ⟨q, hq⟩ := Int.eq_ofNat_of_zero_le (show 0 ≤ u % 4294967296 by omega)
  have hpl : p < 4294967296 := by omega
  have hql : q < 4294967296 := by omega
  have e1 : wrap64 (v * 4294967296) = v * 4294967296 := wrap64_small (by omega) (by omega)
  rw [e1, hq]
  have e2 : v * 4294967296 % 18446744073709551616 = ((p * 4294967296 : Nat) : Int) := by omega
  rw [or_i64 _ _ (p * 4294967296) q e2 (by omega), nat_join 32 (p * 4294967296) q (by rw [show 2 ^ 32 = 4294967296 by decide]; exact Nat.mul_mod_left _ _) (by rw [show 2 ^ 32 = 4294967296 by decide]; exact hql), w64]
  omega
theorem filled_any (i : Ins) (u v : U) (h39 : 1 ≤ i.op ∧ i.op ≤ 39) (hv : -2147483648 ≤ v.imm ∧ v.imm ≤ 2147483647) (w : World) :
    Calls Tryd.prog 93 #[.agg i.arr, .agg u.arr, .agg v.arr] w fun e w' => e = .returned (.agg (filledL i u v).arr) ∧ Below w.heap.size w w' := by
  obtain ⟨op, nar, reg, size, dst, src, off, imm⟩ := i
  obtain ⟨oc, ud, us, uo, ui⟩ := u
  obtain ⟨vc, vd, vs, vo, vi⟩ := v
  simp only at h39 hv
  obtain ⟨b4, b8, b16, b32⟩ := bits_ne h39 nar reg
  by_cases h20 : op = 20
  · subst h20
    refine (filled_20 h39 nar reg size dst src off imm oc ud us uo ui vc vd vs vo vi (namedL 20 nar reg) rfl (b4.trans ?_) (b8.trans ?_) (b16.trans ?_) _ (wide_or vi ui hv) w).mono fun e w' ⟨h1, h2⟩ => ⟨?_, h2⟩
    · cases nar <;> cases reg <;> rfl
    · cases nar <;> cases reg <;> rfl
    · cases nar <;> cases reg <;> rfl
    · rw [h1]; cases nar <;> cases reg <;> rfl
  by_cases h21 : op = 21
  · subst h21
    refine (filled_21 h39 nar reg size dst src off imm oc ud us uo ui vc vd vs vo vi (namedL 21 nar reg) rfl (b4.trans ?_) (b8.trans ?_) (b16.trans ?_) w).mono fun e w' ⟨h1, h2⟩ => ⟨?_, h2⟩
    · cases nar <;> cases reg <;> rfl
    · cases nar <;> cases reg <;> rfl
    · cases nar <;> cases reg <;> rfl
    · rw [h1]; cases nar <;> cases reg <;> rfl
  refine (filled_else op h39 nar reg size dst src off imm oc ud us uo ui vc vd vs vo vi (namedL op nar reg) _ _ _ _ rfl b4 b8 b16 b32 ⟨h20, h21⟩ w).mono fun e w' ⟨h1, h2⟩ => ⟨?_, h2⟩
  rw [h1]
  unfold filledL Ins.p Ins.arr
  simp only [if_neg h20, if_neg h21, beq_iff_eq]
end Go.Proofs.YtlodoinmippebaaDoor
