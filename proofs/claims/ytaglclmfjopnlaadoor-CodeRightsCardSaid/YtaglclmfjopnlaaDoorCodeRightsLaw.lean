/- CodeRights: its walk. -/
import Derived.Test.YtaglclmfjopnlaaDoorCodeJ1
import Derived.Test.YtaglclmfjopnlaaDoorRefI
import Derived.Deep.DeepCutAuto
namespace Go.Proofs.YtaglclmfjopnlaaDoor
open Go.ChangeShapes Go.WideShapes Go.ChangeAt Go.RowKit
open Cod Bits
set_option linter.unusedVariables false
set_option linter.unusedSimpArgs false

theorem OwnB.formR {w : World} {base : Nat} {v : Value} {L : List Int} (h : OwnB w base v L) : ∃ A m c, v = .slice A m c ∧ Hid (m = L.length) := by
  obtain ⟨A, c, hv, _⟩ := h.form
  exact ⟨A, _, c, hv, Lib.hid rfl⟩
def exitI : Ins := ⟨39, false, false, 0, 0, 0, 0, 0⟩
theorem exit_ok : exitI.wrong = 0 := by kernel_rfl
theorem check1 (i : Ins) : checkL [i] 0 = (0, i.wrong) := by
  unfold checkL
  rw [if_neg (by decide)]
  by_cases h : i.wrong = 0
  · rw [if_pos h, h]; rfl
  · rw [if_neg h]; rfl
theorem check3 (i : Ins) : checkL [exitI, i, i] 0 = (if i.wrong = 0 then 0 else 1, i.wrong) := by
  unfold checkL
  rw [if_neg (by decide), if_pos exit_ok]
  unfold checkL
  rw [if_neg (by decide)]
  by_cases h : i.wrong = 0
  · rw [if_pos h, if_pos h, h]
    unfold checkL
    rw [if_neg (by decide), if_pos h]; rfl
  · rw [if_neg h, if_neg h]; rfl
theorem check3b (i : Ins) : checkL [exitI, exitI, i] 0 = (if i.wrong = 0 then 0 else 2, i.wrong) := by
  unfold checkL
  rw [if_neg (by decide), if_pos exit_ok]
  unfold checkL
  rw [if_neg (by decide), if_pos exit_ok]
  unfold checkL
  rw [if_neg (by decide)]
  by_cases h : i.wrong = 0
  · rw [if_pos h, if_pos h, h]; rfl
  · rw [if_neg h, if_neg h]; rfl
theorem list_at (w : World) (L : List Ins) : CodeAt (w.alloc (.cells (L.flatMap Ins.cells).toArray 41)) (some ⟨w.heap.size, 0, none⟩) L := codeAt_cells (by simp) fun m v hm => by
  rw [(Blk.new w 41 (L.flatMap Ins.cells).toArray).cell m]
  simpa using hm
/-- inside CodeRights: the instruction's own box, the tables -/
structure RIn (w : World) (a : Array Value) (W : World) : Prop where
  ins : Blk W w.heap.size 41 a
  tabs : Tabs W
  below : Below w.heap.size w W
theorem RIn.up {w : World} {a : Array Value} {W W' : World} (h : RIn w a W) (hb : Below W.heap.size W W') : RIn w a W' := ⟨h.ins.below hb h.ins.lt, h.tabs.below hb, h.below.trans (hb.mono h.below.size)⟩
theorem RIn.drew {w : World} {a : Array Value} {W : World} (h : RIn w a W) : RIn w a W.drew := ⟨h.ins.drew, ⟨h.tabs.lt, h.tabs.sizes, h.tabs.joins, h.tabs.jumps⟩, belowDrewN h.below 1⟩
theorem RIn.start {w : World} (ht : Tabs w) (a : Array Value) : RIn w a (w.alloc (.cells a 41)) := ⟨Blk.new w _ _, ht.below (below_box w _), below_box w _⟩
theorem rin9 {w : World} {op : Int} {nar reg : Bool} {size dst src off imm : Int} {W : World} (h : RIn w (ins8 op nar reg size dst src off imm) W) :
    W.cell? ⟨w.heap.size, 0, none⟩ = some (.int .i64 op) ∧ W.cell? ⟨w.heap.size, 1, none⟩ = some (.bool nar) ∧ W.cell? ⟨w.heap.size, 2, none⟩ = some (.bool reg) ∧ W.cell? ⟨w.heap.size, 3, none⟩ = some (.int .i64 size) ∧ W.cell? ⟨w.heap.size, 4, none⟩ = some (.int .i64 dst) ∧ W.cell? ⟨w.heap.size, 5, none⟩ = some (.int .i64 src) ∧ W.cell? ⟨w.heap.size, 6, none⟩ = some (.int .i64 off) ∧ W.cell? ⟨w.heap.size, 7, none⟩ = some (.int .i64 imm) ∧ RIn w (ins8 op nar reg size dst src off imm) W := by
  obtain ⟨⟨c0, c1, c2, c3, c4, c5, c6, c7⟩, _⟩ := cells8 h.ins
  exact ⟨c0, c1, c2, c3, c4, c5, c6, c7, h⟩
abbrev exit8 : Array Value := ins8 39 false false 0 0 0 0 0
/-- .. and the box of the exit -/
structure RIn2 (w : World) (a : Array Value) (g : Nat) (W : World) : Prop where
  inn : RIn w a W
  exit : Blk W g 41 exit8
theorem RIn2.up {w : World} {a : Array Value} {g : Nat} {W W' : World} (h : RIn2 w a g W) (hb : Below W.heap.size W W') : RIn2 w a g W' := ⟨h.inn.up hb, h.exit.below hb h.exit.lt⟩
theorem RIn2.start {w : World} {a : Array Value} {W : World} (h : RIn w a W) : RIn2 w a W.heap.size (W.alloc (.cells exit8 41)) := ⟨h.up (below_box W _), Blk.new W _ _⟩
theorem rights_len (i : Ins) : ((encB [exitI, exitI, i]).length : Int) = 16 + 8 * uAt [i] 1 := by
  have e : uAt [i] 1 = uAt [i] 0 + 1 + (if isLong i = true then 1 else 0) := uAt_succ [i] 0 i rfl
  have e0 : uAt [i] 0 = 0 := rfl
  have h1 : (insB exitI).length = 8 := by rw [insB_len]; rfl
  have h2 := insB_len i
  rw [show encB [exitI, exitI, i] = insB exitI ++ (insB exitI ++ (insB i ++ [])) from rfl]
  rw [List.length_append, List.length_append, List.length_append, h1, h2, e, e0]
  unfold Ins.units
  split <;> simp <;> omega
theorem units_one_cell (i : Ins) : (unitsL [i])[1]?.getD 0 = uAt [i] 1 := rfl
theorem uAt_one (i : Ins) : uAt [i] 1 = 1 ∨ uAt [i] 1 = 2 := by
  have e : uAt [i] 1 = uAt [i] 0 + 1 + (if isLong i = true then 1 else 0) := uAt_succ [i] 0 i rfl
  have e0 : uAt [i] 0 = 0 := rfl
  rw [e, e0]; split <;> omega
set_option maxRecDepth 100000 in
set_option maxHeartbeats 8000000 in
theorem codeRights_ok (w : World) (op : Int) (nar reg : Bool) (size dst src off imm : Int) (h0 : Ins.wrong ⟨op, nar, reg, size, dst, src, off, imm⟩ = 0) (ht : Tabs w) :
    Calls Tryd.prog 6 #[.agg (ins8 op nar reg size dst src off imm)] w fun e w' => e = .returned (.bool true) ∧ Below w.heap.size w w' := by
  obtain ⟨I, hI⟩ : ∃ I : Ins, I = ⟨op, nar, reg, size, dst, src, off, imm⟩ := ⟨_, rfl⟩
  have hst := RIn.start ht (ins8 op nar reg size dst src off imm)
  have HK := Lib.hid (known_any _ hst.tabs)
  have HRT := Lib.hid (fun W A c h => rright_any W A c h op nar reg size dst src off imm)
  rw [h0] at HRT
  have HS := Lib.hid hst
  have hc1 : checkL [I] 0 = (0, 0) := by rw [check1, hI, h0]
  have hc3 : checkL [exitI, I, I] 0 = (0, 0) := by rw [check3, hI, h0]; rfl
  have hc4 : checkL [exitI, exitI, I] 0 = (0, 0) := by rw [check3b, hI, h0]; rfl
  have HEN := Lib.hid (fun W ht' => encode_ok _ _ 3 3 [exitI, exitI, I] rfl (by decide) (list_at W [exitI, exitI, I]) ht' (by rw [hc4]))
  have HUN := Lib.hid (fun W => units_any _ _ 1 1 [I] rfl (by decide) (list_at W [I]))
  have HLN := Lib.hid (rights_len I)
  have HU1 := Lib.hid (uAt_one I)
  have HC1 := Lib.hid (fun W => check_any _ _ 1 1 [I] rfl (by decide) (list_at W [I]))
  have HC3 := Lib.hid (fun W => check_any _ _ 3 3 [exitI, I, I] rfl (by decide) (list_at W [exitI, I, I]))
  rw [hc1] at HC1
  rw [hc3] at HC3
  rw [hI] at HC1 HC3 HEN HUN
  clear hst ht h0 hc1 hc3 hc4
  go_enter Tryd.func6, Tryd.ntmps6
  go_wp2_with fail
  go_at_call 8
  refine HK.out.mono ?_
  rintro e w1 ⟨rfl, hB1⟩
  have HS1 := Lib.hid (HS.out.up hB1)
  clear hB1 HK HS
  go_wp2_with fail
  go_region_held3 (fun w' => w'.cell? ⟨w.heap.size, 0, none⟩ = some (.int .i64 op) ∧ w'.cell? ⟨w.heap.size, 1, none⟩ = some (.bool nar) ∧ w'.cell? ⟨w.heap.size, 2, none⟩ = some (.bool reg) ∧ w'.cell? ⟨w.heap.size, 3, none⟩ = some (.int .i64 size) ∧ w'.cell? ⟨w.heap.size, 4, none⟩ = some (.int .i64 dst) ∧ w'.cell? ⟨w.heap.size, 5, none⟩ = some (.int .i64 src) ∧ w'.cell? ⟨w.heap.size, 6, none⟩ = some (.int .i64 off) ∧ w'.cell? ⟨w.heap.size, 7, none⟩ = some (.int .i64 imm) ∧ RIn w (ins8 op nar reg size dst src off imm) w')
    (first | with_reducible exact rin9 HS1.out.drew | with_reducible exact rin9 hS2 | with_reducible exact rin9 hS3 | fail)
    (first | (go_at_call 22; (with_reducible refine (rows_any _).mono ?_); rintro e w2 ⟨v2, rfl, hown, hB2⟩; obtain ⟨A2, k2, rfl, hra⟩ := hown.rowsAt; rw [rowsL_len]; have hS2 := HS1.out.drew.up hB2; clear hown hB2) | (go_at_call 21; (with_reducible refine (HRT.out _ _ _ hra).mono ?_); rintro e w3 ⟨rfl, hB3⟩; have hS3 := hS2.up hB3; clear hB3))
  clear hra hS2 HS1 HRT
  have HR3 := Lib.hid (RIn2.start hS3)
  clear hS3
  go_upto_region 5 with (fail)
  generalize w3.alloc (.cells exit8 41) = W4 at *
  generalize w3.heap.size = g at *
  obtain ⟨⟨c0, c1, c2, c3, c4, c5, c6, c7⟩, -⟩ := cells8 HR3.out.inn.ins
  go_wp2_with fail
  go_at_call 19
  refine (HC1.out _).mono ?_
  rintro e w5 ⟨rfl, hB5⟩
  have HR5 := Lib.hid (HR3.out.up (Below.box hB5))
  clear hB5 HR3 HC1 c0 c1 c2 c3 c4 c5 c6 c7
  obtain ⟨⟨c0, c1, c2, c3, c4, c5, c6, c7⟩, -⟩ := cells8 HR5.out.inn.ins
  obtain ⟨⟨e0, e1, e2, e3, e4, e5, e6, e7⟩, -⟩ := cells8 HR5.out.exit
  go_wp2_with fail
  go_at_call 19
  refine (HC3.out _).mono ?_
  rintro e w6 ⟨rfl, hB6⟩
  have HR6 := Lib.hid (HR5.out.up (Below.box hB6))
  clear hB6 HR5 HC3 c0 c1 c2 c3 c4 c5 c6 c7 e0 e1 e2 e3 e4 e5 e6 e7
  obtain ⟨⟨c0, c1, c2, c3, c4, c5, c6, c7⟩, -⟩ := cells8 HR6.out.inn.ins
  obtain ⟨⟨e0, e1, e2, e3, e4, e5, e6, e7⟩, -⟩ := cells8 HR6.out.exit
  go_wp2_with fail
  go_at_call 16
  refine (HEN.out _ (HR6.out.inn.tabs.below (below_box w6 _))).mono ?_
  rintro e w7 ⟨v7, rfl, hown, hB7⟩
  obtain ⟨A7, m7, k7, rfl, hm7⟩ := hown.formR
  have HR7 := Lib.hid (HR6.out.up (Below.box hB7))
  have hml : (m7 : Int) = 16 + 8 * uAt [I] 1 := by rw [hm7.out, ← HLN.out, hI]
  have hu1 := HU1.out
  have HUC := Lib.hid (units_one_cell I)
  rw [← hI] at HUN
  generalize uAt [I] 1 = U at *
  clear hB7 HR6 HEN HLN HU1 hm7 hown c0 c1 c2 c3 c4 c5 c6 c7 e0 e1 e2 e3 e4 e5 e6 e7
  obtain ⟨⟨c0, c1, c2, c3, c4, c5, c6, c7⟩, -⟩ := cells8 HR7.out.inn.ins
  rcases hu1 with rfl | rfl
  · obtain rfl : m7 = 24 := by omega
    clear hml
    rw [hI] at HUN HUC
    clear hI
    go_wp2_with fail
    go_at_call 23
    refine (HUN.out _).mono ?_
    rintro e w8 ⟨rfl, hblk, hB8⟩
    have hc := hblk.cell 1 (by rw [unitsL_length]; simp)
    rw [HUC.out, ← size_box] at hc
    have HR8 := Lib.hid (HR7.out.up (Below.box hB8))
    clear hblk hB8 HUN HUC HR7 c0 c1 c2 c3 c4 c5 c6 c7
    go_wp2_with fail
    go_ret
    exact ⟨rfl, HR8.out.inn.below⟩
  · obtain rfl : m7 = 32 := by omega
    clear hml
    rw [hI] at HUN HUC
    clear hI
    go_wp2_with fail
    go_at_call 23
    refine (HUN.out _).mono ?_
    rintro e w8 ⟨rfl, hblk, hB8⟩
    have hc := hblk.cell 1 (by rw [unitsL_length]; simp)
    rw [HUC.out, ← size_box] at hc
    have HR8 := Lib.hid (HR7.out.up (Below.box hB8))
    clear hblk hB8 HUN HUC HR7 c0 c1 c2 c3 c4 c5 c6 c7
    go_wp2_with fail
    go_ret
    exact ⟨rfl, HR8.out.inn.below⟩
set_option maxRecDepth 100000 in
set_option maxHeartbeats 8000000 in
theorem codeRights_no (w : World) (op : Int) (nar reg : Bool) (size dst src off imm : Int) (v : Int) (h0 : Ins.wrong ⟨op, nar, reg, size, dst, src, off, imm⟩ = v) (hv : v ≠ 0) (ht : Tabs w) :
    Calls Tryd.prog 6 #[.agg (ins8 op nar reg size dst src off imm)] w fun e w' => e = .returned (.bool true) ∧ Below w.heap.size w w' := by
  obtain ⟨I, hI⟩ : ∃ I : Ins, I = ⟨op, nar, reg, size, dst, src, off, imm⟩ := ⟨_, rfl⟩
  have hst := RIn.start ht (ins8 op nar reg size dst src off imm)
  have HK := Lib.hid (known_any _ hst.tabs)
  have HRT := Lib.hid (fun W A c h => rright_any W A c h op nar reg size dst src off imm)
  rw [h0] at HRT
  have HS := Lib.hid hst
  have hc1 : checkL [I] 0 = (0, v) := by rw [check1, hI, h0]
  have hc3 : checkL [exitI, I, I] 0 = (1, v) := by rw [check3, hI, h0, if_neg hv]
  have hc4 : checkL [exitI, exitI, I] 0 = (2, v) := by rw [check3b, hI, h0, if_neg hv]
  have HEN := Lib.hid (fun W => encode_no _ _ 3 3 [exitI, exitI, I] rfl (by decide) (list_at W [exitI, exitI, I]) (by rw [hc4]; exact hv))
  rw [hc4] at HEN
  have tv : (v != 0) = true := by rw [bne_iff_ne]; exact hv
  have tv2 : (v == 0) = false := by rw [beq_eq_false_iff_ne]; exact hv
  have HC1 := Lib.hid (fun W => check_any _ _ 1 1 [I] rfl (by decide) (list_at W [I]))
  have HC3 := Lib.hid (fun W => check_any _ _ 3 3 [exitI, I, I] rfl (by decide) (list_at W [exitI, I, I]))
  rw [hc1] at HC1
  rw [hc3] at HC3
  rw [hI] at HC1 HC3 HEN
  clear hst ht h0 hc1 hc3 hc4 hv
  go_enter Tryd.func6, Tryd.ntmps6
  go_wp2_with fail
  go_at_call 8
  refine HK.out.mono ?_
  rintro e w1 ⟨rfl, hB1⟩
  have HS1 := Lib.hid (HS.out.up hB1)
  clear hB1 HK HS
  go_wp2_with fail
  go_region_held3 (fun w' => w'.cell? ⟨w.heap.size, 0, none⟩ = some (.int .i64 op) ∧ w'.cell? ⟨w.heap.size, 1, none⟩ = some (.bool nar) ∧ w'.cell? ⟨w.heap.size, 2, none⟩ = some (.bool reg) ∧ w'.cell? ⟨w.heap.size, 3, none⟩ = some (.int .i64 size) ∧ w'.cell? ⟨w.heap.size, 4, none⟩ = some (.int .i64 dst) ∧ w'.cell? ⟨w.heap.size, 5, none⟩ = some (.int .i64 src) ∧ w'.cell? ⟨w.heap.size, 6, none⟩ = some (.int .i64 off) ∧ w'.cell? ⟨w.heap.size, 7, none⟩ = some (.int .i64 imm) ∧ RIn w (ins8 op nar reg size dst src off imm) w')
    (first | with_reducible exact rin9 HS1.out.drew | with_reducible exact rin9 hS2 | with_reducible exact rin9 hS3 | fail)
    (first | (go_at_call 22; (with_reducible refine (rows_any _).mono ?_); rintro e w2 ⟨v2, rfl, hown, hB2⟩; obtain ⟨A2, k2, rfl, hra⟩ := hown.rowsAt; rw [rowsL_len]; have hS2 := HS1.out.drew.up hB2; clear hown hB2) | (go_at_call 21; (with_reducible refine (HRT.out _ _ _ hra).mono ?_); rintro e w3 ⟨rfl, hB3⟩; have hS3 := hS2.up hB3; clear hB3))
  clear hra hS2 HS1 HRT
  have HR3 := Lib.hid (RIn2.start hS3)
  clear hS3
  go_upto_region 5 with (fail)
  generalize w3.alloc (.cells exit8 41) = W4 at *
  generalize w3.heap.size = g at *
  obtain ⟨⟨c0, c1, c2, c3, c4, c5, c6, c7⟩, -⟩ := cells8 HR3.out.inn.ins
  go_wp2_with fail
  go_at_call 19
  refine (HC1.out _).mono ?_
  rintro e w5 ⟨rfl, hB5⟩
  have HR5 := Lib.hid (HR3.out.up (Below.box hB5))
  clear hB5 HR3 HC1 c0 c1 c2 c3 c4 c5 c6 c7
  obtain ⟨⟨c0, c1, c2, c3, c4, c5, c6, c7⟩, -⟩ := cells8 HR5.out.inn.ins
  obtain ⟨⟨e0, e1, e2, e3, e4, e5, e6, e7⟩, -⟩ := cells8 HR5.out.exit
  go_wp2_with fail
  go_at_call 19
  refine (HC3.out _).mono ?_
  rintro e w6 ⟨rfl, hB6⟩
  have HR6 := Lib.hid (HR5.out.up (Below.box hB6))
  clear hB6 HR5 HC3 c0 c1 c2 c3 c4 c5 c6 c7 e0 e1 e2 e3 e4 e5 e6 e7
  obtain ⟨⟨c0, c1, c2, c3, c4, c5, c6, c7⟩, -⟩ := cells8 HR6.out.inn.ins
  obtain ⟨⟨e0, e1, e2, e3, e4, e5, e6, e7⟩, -⟩ := cells8 HR6.out.exit
  go_wp2_with fail
  go_at_call 16
  refine (HEN.out _).mono ?_
  rintro e w7 ⟨rfl, hB7⟩
  have HR7 := Lib.hid (HR6.out.up (Below.box hB7))
  clear hB7 HR6 HEN c0 c1 c2 c3 c4 c5 c6 c7 e0 e1 e2 e3 e4 e5 e6 e7
  go_wp2_with fail
  go_ret
  exact ⟨rfl, HR7.out.inn.below⟩
theorem codeRights_walk (w : World) (op : Int) (nar reg : Bool) (size dst src off imm : Int) (ht : Tabs w) :
    Calls Tryd.prog 6 #[.agg (ins8 op nar reg size dst src off imm)] w fun e w' => e = .returned (.bool true) ∧ Below w.heap.size w w' := by
  by_cases h : Ins.wrong ⟨op, nar, reg, size, dst, src, off, imm⟩ = 0
  · exact codeRights_ok w op nar reg size dst src off imm h ht
  · exact codeRights_no w op nar reg size dst src off imm _ rfl h ht
end Go.Proofs.YtaglclmfjopnlaaDoor
