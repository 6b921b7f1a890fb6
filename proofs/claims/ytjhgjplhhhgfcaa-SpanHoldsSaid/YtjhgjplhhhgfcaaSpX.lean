/- Contracts of package span: halved. (Written by gen_sphalf.py.) -/
import Derived.Test.YtjhgjplhhhgfcaaSpSr
namespace Go.Proofs.Ytjhgjplhhhgfcaa
open Go.ChangeShapes Go.WideShapes Go.ChangeAt Go.RowKit
open Spn
namespace Spc
set_option linter.unusedVariables false
set_option maxRecDepth 100000
/-- a box of two ends beside the call's own -/
def HBx (w0 w : World) (g : Nat) (l h : Int) : Prop := w0.heap.size + 2 < g ∧ Blk w g 47 #[.int .i64 l, .int .i64 h]
theorem HBx.up {w0 w w' : World} {g : Nat} {l h : Int} (hh : HBx w0 w g l h) (hb : Below w.heap.size w w') : HBx w0 w' g l h := ⟨hh.1, hh.2.up hb⟩
/-- halved's memory: its arguments, the half, two operands -/
def HalfW (w0 : World) (al ah bl bh : Int) (g1 g2 g3 : Nat) (xl xh yl yh : Int) (w : World) : Prop :=
  JW w0 al ah bl bh w ∧ HBx w0 w g1 0 4294967295 ∧ HBx w0 w g2 xl xh ∧ HBx w0 w g3 yl yh ∧ g1 ≠ g2 ∧ g1 ≠ g3 ∧ g2 ≠ g3
theorem HalfW.up {w0 w w' : World} {al ah bl bh : Int} {g1 g2 g3 : Nat} {xl xh yl yh : Int} (h : HalfW w0 al ah bl bh g1 g2 g3 xl xh yl yh w) (hb : Below w.heap.size w w') : HalfW w0 al ah bl bh g1 g2 g3 xl xh yl yh w' :=
  ⟨h.1.up hb, h.2.1.up hb, h.2.2.1.up hb, h.2.2.2.1.up hb, h.2.2.2.2⟩
/-- what holds in halved's first region, whatever has come up -/
def HalfR (w0 : World) (al ah bl bh xl xh yl yh : Int) (u : Nat → Prop) (X : Tmp → Value) (w : World) : Prop :=
  JW w0 al ah bl bh w ∧
  (u 0 → X 14 = .agg #[.int .i64 0, .int .i64 4294967295]) ∧
  (u 1 → X 15 = .agg #[.int .i64 al, .int .i64 ah]) ∧
  (u 2 → X 16 = .agg #[.int .i64 xl, .int .i64 xh]) ∧
  (u 3 → X 17 = .agg #[.int .i64 bl, .int .i64 bh]) ∧
  (u 4 → X 18 = .agg #[.int .i64 yl, .int .i64 yh]) ∧
  SlotI (w0.heap.size + 2) (u 5) (u 8) (X 7) w (.int .i64 0) (.int .i64 4294967295) ∧
  SlotI (w0.heap.size + 2) (u 6) (u 9) (X 8) w (.int .i64 xl) (.int .i64 xh) ∧
  SlotI (w0.heap.size + 2) (u 7) (u 10) (X 9) w (.int .i64 yl) (.int .i64 yh) ∧
  (u 5 → u 6 → X 7 ≠ X 8) ∧
  (u 5 → u 7 → X 7 ≠ X 9) ∧
  (u 6 → u 7 → X 8 ≠ X 9)
/-- what holds in halved's second region, whatever has come up -/
def HalfS (w0 : World) (al ah bl bh : Int) (g1 g2 g3 : Nat) (op xl xh yl yh cl ch o pl ph ql qh : Int) (u : Nat → Prop) (X : Tmp → Value) (w : World) : Prop :=
  (JW w0 al ah bl bh w ∧ Blk w g1 47 #[.int .i64 0, .int .i64 4294967295]) ∧
  (¬ u 11 → X 0 = .int .i64 op) ∧
  (u 11 → u 0) ∧
  (u 0 → X 20 = .int .i64 op) ∧
  (u 1 → X 21 = .agg #[.int .i64 xl, .int .i64 xh]) ∧
  (u 2 → X 22 = .agg #[.int .i64 yl, .int .i64 yh]) ∧
  (u 3 → X 23 = .agg #[.int .i64 bl, .int .i64 bh]) ∧
  (u 4 → X 24 = .agg #[.int .i64 yl, .int .i64 yh]) ∧
  (u 5 → X 25 = .agg #[.int .i64 cl, .int .i64 ch]) ∧
  (u 6 → X 26 = .tuple #[.int .i64 o, .agg #[.int .i64 pl, .int .i64 ph], .agg #[.int .i64 ql, .int .i64 qh]]) ∧
  (u 7 → X 19 = .tuple #[.int .i64 o, .agg #[.int .i64 pl, .int .i64 ph], .agg #[.int .i64 ql, .int .i64 qh]]) ∧
  (u 8 → X 27 = .int .i64 o) ∧
  (u 9 → X 28 = .agg #[.int .i64 pl, .int .i64 ph]) ∧
  (u 10 → X 29 = .agg #[.int .i64 ql, .int .i64 qh]) ∧
  (u 11 → X 0 = .int .i64 o) ∧
  ((¬ u 12 → Blk w g2 47 #[.int .i64 xl, .int .i64 xh]) ∧ (u 12 → Blk w g2 47 #[.int .i64 pl, .int .i64 ph])) ∧
  ((¬ u 13 → Blk w g3 47 #[.int .i64 yl, .int .i64 yh]) ∧ (u 13 → Blk w g3 47 #[.int .i64 ql, .int .i64 qh])) ∧
  (u 12 → u 1) ∧
  (u 13 → u 2) ∧
  (u 13 → u 4)
set_option maxHeartbeats 8000000 in
theorem half1 (op al ah bl bh xl xh yl yh cl ch o pl ph ql qh l h : Int) (ex : lowE ⟨al, ah⟩ = ⟨xl, xh⟩) (ey : lowE ⟨bl, bh⟩ = ⟨yl, yh⟩) (ec : countsX ⟨bl, bh⟩ ⟨yl, yh⟩ 32 = ⟨cl, ch⟩)
    (eo : operX op ⟨xl, xh⟩ ⟨yl, yh⟩ ⟨cl, ch⟩ 4294967296 = (o, ⟨pl, ph⟩, ⟨ql, qh⟩)) (kp : (⟨pl, ph⟩ : E).ok) (kq : (⟨ql, qh⟩ : E).ok) (kd : (plainX o = 11 ∨ plainX o = 12 ∨ plainX o = 13) → 0 ≤ ql ∧ qh ≤ 63)
    (hr : (if plainX o ≠ o ∧ (withinB ⟨pl, ph⟩ ⟨0, 2147483647⟩ && withinB ⟨ql, qh⟩ ⟨0, 2147483647⟩) = false then halfE else match answerX (plainX o) ⟨pl, ph⟩ ⟨ql, qh⟩ with | some r => if withinB r halfE then r else halfE | none => halfE) = ⟨l, h⟩) (w : World) :
    Calls Try.prog 40 #[.int .i64 op, .agg #[.int .i64 al, .int .i64 ah], .agg #[.int .i64 bl, .int .i64 bh]] w (RetE w l h) := by
  have HN := Lib.hid (fun w => natC 32 4294967295 32 rfl (by decide) (by decide) w)
  have HN31 := Lib.hid (fun w => natC 31 2147483647 31 rfl (by decide) (by decide) w)
  have HX := Lib.hid (fun w => low_any al ah xl xh ex w)
  have HY := Lib.hid (fun w => low_any bl bh yl yh ey w)
  have HC := Lib.hid (fun w => counts_31 bl bh yl yh cl ch ec w)
  have HO := Lib.hid (fun w => oper_any op xl xh yl yh cl ch 4294967296 o pl ph ql qh eo w)
  have HP := Lib.hid (fun w => signless_any o w)
  have HA := Lib.hid (fun w => answer_any (plainX o) pl ph ql qh kp kq kd w)
  have HR := Lib.hid hr
  have HA0 := Lib.hid (JW.start w al ah bl bh (.int .i64 0) (.int .i64 0))
  clear ex ey ec eo kp kq kd hr
  go_enter Try.func40, Try.ntmps40
  go_wp2_with fail
  go_cut [7, 8, 9] (fun s7 s8 s9 wx => ∃ g1 g2 g3, s7 = .pointer (some ⟨g1, 0, none⟩) ∧ s8 = .pointer (some ⟨g2, 0, none⟩) ∧ s9 = .pointer (some ⟨g3, 0, none⟩) ∧ HalfW w al ah bl bh g1 g2 g3 xl xh yl yh wx)
  case first =>
    clear HN31 HC HO HP HA HR
    refine Inv.wp_region_inv [14, 15, 16, 17, 18, 7, 8, 9] (HalfR w al ah bl bh xl xh yl yh) (by kernel_rfl) (by kernel_rfl) [0, 1, 2, 3, 4, 5, 6, 7, 8, 9, 10] (by kernel_rfl) ?_ ?_ ?_
    · exact ⟨HA0.out.drew, fun h => h.elim, fun h => h.elim, fun h => h.elim, fun h => h.elim, fun h => h.elim, SlotI.no, SlotI.no, SlotI.no, fun h => h.elim, fun h => h.elim, fun h => h.elim⟩
    · refine Inv.AllInv.cons ({ dst := some 14, op := Op.call { callee := Callee.value (Operand.func 43), args := #[Operand.const (Value.int IntKind.i64 32)], argTypes := #[3] }, type := 47, pos := "alu.go:34", after := #[], guard := none }) rfl rfl [] (by kernel_rfl) ?_ ?_
      · intro Q2 u X wv hR hu hd K hK
        obtain ⟨q0, q1, q2, q3, q4, q5, q6, q7, q8, q9, q10, q11⟩ := hR
        refine ⟨?_⟩
        simp only [Inv.puts, Act.put, List.setIfInBounds_toArray, List.set_cons_zero, List.set_cons_succ] at hK
        simp only [Inv.puts, Act.put, List.setIfInBounds_toArray, List.set_cons_zero, List.set_cons_succ]
        go_simp
        go_at_call 43
        refine (HN.out _).mono ?_
        rintro e w1 ⟨rfl, hB⟩
        refine hK.out (Inv.upd X 14 (.agg #[.int .i64 0, .int .i64 4294967295])) _ ?_
        exact ⟨q0.up hB, fun _ => rfl, fun h => q2 (h.resolve_left (by decide)), fun h => q3 (h.resolve_left (by decide)), fun h => q4 (h.resolve_left (by decide)), fun h => q5 (h.resolve_left (by decide)), (q6.step (by decide) (by decide)).up hB, (q7.step (by decide) (by decide)).up hB, (q8.step (by decide) (by decide)).up hB, fun h h2 => q9 (h.resolve_left (by decide)) (h2.resolve_left (by decide)), fun h h2 => q10 (h.resolve_left (by decide)) (h2.resolve_left (by decide)), fun h h2 => q11 (h.resolve_left (by decide)) (h2.resolve_left (by decide))⟩
      refine Inv.AllInv.cons ({ dst := some 15, op := Op.load 47 (Operand.tmp 4), type := 47, pos := "alu.go:34", after := #[], guard := none }) rfl rfl [] (by kernel_rfl) ?_ ?_
      · intro Q2 u X wv hR hu hd K hK
        obtain ⟨q0, q1, q2, q3, q4, q5, q6, q7, q8, q9, q10, q11⟩ := hR
        obtain ⟨f0, f1, f2, f3, f4⟩ := cells2 q0.1
        refine ⟨?_⟩
        simp only [Inv.puts, Act.put, List.setIfInBounds_toArray, List.set_cons_zero, List.set_cons_succ] at hK
        simp only [Inv.puts, Act.put, List.setIfInBounds_toArray, List.set_cons_zero, List.set_cons_succ]
        go_simp
        refine hK.out (Inv.upd X 15 (.agg #[.int .i64 al, .int .i64 ah])) _ ?_
        exact ⟨q0, fun h => q1 (h.resolve_left (by decide)), fun _ => rfl, fun h => q3 (h.resolve_left (by decide)), fun h => q4 (h.resolve_left (by decide)), fun h => q5 (h.resolve_left (by decide)), (q6.step (by decide) (by decide)), (q7.step (by decide) (by decide)), (q8.step (by decide) (by decide)), fun h h2 => q9 (h.resolve_left (by decide)) (h2.resolve_left (by decide)), fun h h2 => q10 (h.resolve_left (by decide)) (h2.resolve_left (by decide)), fun h h2 => q11 (h.resolve_left (by decide)) (h2.resolve_left (by decide))⟩
      refine Inv.AllInv.cons ({ dst := some 16, op := Op.call { callee := Callee.value (Operand.func 36), args := #[Operand.tmp 15], argTypes := #[47] }, type := 47, pos := "alu.go:34", after := #[{ on := 1, ground := Ground.data }, { on := 0, ground := Ground.chain }], guard := none }) rfl rfl [1, 0] (by kernel_rfl) ?_ ?_
      · intro Q2 u X wv hR hu hd K hK
        obtain ⟨q0, q1, q2, q3, q4, q5, q6, q7, q8, q9, q10, q11⟩ := hR
        have e2 := q2 hd.1
        refine ⟨?_⟩
        simp only [Inv.puts, Act.put, List.setIfInBounds_toArray, List.set_cons_zero, List.set_cons_succ] at hK
        simp only [Inv.puts, Act.put, List.setIfInBounds_toArray, List.set_cons_zero, List.set_cons_succ, e2]
        go_simp
        go_at_call 36
        refine (HX.out _).mono ?_
        rintro e w1 ⟨rfl, hB⟩
        refine hK.out (Inv.upd (Inv.upd X 15 (.agg #[.int .i64 al, .int .i64 ah])) 16 (.agg #[.int .i64 xl, .int .i64 xh])) _ ?_
        rw [Inv.upd_same e2]
        exact ⟨q0.up hB, fun h => q1 (h.resolve_left (by decide)), fun h => q2 (h.resolve_left (by decide)), fun _ => rfl, fun h => q4 (h.resolve_left (by decide)), fun h => q5 (h.resolve_left (by decide)), (q6.step (by decide) (by decide)).up hB, (q7.step (by decide) (by decide)).up hB, (q8.step (by decide) (by decide)).up hB, fun h h2 => q9 (h.resolve_left (by decide)) (h2.resolve_left (by decide)), fun h h2 => q10 (h.resolve_left (by decide)) (h2.resolve_left (by decide)), fun h h2 => q11 (h.resolve_left (by decide)) (h2.resolve_left (by decide))⟩
      refine Inv.AllInv.cons ({ dst := some 17, op := Op.load 47 (Operand.tmp 5), type := 47, pos := "alu.go:34", after := #[], guard := none }) rfl rfl [] (by kernel_rfl) ?_ ?_
      · intro Q2 u X wv hR hu hd K hK
        obtain ⟨q0, q1, q2, q3, q4, q5, q6, q7, q8, q9, q10, q11⟩ := hR
        obtain ⟨f0, f1, f2, f3, f4⟩ := cells2 q0.2.1
        refine ⟨?_⟩
        simp only [Inv.puts, Act.put, List.setIfInBounds_toArray, List.set_cons_zero, List.set_cons_succ] at hK
        simp only [Inv.puts, Act.put, List.setIfInBounds_toArray, List.set_cons_zero, List.set_cons_succ]
        go_simp
        refine hK.out (Inv.upd X 17 (.agg #[.int .i64 bl, .int .i64 bh])) _ ?_
        exact ⟨q0, fun h => q1 (h.resolve_left (by decide)), fun h => q2 (h.resolve_left (by decide)), fun h => q3 (h.resolve_left (by decide)), fun _ => rfl, fun h => q5 (h.resolve_left (by decide)), (q6.step (by decide) (by decide)), (q7.step (by decide) (by decide)), (q8.step (by decide) (by decide)), fun h h2 => q9 (h.resolve_left (by decide)) (h2.resolve_left (by decide)), fun h h2 => q10 (h.resolve_left (by decide)) (h2.resolve_left (by decide)), fun h h2 => q11 (h.resolve_left (by decide)) (h2.resolve_left (by decide))⟩
      refine Inv.AllInv.cons ({ dst := some 18, op := Op.call { callee := Callee.value (Operand.func 36), args := #[Operand.tmp 17], argTypes := #[47] }, type := 47, pos := "alu.go:34", after := #[{ on := 3, ground := Ground.data }, { on := 2, ground := Ground.chain }], guard := none }) rfl rfl [3, 2] (by kernel_rfl) ?_ ?_
      · intro Q2 u X wv hR hu hd K hK
        obtain ⟨q0, q1, q2, q3, q4, q5, q6, q7, q8, q9, q10, q11⟩ := hR
        have e4 := q4 hd.1
        refine ⟨?_⟩
        simp only [Inv.puts, Act.put, List.setIfInBounds_toArray, List.set_cons_zero, List.set_cons_succ] at hK
        simp only [Inv.puts, Act.put, List.setIfInBounds_toArray, List.set_cons_zero, List.set_cons_succ, e4]
        go_simp
        go_at_call 36
        refine (HY.out _).mono ?_
        rintro e w1 ⟨rfl, hB⟩
        refine hK.out (Inv.upd (Inv.upd X 17 (.agg #[.int .i64 bl, .int .i64 bh])) 18 (.agg #[.int .i64 yl, .int .i64 yh])) _ ?_
        rw [Inv.upd_same e4]
        exact ⟨q0.up hB, fun h => q1 (h.resolve_left (by decide)), fun h => q2 (h.resolve_left (by decide)), fun h => q3 (h.resolve_left (by decide)), fun h => q4 (h.resolve_left (by decide)), fun _ => rfl, (q6.step (by decide) (by decide)).up hB, (q7.step (by decide) (by decide)).up hB, (q8.step (by decide) (by decide)).up hB, fun h h2 => q9 (h.resolve_left (by decide)) (h2.resolve_left (by decide)), fun h h2 => q10 (h.resolve_left (by decide)) (h2.resolve_left (by decide)), fun h h2 => q11 (h.resolve_left (by decide)) (h2.resolve_left (by decide))⟩
      refine Inv.AllInv.cons ({ dst := some 7, op := Op.alloc 47, type := 0, pos := "alu.go:34", after := #[], guard := none }) rfl rfl [] (by kernel_rfl) ?_ ?_
      · intro Q2 u X wv hR hu hd K hK
        obtain ⟨q0, q1, q2, q3, q4, q5, q6, q7, q8, q9, q10, q11⟩ := hR
        have hge := jw_ge q0
        refine ⟨?_⟩
        simp only [Inv.puts, Act.put, List.setIfInBounds_toArray, List.set_cons_zero, List.set_cons_succ] at hK
        simp only [Inv.puts, Act.put, List.setIfInBounds_toArray, List.set_cons_zero, List.set_cons_succ]
        go_simp
        refine hK.out (Inv.upd X 7 (.pointer (some ⟨wv.heap.size, 0, none⟩))) _ ?_
        exact ⟨q0.up (below_box' _ _), fun h => q1 (h.resolve_left (by decide)), fun h => q2 (h.resolve_left (by decide)), fun h => q3 (h.resolve_left (by decide)), fun h => q4 (h.resolve_left (by decide)), fun h => q5 (h.resolve_left (by decide)), q6.made hu (by decide) hge, (q7.step (by decide) (by decide)).up (below_box' _ _), (q8.step (by decide) (by decide)).up (below_box' _ _), fun _ h => (q7.ne (h.resolve_left (by decide))).symm, fun _ h => (q8.ne (h.resolve_left (by decide))).symm, fun h h2 => q11 (h.resolve_left (by decide)) (h2.resolve_left (by decide))⟩
      refine Inv.AllInv.cons ({ dst := some 8, op := Op.alloc 47, type := 0, pos := "alu.go:34", after := #[], guard := none }) rfl rfl [] (by kernel_rfl) ?_ ?_
      · intro Q2 u X wv hR hu hd K hK
        obtain ⟨q0, q1, q2, q3, q4, q5, q6, q7, q8, q9, q10, q11⟩ := hR
        have hge := jw_ge q0
        refine ⟨?_⟩
        simp only [Inv.puts, Act.put, List.setIfInBounds_toArray, List.set_cons_zero, List.set_cons_succ] at hK
        simp only [Inv.puts, Act.put, List.setIfInBounds_toArray, List.set_cons_zero, List.set_cons_succ]
        go_simp
        refine hK.out (Inv.upd X 8 (.pointer (some ⟨wv.heap.size, 0, none⟩))) _ ?_
        exact ⟨q0.up (below_box' _ _), fun h => q1 (h.resolve_left (by decide)), fun h => q2 (h.resolve_left (by decide)), fun h => q3 (h.resolve_left (by decide)), fun h => q4 (h.resolve_left (by decide)), fun h => q5 (h.resolve_left (by decide)), (q6.step (by decide) (by decide)).up (below_box' _ _), q7.made hu (by decide) hge, (q8.step (by decide) (by decide)).up (below_box' _ _), fun h _ => q6.ne (h.resolve_left (by decide)), fun h h2 => q10 (h.resolve_left (by decide)) (h2.resolve_left (by decide)), fun _ h => (q8.ne (h.resolve_left (by decide))).symm⟩
      refine Inv.AllInv.cons ({ dst := some 9, op := Op.alloc 47, type := 0, pos := "alu.go:34", after := #[], guard := none }) rfl rfl [] (by kernel_rfl) ?_ ?_
      · intro Q2 u X wv hR hu hd K hK
        obtain ⟨q0, q1, q2, q3, q4, q5, q6, q7, q8, q9, q10, q11⟩ := hR
        have hge := jw_ge q0
        refine ⟨?_⟩
        simp only [Inv.puts, Act.put, List.setIfInBounds_toArray, List.set_cons_zero, List.set_cons_succ] at hK
        simp only [Inv.puts, Act.put, List.setIfInBounds_toArray, List.set_cons_zero, List.set_cons_succ]
        go_simp
        refine hK.out (Inv.upd X 9 (.pointer (some ⟨wv.heap.size, 0, none⟩))) _ ?_
        exact ⟨q0.up (below_box' _ _), fun h => q1 (h.resolve_left (by decide)), fun h => q2 (h.resolve_left (by decide)), fun h => q3 (h.resolve_left (by decide)), fun h => q4 (h.resolve_left (by decide)), fun h => q5 (h.resolve_left (by decide)), (q6.step (by decide) (by decide)).up (below_box' _ _), (q7.step (by decide) (by decide)).up (below_box' _ _), q8.made hu (by decide) hge, fun h h2 => q9 (h.resolve_left (by decide)) (h2.resolve_left (by decide)), fun h _ => q6.ne (h.resolve_left (by decide)), fun h _ => q7.ne (h.resolve_left (by decide))⟩
      refine Inv.AllInv.cons ({ dst := none, op := Op.store 47 (Operand.tmp 7) (Operand.tmp 14), type := 0, pos := "alu.go:34", after := #[{ on := 5, ground := Ground.data }, { on := 0, ground := Ground.data }, { on := 4, ground := Ground.chain }, { on := 0, ground := Ground.phase }, { on := 1, ground := Ground.textOnly Departure.lateStores }, { on := 2, ground := Ground.textOnly Departure.lateStoresUnsure }, { on := 3, ground := Ground.textOnly Departure.lateStores }, { on := 4, ground := Ground.textOnly Departure.lateStoresUnsure }, { on := 5, ground := Ground.phase }, { on := 6, ground := Ground.phase }, { on := 7, ground := Ground.phase }], guard := none }) rfl rfl [5, 0, 4, 0, 5, 6, 7] (by kernel_rfl) ?_ ?_
      · intro Q2 u X wv hR hu hd K hK
        obtain ⟨q0, q1, q2, q3, q4, q5, q6, q7, q8, q9, q10, q11⟩ := hR
        have e1 := q1 hd.2.1
        have ha := hd.1
        obtain ⟨g, eX, hg, c1, c2, hBx, -⟩ := q6.2 ha
        obtain ⟨b0, b1, b2, b3, b4⟩ := cells2 hBx
        refine ⟨?_⟩
        simp only [Inv.puts, Act.put, List.setIfInBounds_toArray, List.set_cons_zero, List.set_cons_succ] at hK
        simp only [Inv.puts, Act.put, List.setIfInBounds_toArray, List.set_cons_zero, List.set_cons_succ, e1, eX]
        go_simp
        refine hK.out (Inv.upd (Inv.upd X 14 (.agg #[.int .i64 0, .int .i64 4294967295])) 7 (.pointer (some ⟨g, 0, none⟩))) _ ?_
        rw [Inv.upd_same e1, Inv.upd_same eX]
        exact ⟨jw_far q0 hg _ _, fun h => q1 (h.resolve_left (by decide)), fun h => q2 (h.resolve_left (by decide)), fun h => q3 (h.resolve_left (by decide)), fun h => q4 (h.resolve_left (by decide)), fun h => q5 (h.resolve_left (by decide)), by rw [show _ = _ from eX]; exact SlotI.stored hg ha hBx, (q7.step (by decide) (by decide)).far (fun h => fun e => q9 ha (h.resolve_left (by decide)) (eX.trans e.symm)), (q8.step (by decide) (by decide)).far (fun h => fun e => q10 ha (h.resolve_left (by decide)) (eX.trans e.symm)), fun h h2 => q9 (h.resolve_left (by decide)) (h2.resolve_left (by decide)), fun h h2 => q10 (h.resolve_left (by decide)) (h2.resolve_left (by decide)), fun h h2 => q11 (h.resolve_left (by decide)) (h2.resolve_left (by decide))⟩
      refine Inv.AllInv.cons ({ dst := none, op := Op.store 47 (Operand.tmp 8) (Operand.tmp 16), type := 0, pos := "alu.go:34", after := #[{ on := 6, ground := Ground.data }, { on := 2, ground := Ground.data }, { on := 8, ground := Ground.chain }, { on := 0, ground := Ground.phase }, { on := 1, ground := Ground.phase }, { on := 2, ground := Ground.phase }, { on := 3, ground := Ground.textOnly Departure.lateStores }, { on := 4, ground := Ground.textOnly Departure.lateStoresUnsure }, { on := 5, ground := Ground.phase }, { on := 6, ground := Ground.phase }, { on := 7, ground := Ground.phase }, { on := 8, ground := Ground.phase }], guard := none }) rfl rfl [6, 2, 8, 0, 1, 2, 5, 6, 7, 8] (by kernel_rfl) ?_ ?_
      · intro Q2 u X wv hR hu hd K hK
        obtain ⟨q0, q1, q2, q3, q4, q5, q6, q7, q8, q9, q10, q11⟩ := hR
        have e3 := q3 hd.2.1
        have ha := hd.1
        obtain ⟨g, eX, hg, c1, c2, hBx, -⟩ := q7.2 ha
        obtain ⟨b0, b1, b2, b3, b4⟩ := cells2 hBx
        refine ⟨?_⟩
        simp only [Inv.puts, Act.put, List.setIfInBounds_toArray, List.set_cons_zero, List.set_cons_succ] at hK
        simp only [Inv.puts, Act.put, List.setIfInBounds_toArray, List.set_cons_zero, List.set_cons_succ, e3, eX]
        go_simp
        refine hK.out (Inv.upd (Inv.upd X 16 (.agg #[.int .i64 xl, .int .i64 xh])) 8 (.pointer (some ⟨g, 0, none⟩))) _ ?_
        rw [Inv.upd_same e3, Inv.upd_same eX]
        exact ⟨jw_far q0 hg _ _, fun h => q1 (h.resolve_left (by decide)), fun h => q2 (h.resolve_left (by decide)), fun h => q3 (h.resolve_left (by decide)), fun h => q4 (h.resolve_left (by decide)), fun h => q5 (h.resolve_left (by decide)), (q6.step (by decide) (by decide)).far (fun h => fun e => q9 (h.resolve_left (by decide)) ha (e.trans eX.symm)), by rw [show _ = _ from eX]; exact SlotI.stored hg ha hBx, (q8.step (by decide) (by decide)).far (fun h => fun e => q11 ha (h.resolve_left (by decide)) (eX.trans e.symm)), fun h h2 => q9 (h.resolve_left (by decide)) (h2.resolve_left (by decide)), fun h h2 => q10 (h.resolve_left (by decide)) (h2.resolve_left (by decide)), fun h h2 => q11 (h.resolve_left (by decide)) (h2.resolve_left (by decide))⟩
      refine Inv.AllInv.cons ({ dst := none, op := Op.store 47 (Operand.tmp 9) (Operand.tmp 18), type := 0, pos := "alu.go:34", after := #[{ on := 7, ground := Ground.data }, { on := 4, ground := Ground.data }, { on := 9, ground := Ground.chain }, { on := 0, ground := Ground.phase }, { on := 1, ground := Ground.phase }, { on := 2, ground := Ground.phase }, { on := 3, ground := Ground.phase }, { on := 4, ground := Ground.phase }, { on := 5, ground := Ground.phase }, { on := 6, ground := Ground.phase }, { on := 7, ground := Ground.phase }, { on := 8, ground := Ground.phase }, { on := 9, ground := Ground.phase }], guard := none }) rfl rfl [7, 4, 9, 0, 1, 2, 3, 4, 5, 6, 7, 8, 9] (by kernel_rfl) ?_ ?_
      · intro Q2 u X wv hR hu hd K hK
        obtain ⟨q0, q1, q2, q3, q4, q5, q6, q7, q8, q9, q10, q11⟩ := hR
        have e5 := q5 hd.2.1
        have ha := hd.1
        obtain ⟨g, eX, hg, c1, c2, hBx, -⟩ := q8.2 ha
        obtain ⟨b0, b1, b2, b3, b4⟩ := cells2 hBx
        refine ⟨?_⟩
        simp only [Inv.puts, Act.put, List.setIfInBounds_toArray, List.set_cons_zero, List.set_cons_succ] at hK
        simp only [Inv.puts, Act.put, List.setIfInBounds_toArray, List.set_cons_zero, List.set_cons_succ, e5, eX]
        go_simp
        refine hK.out (Inv.upd (Inv.upd X 18 (.agg #[.int .i64 yl, .int .i64 yh])) 9 (.pointer (some ⟨g, 0, none⟩))) _ ?_
        rw [Inv.upd_same e5, Inv.upd_same eX]
        exact ⟨jw_far q0 hg _ _, fun h => q1 (h.resolve_left (by decide)), fun h => q2 (h.resolve_left (by decide)), fun h => q3 (h.resolve_left (by decide)), fun h => q4 (h.resolve_left (by decide)), fun h => q5 (h.resolve_left (by decide)), (q6.step (by decide) (by decide)).far (fun h => fun e => q10 (h.resolve_left (by decide)) ha (e.trans eX.symm)), (q7.step (by decide) (by decide)).far (fun h => fun e => q11 (h.resolve_left (by decide)) ha (e.trans eX.symm)), by rw [show _ = _ from eX]; exact SlotI.stored hg ha hBx, fun h h2 => q9 (h.resolve_left (by decide)) (h2.resolve_left (by decide)), fun h h2 => q10 (h.resolve_left (by decide)) (h2.resolve_left (by decide)), fun h h2 => q11 (h.resolve_left (by decide)) (h2.resolve_left (by decide))⟩
      exact Inv.AllInv.nil
    · intro u X wv hd hR
      obtain ⟨q0, q1, q2, q3, q4, q5, q6, q7, q8, q9, q10, q11⟩ := hR
      obtain ⟨u0, u1, u2, u3, u4, u5, u6, u7, u8, u9, u10, -⟩ := hd
      obtain ⟨g1, e1, hg1, hB1⟩ := q6.full u8
      obtain ⟨g2, e2, hg2, hB2⟩ := q7.full u9
      obtain ⟨g3, e3, hg3, hB3⟩ := q8.full u10
      have h12 : g1 ≠ g2 := fun e => q9 u5 u6 (by rw [e1, e2, e])
      have h13 : g1 ≠ g3 := fun e => q10 u5 u7 (by rw [e1, e3, e])
      have h23 : g2 ≠ g3 := fun e => q11 u6 u7 (by rw [e2, e3, e])
      simp only [Inv.puts, Act.put, List.setIfInBounds_toArray, List.set_cons_zero, List.set_cons_succ, q1 u0, q2 u1, q3 u2, q4 u3, q5 u4, e1, e2, e3]
      go_wp2_with fail
      go_meet
      case rel => exact ⟨g1, g2, g3, rfl, rfl, rfl, q0, ⟨hg1, hB1⟩, ⟨hg2, hB2⟩, ⟨hg3, hB3⟩, h12, h13, h23⟩
  case rest =>
    obtain ⟨g1, g2, g3, rfl, rfl, rfl, hJ0, ⟨hg1, hB1⟩, ⟨hg2, hB2⟩, ⟨hg3, hB3⟩, h12, h13, h23⟩ := hcut
    clear HN HX HY HA0
    go_wp2_with fail
    go_cut [0] (fun s0 wx => s0 = .int .i64 o ∧ HalfW w al ah bl bh g1 g2 g3 pl ph ql qh wx)
    case first =>
      clear HN31 HP HA HR
      refine Inv.wp_region_inv [20, 21, 22, 23, 24, 25, 26, 19, 27, 28, 29, 0] (HalfS w al ah bl bh g1 g2 g3 op xl xh yl yh cl ch o pl ph ql qh) (by kernel_rfl) (by kernel_rfl) [0, 1, 2, 3, 4, 5, 6, 7, 8, 9, 10, 11, 12, 13] (by kernel_rfl) ?_ ?_ ?_
      · exact ⟨⟨hJ0.drew, hB1.drew⟩, fun _ => rfl, fun h => h.elim, fun h => h.elim, fun h => h.elim, fun h => h.elim, fun h => h.elim, fun h => h.elim, fun h => h.elim, fun h => h.elim, fun h => h.elim, fun h => h.elim, fun h => h.elim, fun h => h.elim, fun h => h.elim, ⟨fun _ => hB2.drew, fun h => h.elim⟩, ⟨fun _ => hB3.drew, fun h => h.elim⟩, fun h => h.elim, fun h => h.elim, fun h => h.elim⟩
      · refine Inv.AllInv.cons ({ dst := some 20, op := Op.move (Operand.tmp 0), type := 3, pos := "alu.go:35", after := #[], guard := none }) rfl rfl [] (by kernel_rfl) ?_ ?_
        · intro Q2 u X wv hR hu hd K hK
          obtain ⟨q0, q1, q2, q3, q4, q5, q6, q7, q8, q9, q10, q11, q12, q13, q14, q15, q16, q17, q18, q19⟩ := hR
          have e1 := q1 (fun h => hu (q2 h))
          refine ⟨?_⟩
          simp only [Inv.puts, Act.put, List.setIfInBounds_toArray, List.set_cons_zero, List.set_cons_succ] at hK
          simp only [Inv.puts, Act.put, List.setIfInBounds_toArray, List.set_cons_zero, List.set_cons_succ, e1]
          go_simp
          refine hK.out (Inv.upd (Inv.upd X 0 (.int .i64 op)) 20 (.int .i64 op)) _ ?_
          rw [Inv.upd_same e1]
          exact ⟨q0, fun h => q1 (fun h2 => h (.inr h2)), fun h => .inr (q2 (h.resolve_left (by decide))), fun _ => rfl, fun h => q4 (h.resolve_left (by decide)), fun h => q5 (h.resolve_left (by decide)), fun h => q6 (h.resolve_left (by decide)), fun h => q7 (h.resolve_left (by decide)), fun h => q8 (h.resolve_left (by decide)), fun h => q9 (h.resolve_left (by decide)), fun h => q10 (h.resolve_left (by decide)), fun h => q11 (h.resolve_left (by decide)), fun h => q12 (h.resolve_left (by decide)), fun h => q13 (h.resolve_left (by decide)), fun h => q14 (h.resolve_left (by decide)), ⟨fun h => q15.1 (fun h2 => h (.inr h2)), fun h => q15.2 (h.resolve_left (by decide))⟩, ⟨fun h => q16.1 (fun h2 => h (.inr h2)), fun h => q16.2 (h.resolve_left (by decide))⟩, fun h => .inr (q17 (h.resolve_left (by decide))), fun h => .inr (q18 (h.resolve_left (by decide))), fun h => .inr (q19 (h.resolve_left (by decide)))⟩
        refine Inv.AllInv.cons ({ dst := some 21, op := Op.load 47 (Operand.tmp 8), type := 47, pos := "alu.go:35", after := #[], guard := none }) rfl rfl [] (by kernel_rfl) ?_ ?_
        · intro Q2 u X wv hR hu hd K hK
          obtain ⟨q0, q1, q2, q3, q4, q5, q6, q7, q8, q9, q10, q11, q12, q13, q14, q15, q16, q17, q18, q19⟩ := hR
          have hbb := q15.1 (fun h => hu (q17 h))
          obtain ⟨f0, f1, f2, f3, f4⟩ := cells2 hbb
          refine ⟨?_⟩
          simp only [Inv.puts, Act.put, List.setIfInBounds_toArray, List.set_cons_zero, List.set_cons_succ] at hK
          simp only [Inv.puts, Act.put, List.setIfInBounds_toArray, List.set_cons_zero, List.set_cons_succ]
          go_simp
          refine hK.out (Inv.upd X 21 (.agg #[.int .i64 xl, .int .i64 xh])) _ ?_
          exact ⟨q0, fun h => q1 (fun h2 => h (.inr h2)), fun h => .inr (q2 (h.resolve_left (by decide))), fun h => q3 (h.resolve_left (by decide)), fun _ => rfl, fun h => q5 (h.resolve_left (by decide)), fun h => q6 (h.resolve_left (by decide)), fun h => q7 (h.resolve_left (by decide)), fun h => q8 (h.resolve_left (by decide)), fun h => q9 (h.resolve_left (by decide)), fun h => q10 (h.resolve_left (by decide)), fun h => q11 (h.resolve_left (by decide)), fun h => q12 (h.resolve_left (by decide)), fun h => q13 (h.resolve_left (by decide)), fun h => q14 (h.resolve_left (by decide)), ⟨fun h => q15.1 (fun h2 => h (.inr h2)), fun h => q15.2 (h.resolve_left (by decide))⟩, ⟨fun h => q16.1 (fun h2 => h (.inr h2)), fun h => q16.2 (h.resolve_left (by decide))⟩, fun h => .inr (q17 (h.resolve_left (by decide))), fun h => .inr (q18 (h.resolve_left (by decide))), fun h => .inr (q19 (h.resolve_left (by decide)))⟩
        refine Inv.AllInv.cons ({ dst := some 22, op := Op.load 47 (Operand.tmp 9), type := 47, pos := "alu.go:35", after := #[], guard := none }) rfl rfl [] (by kernel_rfl) ?_ ?_
        · intro Q2 u X wv hR hu hd K hK
          obtain ⟨q0, q1, q2, q3, q4, q5, q6, q7, q8, q9, q10, q11, q12, q13, q14, q15, q16, q17, q18, q19⟩ := hR
          have hbb := q16.1 (fun h => hu (q18 h))
          obtain ⟨f0, f1, f2, f3, f4⟩ := cells2 hbb
          refine ⟨?_⟩
          simp only [Inv.puts, Act.put, List.setIfInBounds_toArray, List.set_cons_zero, List.set_cons_succ] at hK
          simp only [Inv.puts, Act.put, List.setIfInBounds_toArray, List.set_cons_zero, List.set_cons_succ]
          go_simp
          refine hK.out (Inv.upd X 22 (.agg #[.int .i64 yl, .int .i64 yh])) _ ?_
          exact ⟨q0, fun h => q1 (fun h2 => h (.inr h2)), fun h => .inr (q2 (h.resolve_left (by decide))), fun h => q3 (h.resolve_left (by decide)), fun h => q4 (h.resolve_left (by decide)), fun _ => rfl, fun h => q6 (h.resolve_left (by decide)), fun h => q7 (h.resolve_left (by decide)), fun h => q8 (h.resolve_left (by decide)), fun h => q9 (h.resolve_left (by decide)), fun h => q10 (h.resolve_left (by decide)), fun h => q11 (h.resolve_left (by decide)), fun h => q12 (h.resolve_left (by decide)), fun h => q13 (h.resolve_left (by decide)), fun h => q14 (h.resolve_left (by decide)), ⟨fun h => q15.1 (fun h2 => h (.inr h2)), fun h => q15.2 (h.resolve_left (by decide))⟩, ⟨fun h => q16.1 (fun h2 => h (.inr h2)), fun h => q16.2 (h.resolve_left (by decide))⟩, fun h => .inr (q17 (h.resolve_left (by decide))), fun h => .inr (q18 (h.resolve_left (by decide))), fun h => .inr (q19 (h.resolve_left (by decide)))⟩
        refine Inv.AllInv.cons ({ dst := some 23, op := Op.load 47 (Operand.tmp 5), type := 47, pos := "alu.go:35", after := #[], guard := none }) rfl rfl [] (by kernel_rfl) ?_ ?_
        · intro Q2 u X wv hR hu hd K hK
          obtain ⟨q0, q1, q2, q3, q4, q5, q6, q7, q8, q9, q10, q11, q12, q13, q14, q15, q16, q17, q18, q19⟩ := hR
          have hbb := q0.1.2.1
          obtain ⟨f0, f1, f2, f3, f4⟩ := cells2 hbb
          refine ⟨?_⟩
          simp only [Inv.puts, Act.put, List.setIfInBounds_toArray, List.set_cons_zero, List.set_cons_succ] at hK
          simp only [Inv.puts, Act.put, List.setIfInBounds_toArray, List.set_cons_zero, List.set_cons_succ]
          go_simp
          refine hK.out (Inv.upd X 23 (.agg #[.int .i64 bl, .int .i64 bh])) _ ?_
          exact ⟨q0, fun h => q1 (fun h2 => h (.inr h2)), fun h => .inr (q2 (h.resolve_left (by decide))), fun h => q3 (h.resolve_left (by decide)), fun h => q4 (h.resolve_left (by decide)), fun h => q5 (h.resolve_left (by decide)), fun _ => rfl, fun h => q7 (h.resolve_left (by decide)), fun h => q8 (h.resolve_left (by decide)), fun h => q9 (h.resolve_left (by decide)), fun h => q10 (h.resolve_left (by decide)), fun h => q11 (h.resolve_left (by decide)), fun h => q12 (h.resolve_left (by decide)), fun h => q13 (h.resolve_left (by decide)), fun h => q14 (h.resolve_left (by decide)), ⟨fun h => q15.1 (fun h2 => h (.inr h2)), fun h => q15.2 (h.resolve_left (by decide))⟩, ⟨fun h => q16.1 (fun h2 => h (.inr h2)), fun h => q16.2 (h.resolve_left (by decide))⟩, fun h => .inr (q17 (h.resolve_left (by decide))), fun h => .inr (q18 (h.resolve_left (by decide))), fun h => .inr (q19 (h.resolve_left (by decide)))⟩
        refine Inv.AllInv.cons ({ dst := some 24, op := Op.load 47 (Operand.tmp 9), type := 47, pos := "alu.go:35", after := #[], guard := none }) rfl rfl [] (by kernel_rfl) ?_ ?_
        · intro Q2 u X wv hR hu hd K hK
          obtain ⟨q0, q1, q2, q3, q4, q5, q6, q7, q8, q9, q10, q11, q12, q13, q14, q15, q16, q17, q18, q19⟩ := hR
          have hbb := q16.1 (fun h => hu (q19 h))
          obtain ⟨f0, f1, f2, f3, f4⟩ := cells2 hbb
          refine ⟨?_⟩
          simp only [Inv.puts, Act.put, List.setIfInBounds_toArray, List.set_cons_zero, List.set_cons_succ] at hK
          simp only [Inv.puts, Act.put, List.setIfInBounds_toArray, List.set_cons_zero, List.set_cons_succ]
          go_simp
          refine hK.out (Inv.upd X 24 (.agg #[.int .i64 yl, .int .i64 yh])) _ ?_
          exact ⟨q0, fun h => q1 (fun h2 => h (.inr h2)), fun h => .inr (q2 (h.resolve_left (by decide))), fun h => q3 (h.resolve_left (by decide)), fun h => q4 (h.resolve_left (by decide)), fun h => q5 (h.resolve_left (by decide)), fun h => q6 (h.resolve_left (by decide)), fun _ => rfl, fun h => q8 (h.resolve_left (by decide)), fun h => q9 (h.resolve_left (by decide)), fun h => q10 (h.resolve_left (by decide)), fun h => q11 (h.resolve_left (by decide)), fun h => q12 (h.resolve_left (by decide)), fun h => q13 (h.resolve_left (by decide)), fun h => q14 (h.resolve_left (by decide)), ⟨fun h => q15.1 (fun h2 => h (.inr h2)), fun h => q15.2 (h.resolve_left (by decide))⟩, ⟨fun h => q16.1 (fun h2 => h (.inr h2)), fun h => q16.2 (h.resolve_left (by decide))⟩, fun h => .inr (q17 (h.resolve_left (by decide))), fun h => .inr (q18 (h.resolve_left (by decide))), fun h => .inr (q19 (h.resolve_left (by decide)))⟩
        refine Inv.AllInv.cons ({ dst := some 25, op := Op.call { callee := Callee.value (Operand.func 62), args := #[Operand.tmp 23, Operand.tmp 24, Operand.const (Value.int IntKind.i64 31)], argTypes := #[47, 47, 3] }, type := 47, pos := "alu.go:35", after := #[{ on := 3, ground := Ground.data }, { on := 4, ground := Ground.data }], guard := none }) rfl rfl [3, 4] (by kernel_rfl) ?_ ?_
        · intro Q2 u X wv hR hu hd K hK
          obtain ⟨q0, q1, q2, q3, q4, q5, q6, q7, q8, q9, q10, q11, q12, q13, q14, q15, q16, q17, q18, q19⟩ := hR
          have e6 := q6 hd.1
          have e7 := q7 hd.2.1
          refine ⟨?_⟩
          simp only [Inv.puts, Act.put, List.setIfInBounds_toArray, List.set_cons_zero, List.set_cons_succ] at hK
          simp only [Inv.puts, Act.put, List.setIfInBounds_toArray, List.set_cons_zero, List.set_cons_succ, e6, e7]
          go_simp
          go_at_call 62
          refine (HC.out _).mono ?_
          rintro e w1 ⟨rfl, hB⟩
          refine hK.out (Inv.upd (Inv.upd (Inv.upd X 23 (.agg #[.int .i64 bl, .int .i64 bh])) 24 (.agg #[.int .i64 yl, .int .i64 yh])) 25 (.agg #[.int .i64 cl, .int .i64 ch])) _ ?_
          rw [Inv.upd_same e6, Inv.upd_same e7]
          exact ⟨⟨q0.1.up hB, q0.2.up hB⟩, fun h => q1 (fun h2 => h (.inr h2)), fun h => .inr (q2 (h.resolve_left (by decide))), fun h => q3 (h.resolve_left (by decide)), fun h => q4 (h.resolve_left (by decide)), fun h => q5 (h.resolve_left (by decide)), fun h => q6 (h.resolve_left (by decide)), fun h => q7 (h.resolve_left (by decide)), fun _ => rfl, fun h => q9 (h.resolve_left (by decide)), fun h => q10 (h.resolve_left (by decide)), fun h => q11 (h.resolve_left (by decide)), fun h => q12 (h.resolve_left (by decide)), fun h => q13 (h.resolve_left (by decide)), fun h => q14 (h.resolve_left (by decide)), ⟨fun h => (q15.1 (fun h2 => h (.inr h2))).up hB, fun h => (q15.2 (h.resolve_left (by decide))).up hB⟩, ⟨fun h => (q16.1 (fun h2 => h (.inr h2))).up hB, fun h => (q16.2 (h.resolve_left (by decide))).up hB⟩, fun h => .inr (q17 (h.resolve_left (by decide))), fun h => .inr (q18 (h.resolve_left (by decide))), fun h => .inr (q19 (h.resolve_left (by decide)))⟩
        refine Inv.AllInv.cons ({ dst := some 26, op := Op.call { callee := Callee.value (Operand.func 61), args := #[Operand.tmp 20, Operand.tmp 21, Operand.tmp 22, Operand.tmp 25, Operand.const (Value.int IntKind.i64 4294967296)], argTypes := #[3, 47, 47, 47, 3] }, type := 73, pos := "alu.go:35", after := #[{ on := 0, ground := Ground.data }, { on := 1, ground := Ground.data }, { on := 2, ground := Ground.data }, { on := 5, ground := Ground.data }, { on := 5, ground := Ground.chain }], guard := none }) rfl rfl [0, 1, 2, 5, 5] (by kernel_rfl) ?_ ?_
        · intro Q2 u X wv hR hu hd K hK
          obtain ⟨q0, q1, q2, q3, q4, q5, q6, q7, q8, q9, q10, q11, q12, q13, q14, q15, q16, q17, q18, q19⟩ := hR
          have e3 := q3 hd.1
          have e4 := q4 hd.2.1
          have e5 := q5 hd.2.2.1
          have e8 := q8 hd.2.2.2.1
          refine ⟨?_⟩
          simp only [Inv.puts, Act.put, List.setIfInBounds_toArray, List.set_cons_zero, List.set_cons_succ] at hK
          simp only [Inv.puts, Act.put, List.setIfInBounds_toArray, List.set_cons_zero, List.set_cons_succ, e3, e4, e5, e8]
          go_simp
          go_at_call 61
          refine (HO.out _).mono ?_
          rintro e w1 ⟨rfl, hB⟩
          refine hK.out (Inv.upd (Inv.upd (Inv.upd (Inv.upd (Inv.upd X 20 (.int .i64 op)) 21 (.agg #[.int .i64 xl, .int .i64 xh])) 22 (.agg #[.int .i64 yl, .int .i64 yh])) 25 (.agg #[.int .i64 cl, .int .i64 ch])) 26 (.tuple #[.int .i64 o, .agg #[.int .i64 pl, .int .i64 ph], .agg #[.int .i64 ql, .int .i64 qh]])) _ ?_
          rw [Inv.upd_same e3, Inv.upd_same e4, Inv.upd_same e5, Inv.upd_same e8]
          exact ⟨⟨q0.1.up hB, q0.2.up hB⟩, fun h => q1 (fun h2 => h (.inr h2)), fun h => .inr (q2 (h.resolve_left (by decide))), fun h => q3 (h.resolve_left (by decide)), fun h => q4 (h.resolve_left (by decide)), fun h => q5 (h.resolve_left (by decide)), fun h => q6 (h.resolve_left (by decide)), fun h => q7 (h.resolve_left (by decide)), fun h => q8 (h.resolve_left (by decide)), fun _ => rfl, fun h => q10 (h.resolve_left (by decide)), fun h => q11 (h.resolve_left (by decide)), fun h => q12 (h.resolve_left (by decide)), fun h => q13 (h.resolve_left (by decide)), fun h => q14 (h.resolve_left (by decide)), ⟨fun h => (q15.1 (fun h2 => h (.inr h2))).up hB, fun h => (q15.2 (h.resolve_left (by decide))).up hB⟩, ⟨fun h => (q16.1 (fun h2 => h (.inr h2))).up hB, fun h => (q16.2 (h.resolve_left (by decide))).up hB⟩, fun h => .inr (q17 (h.resolve_left (by decide))), fun h => .inr (q18 (h.resolve_left (by decide))), fun h => .inr (q19 (h.resolve_left (by decide)))⟩
        refine Inv.AllInv.cons ({ dst := some 19, op := Op.move (Operand.tmp 26), type := 73, pos := "alu.go:35", after := #[{ on := 6, ground := Ground.data }], guard := none }) rfl rfl [6] (by kernel_rfl) ?_ ?_
        · intro Q2 u X wv hR hu hd K hK
          obtain ⟨q0, q1, q2, q3, q4, q5, q6, q7, q8, q9, q10, q11, q12, q13, q14, q15, q16, q17, q18, q19⟩ := hR
          have e9 := q9 hd.1
          refine ⟨?_⟩
          simp only [Inv.puts, Act.put, List.setIfInBounds_toArray, List.set_cons_zero, List.set_cons_succ] at hK
          simp only [Inv.puts, Act.put, List.setIfInBounds_toArray, List.set_cons_zero, List.set_cons_succ, e9]
          go_simp
          refine hK.out (Inv.upd (Inv.upd X 26 (.tuple #[.int .i64 o, .agg #[.int .i64 pl, .int .i64 ph], .agg #[.int .i64 ql, .int .i64 qh]])) 19 (.tuple #[.int .i64 o, .agg #[.int .i64 pl, .int .i64 ph], .agg #[.int .i64 ql, .int .i64 qh]])) _ ?_
          rw [Inv.upd_same e9]
          exact ⟨q0, fun h => q1 (fun h2 => h (.inr h2)), fun h => .inr (q2 (h.resolve_left (by decide))), fun h => q3 (h.resolve_left (by decide)), fun h => q4 (h.resolve_left (by decide)), fun h => q5 (h.resolve_left (by decide)), fun h => q6 (h.resolve_left (by decide)), fun h => q7 (h.resolve_left (by decide)), fun h => q8 (h.resolve_left (by decide)), fun h => q9 (h.resolve_left (by decide)), fun _ => rfl, fun h => q11 (h.resolve_left (by decide)), fun h => q12 (h.resolve_left (by decide)), fun h => q13 (h.resolve_left (by decide)), fun h => q14 (h.resolve_left (by decide)), ⟨fun h => q15.1 (fun h2 => h (.inr h2)), fun h => q15.2 (h.resolve_left (by decide))⟩, ⟨fun h => q16.1 (fun h2 => h (.inr h2)), fun h => q16.2 (h.resolve_left (by decide))⟩, fun h => .inr (q17 (h.resolve_left (by decide))), fun h => .inr (q18 (h.resolve_left (by decide))), fun h => .inr (q19 (h.resolve_left (by decide)))⟩
        refine Inv.AllInv.cons ({ dst := some 27, op := Op.extract (Operand.tmp 19) 0, type := 3, pos := "alu.go:35", after := #[{ on := 7, ground := Ground.data }], guard := none }) rfl rfl [7] (by kernel_rfl) ?_ ?_
        · intro Q2 u X wv hR hu hd K hK
          obtain ⟨q0, q1, q2, q3, q4, q5, q6, q7, q8, q9, q10, q11, q12, q13, q14, q15, q16, q17, q18, q19⟩ := hR
          have e10 := q10 hd.1
          refine ⟨?_⟩
          simp only [Inv.puts, Act.put, List.setIfInBounds_toArray, List.set_cons_zero, List.set_cons_succ] at hK
          simp only [Inv.puts, Act.put, List.setIfInBounds_toArray, List.set_cons_zero, List.set_cons_succ, e10]
          go_simp
          refine hK.out (Inv.upd (Inv.upd X 19 (.tuple #[.int .i64 o, .agg #[.int .i64 pl, .int .i64 ph], .agg #[.int .i64 ql, .int .i64 qh]])) 27 (.int .i64 o)) _ ?_
          rw [Inv.upd_same e10]
          exact ⟨q0, fun h => q1 (fun h2 => h (.inr h2)), fun h => .inr (q2 (h.resolve_left (by decide))), fun h => q3 (h.resolve_left (by decide)), fun h => q4 (h.resolve_left (by decide)), fun h => q5 (h.resolve_left (by decide)), fun h => q6 (h.resolve_left (by decide)), fun h => q7 (h.resolve_left (by decide)), fun h => q8 (h.resolve_left (by decide)), fun h => q9 (h.resolve_left (by decide)), fun h => q10 (h.resolve_left (by decide)), fun _ => rfl, fun h => q12 (h.resolve_left (by decide)), fun h => q13 (h.resolve_left (by decide)), fun h => q14 (h.resolve_left (by decide)), ⟨fun h => q15.1 (fun h2 => h (.inr h2)), fun h => q15.2 (h.resolve_left (by decide))⟩, ⟨fun h => q16.1 (fun h2 => h (.inr h2)), fun h => q16.2 (h.resolve_left (by decide))⟩, fun h => .inr (q17 (h.resolve_left (by decide))), fun h => .inr (q18 (h.resolve_left (by decide))), fun h => .inr (q19 (h.resolve_left (by decide)))⟩
        refine Inv.AllInv.cons ({ dst := some 28, op := Op.extract (Operand.tmp 19) 1, type := 47, pos := "alu.go:35", after := #[{ on := 7, ground := Ground.data }, { on := 11, ground := Ground.gcOnly Departure.lateStores }], guard := none }) rfl rfl [7] (by kernel_rfl) ?_ ?_
        · intro Q2 u X wv hR hu hd K hK
          obtain ⟨q0, q1, q2, q3, q4, q5, q6, q7, q8, q9, q10, q11, q12, q13, q14, q15, q16, q17, q18, q19⟩ := hR
          have e10 := q10 hd.1
          refine ⟨?_⟩
          simp only [Inv.puts, Act.put, List.setIfInBounds_toArray, List.set_cons_zero, List.set_cons_succ] at hK
          simp only [Inv.puts, Act.put, List.setIfInBounds_toArray, List.set_cons_zero, List.set_cons_succ, e10]
          go_simp
          refine hK.out (Inv.upd (Inv.upd X 19 (.tuple #[.int .i64 o, .agg #[.int .i64 pl, .int .i64 ph], .agg #[.int .i64 ql, .int .i64 qh]])) 28 (.agg #[.int .i64 pl, .int .i64 ph])) _ ?_
          rw [Inv.upd_same e10]
          exact ⟨q0, fun h => q1 (fun h2 => h (.inr h2)), fun h => .inr (q2 (h.resolve_left (by decide))), fun h => q3 (h.resolve_left (by decide)), fun h => q4 (h.resolve_left (by decide)), fun h => q5 (h.resolve_left (by decide)), fun h => q6 (h.resolve_left (by decide)), fun h => q7 (h.resolve_left (by decide)), fun h => q8 (h.resolve_left (by decide)), fun h => q9 (h.resolve_left (by decide)), fun h => q10 (h.resolve_left (by decide)), fun h => q11 (h.resolve_left (by decide)), fun _ => rfl, fun h => q13 (h.resolve_left (by decide)), fun h => q14 (h.resolve_left (by decide)), ⟨fun h => q15.1 (fun h2 => h (.inr h2)), fun h => q15.2 (h.resolve_left (by decide))⟩, ⟨fun h => q16.1 (fun h2 => h (.inr h2)), fun h => q16.2 (h.resolve_left (by decide))⟩, fun h => .inr (q17 (h.resolve_left (by decide))), fun h => .inr (q18 (h.resolve_left (by decide))), fun h => .inr (q19 (h.resolve_left (by decide)))⟩
        refine Inv.AllInv.cons ({ dst := some 29, op := Op.extract (Operand.tmp 19) 2, type := 47, pos := "alu.go:35", after := #[{ on := 7, ground := Ground.data }, { on := 12, ground := Ground.gcOnly Departure.lateStores }], guard := none }) rfl rfl [7] (by kernel_rfl) ?_ ?_
        · intro Q2 u X wv hR hu hd K hK
          obtain ⟨q0, q1, q2, q3, q4, q5, q6, q7, q8, q9, q10, q11, q12, q13, q14, q15, q16, q17, q18, q19⟩ := hR
          have e10 := q10 hd.1
          refine ⟨?_⟩
          simp only [Inv.puts, Act.put, List.setIfInBounds_toArray, List.set_cons_zero, List.set_cons_succ] at hK
          simp only [Inv.puts, Act.put, List.setIfInBounds_toArray, List.set_cons_zero, List.set_cons_succ, e10]
          go_simp
          refine hK.out (Inv.upd (Inv.upd X 19 (.tuple #[.int .i64 o, .agg #[.int .i64 pl, .int .i64 ph], .agg #[.int .i64 ql, .int .i64 qh]])) 29 (.agg #[.int .i64 ql, .int .i64 qh])) _ ?_
          rw [Inv.upd_same e10]
          exact ⟨q0, fun h => q1 (fun h2 => h (.inr h2)), fun h => .inr (q2 (h.resolve_left (by decide))), fun h => q3 (h.resolve_left (by decide)), fun h => q4 (h.resolve_left (by decide)), fun h => q5 (h.resolve_left (by decide)), fun h => q6 (h.resolve_left (by decide)), fun h => q7 (h.resolve_left (by decide)), fun h => q8 (h.resolve_left (by decide)), fun h => q9 (h.resolve_left (by decide)), fun h => q10 (h.resolve_left (by decide)), fun h => q11 (h.resolve_left (by decide)), fun h => q12 (h.resolve_left (by decide)), fun _ => rfl, fun h => q14 (h.resolve_left (by decide)), ⟨fun h => q15.1 (fun h2 => h (.inr h2)), fun h => q15.2 (h.resolve_left (by decide))⟩, ⟨fun h => q16.1 (fun h2 => h (.inr h2)), fun h => q16.2 (h.resolve_left (by decide))⟩, fun h => .inr (q17 (h.resolve_left (by decide))), fun h => .inr (q18 (h.resolve_left (by decide))), fun h => .inr (q19 (h.resolve_left (by decide)))⟩
        refine Inv.AllInv.cons ({ dst := some 0, op := Op.assign (Operand.tmp 27), type := 3, pos := "alu.go:35", after := #[{ on := 8, ground := Ground.data }, { on := 6, ground := Ground.chain }, { on := 0, ground := Ground.phase }, { on := 1, ground := Ground.phase }, { on := 2, ground := Ground.phase }, { on := 3, ground := Ground.phase }, { on := 4, ground := Ground.phase }, { on := 5, ground := Ground.phase }, { on := 6, ground := Ground.phase }, { on := 7, ground := Ground.phase }, { on := 8, ground := Ground.phase }, { on := 9, ground := Ground.textOnly Departure.lateStores }, { on := 10, ground := Ground.textOnly Departure.lateStores }], guard := none }) rfl rfl [8, 6, 0, 1, 2, 3, 4, 5, 6, 7, 8] (by kernel_rfl) ?_ ?_
        · intro Q2 u X wv hR hu hd K hK
          obtain ⟨q0, q1, q2, q3, q4, q5, q6, q7, q8, q9, q10, q11, q12, q13, q14, q15, q16, q17, q18, q19⟩ := hR
          have e11 := q11 hd.1
          refine ⟨?_⟩
          simp only [Inv.puts, Act.put, List.setIfInBounds_toArray, List.set_cons_zero, List.set_cons_succ] at hK
          simp only [Inv.puts, Act.put, List.setIfInBounds_toArray, List.set_cons_zero, List.set_cons_succ, e11]
          go_simp
          refine hK.out (Inv.upd (Inv.upd X 27 (.int .i64 o)) 0 (.int .i64 o)) _ ?_
          rw [Inv.upd_same e11]
          exact ⟨q0, fun h => absurd (.inl rfl) h, fun _ => .inr (hd.2.2.1), fun h => q3 (h.resolve_left (by decide)), fun h => q4 (h.resolve_left (by decide)), fun h => q5 (h.resolve_left (by decide)), fun h => q6 (h.resolve_left (by decide)), fun h => q7 (h.resolve_left (by decide)), fun h => q8 (h.resolve_left (by decide)), fun h => q9 (h.resolve_left (by decide)), fun h => q10 (h.resolve_left (by decide)), fun h => q11 (h.resolve_left (by decide)), fun h => q12 (h.resolve_left (by decide)), fun h => q13 (h.resolve_left (by decide)), fun _ => rfl, ⟨fun h => q15.1 (fun h2 => h (.inr h2)), fun h => q15.2 (h.resolve_left (by decide))⟩, ⟨fun h => q16.1 (fun h2 => h (.inr h2)), fun h => q16.2 (h.resolve_left (by decide))⟩, fun h => .inr (q17 (h.resolve_left (by decide))), fun h => .inr (q18 (h.resolve_left (by decide))), fun h => .inr (q19 (h.resolve_left (by decide)))⟩
        refine Inv.AllInv.cons ({ dst := none, op := Op.store 47 (Operand.tmp 8) (Operand.tmp 28), type := 0, pos := "alu.go:35", after := #[{ on := 9, ground := Ground.data }, { on := 11, ground := Ground.chain }, { on := 0, ground := Ground.phase }, { on := 1, ground := Ground.phase }, { on := 2, ground := Ground.phase }, { on := 3, ground := Ground.phase }, { on := 4, ground := Ground.phase }, { on := 5, ground := Ground.phase }, { on := 6, ground := Ground.phase }, { on := 7, ground := Ground.phase }, { on := 8, ground := Ground.phase }, { on := 9, ground := Ground.phase }, { on := 10, ground := Ground.textOnly Departure.lateStores }, { on := 11, ground := Ground.phase }], guard := none }) rfl rfl [9, 11, 0, 1, 2, 3, 4, 5, 6, 7, 8, 9, 11] (by kernel_rfl) ?_ ?_
        · intro Q2 u X wv hR hu hd K hK
          obtain ⟨q0, q1, q2, q3, q4, q5, q6, q7, q8, q9, q10, q11, q12, q13, q14, q15, q16, q17, q18, q19⟩ := hR
          have e12 := q12 hd.1
          obtain ⟨f0, f1, f2, f3, f4⟩ := cells2 (q15.1 hu)
          refine ⟨?_⟩
          simp only [Inv.puts, Act.put, List.setIfInBounds_toArray, List.set_cons_zero, List.set_cons_succ] at hK
          simp only [Inv.puts, Act.put, List.setIfInBounds_toArray, List.set_cons_zero, List.set_cons_succ, e12]
          go_simp
          refine hK.out (Inv.upd X 28 (.agg #[.int .i64 pl, .int .i64 ph])) _ ?_
          rw [Inv.upd_same e12]
          exact ⟨⟨jw_far q0.1 hg2 _ _, far2 q0.2 h12 _ _⟩, fun h => q1 (fun h2 => h (.inr h2)), fun h => .inr (q2 (h.resolve_left (by decide))), fun h => q3 (h.resolve_left (by decide)), fun h => q4 (h.resolve_left (by decide)), fun h => q5 (h.resolve_left (by decide)), fun h => q6 (h.resolve_left (by decide)), fun h => q7 (h.resolve_left (by decide)), fun h => q8 (h.resolve_left (by decide)), fun h => q9 (h.resolve_left (by decide)), fun h => q10 (h.resolve_left (by decide)), fun h => q11 (h.resolve_left (by decide)), fun h => q12 (h.resolve_left (by decide)), fun h => q13 (h.resolve_left (by decide)), fun h => q14 (h.resolve_left (by decide)), ⟨fun h => absurd (.inl rfl) h, fun _ => set2 (q15.1 hu) _ _⟩, ⟨fun h => far2 (q16.1 (fun h2 => h (.inr h2))) h23.symm _ _, fun h => far2 (q16.2 (h.resolve_left (by decide))) h23.symm _ _⟩, fun _ => .inr (hd.2.2.2.1), fun h => .inr (q18 (h.resolve_left (by decide))), fun h => .inr (q19 (h.resolve_left (by decide)))⟩
        refine Inv.AllInv.cons ({ dst := none, op := Op.store 47 (Operand.tmp 9) (Operand.tmp 29), type := 0, pos := "alu.go:35", after := #[{ on := 10, ground := Ground.data }, { on := 12, ground := Ground.chain }, { on := 0, ground := Ground.phase }, { on := 1, ground := Ground.phase }, { on := 2, ground := Ground.phase }, { on := 3, ground := Ground.phase }, { on := 4, ground := Ground.phase }, { on := 5, ground := Ground.phase }, { on := 6, ground := Ground.phase }, { on := 7, ground := Ground.phase }, { on := 8, ground := Ground.phase }, { on := 9, ground := Ground.phase }, { on := 10, ground := Ground.phase }, { on := 11, ground := Ground.phase }, { on := 12, ground := Ground.phase }], guard := none }) rfl rfl [10, 12, 0, 1, 2, 3, 4, 5, 6, 7, 8, 9, 10, 11, 12] (by kernel_rfl) ?_ ?_
        · intro Q2 u X wv hR hu hd K hK
          obtain ⟨q0, q1, q2, q3, q4, q5, q6, q7, q8, q9, q10, q11, q12, q13, q14, q15, q16, q17, q18, q19⟩ := hR
          have e13 := q13 hd.1
          obtain ⟨f0, f1, f2, f3, f4⟩ := cells2 (q16.1 hu)
          refine ⟨?_⟩
          simp only [Inv.puts, Act.put, List.setIfInBounds_toArray, List.set_cons_zero, List.set_cons_succ] at hK
          simp only [Inv.puts, Act.put, List.setIfInBounds_toArray, List.set_cons_zero, List.set_cons_succ, e13]
          go_simp
          refine hK.out (Inv.upd X 29 (.agg #[.int .i64 ql, .int .i64 qh])) _ ?_
          rw [Inv.upd_same e13]
          exact ⟨⟨jw_far q0.1 hg3 _ _, far2 q0.2 h13 _ _⟩, fun h => q1 (fun h2 => h (.inr h2)), fun h => .inr (q2 (h.resolve_left (by decide))), fun h => q3 (h.resolve_left (by decide)), fun h => q4 (h.resolve_left (by decide)), fun h => q5 (h.resolve_left (by decide)), fun h => q6 (h.resolve_left (by decide)), fun h => q7 (h.resolve_left (by decide)), fun h => q8 (h.resolve_left (by decide)), fun h => q9 (h.resolve_left (by decide)), fun h => q10 (h.resolve_left (by decide)), fun h => q11 (h.resolve_left (by decide)), fun h => q12 (h.resolve_left (by decide)), fun h => q13 (h.resolve_left (by decide)), fun h => q14 (h.resolve_left (by decide)), ⟨fun h => far2 (q15.1 (fun h2 => h (.inr h2))) h23 _ _, fun h => far2 (q15.2 (h.resolve_left (by decide))) h23 _ _⟩, ⟨fun h => absurd (.inl rfl) h, fun _ => set2 (q16.1 hu) _ _⟩, fun h => .inr (q17 (h.resolve_left (by decide))), fun _ => .inr (hd.2.2.2.2.1), fun _ => .inr (hd.2.2.2.2.2.2.1)⟩
        exact Inv.AllInv.nil
      · intro u X wv hd hR
        obtain ⟨q0, q1, q2, q3, q4, q5, q6, q7, q8, q9, q10, q11, q12, q13, q14, q15, q16, q17, q18, q19⟩ := hR
        obtain ⟨u0, u1, u2, u3, u4, u5, u6, u7, u8, u9, u10, u11, u12, u13, -⟩ := hd
        simp only [Inv.puts, Act.put, List.setIfInBounds_toArray, List.set_cons_zero, List.set_cons_succ, q3 u0, q4 u1, q5 u2, q6 u3, q7 u4, q8 u5, q9 u6, q10 u7, q11 u8, q12 u9, q13 u10, q14 u11]
        go_wp2_with fail
        go_meet
        case rel => exact ⟨rfl, q0.1, ⟨hg1, q0.2⟩, ⟨hg2, q15.2 u12⟩, ⟨hg3, q16.2 u13⟩, h12, h13, h23⟩
    case rest =>
      obtain ⟨rfl, hW⟩ := hcut
      have HW := Lib.hid hW
      clear hW HC HO hB1 hB2 hB3 hJ0 hg1 hg2 hg3 h12 h13 h23
      generalize plainX o = P at *
      go_wp2_with fail
      refine (HP.out _).mono ?_
      rintro e w' ⟨rfl, rfl⟩
      clear HP
      go_upto_if 34 with (fail)
      go_cut [0] (fun s0 wx => s0 = .int .i64 P ∧ ¬ (P ≠ o ∧ (withinB ⟨pl, ph⟩ ⟨0, 2147483647⟩ && withinB ⟨ql, qh⟩ ⟨0, 2147483647⟩) = false) ∧ HalfW w al ah bl bh g1 g2 g3 pl ph ql qh wx)
      case first =>
        clear HA
        have HWX := Lib.hid (fun w => within_any pl ph 0 2147483647 w)
        have HWY := Lib.hid (fun w => within_any ql qh 0 2147483647 w)
        by_cases hne : P = o
        · subst hne
          go_wp2_with fail
          go_meet
          case rel => exact ⟨rfl, fun h => h.1 rfl, HW.out⟩
        · have t1 : (P == o) = false := by simpa using hne
          have HNE := Lib.hid hne
          clear hne
          go_wp2_with fail
          refine (HN31.out _).mono ?_
          rintro e w1 ⟨rfl, hB⟩
          have HW1 := Lib.hid ((HW.out.up hB).up (below_box' w1 (.cells #[.int .i64 0, .int .i64 2147483647] 47)))
          have HQ := Lib.hid (Blk.new w1 47 #[.int .i64 0, .int .i64 2147483647])
          clear hB HW
          obtain ⟨x0, x1, x2, x3, x4⟩ := cells2 HW1.out.2.2.1.2
          obtain ⟨y0, y1, y2, y3, y4⟩ := cells2 HW1.out.2.2.2.1.2
          obtain ⟨k0, k1, k2, k3, k4⟩ := cells2 HQ.out
          cases hx : withinB ⟨pl, ph⟩ ⟨0, 2147483647⟩ with
          | false =>
            rw [hx] at HWX
            have e2 : halfE = ⟨l, h⟩ := by have h3 := HR.out; rw [hx, if_pos ⟨HNE.out, rfl⟩] at h3; exact h3
            injection e2 with e2 e3
            subst e2 e3
            clear hx HR HWY
            go_wp2_with fail
            refine (HWX.out _).mono ?_
            rintro e w2 ⟨rfl, hB⟩
            have HW2 := Lib.hid (HW1.out.up hB)
            clear hB x0 x1 x2 x3 x4 y0 y1 y2 y3 y4 k0 k1 k2 k3 k4 HQ HW1
            obtain ⟨x0, x1, x2, x3, x4⟩ := cells2 HW2.out.2.1.2
            obtain ⟨⟨x, y, c0, c1⟩, c2, c3, c4⟩ := jR HW2.out.1
            go_wp2_with fail
            exact bodyPost_ret (v := .agg #[.int .i64 _, .int .i64 _]) (results_cell_row Try.results40 _ _ (w.heap.size + 2) 47 #[.int .i64 _, .int .i64 _] (0, 0) _ rfl (HW2.out.1.res _ _) Try.underlying47 rfl (by kernel_rfl)) rfl ⟨rfl, (HW2.out.1.set _ _).2.2.2⟩
          | true =>
            cases hy : withinB ⟨ql, qh⟩ ⟨0, 2147483647⟩ with
            | false =>
              rw [hx] at HWX
              rw [hy] at HWY
              have e2 : halfE = ⟨l, h⟩ := by have h3 := HR.out; rw [hx, hy, if_pos ⟨HNE.out, rfl⟩] at h3; exact h3
              injection e2 with e2 e3
              subst e2 e3
              clear hx hy HR
              go_wp2_with fail
              refine (HWX.out _).mono ?_
              rintro e w2 ⟨rfl, hB⟩
              have HW2 := Lib.hid (HW1.out.up hB)
              have HQ2 := Lib.hid (HQ.out.up hB)
              clear hB x0 x1 x2 x3 x4 y0 y1 y2 y3 y4 k0 k1 k2 k3 k4 HQ HW1
              obtain ⟨y0, y1, y2, y3, y4⟩ := cells2 HW2.out.2.2.2.1.2
              obtain ⟨k0, k1, k2, k3, k4⟩ := cells2 HQ2.out
              go_wp2_with fail
              refine (HWY.out _).mono ?_
              rintro e w3 ⟨rfl, hB⟩
              have HW3 := Lib.hid (HW2.out.up hB)
              clear hB y0 y1 y2 y3 y4 k0 k1 k2 k3 k4 HQ2 HW2
              obtain ⟨x0, x1, x2, x3, x4⟩ := cells2 HW3.out.2.1.2
              obtain ⟨⟨x, y, c0, c1⟩, c2, c3, c4⟩ := jR HW3.out.1
              go_wp2_with fail
              exact bodyPost_ret (v := .agg #[.int .i64 _, .int .i64 _]) (results_cell_row Try.results40 _ _ (w.heap.size + 2) 47 #[.int .i64 _, .int .i64 _] (0, 0) _ rfl (HW3.out.1.res _ _) Try.underlying47 rfl (by kernel_rfl)) rfl ⟨rfl, (HW3.out.1.set _ _).2.2.2⟩
            | true =>
              rw [hx] at HWX
              rw [hy] at HWY
              clear HR
              go_wp2_with fail
              refine (HWX.out _).mono ?_
              rintro e w2 ⟨rfl, hB⟩
              have HW2 := Lib.hid (HW1.out.up hB)
              have HQ2 := Lib.hid (HQ.out.up hB)
              clear hB x0 x1 x2 x3 x4 y0 y1 y2 y3 y4 k0 k1 k2 k3 k4 HQ HW1
              obtain ⟨y0, y1, y2, y3, y4⟩ := cells2 HW2.out.2.2.2.1.2
              obtain ⟨k0, k1, k2, k3, k4⟩ := cells2 HQ2.out
              go_wp2_with fail
              refine (HWY.out _).mono ?_
              rintro e w3 ⟨rfl, hB⟩
              have HW3 := Lib.hid (HW2.out.up hB)
              clear hB y0 y1 y2 y3 y4 k0 k1 k2 k3 k4 HQ2 HW2
              go_wp2_with fail
              go_meet
              case rel => exact ⟨rfl, fun h => (by have h2 := h.2; rw [hx, hy] at h2; cases h2), HW3.out⟩
      case rest =>
        obtain ⟨rfl, hno, hW⟩ := hcut
        have HW := Lib.hid hW
        clear hW HN31
        have HR2 := HR.out
        rw [if_neg hno] at HR2
        have HR3 := Lib.hid HR2
        clear hno HR HR2
        obtain ⟨x0, x1, x2, x3, x4⟩ := cells2 HW.out.2.2.1.2
        obtain ⟨y0, y1, y2, y3, y4⟩ := cells2 HW.out.2.2.2.1.2
        cases ha : answerX P ⟨pl, ph⟩ ⟨ql, qh⟩ with
        | none =>
          rw [ha] at HA HR3
          injection HR3.out with e2 e3
          subst e2 e3
          clear ha HR3
          go_wp2_with fail
          refine (HA.out _).mono ?_
          rintro e w1 ⟨rl, rh, rfl, -, hB⟩
          have HW1 := Lib.hid ((HW.out.up hB).up (below_box' w1 (.cells #[.int .i64 rl, .int .i64 rh] 47)))
          clear hB HW HA x0 x1 x2 x3 x4 y0 y1 y2 y3 y4
          obtain ⟨x0, x1, x2, x3, x4⟩ := cells2 HW1.out.2.1.2
          obtain ⟨⟨x, y, c0, c1⟩, c2, c3, c4⟩ := jR HW1.out.1
          go_wp2_with fail
          exact bodyPost_ret (v := .agg #[.int .i64 _, .int .i64 _]) (results_cell_row Try.results40 _ _ (w.heap.size + 2) 47 #[.int .i64 _, .int .i64 _] (0, 0) _ rfl (HW1.out.1.res _ _) Try.underlying47 rfl (by kernel_rfl)) rfl ⟨rfl, (HW1.out.1.set _ _).2.2.2⟩
        | some u =>
          rw [ha] at HA HR3
          clear ha
          go_wp2_with fail
          refine (HA.out _).mono ?_
          rintro e w1 ⟨rl, rh, rfl, hv, hB⟩
          obtain rfl : u = ⟨rl, rh⟩ := hv u rfl
          have HW1 := Lib.hid ((HW.out.up hB).up (below_box' w1 (.cells #[.int .i64 rl, .int .i64 rh] 47)))
          have HQ := Lib.hid (Blk.new w1 47 #[.int .i64 rl, .int .i64 rh])
          have HWR := Lib.hid (fun w => within_any rl rh 0 4294967295 w)
          clear hB hv HW HA x0 x1 x2 x3 x4 y0 y1 y2 y3 y4
          obtain ⟨x0, x1, x2, x3, x4⟩ := cells2 HW1.out.2.1.2
          obtain ⟨k0, k1, k2, k3, k4⟩ := cells2 HQ.out
          cases hw : withinB ⟨rl, rh⟩ ⟨0, 4294967295⟩ with
          | false =>
            rw [hw] at HWR
            have e2 : halfE = ⟨l, h⟩ := by have h3 : (if withinB ⟨rl, rh⟩ ⟨0, 4294967295⟩ = true then (⟨rl, rh⟩ : E) else halfE) = ⟨l, h⟩ := HR3.out; rw [hw] at h3; exact h3
            injection e2 with e2 e3
            subst e2 e3
            clear hw HR3
            go_wp2_with fail
            refine (HWR.out _).mono ?_
            rintro e w2 ⟨rfl, hB⟩
            have HW2 := Lib.hid (HW1.out.up hB)
            clear hB x0 x1 x2 x3 x4 k0 k1 k2 k3 k4 HQ HW1
            obtain ⟨x0, x1, x2, x3, x4⟩ := cells2 HW2.out.2.1.2
            obtain ⟨⟨x, y, c0, c1⟩, c2, c3, c4⟩ := jR HW2.out.1
            go_wp2_with fail
            exact bodyPost_ret (v := .agg #[.int .i64 _, .int .i64 _]) (results_cell_row Try.results40 _ _ (w.heap.size + 2) 47 #[.int .i64 _, .int .i64 _] (0, 0) _ rfl (HW2.out.1.res _ _) Try.underlying47 rfl (by kernel_rfl)) rfl ⟨rfl, (HW2.out.1.set _ _).2.2.2⟩
          | true =>
            rw [hw] at HWR
            have e2 : (⟨rl, rh⟩ : E) = ⟨l, h⟩ := by have h3 : (if withinB ⟨rl, rh⟩ ⟨0, 4294967295⟩ = true then (⟨rl, rh⟩ : E) else halfE) = ⟨l, h⟩ := HR3.out; rw [hw] at h3; exact h3
            injection e2 with e2 e3
            subst e2 e3
            clear hw HR3
            go_wp2_with fail
            refine (HWR.out _).mono ?_
            rintro e w2 ⟨rfl, hB⟩
            have HW2 := Lib.hid (HW1.out.up hB)
            have HQ2 := Lib.hid (HQ.out.up hB)
            clear hB x0 x1 x2 x3 x4 k0 k1 k2 k3 k4 HQ HW1
            obtain ⟨k0, k1, k2, k3, k4⟩ := cells2 HQ2.out
            obtain ⟨⟨x, y, c0, c1⟩, c2, c3, c4⟩ := jR HW2.out.1
            go_wp2_with fail
            exact bodyPost_ret (v := .agg #[.int .i64 _, .int .i64 _]) (results_cell_row Try.results40 _ _ (w.heap.size + 2) 47 #[.int .i64 _, .int .i64 _] (0, 0) _ rfl (HW2.out.1.res _ _) Try.underlying47 rfl (by kernel_rfl)) rfl ⟨rfl, (HW2.out.1.set _ _).2.2.2⟩
end Spc
end Go.Proofs.Ytjhgjplhhhgfcaa
