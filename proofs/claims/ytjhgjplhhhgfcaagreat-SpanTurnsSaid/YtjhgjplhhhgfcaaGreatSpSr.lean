/- Contracts of package span: Alu, behind a contract of halved. -/
import Derived.Test.YtjhgjplhhhgfcaaGreatSpIn
import Derived.Deep.DeepCutAuto
namespace Go.Proofs.YtjhgjplhhhgfcaaGreat
open Go.ChangeShapes Go.WideShapes Go.ChangeAt Go.RowKit
open Spn
namespace Spc
set_option linter.unusedVariables false
set_option maxRecDepth 100000
/-- Alu's three boxes -/
def AW (w0 : World) (alo ahi : Int) (anl anh : Bool) (blo bhi : Int) (bnl bnh : Bool) (w : World) : Prop :=
  Blk w w0.heap.size 23 #[.int .i64 alo, .int .i64 ahi, .bool anl, .bool anh] ∧ Blk w (w0.heap.size + 1) 23 #[.int .i64 blo, .int .i64 bhi, .bool bnl, .bool bnh] ∧ Blk w (w0.heap.size + 2) 23 zS ∧ Below w0.heap.size w0 w
theorem AW.start (w : World) (alo ahi : Int) (anl anh : Bool) (blo bhi : Int) (bnl bnh : Bool) : AW w alo ahi anl anh blo bhi bnl bnh (((w.alloc (.cells #[.int .i64 alo, .int .i64 ahi, .bool anl, .bool anh] 23)).alloc (.cells #[.int .i64 blo, .int .i64 bhi, .bool bnl, .bool bnh] 23)).alloc (.cells zS 23)) :=
  ⟨((Blk.new w _ _).alloc _).alloc _, (new2 w _ _ _).alloc _, new3 w _ _ _ _, box3 w _ _ _⟩
theorem AW.drew {w0 w : World} {alo ahi : Int} {anl anh : Bool} {blo bhi : Int} {bnl bnh : Bool} (h : AW w0 alo ahi anl anh blo bhi bnl bnh w) : AW w0 alo ahi anl anh blo bhi bnl bnh w.drew := ⟨h.1.drew, h.2.1.drew, h.2.2.1.drew, h.2.2.2.drew⟩
theorem AW.up {w0 w w' : World} {alo ahi : Int} {anl anh : Bool} {blo bhi : Int} {bnl bnh : Bool} (h : AW w0 alo ahi anl anh blo bhi bnl bnh w) (hb : Below w.heap.size w w') : AW w0 alo ahi anl anh blo bhi bnl bnh w' := ⟨h.1.up hb, h.2.1.up hb, h.2.2.1.up hb, nx h.2.2.2 hb⟩
theorem AW.ge {w0 w : World} {alo ahi : Int} {anl anh : Bool} {blo bhi : Int} {bnl bnh : Bool} (h : AW w0 alo ahi anl anh blo bhi bnl bnh w) : w0.heap.size + 2 < w.heap.size := h.2.2.1.lt
theorem AW.far {w0 w : World} {alo ahi : Int} {anl anh : Bool} {blo bhi : Int} {bnl bnh : Bool} {g : Nat} (h : AW w0 alo ahi anl anh blo bhi bnl bnh w) (hg : w0.heap.size + 2 < g) (a b : Value) : AW w0 alo ahi anl anh blo bhi bnl bnh ((w.setCell ⟨g, 0, none⟩ a).setCell ⟨g, 1, none⟩ b) :=
  ⟨far2 h.1 (by omega) _ _, far2 h.2.1 (by omega) _ _, far2 h.2.2.1 (by omega) _ _, Below.set2 h.2.2.2 (by omega) _ _⟩
theorem aS {w w' : World} {alo ahi : Int} {anl anh : Bool} {blo bhi : Int} {bnl bnh : Bool} (h : AW w alo ahi anl anh blo bhi bnl bnh w') :
    w'.cell? ⟨w.heap.size, 0, none⟩ = some (.int .i64 alo) ∧ w'.cell? ⟨w.heap.size, 1, none⟩ = some (.int .i64 ahi) ∧ w'.cell? ⟨w.heap.size, 2, none⟩ = some (.bool anl) ∧ w'.cell? ⟨w.heap.size, 3, none⟩ = some (.bool anh) ∧
    w'.cell? ⟨w.heap.size + 1, 0, none⟩ = some (.int .i64 blo) ∧ w'.cell? ⟨w.heap.size + 1, 1, none⟩ = some (.int .i64 bhi) ∧ w'.cell? ⟨w.heap.size + 1, 2, none⟩ = some (.bool bnl) ∧ w'.cell? ⟨w.heap.size + 1, 3, none⟩ = some (.bool bnh) ∧ AW w alo ahi anl anh blo bhi bnl bnh w' := by
  obtain ⟨⟨a0, a1, a2, a3⟩, -, -⟩ := cells4 h.1
  obtain ⟨⟨b0, b1, b2, b3⟩, -, -⟩ := cells4 h.2.1
  exact ⟨a0, a1, a2, a3, b0, b1, b2, b3, h⟩
/-- two boxes of ends, apart from those -/
def Two (w0 w : World) (g h : Nat) (xl xh yl yh : Int) : Prop := g ≠ h ∧ w0.heap.size + 2 < g ∧ w0.heap.size + 2 < h ∧ Blk w g 30 #[.int .i64 xl, .int .i64 xh] ∧ Blk w h 30 #[.int .i64 yl, .int .i64 yh]
/-- the boxes of Alu's two operands' ends -/
def AluCut (w0 : World) (alo ahi : Int) (anl anh : Bool) (blo bhi : Int) (bnl bnh : Bool) (al ah bl bh : Int) (s9 s10 : Value) (wx : World) : Prop :=
  ∃ g h, s9 = .pointer (some ⟨g, 0, none⟩) ∧ s10 = .pointer (some ⟨h, 0, none⟩) ∧ Two w0 wx g h al ah bl bh ∧ AW w0 alo ahi anl anh blo bhi bnl bnh wx
/-- Alu's first region: what holds, whatever has come up -/
def AluR (w0 : World) (alo ahi : Int) (anl anh : Bool) (blo bhi : Int) (bnl bnh : Bool) (al ah bl bh : Int) (u : Nat → Prop) (X : Tmp → Value) (w : World) : Prop :=
  AW w0 alo ahi anl anh blo bhi bnl bnh w ∧
  (u 0 → X 13 = .agg #[.int .i64 alo, .int .i64 ahi, .bool anl, .bool anh]) ∧
  (u 1 → X 14 = .agg #[.int .i64 al, .int .i64 ah]) ∧
  (u 2 → X 15 = .agg #[.int .i64 blo, .int .i64 bhi, .bool bnl, .bool bnh]) ∧
  (u 3 → X 16 = .agg #[.int .i64 bl, .int .i64 bh]) ∧
  SlotI (w0.heap.size + 2) (u 4) (u 6) (X 9) w (.int .i64 al) (.int .i64 ah) ∧
  SlotI (w0.heap.size + 2) (u 5) (u 7) (X 10) w (.int .i64 bl) (.int .i64 bh) ∧
  (u 4 → u 5 → X 9 ≠ X 10)
theorem Two.up {w0 w w' : World} {g h : Nat} {a b c d : Int} (ht : Two w0 w g h a b c d) (hb : Below w.heap.size w w') : Two w0 w' g h a b c d := ⟨ht.1, ht.2.1, ht.2.2.1, ht.2.2.2.1.up hb, ht.2.2.2.2.up hb⟩
def aluE2 (op : Int) (n : Bool) (a b : E) : E := match soleX op n a b with
  | some v => ⟨v, v⟩
  | none => if n then halfX op a b else wideX op a b
/-- what Alu tells -/
def aluS (op : Int) (n : Bool) (a b : Sp) : Sp := sp (aluE2 op n (rd a) (rd b))
set_option maxHeartbeats 8000000 in
theorem Alu_of (op alo ahi : Int) (anl anh : Bool) (blo bhi : Int) (bnl bnh : Bool) (n : Bool) (al ah bl bh : Int) (ha : rd ⟨alo, ahi, anl, anh⟩ = ⟨al, ah⟩) (hb : rd ⟨blo, bhi, bnl, bnh⟩ = ⟨bl, bh⟩)
    (HH : n = true → soleX op n ⟨al, ah⟩ ⟨bl, bh⟩ = none → ∀ l h, halfX op ⟨al, ah⟩ ⟨bl, bh⟩ = ⟨l, h⟩ → ∀ w, Calls Tryz.prog 15 #[.int .i64 op, .agg #[.int .i64 al, .int .i64 ah], .agg #[.int .i64 bl, .int .i64 bh]] w (RetE w l h))
    (p q : Int) (r s : Bool) (hr : aluS op n ⟨alo, ahi, anl, anh⟩ ⟨blo, bhi, bnl, bnh⟩ = ⟨p, q, r, s⟩) (w : World) :
    Calls Tryz.prog 5 #[.int .i64 op, .bool n, .agg #[.int .i64 alo, .int .i64 ahi, .bool anl, .bool anh], .agg #[.int .i64 blo, .int .i64 bhi, .bool bnl, .bool bnh]] w (RetS w p q r s) := by
  have hoka := rd_ok ⟨alo, ahi, anl, anh⟩
  have hokb := rd_ok ⟨blo, bhi, bnl, bnh⟩
  unfold aluS at hr
  rw [ha] at hoka hr
  rw [hb] at hokb hr
  have HRA := Lib.hid (fun w => read_any alo ahi anl anh al ah ha w)
  have HRB := Lib.hid (fun w => read_any blo bhi bnl bnh bl bh hb w)
  have HS := Lib.hid (fun w => sole_any op n al ah bl bh w)
  have HH1 := Lib.hid HH
  have HWI := Lib.hid (fun l h e w => wide_any op al ah bl bh l h hoka hokb e w)
  have HRR := Lib.hid hr
  clear ha hb HH hoka hokb hr
  go_enter Tryz.func5, Tryz.ntmps5
  go_wp2_with fail
  go_cut [9, 10] (fun s9 s10 wx => AluCut w alo ahi anl anh blo bhi bnl bnh al ah bl bh s9 s10 wx)
  case first =>
    clear HS HH1 HWI HRR
    have HA0 := Lib.hid (AW.start w alo ahi anl anh blo bhi bnl bnh)
    refine Inv.wp_region_inv [13, 14, 15, 16, 9, 10] (AluR w alo ahi anl anh blo bhi bnl bnh al ah bl bh) (by kernel_rfl) (by kernel_rfl) [0, 1, 2, 3, 4, 5, 6, 7] (by kernel_rfl) ?_ ?_ ?_
    · exact ⟨HA0.out.drew, fun h => h.elim, fun h => h.elim, fun h => h.elim, fun h => h.elim, SlotI.no, SlotI.no, fun h => h.elim⟩
    · refine Inv.AllInv.cons ({ dst := some 13, op := Op.load 23 (Operand.tmp 6), type := 23, pos := "span.go:27", after := #[], guard := none }) rfl rfl [] (by kernel_rfl) ?_ ?_
      · intro Q2 u X wv hR hu hd K hK
        obtain ⟨q0, q1, q2, q3, q4, q5, q6, q7⟩ := hR
        obtain ⟨⟨f0, f1, f2, f3⟩, ⟨f4, f5, f6, f7⟩, f8⟩ := cells4 q0.1
        refine ⟨?_⟩
        simp only [Inv.puts, Act.put, List.setIfInBounds_toArray, List.set_cons_zero, List.set_cons_succ] at hK
        simp only [Inv.puts, Act.put, List.setIfInBounds_toArray, List.set_cons_zero, List.set_cons_succ]
        go_simp
        refine hK.out (Inv.upd X 13 (.agg #[.int .i64 alo, .int .i64 ahi, .bool anl, .bool anh])) _ ?_
        exact ⟨q0, fun _ => rfl, fun h => q2 (h.resolve_left (by decide)), fun h => q3 (h.resolve_left (by decide)), fun h => q4 (h.resolve_left (by decide)), (q5.step (by decide) (by decide)), (q6.step (by decide) (by decide)), fun h h2 => q7 (h.resolve_left (by decide)) (h2.resolve_left (by decide))⟩
      refine Inv.AllInv.cons ({ dst := some 14, op := Op.call { callee := Callee.value (Operand.func 12), args := #[Operand.tmp 13], argTypes := #[23] }, type := 30, pos := "span.go:27", after := #[{ on := 0, ground := Ground.data }], guard := none }) rfl rfl [0] (by kernel_rfl) ?_ ?_
      · intro Q2 u X wv hR hu hd K hK
        obtain ⟨q0, q1, q2, q3, q4, q5, q6, q7⟩ := hR
        have e1 := q1 hd.1
        refine ⟨?_⟩
        simp only [Inv.puts, Act.put, List.setIfInBounds_toArray, List.set_cons_zero, List.set_cons_succ] at hK
        simp only [Inv.puts, Act.put, List.setIfInBounds_toArray, List.set_cons_zero, List.set_cons_succ, e1]
        go_simp
        go_at_call 12
        refine (HRA.out _).mono ?_
        rintro e w1 ⟨rfl, hB⟩
        refine hK.out (Inv.upd (Inv.upd X 13 (.agg #[.int .i64 alo, .int .i64 ahi, .bool anl, .bool anh])) 14 (.agg #[.int .i64 al, .int .i64 ah])) _ ?_
        rw [Inv.upd_same e1]
        exact ⟨q0.up hB, fun h => q1 (h.resolve_left (by decide)), fun _ => rfl, fun h => q3 (h.resolve_left (by decide)), fun h => q4 (h.resolve_left (by decide)), (q5.step (by decide) (by decide)).up hB, (q6.step (by decide) (by decide)).up hB, fun h h2 => q7 (h.resolve_left (by decide)) (h2.resolve_left (by decide))⟩
      refine Inv.AllInv.cons ({ dst := some 15, op := Op.load 23 (Operand.tmp 7), type := 23, pos := "span.go:27", after := #[], guard := none }) rfl rfl [] (by kernel_rfl) ?_ ?_
      · intro Q2 u X wv hR hu hd K hK
        obtain ⟨q0, q1, q2, q3, q4, q5, q6, q7⟩ := hR
        obtain ⟨⟨f0, f1, f2, f3⟩, ⟨f4, f5, f6, f7⟩, f8⟩ := cells4 q0.2.1
        refine ⟨?_⟩
        simp only [Inv.puts, Act.put, List.setIfInBounds_toArray, List.set_cons_zero, List.set_cons_succ] at hK
        simp only [Inv.puts, Act.put, List.setIfInBounds_toArray, List.set_cons_zero, List.set_cons_succ]
        go_simp
        refine hK.out (Inv.upd X 15 (.agg #[.int .i64 blo, .int .i64 bhi, .bool bnl, .bool bnh])) _ ?_
        exact ⟨q0, fun h => q1 (h.resolve_left (by decide)), fun h => q2 (h.resolve_left (by decide)), fun _ => rfl, fun h => q4 (h.resolve_left (by decide)), (q5.step (by decide) (by decide)), (q6.step (by decide) (by decide)), fun h h2 => q7 (h.resolve_left (by decide)) (h2.resolve_left (by decide))⟩
      refine Inv.AllInv.cons ({ dst := some 16, op := Op.call { callee := Callee.value (Operand.func 12), args := #[Operand.tmp 15], argTypes := #[23] }, type := 30, pos := "span.go:27", after := #[{ on := 2, ground := Ground.data }, { on := 1, ground := Ground.chain }], guard := none }) rfl rfl [2, 1] (by kernel_rfl) ?_ ?_
      · intro Q2 u X wv hR hu hd K hK
        obtain ⟨q0, q1, q2, q3, q4, q5, q6, q7⟩ := hR
        have e3 := q3 hd.1
        refine ⟨?_⟩
        simp only [Inv.puts, Act.put, List.setIfInBounds_toArray, List.set_cons_zero, List.set_cons_succ] at hK
        simp only [Inv.puts, Act.put, List.setIfInBounds_toArray, List.set_cons_zero, List.set_cons_succ, e3]
        go_simp
        go_at_call 12
        refine (HRB.out _).mono ?_
        rintro e w1 ⟨rfl, hB⟩
        refine hK.out (Inv.upd (Inv.upd X 15 (.agg #[.int .i64 blo, .int .i64 bhi, .bool bnl, .bool bnh])) 16 (.agg #[.int .i64 bl, .int .i64 bh])) _ ?_
        rw [Inv.upd_same e3]
        exact ⟨q0.up hB, fun h => q1 (h.resolve_left (by decide)), fun h => q2 (h.resolve_left (by decide)), fun h => q3 (h.resolve_left (by decide)), fun _ => rfl, (q5.step (by decide) (by decide)).up hB, (q6.step (by decide) (by decide)).up hB, fun h h2 => q7 (h.resolve_left (by decide)) (h2.resolve_left (by decide))⟩
      refine Inv.AllInv.cons ({ dst := some 9, op := Op.alloc 30, type := 0, pos := "span.go:27", after := #[], guard := none }) rfl rfl [] (by kernel_rfl) ?_ ?_
      · intro Q2 u X wv hR hu hd K hK
        obtain ⟨q0, q1, q2, q3, q4, q5, q6, q7⟩ := hR
        have hge := q0.ge
        refine ⟨?_⟩
        simp only [Inv.puts, Act.put, List.setIfInBounds_toArray, List.set_cons_zero, List.set_cons_succ] at hK
        simp only [Inv.puts, Act.put, List.setIfInBounds_toArray, List.set_cons_zero, List.set_cons_succ]
        go_simp
        refine hK.out (Inv.upd X 9 (.pointer (some ⟨wv.heap.size, 0, none⟩))) _ ?_
        exact ⟨q0.up (below_box' _ _), fun h => q1 (h.resolve_left (by decide)), fun h => q2 (h.resolve_left (by decide)), fun h => q3 (h.resolve_left (by decide)), fun h => q4 (h.resolve_left (by decide)), q5.made hu (by decide) hge, (q6.step (by decide) (by decide)).up (below_box' _ _), fun _ h => (q6.ne (h.resolve_left (by decide))).symm⟩
      refine Inv.AllInv.cons ({ dst := some 10, op := Op.alloc 30, type := 0, pos := "span.go:27", after := #[], guard := none }) rfl rfl [] (by kernel_rfl) ?_ ?_
      · intro Q2 u X wv hR hu hd K hK
        obtain ⟨q0, q1, q2, q3, q4, q5, q6, q7⟩ := hR
        have hge := q0.ge
        refine ⟨?_⟩
        simp only [Inv.puts, Act.put, List.setIfInBounds_toArray, List.set_cons_zero, List.set_cons_succ] at hK
        simp only [Inv.puts, Act.put, List.setIfInBounds_toArray, List.set_cons_zero, List.set_cons_succ]
        go_simp
        refine hK.out (Inv.upd X 10 (.pointer (some ⟨wv.heap.size, 0, none⟩))) _ ?_
        exact ⟨q0.up (below_box' _ _), fun h => q1 (h.resolve_left (by decide)), fun h => q2 (h.resolve_left (by decide)), fun h => q3 (h.resolve_left (by decide)), fun h => q4 (h.resolve_left (by decide)), (q5.step (by decide) (by decide)).up (below_box' _ _), q6.made hu (by decide) hge, fun h _ => q5.ne (h.resolve_left (by decide))⟩
      refine Inv.AllInv.cons ({ dst := none, op := Op.store 30 (Operand.tmp 9) (Operand.tmp 14), type := 0, pos := "span.go:27", after := #[{ on := 4, ground := Ground.data }, { on := 1, ground := Ground.data }, { on := 3, ground := Ground.chain }, { on := 0, ground := Ground.phase }, { on := 1, ground := Ground.phase }, { on := 2, ground := Ground.textOnly Departure.lateStores }, { on := 3, ground := Ground.textOnly Departure.lateStoresUnsure }, { on := 4, ground := Ground.phase }, { on := 5, ground := Ground.phase }], guard := none }) rfl rfl [4, 1, 3, 0, 1, 4, 5] (by kernel_rfl) ?_ ?_
      · intro Q2 u X wv hR hu hd K hK
        obtain ⟨q0, q1, q2, q3, q4, q5, q6, q7⟩ := hR
        have e2 := q2 hd.2.1
        have ha := hd.1
        obtain ⟨g, eX, hg, c1, c2, hBx, -⟩ := q5.2 ha
        obtain ⟨b0, b1, b2, b3, b4⟩ := cells2 hBx
        refine ⟨?_⟩
        simp only [Inv.puts, Act.put, List.setIfInBounds_toArray, List.set_cons_zero, List.set_cons_succ] at hK
        simp only [Inv.puts, Act.put, List.setIfInBounds_toArray, List.set_cons_zero, List.set_cons_succ, e2, eX]
        go_simp
        refine hK.out (Inv.upd (Inv.upd X 14 (.agg #[.int .i64 al, .int .i64 ah])) 9 (.pointer (some ⟨g, 0, none⟩))) _ ?_
        rw [Inv.upd_same e2, Inv.upd_same eX]
        exact ⟨q0.far hg _ _, fun h => q1 (h.resolve_left (by decide)), fun h => q2 (h.resolve_left (by decide)), fun h => q3 (h.resolve_left (by decide)), fun h => q4 (h.resolve_left (by decide)), by rw [show _ = _ from eX]; exact SlotI.stored hg ha hBx, (q6.step (by decide) (by decide)).far (fun h => fun e => q7 ha (h.resolve_left (by decide)) (eX.trans e.symm)), fun h h2 => q7 (h.resolve_left (by decide)) (h2.resolve_left (by decide))⟩
      refine Inv.AllInv.cons ({ dst := none, op := Op.store 30 (Operand.tmp 10) (Operand.tmp 16), type := 0, pos := "span.go:27", after := #[{ on := 5, ground := Ground.data }, { on := 3, ground := Ground.data }, { on := 6, ground := Ground.chain }, { on := 0, ground := Ground.phase }, { on := 1, ground := Ground.phase }, { on := 2, ground := Ground.phase }, { on := 3, ground := Ground.phase }, { on := 4, ground := Ground.phase }, { on := 5, ground := Ground.phase }, { on := 6, ground := Ground.phase }], guard := none }) rfl rfl [5, 3, 6, 0, 1, 2, 3, 4, 5, 6] (by kernel_rfl) ?_ ?_
      · intro Q2 u X wv hR hu hd K hK
        obtain ⟨q0, q1, q2, q3, q4, q5, q6, q7⟩ := hR
        have e4 := q4 hd.2.1
        have ha := hd.1
        obtain ⟨g, eX, hg, c1, c2, hBx, -⟩ := q6.2 ha
        obtain ⟨b0, b1, b2, b3, b4⟩ := cells2 hBx
        refine ⟨?_⟩
        simp only [Inv.puts, Act.put, List.setIfInBounds_toArray, List.set_cons_zero, List.set_cons_succ] at hK
        simp only [Inv.puts, Act.put, List.setIfInBounds_toArray, List.set_cons_zero, List.set_cons_succ, e4, eX]
        go_simp
        refine hK.out (Inv.upd (Inv.upd X 16 (.agg #[.int .i64 bl, .int .i64 bh])) 10 (.pointer (some ⟨g, 0, none⟩))) _ ?_
        rw [Inv.upd_same e4, Inv.upd_same eX]
        exact ⟨q0.far hg _ _, fun h => q1 (h.resolve_left (by decide)), fun h => q2 (h.resolve_left (by decide)), fun h => q3 (h.resolve_left (by decide)), fun h => q4 (h.resolve_left (by decide)), (q5.step (by decide) (by decide)).far (fun h => fun e => q7 (h.resolve_left (by decide)) ha (e.trans eX.symm)), by rw [show _ = _ from eX]; exact SlotI.stored hg ha hBx, fun h h2 => q7 (h.resolve_left (by decide)) (h2.resolve_left (by decide))⟩
      exact Inv.AllInv.nil
    · intro u X wv hd hR
      obtain ⟨q0, q1, q2, q3, q4, q5, q6, q7⟩ := hR
      obtain ⟨u0, u1, u2, u3, u4, u5, u6, u7, -⟩ := hd
      obtain ⟨g, eg, hg, hBg⟩ := q5.full u6
      obtain ⟨h, eh, hh, hBh⟩ := q6.full u7
      have hgh : g ≠ h := fun e => q7 u4 u5 (by rw [eg, eh, e])
      simp only [Inv.puts, Act.put, List.setIfInBounds_toArray, List.set_cons_zero, List.set_cons_succ, q1 u0, q2 u1, q3 u2, q4 u3, eg, eh]
      go_wp2_with fail
      go_meet
      case rel => exact ⟨g, h, rfl, rfl, ⟨hgh, hg, hh, hBg, hBh⟩, q0⟩
  case rest =>
    obtain ⟨g, h, rfl, rfl, hT, hJ⟩ := hcut
    have HT := Lib.hid hT
    have HJ := Lib.hid hJ
    obtain ⟨x0, x1, x2, x3, x4⟩ := cells2 hT.2.2.2.1
    obtain ⟨y0, y1, y2, y3, y4⟩ := cells2 hT.2.2.2.2
    clear hT hJ HRA HRB
    cases hso : soleX op n ⟨al, ah⟩ ⟨bl, bh⟩ with
    | some u =>
      rw [hso] at HS
      have hr2 : sp ⟨u, u⟩ = ⟨p, q, r, s⟩ := by have := HRR.out; unfold aluE2 at this; rw [hso] at this; exact this
      have HP := Lib.hid (fun w => span_any u u p q r s hr2 w)
      clear hso hr2 HRR HH1 HWI
      go_wp2_with fail
      refine (HS.out _).mono ?_
      rintro e w3 ⟨v, rfl, hv, hB⟩
      obtain rfl : v = u := hv u rfl
      have HJ3 := Lib.hid (HJ.out.up hB)
      clear hv hB x0 x1 x2 x3 x4 y0 y1 y2 y3 y4 HT
      go_wp2_with fail
      refine (HP.out _).mono ?_
      rintro e w4 ⟨rfl, hB⟩
      have HJ4 := Lib.hid (HJ3.out.up hB)
      clear hB
      obtain ⟨⟨c0, c1, c2, c3⟩, ⟨c4, c5, c6, c7⟩, c8⟩ := cells4 HJ4.out.2.2.1
      go_wp2_with fail
      exact bodyPost_ret (v := .agg #[.int .i64 _, .int .i64 _, .bool _, .bool _]) (results_cell_row Tryz.results5 _ _ (w.heap.size + 2) 23 #[.int .i64 _, .int .i64 _, .bool _, .bool _] (0, 0) _ rfl (set4 HJ4.out.2.2.1 _ _ _ _) Tryz.underlying23 rfl (by kernel_rfl)) rfl ⟨rfl, Below.set4 HJ4.out.2.2.2 (by omega) _ _ _ _⟩
    | none =>
      rw [hso] at HS
      cases n
      · rcases eh : wideX op ⟨al, ah⟩ ⟨bl, bh⟩ with ⟨l2, h2⟩
        have hr2 : sp ⟨l2, h2⟩ = ⟨p, q, r, s⟩ := by have := HRR.out; unfold aluE2 at this; rw [hso] at this; rw [← eh]; exact this
        have HP := Lib.hid (fun w => span_any l2 h2 p q r s hr2 w)
        have HC := Lib.hid (fun w => HWI.out l2 h2 eh w)
        clear hso hr2 HRR HH1 HWI eh
        go_wp2_with fail
        refine (HS.out _).mono ?_
        rintro e w3 ⟨v, rfl, -, hB⟩
        have HJ3 := Lib.hid (HJ.out.up hB)
        have HT3 := Lib.hid (HT.out.up hB)
        clear hB x0 x1 x2 x3 x4 y0 y1 y2 y3 y4 HT
        obtain ⟨x0, x1, x2, x3, x4⟩ := cells2 HT3.out.2.2.2.1
        obtain ⟨y0, y1, y2, y3, y4⟩ := cells2 HT3.out.2.2.2.2
        go_wp2_with fail
        refine (HC.out _).mono ?_
        rintro e w5 ⟨rfl, hB⟩
        have HJ5 := Lib.hid (HJ3.out.up hB)
        clear hB x0 x1 x2 x3 x4 y0 y1 y2 y3 y4 HT3
        go_wp2_with fail
        refine (HP.out _).mono ?_
        rintro e w4 ⟨rfl, hB⟩
        have HJ4 := Lib.hid (HJ5.out.up hB)
        clear hB
        obtain ⟨⟨c0, c1, c2, c3⟩, ⟨c4, c5, c6, c7⟩, c8⟩ := cells4 HJ4.out.2.2.1
        go_wp2_with fail
        exact bodyPost_ret (v := .agg #[.int .i64 _, .int .i64 _, .bool _, .bool _]) (results_cell_row Tryz.results5 _ _ (w.heap.size + 2) 23 #[.int .i64 _, .int .i64 _, .bool _, .bool _] (0, 0) _ rfl (set4 HJ4.out.2.2.1 _ _ _ _) Tryz.underlying23 rfl (by kernel_rfl)) rfl ⟨rfl, Below.set4 HJ4.out.2.2.2 (by omega) _ _ _ _⟩
      · rcases eh : halfX op ⟨al, ah⟩ ⟨bl, bh⟩ with ⟨l2, h2⟩
        have hr2 : sp ⟨l2, h2⟩ = ⟨p, q, r, s⟩ := by have := HRR.out; unfold aluE2 at this; rw [hso] at this; rw [← eh]; exact this
        have HP := Lib.hid (fun w => span_any l2 h2 p q r s hr2 w)
        have HC := Lib.hid (fun w => HH1.out rfl hso l2 h2 eh w)
        clear hso hr2 HRR HH1 HWI eh
        go_wp2_with fail
        refine (HS.out _).mono ?_
        rintro e w3 ⟨v, rfl, -, hB⟩
        have HJ3 := Lib.hid (HJ.out.up hB)
        have HT3 := Lib.hid (HT.out.up hB)
        clear hB x0 x1 x2 x3 x4 y0 y1 y2 y3 y4 HT
        obtain ⟨x0, x1, x2, x3, x4⟩ := cells2 HT3.out.2.2.2.1
        obtain ⟨y0, y1, y2, y3, y4⟩ := cells2 HT3.out.2.2.2.2
        go_wp2_with fail
        refine (HC.out _).mono ?_
        rintro e w5 ⟨rfl, hB⟩
        have HJ5 := Lib.hid (HJ3.out.up hB)
        clear hB x0 x1 x2 x3 x4 y0 y1 y2 y3 y4 HT3
        go_wp2_with fail
        refine (HP.out _).mono ?_
        rintro e w4 ⟨rfl, hB⟩
        have HJ4 := Lib.hid (HJ5.out.up hB)
        clear hB
        obtain ⟨⟨c0, c1, c2, c3⟩, ⟨c4, c5, c6, c7⟩, c8⟩ := cells4 HJ4.out.2.2.1
        go_wp2_with fail
        exact bodyPost_ret (v := .agg #[.int .i64 _, .int .i64 _, .bool _, .bool _]) (results_cell_row Tryz.results5 _ _ (w.heap.size + 2) 23 #[.int .i64 _, .int .i64 _, .bool _, .bool _] (0, 0) _ rfl (set4 HJ4.out.2.2.1 _ _ _ _) Tryz.underlying23 rfl (by kernel_rfl)) rfl ⟨rfl, Below.set4 HJ4.out.2.2.2 (by omega) _ _ _ _⟩
end Spc
end Go.Proofs.YtjhgjplhhhgfcaaGreat
