/- Package code: what (*reader).ins holds of memory; that what it reads fits. -/
import Derived.Test.YtlodoinmippebaaDoorCodeZZ
namespace Go.Proofs.YtlodoinmippebaaDoor
open Go.ChangeShapes Go.WideShapes Go.ChangeAt Go.RowKit
open Cod Bits
set_option linter.unusedVariables false

theorem sized_mem4 {op : Int} {nar : Bool} {size : Int} (h : sizedL op nar size = true) (h1 : 22 ≤ op) (h2 : op ≤ 25) : size = 1 ∨ size = 2 ∨ size = 4 ∨ size = 8 := by
  unfold sizedL at h
  rw [if_neg (by omega), if_neg (by omega)] at h
  split at h
  · simp only [Bool.or_eq_true, beq_iff_eq] at h; omega
  · split at h
    · simp only [Bool.or_eq_true, beq_iff_eq] at h; omega
    · rw [if_pos (by omega)] at h
      simp only [Bool.or_eq_true, beq_iff_eq] at h; omega
theorem chosen_fit {c : Int} (F : OpFacts c) (u : U) (h1 : 22 ≤ (chosenL (opL c) u).op) (h2 : (chosenL (opL c) u).op ≤ 25) : (chosenL (opL c) u).size = 1 ∨ (chosenL (opL c) u).size = 2 ∨ (chosenL (opL c) u).size = 4 ∨ (chosenL (opL c) u).size = 8 := by
  have fops := F.ops
  revert fops h1 h2
  generalize opL c = j
  obtain ⟨op, nar, reg, size, dst, src, off, imm⟩ := j
  unfold chosenL
  simp only
  intro h1 h2 fops
  by_cases h4 : op = 4
  · rw [if_pos h4] at h1 h2; exfalso; split at h1 <;> simp_all
  rw [if_neg h4] at h1 h2 ⊢
  by_cases h5 : op = 5
  · rw [if_pos h5] at h1 h2; exfalso; split at h1 <;> simp_all
  rw [if_neg h5] at h1 h2 ⊢
  by_cases h15 : op = 15
  · rw [if_pos h15] at h1 h2; exfalso; split at h1 <;> simp_all
  rw [if_neg h15] at h1 h2 ⊢
  by_cases h17 : op = 17 ∨ op = 18 ∨ op = 19
  · rw [if_pos h17] at h1 h2; exfalso; simp only at h1; omega
  rw [if_neg h17] at h1 h2 ⊢
  by_cases h20 : op = 20
  · rw [if_pos h20] at h1 h2; exfalso; split at h1 <;> simp_all
  rw [if_neg h20] at h1 h2 ⊢
  exact sized_mem4 (op_sized (fops h17)).2 h1 h2
theorem read_fit {c : Int} (F : OpFacts c) (u v : U) : (filledL (chosenL (opL c) u) u v).fit :=
  ⟨(chosen_kept F u).op, fun h1 h2 => chosen_fit F u h1 h2⟩
/-- what ins holds of memory behind its first unit and the operation -/
structure RS (w0 : World) (g : Nat) (A : Option Addr) (n c : Nat) (un bg : Int) (gr gv gu gi : Nat) (v u : U) (i : Ins) (w : World) : Prop where
  res : Blk w gr 71 (ins8 0 false false 0 0 0 0 0)
  v : Blk w gv 106 v.arr
  u : Blk w gu 106 u.arr
  i : Blk w gi 71 i.arr
  but : But g w0 w
  rd : Blk w g 112 (rd3 A n c un bg)
  tabs : Tabs w
theorem RS.below {w0 : World} {g : Nat} {A : Option Addr} {n c : Nat} {un bg : Int} {gr gv gu gi : Nat} {v u : U} {i : Ins} {w w' : World} (h : RS w0 g A n c un bg gr gv gu gi v u i w) (hb : Below w.heap.size w w') : RS w0 g A n c un bg gr gv gu gi v u i w' :=
  ⟨h.res.below hb h.res.lt, h.v.below hb h.v.lt, h.u.below hb h.u.lt, h.i.below hb h.i.lt, h.but.then hb, h.rd.below hb h.rd.lt, h.tabs.below hb⟩
theorem RS.drew {w0 : World} {g : Nat} {A : Option Addr} {n c : Nat} {un bg : Int} {gr gv gu gi : Nat} {v u : U} {i : Ins} {w : World} (h : RS w0 g A n c un bg gr gv gu gi v u i w) : RS w0 g A n c un bg gr gv gu gi v u i w.drew :=
  ⟨h.res.drew, h.v.drew, h.u.drew, h.i.drew, h.but.drew, h.rd.drew, ⟨h.tabs.lt, h.tabs.sizes, h.tabs.joins, h.tabs.jumps⟩⟩
theorem far8 {w : World} {g gz : Nat} (hne : g ≠ gz) {t : TypeId} {cs : Array Value} (h : Blk w g t cs) (a b c d e f k l : Value) : Blk ((((((((w.setCell ⟨gz, 0, none⟩ a).setCell ⟨gz, 1, none⟩ b).setCell ⟨gz, 2, none⟩ c).setCell ⟨gz, 3, none⟩ d).setCell ⟨gz, 4, none⟩ e).setCell ⟨gz, 5, none⟩ f).setCell ⟨gz, 6, none⟩ k).setCell ⟨gz, 7, none⟩ l) g t cs :=
  ((((((((h.far (p := ⟨gz, 0, none⟩) hne _).far (p := ⟨gz, 1, none⟩) hne _).far (p := ⟨gz, 2, none⟩) hne _).far (p := ⟨gz, 3, none⟩) hne _).far (p := ⟨gz, 4, none⟩) hne _).far (p := ⟨gz, 5, none⟩) hne _).far (p := ⟨gz, 6, none⟩) hne _).far (p := ⟨gz, 7, none⟩) hne _)
theorem but8 {g gz : Nat} {a w : World} (h : But g a w) (hz : a.heap.size ≤ gz) (x0 x1 x2 x3 x4 x5 x6 x7 : Value) : But g a ((((((((w.setCell ⟨gz, 0, none⟩ x0).setCell ⟨gz, 1, none⟩ x1).setCell ⟨gz, 2, none⟩ x2).setCell ⟨gz, 3, none⟩ x3).setCell ⟨gz, 4, none⟩ x4).setCell ⟨gz, 5, none⟩ x5).setCell ⟨gz, 6, none⟩ x6).setCell ⟨gz, 7, none⟩ x7) :=
  (((((((h.far hz 0 _).far hz 1 _).far hz 2 _).far hz 3 _).far hz 4 _).far hz 5 _).far hz 6 _).far hz 7 _
theorem but8s (g : Nat) (w : World) (x0 x1 x2 x3 x4 x5 x6 x7 : Value) : But g w ((((((((w.setCell ⟨g, 0, none⟩ x0).setCell ⟨g, 1, none⟩ x1).setCell ⟨g, 2, none⟩ x2).setCell ⟨g, 3, none⟩ x3).setCell ⟨g, 4, none⟩ x4).setCell ⟨g, 5, none⟩ x5).setCell ⟨g, 6, none⟩ x6).setCell ⟨g, 7, none⟩ x7) :=
  ((((((((But.refl g w).setCell 0 _).setCell 1 _).setCell 2 _).setCell 3 _).setCell 4 _).setCell 5 _).setCell 6 _).setCell 7 _
theorem but5s (g : Nat) (w : World) (x0 x1 x2 x3 x4 : Value) : But g w (((((w.setCell ⟨g, 0, none⟩ x0).setCell ⟨g, 1, none⟩ x1).setCell ⟨g, 2, none⟩ x2).setCell ⟨g, 3, none⟩ x3).setCell ⟨g, 4, none⟩ x4) :=
  (((((But.refl g w).setCell 0 _).setCell 1 _).setCell 2 _).setCell 3 _).setCell 4 _
theorem but5 {g gz : Nat} {a w : World} (h : But g a w) (hz : a.heap.size ≤ gz) (x0 x1 x2 x3 x4 : Value) : But g a (((((w.setCell ⟨gz, 0, none⟩ x0).setCell ⟨gz, 1, none⟩ x1).setCell ⟨gz, 2, none⟩ x2).setCell ⟨gz, 3, none⟩ x3).setCell ⟨gz, 4, none⟩ x4) :=
  ((((h.far hz 0 _).far hz 1 _).far hz 2 _).far hz 3 _).far hz 4 _
theorem RS.seti {w0 : World} {g : Nat} {A : Option Addr} {n c : Nat} {un bg : Int} {gr gv gu gi : Nat} {v u : U} {i : Ins} {w : World} (h : RS w0 g A n c un bg gr gv gu gi v u i w) (h1 : gr ≠ gi) (h2 : gv ≠ gi) (h3 : gu ≠ gi) (h4 : g ≠ gi) (h5 : w0.heap.size ≤ gi) (h6 : 3 ≤ gi) (op : Int) (nar reg : Bool) (size dst src off imm : Int) :
    RS w0 g A n c un bg gr gv gu gi v u ⟨op, nar, reg, size, dst, src, off, imm⟩ ((((((((w.setCell ⟨gi, 0, none⟩ (.int .i64 op)).setCell ⟨gi, 1, none⟩ (.bool nar)).setCell ⟨gi, 2, none⟩ (.bool reg)).setCell ⟨gi, 3, none⟩ (.int .i64 size)).setCell ⟨gi, 4, none⟩ (.int .i64 dst)).setCell ⟨gi, 5, none⟩ (.int .i64 src)).setCell ⟨gi, 6, none⟩ (.int .i64 off)).setCell ⟨gi, 7, none⟩ (.int .i64 imm)) :=
  ⟨far8 h1 h.res _ _ _ _ _ _ _ _, far8 h2 h.v _ _ _ _ _ _ _ _, far8 h3 h.u _ _ _ _ _ _ _ _, set8 h.i _ _ _ _ _ _ _ _, but8 h.but h5 _ _ _ _ _ _ _ _, far8 h4 h.rd _ _ _ _ _ _ _ _, (but8s gi w _ _ _ _ _ _ _ _).tabs h.tabs h6⟩
theorem RS.setv {w0 : World} {g : Nat} {A : Option Addr} {n c : Nat} {un bg : Int} {gr gv gu gi : Nat} {v u : U} {i : Ins} {w : World} (h : RS w0 g A n c un bg gr gv gu gi v u i w) (h1 : gr ≠ gv) (h2 : gi ≠ gv) (h3 : gu ≠ gv) (h4 : g ≠ gv) (h5 : w0.heap.size ≤ gv) (h6 : 3 ≤ gv) (a b c2 d e : Int) :
    RS w0 g A n c un bg gr gv gu gi ⟨a, b, c2, d, e⟩ u i (((((w.setCell ⟨gv, 0, none⟩ (.int .i64 a)).setCell ⟨gv, 1, none⟩ (.int .i64 b)).setCell ⟨gv, 2, none⟩ (.int .i64 c2)).setCell ⟨gv, 3, none⟩ (.int .i64 d)).setCell ⟨gv, 4, none⟩ (.int .i64 e)) :=
  ⟨far5 h1 h.res _ _ _ _ _, set5 h.v _ _ _ _ _, far5 h3 h.u _ _ _ _ _, far5 h2 h.i _ _ _ _ _, but5 h.but h5 _ _ _ _ _, far5 h4 h.rd _ _ _ _ _, (but5s gv w _ _ _ _ _).tabs h.tabs h6⟩
/-- the cells that are read -/
theorem rs_cells {w0 : World} {g : Nat} {A : Option Addr} {n c : Nat} {un bg : Int} {gr gv gu gi : Nat} {vc vd vs vo vi oc ud us uo ui : Int} {op : Int} {nar reg : Bool} {size dst src off imm : Int} {w : World} (h : RS w0 g A n c un bg gr gv gu gi ⟨vc, vd, vs, vo, vi⟩ ⟨oc, ud, us, uo, ui⟩ ⟨op, nar, reg, size, dst, src, off, imm⟩ w) :
    w.cell? ⟨gi, 0, none⟩ = some (.int .i64 op) ∧ w.cell? ⟨gi, 1, none⟩ = some (.bool nar) ∧ w.cell? ⟨gi, 2, none⟩ = some (.bool reg) ∧ w.cell? ⟨gi, 3, none⟩ = some (.int .i64 size) ∧ w.cell? ⟨gi, 4, none⟩ = some (.int .i64 dst) ∧ w.cell? ⟨gi, 5, none⟩ = some (.int .i64 src) ∧ w.cell? ⟨gi, 6, none⟩ = some (.int .i64 off) ∧ w.cell? ⟨gi, 7, none⟩ = some (.int .i64 imm) ∧
    w.cell? ⟨gu, 0, none⟩ = some (.int .i64 oc) ∧ w.cell? ⟨gu, 1, none⟩ = some (.int .i64 ud) ∧ w.cell? ⟨gu, 2, none⟩ = some (.int .i64 us) ∧ w.cell? ⟨gu, 3, none⟩ = some (.int .i64 uo) ∧ w.cell? ⟨gu, 4, none⟩ = some (.int .i64 ui) ∧
    w.cell? ⟨gv, 0, none⟩ = some (.int .i64 vc) ∧ w.cell? ⟨gv, 1, none⟩ = some (.int .i64 vd) ∧ w.cell? ⟨gv, 2, none⟩ = some (.int .i64 vs) ∧ w.cell? ⟨gv, 3, none⟩ = some (.int .i64 vo) ∧ w.cell? ⟨gv, 4, none⟩ = some (.int .i64 vi) ∧ RS w0 g A n c un bg gr gv gu gi ⟨vc, vd, vs, vo, vi⟩ ⟨oc, ud, us, uo, ui⟩ ⟨op, nar, reg, size, dst, src, off, imm⟩ w := by
  obtain ⟨⟨d0, d1, d2, d3, d4, d5, d6, d7⟩, _⟩ := cells8 h.i
  obtain ⟨u0, u1, u2, u3, u4, _⟩ := cells5 h.u
  obtain ⟨v0, v1, v2, v3, v4, _⟩ := cells5 h.v
  exact ⟨d0, d1, d2, d3, d4, d5, d6, d7, u0, u1, u2, u3, u4, v0, v1, v2, v3, v4, h⟩
theorem uv_cells {w0 : World} {g : Nat} {A : Option Addr} {n c : Nat} {un bg : Int} {gr gv gu gi : Nat} {vc vd vs vo vi oc ud us uo ui : Int} {i : Ins} {w : World} (h : RS w0 g A n c un bg gr gv gu gi ⟨vc, vd, vs, vo, vi⟩ ⟨oc, ud, us, uo, ui⟩ i w) :
    w.cell? ⟨gu, 0, none⟩ = some (.int .i64 oc) ∧ w.cell? ⟨gu, 1, none⟩ = some (.int .i64 ud) ∧ w.cell? ⟨gu, 2, none⟩ = some (.int .i64 us) ∧ w.cell? ⟨gu, 3, none⟩ = some (.int .i64 uo) ∧ w.cell? ⟨gu, 4, none⟩ = some (.int .i64 ui) ∧
    w.cell? ⟨gv, 0, none⟩ = some (.int .i64 vc) ∧ w.cell? ⟨gv, 1, none⟩ = some (.int .i64 vd) ∧ w.cell? ⟨gv, 2, none⟩ = some (.int .i64 vs) ∧ w.cell? ⟨gv, 3, none⟩ = some (.int .i64 vo) ∧ w.cell? ⟨gv, 4, none⟩ = some (.int .i64 vi) := by
  obtain ⟨u0, u1, u2, u3, u4, _⟩ := cells5 h.u
  obtain ⟨v0, v1, v2, v3, v4, _⟩ := cells5 h.v
  exact ⟨u0, u1, u2, u3, u4, v0, v1, v2, v3, v4⟩
theorem chosen_rs {w0 : World} {g : Nat} {A : Option Addr} {n c : Nat} {un bg : Int} {gr gv gu gi : Nat} {v u : U} {i : Ins} (i2 : Ins) (he : chosenL i u = i2) (w : World) (h : RS w0 g A n c un bg gr gv gu gi v u i w) :
    Calls Tryd.prog 94 #[.agg i.arr, .agg u.arr] w fun e w' => e = .returned (.agg i2.arr) ∧ RS w0 g A n c un bg gr gv gu gi v u i w' :=
  (chosen_any i u w).mono fun _ _ ⟨h1, h2⟩ => ⟨by rw [h1, he], h.below h2⟩
theorem filled_rs {w0 : World} {g : Nat} {A : Option Addr} {n c : Nat} {un bg : Int} {gr gv gu gi : Nat} {v u : U} {i : Ins} (i2 i3 : Ins) (h39 : 1 ≤ i2.op ∧ i2.op ≤ 39) (hv : -2147483648 ≤ v.imm ∧ v.imm ≤ 2147483647) (he : filledL i2 u v = i3) (w : World) (h : RS w0 g A n c un bg gr gv gu gi v u i w) :
    Calls Tryd.prog 93 #[.agg i2.arr, .agg u.arr, .agg v.arr] w fun e w' => e = .returned (.agg i3.arr) ∧ RS w0 g A n c un bg gr gv gu gi v u i w' :=
  (filled_any i2 u v h39 hv w).mono fun _ _ ⟨h1, h2⟩ => ⟨by rw [h1, he], h.below h2⟩
def insEnd (E : Int) (v : Value) : Ending := if E = 0 then .returned v else .panicked [{ v := .iface 34 (.int .i64 E), recovered := false }]
def adv (b off c : Nat) : Option Addr := some (if c = 8 then ⟨b, off, none⟩ else ⟨b, off + 8, none⟩)
def errB (rg b1 b2 b3 q b6 sz im : Bool) : Int := if rg = false then 22 else if (b1 && b2 && b3) = false then 23 else if q = false then 23 else if (b6 && sz && im) = false then 24 else 0
theorem errL_eq (i : Ins) (u v : U) : errL i u v = errB (registersL i.op i.nar i.reg i.dst i.src i.imm) (u.dst == i.dst) (u.src == firstS i) (u.off == firstO i) (v.oc == 0 && v.dst == 0 && v.src == 0 && v.off == 0) (u.imm == firstI i) (sizedL i.op i.nar i.size) (immediateL i.op i.nar i.reg i.imm) := by
  have k : ∀ (b : Bool) (p : Prop) [Decidable p], (b = true ↔ p) → ((b = false) ↔ ¬ p) := fun b p _ h => by cases b <;> simp_all
  unfold errL errB
  have e1 : ((u.dst == i.dst && u.src == firstS i && u.off == firstO i) = false) = ¬ (u.dst = i.dst ∧ u.src = firstS i ∧ u.off = firstO i) := propext (k _ _ (by simp [and_assoc]))
  have e2 : ((v.oc == 0 && v.dst == 0 && v.src == 0 && v.off == 0) = false) = ¬ (v.oc = 0 ∧ v.dst = 0 ∧ v.src = 0 ∧ v.off = 0) := propext (k _ _ (by simp [and_assoc]))
  have e3 : ((u.imm == firstI i && sizedL i.op i.nar i.size && immediateL i.op i.nar i.reg i.imm) = false) = ¬ (u.imm = firstI i ∧ sizedL i.op i.nar i.size = true ∧ immediateL i.op i.nar i.reg i.imm = true) := propext (k _ _ (by simp [and_assoc]))
  simp only [e1, e2, e3]
end Go.Proofs.YtlodoinmippebaaDoor
