/- Texts in one: CodeG1 CodeG2 CodeG3 CodeG4. -/
import Derived.Test.YtlodoinmippebaaDoorCodeZZ
import Derived.Test.YtlodoinmippebaaDoorDraw
/- Package code: what (*reader).ins holds of memory; that what it reads fits. -/
namespace Go.Proofs.YtlodoinmippebaaDoor
open Go.ChangeShapes Go.WideShapes Go.ChangeAt Go.RowKit
open Cod Bits
set_option linter.unusedVariables false

theorem sized_mem4 {op : Int} {nar : Bool} {size : Int} (h : sizedL op nar size = true) (h1 : 22 ≤ op) (h2 : op ≤ 25) : size = 1 ∨ size = 2 ∨ size = 4 ∨ size = 8 := by
  unfold sizedL at h
  rw [if_neg (by omega), if_neg (by omega)] at h
  split at h
  · simp only [Bool.or_eq_true, beq_iff_eq] at h; omega
  · split at h
    · simp only [Bool.or_eq_true, beq_iff_eq] at h; omega
    · rw [if_pos (by omega)] at h
      simp only [Bool.or_eq_true, beq_iff_eq] at h; omega
theorem chosen_fit {c : Int} (F : OpFacts c) (u : U) (h1 : 22 ≤ (chosenL (opL c) u).op) (h2 : (chosenL (opL c) u).op ≤ 25) : (chosenL (opL c) u).size = 1 ∨ (chosenL (opL c) u).size = 2 ∨ (chosenL (opL c) u).size = 4 ∨ (chosenL (opL c) u).size = 8 := by
  have fops := F.ops
  revert fops h1 h2
  generalize opL c = j
  obtain ⟨op, nar, reg, size, dst, src, off, imm⟩ := j
  unfold chosenL
  simp only
  intro h1 h2 fops
  by_cases h4 : op = 4
  · rw [if_pos h4] at h1 h2; exfalso; split at h1 <;> simp_all
  rw [if_neg h4] at h1 h2 ⊢
  by_cases h5 : op = 5
  · rw [if_pos h5] at h1 h2; exfalso; split at h1 <;> simp_all
  rw [if_neg h5] at h1 h2 ⊢
  by_cases h15 : op = 15
  · rw [if_pos h15] at h1 h2; exfalso; split at h1 <;> simp_all
  rw [if_neg h15] at h1 h2 ⊢
  by_cases h17 : op = 17 ∨ op = 18 ∨ op = 19
  · rw [if_pos h17] at h1 h2; exfalso; simp only at h1; omega
  rw [if_neg h17] at h1 h2 ⊢
  by_cases h20 : op = 20
  · rw [if_pos h20] at h1 h2; exfalso; split at h1 <;> simp_all
  rw [if_neg h20] at h1 h2 ⊢
  exact sized_mem4 (op_sized (fops h17)).2 h1 h2
theorem read_fit {c : Int} (F : OpFacts c) (u v : U) : (filledL (chosenL (opL c) u) u v).fit :=
  ⟨(chosen_kept F u).op, fun h1 h2 => chosen_fit F u h1 h2⟩
/-- what ins holds of memory behind its first unit and the operation -/
structure RS (w0 : World) (g : Nat) (A : Option Addr) (n c : Nat) (un bg : Int) (gr gv gu gi : Nat) (v u : U) (i : Ins) (w : World) : Prop where
  res : Blk w gr 71 (ins8 0 false false 0 0 0 0 0)
  v : Blk w gv 106 v.arr
  u : Blk w gu 106 u.arr
  i : Blk w gi 71 i.arr
  but : But g w0 w
  rd : Blk w g 112 (rd3 A n c un bg)
  tabs : Tabs w
theorem RS.below {w0 : World} {g : Nat} {A : Option Addr} {n c : Nat} {un bg : Int} {gr gv gu gi : Nat} {v u : U} {i : Ins} {w w' : World} (h : RS w0 g A n c un bg gr gv gu gi v u i w) (hb : Below w.heap.size w w') : RS w0 g A n c un bg gr gv gu gi v u i w' :=
  ⟨h.res.below hb h.res.lt, h.v.below hb h.v.lt, h.u.below hb h.u.lt, h.i.below hb h.i.lt, h.but.then hb, h.rd.below hb h.rd.lt, h.tabs.below hb⟩
theorem RS.drew {w0 : World} {g : Nat} {A : Option Addr} {n c : Nat} {un bg : Int} {gr gv gu gi : Nat} {v u : U} {i : Ins} {w : World} (h : RS w0 g A n c un bg gr gv gu gi v u i w) : RS w0 g A n c un bg gr gv gu gi v u i w.drew :=
  ⟨h.res.drew, h.v.drew, h.u.drew, h.i.drew, h.but.drew, h.rd.drew, ⟨h.tabs.lt, h.tabs.sizes, h.tabs.joins, h.tabs.jumps⟩⟩
theorem far8 {w : World} {g gz : Nat} (hne : g ≠ gz) {t : TypeId} {cs : Array Value} (h : Blk w g t cs) (a b c d e f k l : Value) : Blk ((((((((w.setCell ⟨gz, 0, none⟩ a).setCell ⟨gz, 1, none⟩ b).setCell ⟨gz, 2, none⟩ c).setCell ⟨gz, 3, none⟩ d).setCell ⟨gz, 4, none⟩ e).setCell ⟨gz, 5, none⟩ f).setCell ⟨gz, 6, none⟩ k).setCell ⟨gz, 7, none⟩ l) g t cs :=
  ((((((((h.far (p := ⟨gz, 0, none⟩) hne _).far (p := ⟨gz, 1, none⟩) hne _).far (p := ⟨gz, 2, none⟩) hne _).far (p := ⟨gz, 3, none⟩) hne _).far (p := ⟨gz, 4, none⟩) hne _).far (p := ⟨gz, 5, none⟩) hne _).far (p := ⟨gz, 6, none⟩) hne _).far (p := ⟨gz, 7, none⟩) hne _)
theorem but8 {g gz : Nat} {a w : World} (h : But g a w) (hz : a.heap.size ≤ gz) (x0 x1 x2 x3 x4 x5 x6 x7 : Value) : But g a ((((((((w.setCell ⟨gz, 0, none⟩ x0).setCell ⟨gz, 1, none⟩ x1).setCell ⟨gz, 2, none⟩ x2).setCell ⟨gz, 3, none⟩ x3).setCell ⟨gz, 4, none⟩ x4).setCell ⟨gz, 5, none⟩ x5).setCell ⟨gz, 6, none⟩ x6).setCell ⟨gz, 7, none⟩ x7) :=
  (((((((h.far hz 0 _).far hz 1 _).far hz 2 _).far hz 3 _).far hz 4 _).far hz 5 _).far hz 6 _).far hz 7 _
theorem but8s (g : Nat) (w : World) (x0 x1 x2 x3 x4 x5 x6 x7 : Value) : But g w ((((((((w.setCell ⟨g, 0, none⟩ x0).setCell ⟨g, 1, none⟩ x1).setCell ⟨g, 2, none⟩ x2).setCell ⟨g, 3, none⟩ x3).setCell ⟨g, 4, none⟩ x4).setCell ⟨g, 5, none⟩ x5).setCell ⟨g, 6, none⟩ x6).setCell ⟨g, 7, none⟩ x7) :=
  ((((((((But.refl g w).setCell 0 _).setCell 1 _).setCell 2 _).setCell 3 _).setCell 4 _).setCell 5 _).setCell 6 _).setCell 7 _
theorem but5s (g : Nat) (w : World) (x0 x1 x2 x3 x4 : Value) : But g w (((((w.setCell ⟨g, 0, none⟩ x0).setCell ⟨g, 1, none⟩ x1).setCell ⟨g, 2, none⟩ x2).setCell ⟨g, 3, none⟩ x3).setCell ⟨g, 4, none⟩ x4) :=
  (((((But.refl g w).setCell 0 _).setCell 1 _).setCell 2 _).setCell 3 _).setCell 4 _
theorem but5 {g gz : Nat} {a w : World} (h : But g a w) (hz : a.heap.size ≤ gz) (x0 x1 x2 x3 x4 : Value) : But g a (((((w.setCell ⟨gz, 0, none⟩ x0).setCell ⟨gz, 1, none⟩ x1).setCell ⟨gz, 2, none⟩ x2).setCell ⟨gz, 3, none⟩ x3).setCell ⟨gz, 4, none⟩ x4) :=
  ((((h.far hz 0 _).far hz 1 _).far hz 2 _).far hz 3 _).far hz 4 _
theorem RS.seti {w0 : World} {g : Nat} {A : Option Addr} {n c : Nat} {un bg : Int} {gr gv gu gi : Nat} {v u : U} {i : Ins} {w : World} (h : RS w0 g A n c un bg gr gv gu gi v u i w) (h1 : gr ≠ gi) (h2 : gv ≠ gi) (h3 : gu ≠ gi) (h4 : g ≠ gi) (h5 : w0.heap.size ≤ gi) (h6 : 3 ≤ gi) (op : Int) (nar reg : Bool) (size dst src off imm : Int) :
    RS w0 g A n c un bg gr gv gu gi v u ⟨op, nar, reg, size, dst, src, off, imm⟩ ((((((((w.setCell ⟨gi, 0, none⟩ (.int .i64 op)).setCell ⟨gi, 1, none⟩ (.bool nar)).setCell ⟨gi, 2, none⟩ (.bool reg)).setCell ⟨gi, 3, none⟩ (.int .i64 size)).setCell ⟨gi, 4, none⟩ (.int .i64 dst)).setCell ⟨gi, 5, none⟩ (.int .i64 src)).setCell ⟨gi, 6, none⟩ (.int .i64 off)).setCell ⟨gi, 7, none⟩ (.int .i64 imm)) :=
  ⟨far8 h1 h.res _ _ _ _ _ _ _ _, far8 h2 h.v _ _ _ _ _ _ _ _, far8 h3 h.u _ _ _ _ _ _ _ _, set8 h.i _ _ _ _ _ _ _ _, but8 h.but h5 _ _ _ _ _ _ _ _, far8 h4 h.rd _ _ _ _ _ _ _ _, (but8s gi w _ _ _ _ _ _ _ _).tabs h.tabs h6⟩
theorem RS.setv {w0 : World} {g : Nat} {A : Option Addr} {n c : Nat} {un bg : Int} {gr gv gu gi : Nat} {v u : U} {i : Ins} {w : World} (h : RS w0 g A n c un bg gr gv gu gi v u i w) (h1 : gr ≠ gv) (h2 : gi ≠ gv) (h3 : gu ≠ gv) (h4 : g ≠ gv) (h5 : w0.heap.size ≤ gv) (h6 : 3 ≤ gv) (a b c2 d e : Int) :
    RS w0 g A n c un bg gr gv gu gi ⟨a, b, c2, d, e⟩ u i (((((w.setCell ⟨gv, 0, none⟩ (.int .i64 a)).setCell ⟨gv, 1, none⟩ (.int .i64 b)).setCell ⟨gv, 2, none⟩ (.int .i64 c2)).setCell ⟨gv, 3, none⟩ (.int .i64 d)).setCell ⟨gv, 4, none⟩ (.int .i64 e)) :=
  ⟨far5 h1 h.res _ _ _ _ _, set5 h.v _ _ _ _ _, far5 h3 h.u _ _ _ _ _, far5 h2 h.i _ _ _ _ _, but5 h.but h5 _ _ _ _ _, far5 h4 h.rd _ _ _ _ _, (but5s gv w _ _ _ _ _).tabs h.tabs h6⟩
/-- the cells that are read -/
theorem rs_cells {w0 : World} {g : Nat} {A : Option Addr} {n c : Nat} {un bg : Int} {gr gv gu gi : Nat} {vc vd vs vo vi oc ud us uo ui : Int} {op : Int} {nar reg : Bool} {size dst src off imm : Int} {w : World} (h : RS w0 g A n c un bg gr gv gu gi ⟨vc, vd, vs, vo, vi⟩ ⟨oc, ud, us, uo, ui⟩ ⟨op, nar, reg, size, dst, src, off, imm⟩ w) :
    w.cell? ⟨gi, 0, none⟩ = some (.int .i64 op) ∧ w.cell? ⟨gi, 1, none⟩ = some (.bool nar) ∧ w.cell? ⟨gi, 2, none⟩ = some (.bool reg) ∧ w.cell? ⟨gi, 3, none⟩ = some (.int .i64 size) ∧ w.cell? ⟨gi, 4, none⟩ = some (.int .i64 dst) ∧ w.cell? ⟨gi, 5, none⟩ = some (.int .i64 src) ∧ w.cell? ⟨gi, 6, none⟩ = some (.int .i64 off) ∧ w.cell? ⟨gi, 7, none⟩ = some (.int .i64 imm) ∧
    w.cell? ⟨gu, 0, none⟩ = some (.int .i64 oc) ∧ w.cell? ⟨gu, 1, none⟩ = some (.int .i64 ud) ∧ w.cell? ⟨gu, 2, none⟩ = some (.int .i64 us) ∧ w.cell? ⟨gu, 3, none⟩ = some (.int .i64 uo) ∧ w.cell? ⟨gu, 4, none⟩ = some (.int .i64 ui) ∧
    w.cell? ⟨gv, 0, none⟩ = some (.int .i64 vc) ∧ w.cell? ⟨gv, 1, none⟩ = some (.int .i64 vd) ∧ w.cell? ⟨gv, 2, none⟩ = some (.int .i64 vs) ∧ w.cell? ⟨gv, 3, none⟩ = some (.int .i64 vo) ∧ w.cell? ⟨gv, 4, none⟩ = some (.int .i64 vi) ∧ RS w0 g A n c un bg gr gv gu gi ⟨vc, vd, vs, vo, vi⟩ ⟨oc, ud, us, uo, ui⟩ ⟨op, nar, reg, size, dst, src, off, imm⟩ w := by
  obtain ⟨⟨d0, d1, d2, d3, d4, d5, d6, d7⟩, _⟩ := cells8 h.i
  obtain ⟨u0, u1, u2, u3, u4, _⟩ := cells5 h.u
  obtain ⟨v0, v1, v2, v3, v4, _⟩ := cells5 h.v
  exact ⟨d0, d1, d2, d3, d4, d5, d6, d7, u0, u1, u2, u3, u4, v0, v1, v2, v3, v4, h⟩
theorem uv_cells {w0 : World} {g : Nat} {A : Option Addr} {n c : Nat} {un bg : Int} {gr gv gu gi : Nat} {vc vd vs vo vi oc ud us uo ui : Int} {i : Ins} {w : World} (h : RS w0 g A n c un bg gr gv gu gi ⟨vc, vd, vs, vo, vi⟩ ⟨oc, ud, us, uo, ui⟩ i w) :
    w.cell? ⟨gu, 0, none⟩ = some (.int .i64 oc) ∧ w.cell? ⟨gu, 1, none⟩ = some (.int .i64 ud) ∧ w.cell? ⟨gu, 2, none⟩ = some (.int .i64 us) ∧ w.cell? ⟨gu, 3, none⟩ = some (.int .i64 uo) ∧ w.cell? ⟨gu, 4, none⟩ = some (.int .i64 ui) ∧
    w.cell? ⟨gv, 0, none⟩ = some (.int .i64 vc) ∧ w.cell? ⟨gv, 1, none⟩ = some (.int .i64 vd) ∧ w.cell? ⟨gv, 2, none⟩ = some (.int .i64 vs) ∧ w.cell? ⟨gv, 3, none⟩ = some (.int .i64 vo) ∧ w.cell? ⟨gv, 4, none⟩ = some (.int .i64 vi) := by
  obtain ⟨u0, u1, u2, u3, u4, _⟩ := cells5 h.u
  obtain ⟨v0, v1, v2, v3, v4, _⟩ := cells5 h.v
  exact ⟨u0, u1, u2, u3, u4, v0, v1, v2, v3, v4⟩
theorem chosen_rs {w0 : World} {g : Nat} {A : Option Addr} {n c : Nat} {un bg : Int} {gr gv gu gi : Nat} {v u : U} {i : Ins} (i2 : Ins) (he : chosenL i u = i2) (w : World) (h : RS w0 g A n c un bg gr gv gu gi v u i w) :
    Calls Tryd.prog 94 #[.agg i.arr, .agg u.arr] w fun e w' => e = .returned (.agg i2.arr) ∧ RS w0 g A n c un bg gr gv gu gi v u i w' :=
  (chosen_any i u w).mono fun _ _ ⟨h1, h2⟩ => ⟨by rw [h1, he], h.below h2⟩
theorem filled_rs {w0 : World} {g : Nat} {A : Option Addr} {n c : Nat} {un bg : Int} {gr gv gu gi : Nat} {v u : U} {i : Ins} (i2 i3 : Ins) (h39 : 1 ≤ i2.op ∧ i2.op ≤ 39) (hv : -2147483648 ≤ v.imm ∧ v.imm ≤ 2147483647) (he : filledL i2 u v = i3) (w : World) (h : RS w0 g A n c un bg gr gv gu gi v u i w) :
    Calls Tryd.prog 93 #[.agg i2.arr, .agg u.arr, .agg v.arr] w fun e w' => e = .returned (.agg i3.arr) ∧ RS w0 g A n c un bg gr gv gu gi v u i w' :=
  (filled_any i2 u v h39 hv w).mono fun _ _ ⟨h1, h2⟩ => ⟨by rw [h1, he], h.below h2⟩
def insEnd (E : Int) (v : Value) : Ending := if E = 0 then .returned v else .panicked [{ v := .iface 34 (.int .i64 E), recovered := false }]
def adv (b off c : Nat) : Option Addr := some (if c = 8 then ⟨b, off, none⟩ else ⟨b, off + 8, none⟩)
def errB (rg b1 b2 b3 q b6 sz im : Bool) : Int := if rg = false then 22 else if (b1 && b2 && b3) = false then 23 else if q = false then 23 else if (b6 && sz && im) = false then 24 else 0
theorem errL_eq (i : Ins) (u v : U) : errL i u v = errB (registersL i.op i.nar i.reg i.dst i.src i.imm) (u.dst == i.dst) (u.src == firstS i) (u.off == firstO i) (v.oc == 0 && v.dst == 0 && v.src == 0 && v.off == 0) (u.imm == firstI i) (sizedL i.op i.nar i.size) (immediateL i.op i.nar i.reg i.imm) := by
  have k : ∀ (b : Bool) (p : Prop) [Decidable p], (b = true ↔ p) → ((b = false) ↔ ¬ p) := fun b p _ h => by cases b <;> simp_all
  unfold errL errB
  have e1 : ((u.dst == i.dst && u.src == firstS i && u.off == firstO i) = false) = ¬ (u.dst = i.dst ∧ u.src = firstS i ∧ u.off = firstO i) := propext (k _ _ (by simp [and_assoc]))
  have e2 : ((v.oc == 0 && v.dst == 0 && v.src == 0 && v.off == 0) = false) = ¬ (v.oc = 0 ∧ v.dst = 0 ∧ v.src = 0 ∧ v.off = 0) := propext (k _ _ (by simp [and_assoc]))
  have e3 : ((u.imm == firstI i && sizedL i.op i.nar i.size && immediateL i.op i.nar i.reg i.imm) = false) = ¬ (u.imm = firstI i ∧ sizedL i.op i.nar i.size = true ∧ immediateL i.op i.nar i.reg i.imm = true) := propext (k _ _ (by simp [and_assoc]))
  simp only [e1, e2, e3]
end Go.Proofs.YtlodoinmippebaaDoor
/- Package code: (*reader).ins at an instruction of one unit. -/
namespace Go.Proofs.YtlodoinmippebaaDoor
open Go.ChangeShapes Go.WideShapes Go.ChangeAt Go.RowKit
open Cod Bits
set_option linter.unusedVariables false
set_option linter.unusedSimpArgs false

set_option maxHeartbeats 1000000 in
theorem ins_one (g b off n c : Nat) (L : List Int) (un bg : Int) (w : World) (hb : Blk w g 112 (rd3 (some ⟨b, off, none⟩) n c un bg)) (hn : 8 ≤ n) (hc : n ≤ c) (hbl : b < w.heap.size) (hne : b ≠ g) (hlen : L.length = n) (hL : BytesL L)
    (hcell : ∀ i, i < L.length → w.cell? ⟨b, off + i, none⟩ = some (.int .u8 (L[i]?.getD 0))) (hu : 0 ≤ un ∧ un < 1152921504606846976) (ht : Tabs w) (hg4 : 3 ≤ g)
    (h0 : (opL (unitA L).oc).op ≠ 0) (h20 : (opL (unitA L).oc).op ≠ 20) :
    Calls Tryd.prog 66 #[.pointer (some ⟨g, 0, none⟩)] w fun e w' => e = insEnd (errL (readL (unitA L) zeroU) (unitA L) zeroU) (.agg (readL (unitA L) zeroU).arr) ∧
      But g w w' ∧ Blk w' g 112 (rd3 (adv b off c) (n - 8) (c - 8) (un + 1) bg) := by
  have hU := unitA_ok hL
  have F := opL_facts hU.oc h0
  have hRF := read_fit F (unitA L) zeroU
  have hKO := (chosen_kept F (unitA L)).op
  have HI := Lib.hid (show filledL (chosenL (opL (unitA L).oc) (unitA L)) (unitA L) zeroU = readL (unitA L) zeroU from rfl)
  have hRF' : (readL (unitA L) zeroU).fit := hRF
  rw [errL_eq, show (zeroU.oc == 0 && zeroU.dst == 0 && zeroU.src == 0 && zeroU.off == 0) = true from rfl]
  generalize hIg : readL (unitA L) zeroU = I at *
  clear hIg hRF
  obtain ⟨iop, inar, ireg, isize, idst, isrc, ioff, iimm⟩ := I
  have HREG := Lib.hid (fun w => registers_any iop inar ireg isize idst isrc ioff iimm hRF'.1 w)
  have HFI := Lib.hid (fun w ht => first_any ⟨iop, inar, ireg, isize, idst, isrc, ioff, iimm⟩ hRF' w ht)
  have HSZ := Lib.hid (fun w => sized_any iop inar ireg isize idst isrc ioff iimm w)
  have HIM := Lib.hid (fun w => immediate_any iop inar ireg isize idst isrc ioff iimm hRF'.1 w)
  clear hRF'
  simp only [Ins.arr] at HFI ⊢
  generalize firstS ⟨iop, inar, ireg, isize, idst, isrc, ioff, iimm⟩ = fs at *
  generalize firstO ⟨iop, inar, ireg, isize, idst, isrc, ioff, iimm⟩ = fo at *
  generalize firstI ⟨iop, inar, ireg, isize, idst, isrc, ioff, iimm⟩ = fi at *
  generalize registersL iop inar ireg idst isrc iimm = rg at *
  generalize sizedL iop inar isize = sz at *
  generalize immediateL iop inar ireg iimm = im at *
  have hgl := hb.lt
  have hN := Lib.hid (fun (w1 : World) (hB : Below w.heap.size w w1) => next_ok g b off n c L un bg w1 (hb.below hB hgl) hn hc (Nat.lt_of_lt_of_le hbl hB.size) hne hlen hL (fun i hi => (hB.cell (p := ⟨b, off + i, none⟩) hbl).trans (hcell i hi)) hu)
  have HR := Lib.hid ((Blk.new w 71 (ins8 0 false false 0 0 0 0 0)).alloc (.cells (un5 0 0 0 0 0) 106))
  have HV := Lib.hid (blk_new2 w (.cells (ins8 0 false false 0 0 0 0 0) 71) 106 (un5 0 0 0 0 0))
  have HB := Lib.hid (below_box2 w (.cells (ins8 0 false false 0 0 0 0 0) 71) (.cells (un5 0 0 0 0 0) 106))
  have HT := Lib.hid ht
  have HF := Lib.hid F
  have HUK := Lib.hid hU
  clear hb hcell hL ht F hU
  generalize unitA L = U at *
  obtain ⟨oc, ud, us, uo, ui⟩ := U
  simp only at h0 h20
  simp only
  generalize hb1 : (ud == idst) = b1
  generalize hb2 : (us == fs) = b2
  generalize hb3 : (uo == fo) = b3
  generalize hb6 : (ui == fi) = b6
  have q0 : g ≠ w.heap.size := by omega
  go_enter Tryd.func66, Tryd.ntmps66
  go_wp2_with fail
  go_at_call 91
  refine (hN.out _ HB.out).mono ?_
  rintro e w1 ⟨rfl, hK, hrd⟩
  have hrd : Blk w1 g 112 (rd3 (adv b off c) (n - 8) (c - 8) (un + 1) bg) := hrd
  go_upto_region 3 with (fail)
  have hgr : w.heap.size < w1.heap.size := by have := hK.size; simp at this; omega
  have hu1 := Blk.new w1 106 (un5 oc ud us uo ui)
  have hr1 := (hK.blk HR.out (by omega)).alloc (.cells (un5 oc ud us uo ui) 106)
  have hv1 := (hK.blk HV.out (by omega)).alloc (.cells (un5 oc ud us uo ui) 106)
  have hrd1 := hrd.alloc (.cells (un5 oc ud us uo ui) 106)
  have hb1 := ((But.of (g := g) HB.out).trans hK).alloc (.cells (un5 oc ud us uo ui) 106)
  have ht1 := hb1.tabs HT.out hg4
  have q1 : w.heap.size ≠ w1.heap.size := by omega
  have q2 : w.heap.size + 1 ≠ w1.heap.size := by have := hv1.lt; have := hK.size; simp at this; omega
  have q3 : g ≠ w1.heap.size := by omega
  clear hrd hK HB HT
  generalize (w1.alloc (.cells #[.int .i64 oc, .int .i64 ud, .int .i64 us, .int .i64 uo, .int .i64 ui] 106)) = W2 at *
  generalize w1.heap.size = gu at *
  obtain ⟨u0, u1, u2, u3, u4, k0, k1, k2, k3, k4⟩ := cells5 hu1
  have HO := Lib.hid (operation_any oc HUK.out.oc W2 ht1)
  have hju : (opL oc).dst = 0 ∧ (opL oc).src = 0 ∧ (opL oc).off = 0 ∧ (opL oc).imm = 0 := HF.out.zero
  have HU1 := Lib.hid hu1
  have HR1 := Lib.hid hr1
  have HV1 := Lib.hid hv1
  have HRD1 := Lib.hid hrd1
  have HB1 := Lib.hid hb1
  have HT1 := Lib.hid ht1
  clear hu1 hr1 hv1 hrd1 hb1 ht1
  generalize hJ : opL oc = J at *
  have HJ := Lib.hid hJ
  clear hJ
  obtain ⟨op, nar, reg, size, dst, src, io, imm⟩ := J
  simp only at h0 h20 hju
  obtain ⟨rfl, rfl, rfl, rfl⟩ := hju
  simp only [Ins.arr] at HO
  go_wp2_with fail
  go_at_call 92
  refine HO.out.mono ?_
  rintro e w3 ⟨rfl, hB3⟩
  go_upto_region 4 with (fail)
  have hlu := HU1.out.lt
  have hlr := HR1.out.lt
  have hlv := HV1.out.lt
  have hlg := HRD1.out.lt
  have hs3 := hB3.size
  have hRS : RS w g (adv b off c) (n - 8) (c - 8) (un + 1) bg w.heap.size (w.heap.size + 1) gu w3.heap.size ⟨0, 0, 0, 0, 0⟩ ⟨oc, ud, us, uo, ui⟩ ⟨op, nar, reg, size, 0, 0, 0, 0⟩ (w3.alloc (.cells (ins8 op nar reg size 0 0 0 0) 71)) :=
    ⟨(HR1.out.below hB3 HR1.out.lt).alloc _, (HV1.out.below hB3 HV1.out.lt).alloc _, (HU1.out.below hB3 HU1.out.lt).alloc _, Blk.new w3 _ _, (HB1.out.then hB3).alloc _, (HRD1.out.below hB3 HRD1.out.lt).alloc _, (HT1.out.below hB3).below (below_box _ _)⟩
  have q4 : w.heap.size ≠ w3.heap.size := by omega
  have q5 : w.heap.size + 1 ≠ w3.heap.size := by omega
  have q6 : gu ≠ w3.heap.size := by omega
  have q7 : g ≠ w3.heap.size := by omega
  have q8 : w.heap.size ≤ w3.heap.size := by omega
  clear hlu hlr hlv hlg hs3 hB3 HU1 HR1 HV1 HRD1 HB1 HT1 HO HR HV u0 u1 u2 u3 u4 k0 k1 k2 k3 k4
  generalize (w3.alloc (.cells (ins8 op nar reg size 0 0 0 0) 71)) = W4 at *
  generalize w3.heap.size = gi at *
  obtain ⟨⟨d0, d1, d2, d3, d4, d5, d6, d7⟩, f0, f1, f2, f3, f4, f5, f6, f7⟩ := cells8 hRS.i
  have HRS := Lib.hid hRS
  have hopn : (op != 0) = true := by rw [bne_iff_ne]; exact h0
  have hlong : (op == 20 || op == 21) = false := by have := HF.out.not; rw [HJ.out] at this; simp only at this; simp [h20, this.2.2.2]
  have HLG := Lib.hid (fun w => long_any op w)
  rw [hlong] at HLG
  clear hRS
  go_wp2_with fail
  go_at_call 65
  refine (need_yes _ _).mono ?_
  rintro e w5 ⟨rfl, rfl⟩
  go_wp2_with fail
  go_at_call 58
  refine (HLG.out _).mono ?_
  rintro e w5 ⟨rfl, rfl⟩
  go_upto_region 7 with (fail)
  clear d0 d1 d2 d3 d4 d5 d6 d7 f0 f1 f2 f3 f4 f5 f6 f7
  have HC := Lib.hid (fun w' h => chosen_rs (w0 := w) (g := g) (A := adv b off c) (n := n - 8) (c := c - 8) (un := un + 1) (bg := bg) (gr := w.heap.size) (gv := w.heap.size + 1) (gu := gu) (gi := gi) (v := ⟨0, 0, 0, 0, 0⟩) (u := ⟨oc, ud, us, uo, ui⟩) (i := ⟨op, nar, reg, size, 0, 0, 0, 0⟩) (chosenL ⟨op, nar, reg, size, 0, 0, 0, 0⟩ ⟨oc, ud, us, uo, ui⟩) rfl w' h)
  have HFL := Lib.hid (fun w' h => filled_rs (w0 := w) (g := g) (A := adv b off c) (n := n - 8) (c := c - 8) (un := un + 1) (bg := bg) (gr := w.heap.size) (gv := w.heap.size + 1) (gu := gu) (gi := gi) (v := ⟨0, 0, 0, 0, 0⟩) (u := ⟨oc, ud, us, uo, ui⟩) (i := ⟨op, nar, reg, size, 0, 0, 0, 0⟩) (chosenL ⟨op, nar, reg, size, 0, 0, 0, 0⟩ ⟨oc, ud, us, uo, ui⟩) ⟨iop, inar, ireg, isize, idst, isrc, ioff, iimm⟩ hKO (by decide) HI.out w' h)
  clear hKO HI
  generalize chosenL ⟨op, nar, reg, size, 0, 0, 0, 0⟩ ⟨oc, ud, us, uo, ui⟩ = J2 at *
  obtain ⟨jop, jnar, jreg, jsize, jdst, jsrc, joff, jimm⟩ := J2
  simp only [Ins.arr, U.arr, zeroU] at HC HFL
  have hz0 : w.heap.size ≤ gi := q8
  have hz4 : 3 ≤ gi := by omega
  have HSETI := Lib.hid (fun w' h => RS.seti (w0 := w) (g := g) (A := adv b off c) (n := n - 8) (c := c - 8) (un := un + 1) (bg := bg) (gr := w.heap.size) (gv := w.heap.size + 1) (gu := gu) (gi := gi) (v := ⟨0, 0, 0, 0, 0⟩) (u := ⟨oc, ud, us, uo, ui⟩) (i := ⟨op, nar, reg, size, 0, 0, 0, 0⟩) (w := w') h q4 q5 q6 q7 hz0 hz4 iop inar ireg isize idst isrc ioff iimm)
  have hc0 := cells8 HRS.out.drew.i
  refine wp_region_last (n := 6) (S := fun w' => (w'.cell? ⟨gi, 0, none⟩ = some (.int .i64 op) ∧ w'.cell? ⟨gi, 1, none⟩ = some (.bool nar) ∧ w'.cell? ⟨gi, 2, none⟩ = some (.bool reg) ∧ w'.cell? ⟨gi, 3, none⟩ = some (.int .i64 size) ∧ w'.cell? ⟨gi, 4, none⟩ = some (.int .i64 0) ∧ w'.cell? ⟨gi, 5, none⟩ = some (.int .i64 0) ∧ w'.cell? ⟨gi, 6, none⟩ = some (.int .i64 0) ∧ w'.cell? ⟨gi, 7, none⟩ = some (.int .i64 0) ∧
    w'.cell? ⟨gu, 0, none⟩ = some (.int .i64 oc) ∧ w'.cell? ⟨gu, 1, none⟩ = some (.int .i64 ud) ∧ w'.cell? ⟨gu, 2, none⟩ = some (.int .i64 us) ∧ w'.cell? ⟨gu, 3, none⟩ = some (.int .i64 uo) ∧ w'.cell? ⟨gu, 4, none⟩ = some (.int .i64 ui) ∧
    w'.cell? ⟨w.heap.size + 1, 0, none⟩ = some (.int .i64 0) ∧ w'.cell? ⟨w.heap.size + 1, 1, none⟩ = some (.int .i64 0) ∧ w'.cell? ⟨w.heap.size + 1, 2, none⟩ = some (.int .i64 0) ∧ w'.cell? ⟨w.heap.size + 1, 3, none⟩ = some (.int .i64 0) ∧ w'.cell? ⟨w.heap.size + 1, 4, none⟩ = some (.int .i64 0) ∧ RS w g (adv b off c) (n - 8) (c - 8) (un + 1) bg w.heap.size (w.heap.size + 1) gu gi ⟨0, 0, 0, 0, 0⟩ ⟨oc, ud, us, uo, ui⟩ ⟨op, nar, reg, size, 0, 0, 0, 0⟩ w')) (by kernel_rfl) (by kernel_rfl) (by kernel_rfl) (by kernel_rfl) rfl (rs_cells HRS.out.drew) (fun hHeld => ?_)
  clear hc0
  refine wpAnyH_take (i := 0) (oi := _) (v := .agg (ins8 op nar reg size 0 0 0 0)) rfl (by kernel_rfl) (by kernel_rfl) (by kernel_rfl) (fun _ _ _ h => h) (Or.inl ⟨by rfl, ?_⟩) hHeld ?_
  · intro w hSw
    obtain ⟨h0, h1, h2, h3, h4, h5, h6, h7, h8, h9, h10, h11, h12, h13, h14, h15, h16, h17, _⟩ := hSw
    go_simp
  try simp only [Act.put, List.setIfInBounds_toArray, List.set_cons_zero, List.set_cons_succ]
  refine wpAnyH_take (i := 1) (oi := _) (v := .agg (un5 oc ud us uo ui)) rfl (by kernel_rfl) (by kernel_rfl) (by kernel_rfl) (fun _ _ _ h => h) (Or.inl ⟨by rfl, ?_⟩) hHeld ?_
  · intro w hSw
    obtain ⟨h0, h1, h2, h3, h4, h5, h6, h7, h8, h9, h10, h11, h12, h13, h14, h15, h16, h17, _⟩ := hSw
    go_simp
  try simp only [Act.put, List.setIfInBounds_toArray, List.set_cons_zero, List.set_cons_succ]
  refine wpAnyH_take (i := 3) (oi := _) (v := .agg (un5 oc ud us uo ui)) rfl (by kernel_rfl) (by kernel_rfl) (by kernel_rfl) (fun _ _ _ h => h) (Or.inl ⟨by rfl, ?_⟩) hHeld ?_
  · intro w hSw
    obtain ⟨h0, h1, h2, h3, h4, h5, h6, h7, h8, h9, h10, h11, h12, h13, h14, h15, h16, h17, _⟩ := hSw
    go_simp
  try simp only [Act.put, List.setIfInBounds_toArray, List.set_cons_zero, List.set_cons_succ]
  refine wpAnyH_take (i := 4) (oi := _) (v := .agg (un5 0 0 0 0 0)) rfl (by kernel_rfl) (by kernel_rfl) (by kernel_rfl) (fun _ _ _ h => h) (Or.inl ⟨by rfl, ?_⟩) hHeld ?_
  · intro w hSw
    obtain ⟨h0, h1, h2, h3, h4, h5, h6, h7, h8, h9, h10, h11, h12, h13, h14, h15, h16, h17, _⟩ := hSw
    go_simp
  try simp only [Act.put, List.setIfInBounds_toArray, List.set_cons_zero, List.set_cons_succ]
  clear hHeld
  refine wpAnyH_ready (rs := [2]) (by kernel_rfl) (by simp) ?_
  refine AllReadyH.cons rfl (fun K hK => ?_) AllReadyH.nil
  go_simp
  go_at_call 94
  (with_reducible refine (HC.out _ HRS.out.drew).mono ?_)
  rintro e w5 ⟨rfl, hR5⟩
  go_wp2_with fail
  refine hK.out _ _ (rs_cells hR5) (fun hHeld => ?_)
  clear hK K hHeld
  try simp only [Act.put, List.setIfInBounds_toArray, List.set_cons_zero, List.set_cons_succ]
  refine wpAnyH_ready (rs := [5]) (by kernel_rfl) (by simp) ?_
  refine AllReadyH.cons rfl (fun K hK => ?_) AllReadyH.nil
  go_simp
  go_at_call 93
  (with_reducible refine (HFL.out _ hR5).mono ?_)
  rintro e w6 ⟨rfl, hR6⟩
  go_wp2_with fail
  refine hK.out _ _ (rs_cells hR6) (fun hHeld => ?_)
  clear hK K hHeld
  try simp only [Act.put, List.setIfInBounds_toArray, List.set_cons_zero, List.set_cons_succ]
  refine wpAnyH_done (by kernel_rfl) ?_ _
  have hR7 := HSETI.out _ hR6
  obtain ⟨⟨d0, d1, d2, d3, d4, d5, d6, d7⟩, f0, f1, f2, f3, f4, f5, f6, f7⟩ := cells8 hR6.i
  clear hR5 hR6 HC HFL HSETI HRS
  unfold Ahead
  refine wpOp_step rfl fun K' hK' => ?_
  go_simp
  refine hK' _ _ ?_
  clear d0 d1 d2 d3 d4 d5 d6 d7 f0 f1 f2 f3 f4 f5 f6 f7
  generalize ((((((((w6.setCell ⟨gi, 0, none⟩ (.int .i64 iop)).setCell ⟨gi, 1, none⟩ (.bool inar)).setCell ⟨gi, 2, none⟩ (.bool ireg)).setCell ⟨gi, 3, none⟩ (.int .i64 isize)).setCell ⟨gi, 4, none⟩ (.int .i64 idst)).setCell ⟨gi, 5, none⟩ (.int .i64 isrc)).setCell ⟨gi, 6, none⟩ (.int .i64 ioff)).setCell ⟨gi, 7, none⟩ (.int .i64 iimm)) = W7 at *
  obtain ⟨d0, d1, d2, d3, d4, d5, d6, d7, u0, u1, u2, u3, u4, v0, v1, v2, v3, v4, _⟩ := rs_cells hR7
  have HR7 := Lib.hid hR7
  clear hR7
  go_wp2_with fail
  go_at_call 95
  refine (HREG.out _).mono ?_
  rintro e w8 ⟨rfl, hB8⟩
  have hR8 := HR7.out.below hB8
  have HR8 := Lib.hid hR8
  clear hB8 HR7 HREG d0 d1 d2 d3 d4 d5 d6 d7 u0 u1 u2 u3 u4 v0 v1 v2 v3 v4
  obtain ⟨d0, d1, d2, d3, d4, d5, d6, d7, u0, u1, u2, u3, u4, v0, v1, v2, v3, v4, _⟩ := rs_cells hR8
  clear hR8
  cases rg
  · go_wp2_with fail
    go_at_call 65
    refine (need_no _ _).mono ?_
    rintro e wn ⟨rfl, rfl⟩
    go_wp2_with fail
    exact ⟨rfl, rfl, HR8.out.but, HR8.out.rd⟩
  go_wp2_with fail
  go_at_call 65
  refine (need_yes _ _).mono ?_
  rintro e wn ⟨rfl, rfl⟩
  go_wp2_with fail
  go_at_call 56
  refine (HFI.out _ HR8.out.tabs).mono ?_
  rintro e w9 ⟨rfl, hB9⟩
  go_upto_region 10 with (fail)
  generalize Ins.oc ⟨iop, inar, ireg, isize, idst, isrc, ioff, iimm⟩ = ioc
  have hR9 := (HR8.out.below hB9).below (below_box _ (.cells (un5 ioc idst fs fo fi) 106))
  have hw9 := Blk.new w9 106 (un5 ioc idst fs fo fi)
  clear hB9 HFI HR8 d0 d1 d2 d3 d4 d5 d6 d7 u0 u1 u2 u3 u4 v0 v1 v2 v3 v4
  generalize (w9.alloc (.cells (un5 ioc idst fs fo fi) 106)) = W9 at *
  generalize w9.heap.size = gw at *
  obtain ⟨d0, d1, d2, d3, d4, d5, d6, d7, u0, u1, u2, u3, u4, v0, v1, v2, v3, v4, _⟩ := rs_cells hR9
  obtain ⟨x0, x1, x2, x3, x4, y0, y1, y2, y3, y4⟩ := cells5 hw9
  have HR9 := Lib.hid hR9
  clear hR9
  cases b1
  · go_wp2_with fail
    go_at_call 65
    refine (need_no _ _).mono ?_
    rintro e wn ⟨rfl, rfl⟩
    go_wp2_with fail
    exact ⟨rfl, rfl, HR9.out.but, HR9.out.rd⟩
  cases b2
  · go_wp2_with fail
    go_at_call 65
    refine (need_no _ _).mono ?_
    rintro e wn ⟨rfl, rfl⟩
    go_wp2_with fail
    exact ⟨rfl, rfl, HR9.out.but, HR9.out.rd⟩
  cases b3
  · go_wp2_with fail
    go_at_call 65
    refine (need_no _ _).mono ?_
    rintro e wn ⟨rfl, rfl⟩
    go_wp2_with fail
    exact ⟨rfl, rfl, HR9.out.but, HR9.out.rd⟩
  go_wp2_with fail
  go_at_call 65
  refine (need_yes _ _).mono ?_
  rintro e wn ⟨rfl, rfl⟩
  go_wp2_with fail
  go_at_call 65
  refine (need_yes _ _).mono ?_
  rintro e wn ⟨rfl, rfl⟩
  go_upto_region 12 with (fail)
  clear x0 x1 x2 x3 y0 y1 y2 y3 y4
  cases b6
  · go_wp2_with fail
    go_at_call 65
    refine (need_no _ _).mono ?_
    rintro e wn ⟨rfl, rfl⟩
    go_wp2_with fail
    exact ⟨rfl, rfl, HR9.out.but, HR9.out.rd⟩
  go_wp2_with fail
  go_at_call 96
  refine (HSZ.out _).mono ?_
  rintro e w10 ⟨rfl, hB⟩
  have hRa := HR9.out.below hB
  clear HR9 hB hw9 x4 d0 d1 d2 d3 d4 d5 d6 d7 u0 u1 u2 u3 u4 v0 v1 v2 v3 v4
  obtain ⟨d0, d1, d2, d3, d4, d5, d6, d7, u0, u1, u2, u3, u4, v0, v1, v2, v3, v4, _⟩ := rs_cells hRa
  have HRA := Lib.hid hRa
  clear hRa
  cases sz
  · go_wp2_with fail
    go_at_call 65
    refine (need_no _ _).mono ?_
    rintro e wn ⟨rfl, rfl⟩
    go_wp2_with fail
    exact ⟨rfl, rfl, HRA.out.but, HRA.out.rd⟩
  go_wp2_with fail
  go_at_call 97
  refine (HIM.out _).mono ?_
  rintro e w11 ⟨rfl, hB⟩
  have hRb := HRA.out.below hB
  clear HRA hB d0 d1 d2 d3 d4 d5 d6 d7 u0 u1 u2 u3 u4 v0 v1 v2 v3 v4
  obtain ⟨d0, d1, d2, d3, d4, d5, d6, d7, u0, u1, u2, u3, u4, v0, v1, v2, v3, v4, _⟩ := rs_cells hRb
  have HRB := Lib.hid hRb
  clear hRb
  cases im
  · go_wp2_with fail
    go_at_call 65
    refine (need_no _ _).mono ?_
    rintro e wn ⟨rfl, rfl⟩
    go_wp2_with fail
    exact ⟨rfl, rfl, HRB.out.but, HRB.out.rd⟩
  go_wp2_with fail
  go_at_call 65
  refine (need_yes _ _).mono ?_
  rintro e wn ⟨rfl, rfl⟩
  obtain ⟨⟨c0, c1, c2, c3, c4, c5, c6, c7⟩, f0, f1, f2, f3, f4, f5, f6, f7⟩ := cells8 HRB.out.res
  go_wp2_with fail
  exact bodyPost_ret (v := .agg (ins8 iop inar ireg isize idst isrc ioff iimm)) (results_cell_row Tryd.results66 _ _ w.heap.size 71 (ins8 iop inar ireg isize idst isrc ioff iimm) (0, 0) _ rfl (set8 HRB.out.res _ _ _ _ _ _ _ _) Tryd.underlying71 rfl (by kernel_rfl)) rfl ⟨rfl, but8 HRB.out.but (Nat.le_refl _) _ _ _ _ _ _ _ _, far8 q0 HRB.out.rd _ _ _ _ _ _ _ _⟩
end Go.Proofs.YtlodoinmippebaaDoor
/- Package code: (*reader).ins where it gives up early. -/
namespace Go.Proofs.YtlodoinmippebaaDoor
open Go.ChangeShapes Go.WideShapes Go.ChangeAt Go.RowKit
open Cod Bits
set_option linter.unusedVariables false
set_option linter.unusedSimpArgs false

theorem RS.next {w0 : World} {g : Nat} {A A' : Option Addr} {n c n' c' : Nat} {un un' bg : Int} {gr gv gu gi : Nat} {v u : U} {i : Ins} {w w' : World} (h : RS w0 g A n c un bg gr gv gu gi v u i w) (hb : But g w w') (hr : Blk w' g 112 (rd3 A' n' c' un' bg)) (h1 : gr ≠ g) (h2 : gv ≠ g) (h3 : gu ≠ g) (h4 : gi ≠ g) (h5 : 3 ≤ g) : RS w0 g A' n' c' un' bg gr gv gu gi v u i w' :=
  ⟨hb.blk h.res h1, hb.blk h.v h2, hb.blk h.u h3, hb.blk h.i h4, h.but.trans hb, hr, hb.tabs h.tabs h5⟩

theorem ins_short (g : Nat) (A : Option Addr) (n c : Nat) (un bg : Int) (w : World) (hb : Blk w g 112 (rd3 A n c un bg)) (hn : n < 8) :
    Calls Tryd.prog 66 #[.pointer (some ⟨g, 0, none⟩)] w fun e w' => e = .panicked [{ v := .iface 34 (.int .i64 20), recovered := false }] ∧ But g w w' ∧ Blk w' g 112 (rd3 A n c un bg) := by
  have HB := Lib.hid (below_box2 w (.cells (ins8 0 false false 0 0 0 0 0) 71) (.cells (un5 0 0 0 0 0) 106))
  have hgl := hb.lt
  have HBK := Lib.hid (hb.below HB.out hgl)
  have HNX := Lib.hid (next_no g A n c un bg _ HBK.out hn)
  clear hb
  go_enter Tryd.func66, Tryd.ntmps66
  go_wp2_with fail
  go_at_call 91
  refine HNX.out.mono ?_
  rintro e w1 ⟨rfl, hB1⟩
  go_wp2_with fail
  exact ⟨rfl, rfl, (But.of HB.out).then hB1, HBK.out.below hB1 HBK.out.lt⟩
set_option maxHeartbeats 1000000 in
theorem ins_zero (g b off n c : Nat) (L : List Int) (un bg : Int) (w : World) (hb : Blk w g 112 (rd3 (some ⟨b, off, none⟩) n c un bg)) (hn : 8 ≤ n) (hc : n ≤ c) (hbl : b < w.heap.size) (hne : b ≠ g) (hlen : L.length = n) (hL : BytesL L)
    (hcell : ∀ i, i < L.length → w.cell? ⟨b, off + i, none⟩ = some (.int .u8 (L[i]?.getD 0))) (hu : 0 ≤ un ∧ un < 1152921504606846976) (ht : Tabs w) (hg4 : 3 ≤ g)
    (h0 : (opL (unitA L).oc).op = 0) :
    Calls Tryd.prog 66 #[.pointer (some ⟨g, 0, none⟩)] w fun e w' => e = .panicked [{ v := .iface 34 (.int .i64 21), recovered := false }] ∧ But g w w' ∧ Blk w' g 112 (rd3 (adv b off c) (n - 8) (c - 8) (un + 1) bg) := by
  have hU := unitA_ok hL
  have hgl := hb.lt
  have hN := Lib.hid (fun (w1 : World) (hB : Below w.heap.size w w1) => next_ok g b off n c L un bg w1 (hb.below hB hgl) hn hc (Nat.lt_of_lt_of_le hbl hB.size) hne hlen hL (fun i hi => (hB.cell (p := ⟨b, off + i, none⟩) hbl).trans (hcell i hi)) hu)
  have HR := Lib.hid ((Blk.new w 71 (ins8 0 false false 0 0 0 0 0)).alloc (.cells (un5 0 0 0 0 0) 106))
  have HV := Lib.hid (blk_new2 w (.cells (ins8 0 false false 0 0 0 0 0) 71) 106 (un5 0 0 0 0 0))
  have HB := Lib.hid (below_box2 w (.cells (ins8 0 false false 0 0 0 0 0) 71) (.cells (un5 0 0 0 0 0) 106))
  have HT := Lib.hid ht
  have HUK := Lib.hid hU
  clear hb hcell hL ht hU
  generalize unitA L = U at *
  obtain ⟨oc, ud, us, uo, ui⟩ := U
  simp only at h0
  have q0 : g ≠ w.heap.size := by omega
  go_enter Tryd.func66, Tryd.ntmps66
  go_wp2_with fail
  go_at_call 91
  refine (hN.out _ HB.out).mono ?_
  rintro e w1 ⟨rfl, hK, hrd⟩
  have hrd : Blk w1 g 112 (rd3 (adv b off c) (n - 8) (c - 8) (un + 1) bg) := hrd
  go_upto_region 3 with (fail)
  have hgr : w.heap.size < w1.heap.size := by have := hK.size; simp at this; omega
  have hu1 := Blk.new w1 106 (un5 oc ud us uo ui)
  have hr1 := (hK.blk HR.out (by omega)).alloc (.cells (un5 oc ud us uo ui) 106)
  have hv1 := (hK.blk HV.out (by omega)).alloc (.cells (un5 oc ud us uo ui) 106)
  have hrd1 := hrd.alloc (.cells (un5 oc ud us uo ui) 106)
  have hb1 := ((But.of (g := g) HB.out).trans hK).alloc (.cells (un5 oc ud us uo ui) 106)
  have ht1 := hb1.tabs HT.out hg4
  have q1 : w.heap.size ≠ w1.heap.size := by omega
  have q2 : w.heap.size + 1 ≠ w1.heap.size := by have := hv1.lt; have := hK.size; simp at this; omega
  have q3 : g ≠ w1.heap.size := by omega
  clear hrd hK HB HT
  generalize (w1.alloc (.cells #[.int .i64 oc, .int .i64 ud, .int .i64 us, .int .i64 uo, .int .i64 ui] 106)) = W2 at *
  generalize w1.heap.size = gu at *
  obtain ⟨u0, u1, u2, u3, u4, k0, k1, k2, k3, k4⟩ := cells5 hu1
  have HO := Lib.hid (operation_any oc HUK.out.oc W2 ht1)
  have HU1 := Lib.hid hu1
  have HR1 := Lib.hid hr1
  have HV1 := Lib.hid hv1
  have HRD1 := Lib.hid hrd1
  have HB1 := Lib.hid hb1
  have HT1 := Lib.hid ht1
  clear hu1 hr1 hv1 hrd1 hb1 ht1
  generalize hJ : opL oc = J at *
  have HJ := Lib.hid hJ
  clear hJ
  obtain ⟨op, nar, reg, size, dst, src, io, imm⟩ := J
  simp only at h0
  simp only [Ins.arr] at HO
  go_wp2_with fail
  go_at_call 92
  refine HO.out.mono ?_
  rintro e w3 ⟨rfl, hB3⟩
  go_upto_region 4 with (fail)
  have hlu := HU1.out.lt
  have hlr := HR1.out.lt
  have hlv := HV1.out.lt
  have hlg := HRD1.out.lt
  have hs3 := hB3.size
  have hRS : RS w g (adv b off c) (n - 8) (c - 8) (un + 1) bg w.heap.size (w.heap.size + 1) gu w3.heap.size ⟨0, 0, 0, 0, 0⟩ ⟨oc, ud, us, uo, ui⟩ ⟨op, nar, reg, size, dst, src, io, imm⟩ (w3.alloc (.cells (ins8 op nar reg size dst src io imm) 71)) :=
    ⟨(HR1.out.below hB3 HR1.out.lt).alloc _, (HV1.out.below hB3 HV1.out.lt).alloc _, (HU1.out.below hB3 HU1.out.lt).alloc _, Blk.new w3 _ _, (HB1.out.then hB3).alloc _, (HRD1.out.below hB3 HRD1.out.lt).alloc _, (HT1.out.below hB3).below (below_box _ _)⟩
  have q4 : w.heap.size ≠ w3.heap.size := by omega
  have q5 : w.heap.size + 1 ≠ w3.heap.size := by omega
  have q6 : gu ≠ w3.heap.size := by omega
  have q7 : g ≠ w3.heap.size := by omega
  have q8 : w.heap.size ≤ w3.heap.size := by omega
  clear hlu hlr hlv hlg hs3 hB3 HU1 HR1 HV1 HRD1 HB1 HT1 HO HR HV u0 u1 u2 u3 u4 k0 k1 k2 k3 k4
  have HRS := Lib.hid hRS
  subst h0
  clear hRS
  go_wp2_with fail
  go_at_call 65
  refine (need_no _ _).mono ?_
  rintro e w5 ⟨rfl, rfl⟩
  go_wp2_with fail
  exact ⟨rfl, rfl, HRS.out.but, HRS.out.rd⟩
set_option maxHeartbeats 1000000 in
theorem ins_two_short (g b off n c : Nat) (L : List Int) (un bg : Int) (w : World) (hb : Blk w g 112 (rd3 (some ⟨b, off, none⟩) n c un bg)) (hn : 8 ≤ n) (hc : n ≤ c) (hbl : b < w.heap.size) (hne : b ≠ g) (hlen : L.length = n) (hL : BytesL L)
    (hcell : ∀ i, i < L.length → w.cell? ⟨b, off + i, none⟩ = some (.int .u8 (L[i]?.getD 0))) (hu : 0 ≤ un ∧ un < 1152921504606846976) (ht : Tabs w) (hg4 : 3 ≤ g)
    (h20 : (opL (unitA L).oc).op = 20) (hn16 : n < 16) :
    Calls Tryd.prog 66 #[.pointer (some ⟨g, 0, none⟩)] w fun e w' => e = .panicked [{ v := .iface 34 (.int .i64 20), recovered := false }] ∧ But g w w' ∧ Blk w' g 112 (rd3 (adv b off c) (n - 8) (c - 8) (un + 1) bg) := by
  have hU := unitA_ok hL
  have h0 : (opL (unitA L).oc).op ≠ 0 := by rw [h20]; decide
  have F := opL_facts hU.oc h0
  have hgl := hb.lt
  have hN := Lib.hid (fun (w1 : World) (hB : Below w.heap.size w w1) => next_ok g b off n c L un bg w1 (hb.below hB hgl) hn hc (Nat.lt_of_lt_of_le hbl hB.size) hne hlen hL (fun i hi => (hB.cell (p := ⟨b, off + i, none⟩) hbl).trans (hcell i hi)) hu)
  have HR := Lib.hid ((Blk.new w 71 (ins8 0 false false 0 0 0 0 0)).alloc (.cells (un5 0 0 0 0 0) 106))
  have HV := Lib.hid (blk_new2 w (.cells (ins8 0 false false 0 0 0 0 0) 71) 106 (un5 0 0 0 0 0))
  have HB := Lib.hid (below_box2 w (.cells (ins8 0 false false 0 0 0 0 0) 71) (.cells (un5 0 0 0 0 0) 106))
  have HT := Lib.hid ht
  have HF := Lib.hid F
  have HUK := Lib.hid hU
  clear hb hcell hL ht F hU
  generalize unitA L = U at *
  obtain ⟨oc, ud, us, uo, ui⟩ := U
  simp only at h0 h20
  have q0 : g ≠ w.heap.size := by omega
  go_enter Tryd.func66, Tryd.ntmps66
  go_wp2_with fail
  go_at_call 91
  refine (hN.out _ HB.out).mono ?_
  rintro e w1 ⟨rfl, hK, hrd⟩
  have hrd : Blk w1 g 112 (rd3 (adv b off c) (n - 8) (c - 8) (un + 1) bg) := hrd
  go_upto_region 3 with (fail)
  have hgr : w.heap.size < w1.heap.size := by have := hK.size; simp at this; omega
  have hu1 := Blk.new w1 106 (un5 oc ud us uo ui)
  have hr1 := (hK.blk HR.out (by omega)).alloc (.cells (un5 oc ud us uo ui) 106)
  have hv1 := (hK.blk HV.out (by omega)).alloc (.cells (un5 oc ud us uo ui) 106)
  have hrd1 := hrd.alloc (.cells (un5 oc ud us uo ui) 106)
  have hb1 := ((But.of (g := g) HB.out).trans hK).alloc (.cells (un5 oc ud us uo ui) 106)
  have ht1 := hb1.tabs HT.out hg4
  have q1 : w.heap.size ≠ w1.heap.size := by omega
  have q2 : w.heap.size + 1 ≠ w1.heap.size := by have := hv1.lt; have := hK.size; simp at this; omega
  have q3 : g ≠ w1.heap.size := by omega
  clear hrd hK HB HT
  generalize (w1.alloc (.cells #[.int .i64 oc, .int .i64 ud, .int .i64 us, .int .i64 uo, .int .i64 ui] 106)) = W2 at *
  generalize w1.heap.size = gu at *
  obtain ⟨u0, u1, u2, u3, u4, k0, k1, k2, k3, k4⟩ := cells5 hu1
  have HO := Lib.hid (operation_any oc HUK.out.oc W2 ht1)
  have hju : (opL oc).dst = 0 ∧ (opL oc).src = 0 ∧ (opL oc).off = 0 ∧ (opL oc).imm = 0 := HF.out.zero
  have HU1 := Lib.hid hu1
  have HR1 := Lib.hid hr1
  have HV1 := Lib.hid hv1
  have HRD1 := Lib.hid hrd1
  have HB1 := Lib.hid hb1
  have HT1 := Lib.hid ht1
  clear hu1 hr1 hv1 hrd1 hb1 ht1
  generalize hJ : opL oc = J at *
  have HJ := Lib.hid hJ
  clear hJ
  obtain ⟨op, nar, reg, size, dst, src, io, imm⟩ := J
  simp only at h0 h20 hju
  obtain ⟨rfl, rfl, rfl, rfl⟩ := hju
  simp only [Ins.arr] at HO
  go_wp2_with fail
  go_at_call 92
  refine HO.out.mono ?_
  rintro e w3 ⟨rfl, hB3⟩
  go_upto_region 4 with (fail)
  have hlu := HU1.out.lt
  have hlr := HR1.out.lt
  have hlv := HV1.out.lt
  have hlg := HRD1.out.lt
  have hs3 := hB3.size
  have hRS : RS w g (adv b off c) (n - 8) (c - 8) (un + 1) bg w.heap.size (w.heap.size + 1) gu w3.heap.size ⟨0, 0, 0, 0, 0⟩ ⟨oc, ud, us, uo, ui⟩ ⟨op, nar, reg, size, 0, 0, 0, 0⟩ (w3.alloc (.cells (ins8 op nar reg size 0 0 0 0) 71)) :=
    ⟨(HR1.out.below hB3 HR1.out.lt).alloc _, (HV1.out.below hB3 HV1.out.lt).alloc _, (HU1.out.below hB3 HU1.out.lt).alloc _, Blk.new w3 _ _, (HB1.out.then hB3).alloc _, (HRD1.out.below hB3 HRD1.out.lt).alloc _, (HT1.out.below hB3).below (below_box _ _)⟩
  have q4 : w.heap.size ≠ w3.heap.size := by omega
  have q5 : w.heap.size + 1 ≠ w3.heap.size := by omega
  have q6 : gu ≠ w3.heap.size := by omega
  have q7 : g ≠ w3.heap.size := by omega
  have q8 : w.heap.size ≤ w3.heap.size := by omega
  clear hlu hlr hlv hlg hs3 hB3 HU1 HR1 HV1 HRD1 HB1 HT1 HO HR HV u0 u1 u2 u3 u4 k0 k1 k2 k3 k4
  have HRS := Lib.hid hRS
  have hopn : (op != 0) = true := by rw [bne_iff_ne]; exact h0
  subst h20
  have HLG := Lib.hid (fun w => long_any 20 w)
  clear hRS
  go_wp2_with fail
  go_at_call 65
  refine (need_yes _ _).mono ?_
  rintro e w5 ⟨rfl, rfl⟩
  go_wp2_with fail
  go_at_call 58
  refine (HLG.out _).mono ?_
  rintro e w5 ⟨rfl, rfl⟩
  go_wp2_with fail
  go_at_call 91
  refine (next_no g _ _ _ _ _ _ HRS.out.rd (by omega)).mono ?_
  rintro e w6 ⟨rfl, hB6⟩
  go_wp2_with fail
  exact ⟨rfl, rfl, HRS.out.but.then hB6, HRS.out.rd.below hB6 HRS.out.rd.lt⟩
end Go.Proofs.YtlodoinmippebaaDoor
/- Package code: (*reader).ins at an instruction of two units. -/
namespace Go.Proofs.YtlodoinmippebaaDoor
open Go.ChangeShapes Go.WideShapes Go.ChangeAt Go.RowKit
open Cod Bits
set_option linter.unusedVariables false
set_option linter.unusedSimpArgs false

set_option maxHeartbeats 1000000 in
theorem ins_two (g b off n c : Nat) (L : List Int) (un bg : Int) (w : World) (hb : Blk w g 112 (rd3 (some ⟨b, off, none⟩) n c un bg)) (hn : 8 ≤ n) (hc : n ≤ c) (hbl : b < w.heap.size) (hne : b ≠ g) (hlen : L.length = n) (hL : BytesL L)
    (hcell : ∀ i, i < L.length → w.cell? ⟨b, off + i, none⟩ = some (.int .u8 (L[i]?.getD 0))) (hu : 0 ≤ un ∧ un < 1000000) (ht : Tabs w) (hg4 : 3 ≤ g)
    (h20 : (opL (unitA L).oc).op = 20) (hn16 : 16 ≤ n) :
    Calls Tryd.prog 66 #[.pointer (some ⟨g, 0, none⟩)] w fun e w' => e = insEnd (errL (readL (unitA L) (unitA (L.drop 8))) (unitA L) (unitA (L.drop 8))) (.agg (readL (unitA L) (unitA (L.drop 8))).arr) ∧ But g w w' ∧ Blk w' g 112 (rd3 (adv b (off + 8) (c - 8)) (n - 8 - 8) (c - 8 - 8) (un + 1 + 1) bg) := by
  have hU := unitA_ok hL
  have h0 : (opL (unitA L).oc).op ≠ 0 := by rw [h20]; decide
  have F := opL_facts hU.oc h0
  have hV := unitA_ok (hL.drop 8)
  have hdl : (L.drop 8).length = n - 8 := by rw [List.length_drop, hlen]
  have hN2 := Lib.hid (fun (w1 : World) (hB : But g w w1) (hr : Blk w1 g 112 (rd3 (adv b off c) (n - 8) (c - 8) (un + 1) bg)) => next_ok g b (off + 8) (n - 8) (c - 8) (L.drop 8) (un + 1) bg w1 (by rw [adv, if_neg (by omega)] at hr; exact hr) (by omega) (by omega) (Nat.lt_of_lt_of_le hbl hB.size) hne hdl (hL.drop 8) (fun i hi => by
    rw [hB.cell hbl hne, List.getElem?_drop, show off + 8 + i = off + (8 + i) by omega]
    exact hcell (8 + i) (by rw [hdl] at hi; omega)) (by omega))
  clear hdl
  have hRF := read_fit F (unitA L) (unitA (L.drop 8))
  have hKO := (chosen_kept F (unitA L)).op
  have HI := Lib.hid (show filledL (chosenL (opL (unitA L).oc) (unitA L)) (unitA L) (unitA (L.drop 8)) = readL (unitA L) (unitA (L.drop 8)) from rfl)
  have hRF' : (readL (unitA L) (unitA (L.drop 8))).fit := hRF
  rw [errL_eq]
  generalize hIg : readL (unitA L) (unitA (L.drop 8)) = I at *
  clear hIg hRF
  obtain ⟨iop, inar, ireg, isize, idst, isrc, ioff, iimm⟩ := I
  have HREG := Lib.hid (fun w => registers_any iop inar ireg isize idst isrc ioff iimm hRF'.1 w)
  have HFI := Lib.hid (fun w ht => first_any ⟨iop, inar, ireg, isize, idst, isrc, ioff, iimm⟩ hRF' w ht)
  have HSZ := Lib.hid (fun w => sized_any iop inar ireg isize idst isrc ioff iimm w)
  have HIM := Lib.hid (fun w => immediate_any iop inar ireg isize idst isrc ioff iimm hRF'.1 w)
  clear hRF'
  simp only [Ins.arr] at HFI ⊢
  generalize firstS ⟨iop, inar, ireg, isize, idst, isrc, ioff, iimm⟩ = fs at *
  generalize firstO ⟨iop, inar, ireg, isize, idst, isrc, ioff, iimm⟩ = fo at *
  generalize firstI ⟨iop, inar, ireg, isize, idst, isrc, ioff, iimm⟩ = fi at *
  generalize registersL iop inar ireg idst isrc iimm = rg at *
  generalize sizedL iop inar isize = sz at *
  generalize immediateL iop inar ireg iimm = im at *
  have hgl := hb.lt
  have hN := Lib.hid (fun (w1 : World) (hB : Below w.heap.size w w1) => next_ok g b off n c L un bg w1 (hb.below hB hgl) hn hc (Nat.lt_of_lt_of_le hbl hB.size) hne hlen hL (fun i hi => (hB.cell (p := ⟨b, off + i, none⟩) hbl).trans (hcell i hi)) ⟨hu.1, by omega⟩)
  have HR := Lib.hid ((Blk.new w 71 (ins8 0 false false 0 0 0 0 0)).alloc (.cells (un5 0 0 0 0 0) 106))
  have HV := Lib.hid (blk_new2 w (.cells (ins8 0 false false 0 0 0 0 0) 71) 106 (un5 0 0 0 0 0))
  have HB := Lib.hid (below_box2 w (.cells (ins8 0 false false 0 0 0 0 0) 71) (.cells (un5 0 0 0 0 0) 106))
  have HT := Lib.hid ht
  have HF := Lib.hid F
  have HUK := Lib.hid hU
  clear hb hcell hL ht F hU
  have HVK := Lib.hid hV.imm
  clear hV
  generalize unitA (L.drop 8) = V at *
  obtain ⟨vc, vd, vs, vo, vi⟩ := V
  generalize unitA L = U at *
  obtain ⟨oc, ud, us, uo, ui⟩ := U
  simp only at h0 h20
  simp only
  generalize hqv : (vc == 0 && vd == 0 && vs == 0 && vo == 0) = q
  generalize hb1 : (ud == idst) = b1
  generalize hb2 : (us == fs) = b2
  generalize hb3 : (uo == fo) = b3
  generalize hb6 : (ui == fi) = b6
  have q0 : g ≠ w.heap.size := by omega
  go_enter Tryd.func66, Tryd.ntmps66
  go_wp2_with fail
  go_at_call 91
  refine (hN.out _ HB.out).mono ?_
  rintro e w1 ⟨rfl, hK, hrd⟩
  have hrd : Blk w1 g 112 (rd3 (adv b off c) (n - 8) (c - 8) (un + 1) bg) := hrd
  go_upto_region 3 with (fail)
  have hgr : w.heap.size < w1.heap.size := by have := hK.size; simp at this; omega
  have hu1 := Blk.new w1 106 (un5 oc ud us uo ui)
  have hr1 := (hK.blk HR.out (by omega)).alloc (.cells (un5 oc ud us uo ui) 106)
  have hv1 := (hK.blk HV.out (by omega)).alloc (.cells (un5 oc ud us uo ui) 106)
  have hrd1 := hrd.alloc (.cells (un5 oc ud us uo ui) 106)
  have hb1 := ((But.of (g := g) HB.out).trans hK).alloc (.cells (un5 oc ud us uo ui) 106)
  have ht1 := hb1.tabs HT.out hg4
  have q1 : w.heap.size ≠ w1.heap.size := by omega
  have q2 : w.heap.size + 1 ≠ w1.heap.size := by have := hv1.lt; have := hK.size; simp at this; omega
  have q3 : g ≠ w1.heap.size := by omega
  clear hrd hK HB HT
  generalize (w1.alloc (.cells #[.int .i64 oc, .int .i64 ud, .int .i64 us, .int .i64 uo, .int .i64 ui] 106)) = W2 at *
  generalize w1.heap.size = gu at *
  obtain ⟨u0, u1, u2, u3, u4, k0, k1, k2, k3, k4⟩ := cells5 hu1
  have HO := Lib.hid (operation_any oc HUK.out.oc W2 ht1)
  have hju : (opL oc).dst = 0 ∧ (opL oc).src = 0 ∧ (opL oc).off = 0 ∧ (opL oc).imm = 0 := HF.out.zero
  have HU1 := Lib.hid hu1
  have HR1 := Lib.hid hr1
  have HV1 := Lib.hid hv1
  have HRD1 := Lib.hid hrd1
  have HB1 := Lib.hid hb1
  have HT1 := Lib.hid ht1
  clear hu1 hr1 hv1 hrd1 hb1 ht1
  generalize hJ : opL oc = J at *
  have HJ := Lib.hid hJ
  clear hJ
  obtain ⟨op, nar, reg, size, dst, src, io, imm⟩ := J
  simp only at h0 h20 hju
  have H20 := Lib.hid h20
  clear h20
  obtain ⟨rfl, rfl, rfl, rfl⟩ := hju
  simp only [Ins.arr] at HO
  go_wp2_with fail
  go_at_call 92
  refine HO.out.mono ?_
  rintro e w3 ⟨rfl, hB3⟩
  go_upto_region 4 with (fail)
  have hlu := HU1.out.lt
  have hlr := HR1.out.lt
  have hlv := HV1.out.lt
  have hlg := HRD1.out.lt
  have hs3 := hB3.size
  have hRS : RS w g (adv b off c) (n - 8) (c - 8) (un + 1) bg w.heap.size (w.heap.size + 1) gu w3.heap.size ⟨0, 0, 0, 0, 0⟩ ⟨oc, ud, us, uo, ui⟩ ⟨op, nar, reg, size, 0, 0, 0, 0⟩ (w3.alloc (.cells (ins8 op nar reg size 0 0 0 0) 71)) :=
    ⟨(HR1.out.below hB3 HR1.out.lt).alloc _, (HV1.out.below hB3 HV1.out.lt).alloc _, (HU1.out.below hB3 HU1.out.lt).alloc _, Blk.new w3 _ _, (HB1.out.then hB3).alloc _, (HRD1.out.below hB3 HRD1.out.lt).alloc _, (HT1.out.below hB3).below (below_box _ _)⟩
  have q4 : w.heap.size ≠ w3.heap.size := by omega
  have q5 : w.heap.size + 1 ≠ w3.heap.size := by omega
  have q6 : gu ≠ w3.heap.size := by omega
  have q7 : g ≠ w3.heap.size := by omega
  have q8 : w.heap.size ≤ w3.heap.size := by omega
  clear hlu hlr hlv hlg hs3 hB3 HU1 HR1 HV1 HRD1 HB1 HT1 HO HR HV u0 u1 u2 u3 u4 k0 k1 k2 k3 k4
  generalize (w3.alloc (.cells (ins8 op nar reg size 0 0 0 0) 71)) = W4 at *
  generalize w3.heap.size = gi at *
  obtain ⟨⟨d0, d1, d2, d3, d4, d5, d6, d7⟩, f0, f1, f2, f3, f4, f5, f6, f7⟩ := cells8 hRS.i
  have HRS := Lib.hid hRS
  have hopn : (op != 0) = true := by rw [bne_iff_ne]; exact h0
  have hlong : (op == 20 || op == 21) = true := by rw [H20.out]; rfl
  have HLG := Lib.hid (fun w => long_any op w)
  rw [hlong] at HLG
  clear hRS
  go_wp2_with fail
  go_at_call 65
  refine (need_yes _ _).mono ?_
  rintro e w5 ⟨rfl, rfl⟩
  go_wp2_with fail
  go_at_call 58
  refine (HLG.out _).mono ?_
  rintro e w5 ⟨rfl, rfl⟩
  go_wp2_with fail
  go_at_call 91
  refine (hN2.out _ HRS.out.but HRS.out.rd).mono ?_
  rintro e w6 ⟨rfl, hK6, hrd6⟩
  have hrd6 : Blk w6 g 112 (rd3 (adv b (off + 8) (c - 8)) (n - 8 - 8) (c - 8 - 8) (un + 1 + 1) bg) := hrd6
  have hR6 := HRS.out.next hK6 hrd6 q0.symm (by omega) q3.symm q7.symm hg4
  obtain ⟨z0, z1, z2, z3, z4, y0, y1, y2, y3, y4⟩ := cells5 hR6.v
  have hR6v := hR6.setv (by omega) q5.symm q2.symm (by omega) (by omega) (by omega) vc vd vs vo vi
  clear HRS hK6 hrd6 hR6
  go_upto_region 7 with (fail)
  generalize (((((w6.setCell ⟨w.heap.size + 1, 0, none⟩ (.int .i64 vc)).setCell ⟨w.heap.size + 1, 1, none⟩ (.int .i64 vd)).setCell ⟨w.heap.size + 1, 2, none⟩ (.int .i64 vs)).setCell ⟨w.heap.size + 1, 3, none⟩ (.int .i64 vo)).setCell ⟨w.heap.size + 1, 4, none⟩ (.int .i64 vi)) = W6 at *
  have HRS := Lib.hid hR6v
  clear hR6v z0 z1 z2 z3 z4 y0 y1 y2 y3 y4
  clear d0 d1 d2 d3 d4 d5 d6 d7 f0 f1 f2 f3 f4 f5 f6 f7
  have HC := Lib.hid (fun w' h => chosen_rs (w0 := w) (g := g) (A := adv b (off + 8) (c - 8)) (n := n - 8 - 8) (c := c - 8 - 8) (un := un + 1 + 1) (bg := bg) (gr := w.heap.size) (gv := w.heap.size + 1) (gu := gu) (gi := gi) (v := ⟨vc, vd, vs, vo, vi⟩) (u := ⟨oc, ud, us, uo, ui⟩) (i := ⟨op, nar, reg, size, 0, 0, 0, 0⟩) (chosenL ⟨op, nar, reg, size, 0, 0, 0, 0⟩ ⟨oc, ud, us, uo, ui⟩) rfl w' h)
  have HFL := Lib.hid (fun w' h => filled_rs (w0 := w) (g := g) (A := adv b (off + 8) (c - 8)) (n := n - 8 - 8) (c := c - 8 - 8) (un := un + 1 + 1) (bg := bg) (gr := w.heap.size) (gv := w.heap.size + 1) (gu := gu) (gi := gi) (v := ⟨vc, vd, vs, vo, vi⟩) (u := ⟨oc, ud, us, uo, ui⟩) (i := ⟨op, nar, reg, size, 0, 0, 0, 0⟩) (chosenL ⟨op, nar, reg, size, 0, 0, 0, 0⟩ ⟨oc, ud, us, uo, ui⟩) ⟨iop, inar, ireg, isize, idst, isrc, ioff, iimm⟩ hKO HVK.out HI.out w' h)
  clear hKO HI
  generalize chosenL ⟨op, nar, reg, size, 0, 0, 0, 0⟩ ⟨oc, ud, us, uo, ui⟩ = J2 at *
  obtain ⟨jop, jnar, jreg, jsize, jdst, jsrc, joff, jimm⟩ := J2
  simp only [Ins.arr, U.arr] at HC HFL
  have hz0 : w.heap.size ≤ gi := q8
  have hz4 : 3 ≤ gi := by omega
  have HSETI := Lib.hid (fun w' h => RS.seti (w0 := w) (g := g) (A := adv b (off + 8) (c - 8)) (n := n - 8 - 8) (c := c - 8 - 8) (un := un + 1 + 1) (bg := bg) (gr := w.heap.size) (gv := w.heap.size + 1) (gu := gu) (gi := gi) (v := ⟨vc, vd, vs, vo, vi⟩) (u := ⟨oc, ud, us, uo, ui⟩) (i := ⟨op, nar, reg, size, 0, 0, 0, 0⟩) (w := w') h q4 q5 q6 q7 hz0 hz4 iop inar ireg isize idst isrc ioff iimm)
  have hc0 := cells8 HRS.out.drew.i
  refine wp_region_last (n := 6) (S := fun w' => (w'.cell? ⟨gi, 0, none⟩ = some (.int .i64 op) ∧ w'.cell? ⟨gi, 1, none⟩ = some (.bool nar) ∧ w'.cell? ⟨gi, 2, none⟩ = some (.bool reg) ∧ w'.cell? ⟨gi, 3, none⟩ = some (.int .i64 size) ∧ w'.cell? ⟨gi, 4, none⟩ = some (.int .i64 0) ∧ w'.cell? ⟨gi, 5, none⟩ = some (.int .i64 0) ∧ w'.cell? ⟨gi, 6, none⟩ = some (.int .i64 0) ∧ w'.cell? ⟨gi, 7, none⟩ = some (.int .i64 0) ∧
    w'.cell? ⟨gu, 0, none⟩ = some (.int .i64 oc) ∧ w'.cell? ⟨gu, 1, none⟩ = some (.int .i64 ud) ∧ w'.cell? ⟨gu, 2, none⟩ = some (.int .i64 us) ∧ w'.cell? ⟨gu, 3, none⟩ = some (.int .i64 uo) ∧ w'.cell? ⟨gu, 4, none⟩ = some (.int .i64 ui) ∧
    w'.cell? ⟨w.heap.size + 1, 0, none⟩ = some (.int .i64 vc) ∧ w'.cell? ⟨w.heap.size + 1, 1, none⟩ = some (.int .i64 vd) ∧ w'.cell? ⟨w.heap.size + 1, 2, none⟩ = some (.int .i64 vs) ∧ w'.cell? ⟨w.heap.size + 1, 3, none⟩ = some (.int .i64 vo) ∧ w'.cell? ⟨w.heap.size + 1, 4, none⟩ = some (.int .i64 vi) ∧ RS w g (adv b (off + 8) (c - 8)) (n - 8 - 8) (c - 8 - 8) (un + 1 + 1) bg w.heap.size (w.heap.size + 1) gu gi ⟨vc, vd, vs, vo, vi⟩ ⟨oc, ud, us, uo, ui⟩ ⟨op, nar, reg, size, 0, 0, 0, 0⟩ w')) (by kernel_rfl) (by kernel_rfl) (by kernel_rfl) (by kernel_rfl) rfl (rs_cells HRS.out.drew) (fun hHeld => ?_)
  clear hc0
  refine wpAnyH_take (i := 0) (oi := _) (v := .agg (ins8 op nar reg size 0 0 0 0)) rfl (by kernel_rfl) (by kernel_rfl) (by kernel_rfl) (fun _ _ _ h => h) (Or.inl ⟨by rfl, ?_⟩) hHeld ?_
  · intro w hSw
    obtain ⟨h0, h1, h2, h3, h4, h5, h6, h7, h8, h9, h10, h11, h12, h13, h14, h15, h16, h17, _⟩ := hSw
    go_simp
  try simp only [Act.put, List.setIfInBounds_toArray, List.set_cons_zero, List.set_cons_succ]
  refine wpAnyH_take (i := 1) (oi := _) (v := .agg (un5 oc ud us uo ui)) rfl (by kernel_rfl) (by kernel_rfl) (by kernel_rfl) (fun _ _ _ h => h) (Or.inl ⟨by rfl, ?_⟩) hHeld ?_
  · intro w hSw
    obtain ⟨h0, h1, h2, h3, h4, h5, h6, h7, h8, h9, h10, h11, h12, h13, h14, h15, h16, h17, _⟩ := hSw
    go_simp
  try simp only [Act.put, List.setIfInBounds_toArray, List.set_cons_zero, List.set_cons_succ]
  refine wpAnyH_take (i := 3) (oi := _) (v := .agg (un5 oc ud us uo ui)) rfl (by kernel_rfl) (by kernel_rfl) (by kernel_rfl) (fun _ _ _ h => h) (Or.inl ⟨by rfl, ?_⟩) hHeld ?_
  · intro w hSw
    obtain ⟨h0, h1, h2, h3, h4, h5, h6, h7, h8, h9, h10, h11, h12, h13, h14, h15, h16, h17, _⟩ := hSw
    go_simp
  try simp only [Act.put, List.setIfInBounds_toArray, List.set_cons_zero, List.set_cons_succ]
  refine wpAnyH_take (i := 4) (oi := _) (v := .agg (un5 vc vd vs vo vi)) rfl (by kernel_rfl) (by kernel_rfl) (by kernel_rfl) (fun _ _ _ h => h) (Or.inl ⟨by rfl, ?_⟩) hHeld ?_
  · intro w hSw
    obtain ⟨h0, h1, h2, h3, h4, h5, h6, h7, h8, h9, h10, h11, h12, h13, h14, h15, h16, h17, _⟩ := hSw
    go_simp
  try simp only [Act.put, List.setIfInBounds_toArray, List.set_cons_zero, List.set_cons_succ]
  clear hHeld
  refine wpAnyH_ready (rs := [2]) (by kernel_rfl) (by simp) ?_
  refine AllReadyH.cons rfl (fun K hK => ?_) AllReadyH.nil
  go_simp
  go_at_call 94
  (with_reducible refine (HC.out _ HRS.out.drew).mono ?_)
  rintro e w5 ⟨rfl, hR5⟩
  go_wp2_with fail
  refine hK.out _ _ (rs_cells hR5) (fun hHeld => ?_)
  clear hK K hHeld
  try simp only [Act.put, List.setIfInBounds_toArray, List.set_cons_zero, List.set_cons_succ]
  refine wpAnyH_ready (rs := [5]) (by kernel_rfl) (by simp) ?_
  refine AllReadyH.cons rfl (fun K hK => ?_) AllReadyH.nil
  go_simp
  go_at_call 93
  (with_reducible refine (HFL.out _ hR5).mono ?_)
  rintro e w6 ⟨rfl, hR6⟩
  go_wp2_with fail
  refine hK.out _ _ (rs_cells hR6) (fun hHeld => ?_)
  clear hK K hHeld
  try simp only [Act.put, List.setIfInBounds_toArray, List.set_cons_zero, List.set_cons_succ]
  refine wpAnyH_done (by kernel_rfl) ?_ _
  have hR7 := HSETI.out _ hR6
  obtain ⟨⟨d0, d1, d2, d3, d4, d5, d6, d7⟩, f0, f1, f2, f3, f4, f5, f6, f7⟩ := cells8 hR6.i
  clear hR5 hR6 HC HFL HSETI HRS
  unfold Ahead
  refine wpOp_step rfl fun K' hK' => ?_
  go_simp
  refine hK' _ _ ?_
  clear d0 d1 d2 d3 d4 d5 d6 d7 f0 f1 f2 f3 f4 f5 f6 f7
  generalize ((((((((w6.setCell ⟨gi, 0, none⟩ (.int .i64 iop)).setCell ⟨gi, 1, none⟩ (.bool inar)).setCell ⟨gi, 2, none⟩ (.bool ireg)).setCell ⟨gi, 3, none⟩ (.int .i64 isize)).setCell ⟨gi, 4, none⟩ (.int .i64 idst)).setCell ⟨gi, 5, none⟩ (.int .i64 isrc)).setCell ⟨gi, 6, none⟩ (.int .i64 ioff)).setCell ⟨gi, 7, none⟩ (.int .i64 iimm)) = W7 at *
  obtain ⟨d0, d1, d2, d3, d4, d5, d6, d7, u0, u1, u2, u3, u4, v0, v1, v2, v3, v4, _⟩ := rs_cells hR7
  have HR7 := Lib.hid hR7
  clear hR7
  go_wp2_with fail
  go_at_call 95
  refine (HREG.out _).mono ?_
  rintro e w8 ⟨rfl, hB8⟩
  have hR8 := HR7.out.below hB8
  have HR8 := Lib.hid hR8
  clear hB8 HR7 HREG d0 d1 d2 d3 d4 d5 d6 d7 u0 u1 u2 u3 u4 v0 v1 v2 v3 v4
  obtain ⟨d0, d1, d2, d3, d4, d5, d6, d7, u0, u1, u2, u3, u4, v0, v1, v2, v3, v4, _⟩ := rs_cells hR8
  clear hR8
  cases rg
  · go_wp2_with fail
    go_at_call 65
    refine (need_no _ _).mono ?_
    rintro e wn ⟨rfl, rfl⟩
    go_wp2_with fail
    exact ⟨rfl, rfl, HR8.out.but, HR8.out.rd⟩
  go_wp2_with fail
  go_at_call 65
  refine (need_yes _ _).mono ?_
  rintro e wn ⟨rfl, rfl⟩
  go_wp2_with fail
  go_at_call 56
  refine (HFI.out _ HR8.out.tabs).mono ?_
  rintro e w9 ⟨rfl, hB9⟩
  go_upto_region 10 with (fail)
  generalize Ins.oc ⟨iop, inar, ireg, isize, idst, isrc, ioff, iimm⟩ = ioc
  have hR9 := (HR8.out.below hB9).below (below_box _ (.cells (un5 ioc idst fs fo fi) 106))
  have hw9 := Blk.new w9 106 (un5 ioc idst fs fo fi)
  clear hB9 HFI HR8 d0 d1 d2 d3 d4 d5 d6 d7 u0 u1 u2 u3 u4 v0 v1 v2 v3 v4
  generalize (w9.alloc (.cells (un5 ioc idst fs fo fi) 106)) = W9 at *
  generalize w9.heap.size = gw at *
  obtain ⟨d0, d1, d2, d3, d4, d5, d6, d7, u0, u1, u2, u3, u4, v0, v1, v2, v3, v4, _⟩ := rs_cells hR9
  obtain ⟨x0, x1, x2, x3, x4, y0, y1, y2, y3, y4⟩ := cells5 hw9
  have HR9 := Lib.hid hR9
  clear hR9
  cases b1
  · go_wp2_with fail
    go_at_call 65
    refine (need_no _ _).mono ?_
    rintro e wn ⟨rfl, rfl⟩
    go_wp2_with fail
    exact ⟨rfl, rfl, HR9.out.but, HR9.out.rd⟩
  cases b2
  · go_wp2_with fail
    go_at_call 65
    refine (need_no _ _).mono ?_
    rintro e wn ⟨rfl, rfl⟩
    go_wp2_with fail
    exact ⟨rfl, rfl, HR9.out.but, HR9.out.rd⟩
  cases b3
  · go_wp2_with fail
    go_at_call 65
    refine (need_no _ _).mono ?_
    rintro e wn ⟨rfl, rfl⟩
    go_wp2_with fail
    exact ⟨rfl, rfl, HR9.out.but, HR9.out.rd⟩
  go_wp2_with fail
  go_at_call 65
  refine (need_yes _ _).mono ?_
  rintro e wn ⟨rfl, rfl⟩
  go_wp2_with fail
  rotate_left
  iterate 4 (go_at_call 65; refine (need_no _ _).mono ?_; rintro e wn ⟨rfl, rfl⟩; go_wp2_with fail; have hq0 : q = false := (by rw [← hqv]; simp only [Bool.and_eq_false_iff, beq_eq_false_iff_ne]; omega); subst hq0; exact ⟨rfl, rfl, HR9.out.but, HR9.out.rd⟩)
  have hq1 : q = true := by first | exact hqv.symm | (rw [← hqv]; simp only [Bool.and_eq_true, beq_iff_eq]; omega)
  clear hqv
  subst hq1
  go_at_call 65
  refine (need_yes _ _).mono ?_
  rintro e wn ⟨rfl, rfl⟩
  go_upto_region 12 with (fail)
  clear x0 x1 x2 x3 y0 y1 y2 y3 y4
  cases b6
  · go_wp2_with fail
    go_at_call 65
    refine (need_no _ _).mono ?_
    rintro e wn ⟨rfl, rfl⟩
    go_wp2_with fail
    exact ⟨rfl, rfl, HR9.out.but, HR9.out.rd⟩
  go_wp2_with fail
  go_at_call 96
  refine (HSZ.out _).mono ?_
  rintro e w10 ⟨rfl, hB⟩
  have hRa := HR9.out.below hB
  clear HR9 hB hw9 x4 d0 d1 d2 d3 d4 d5 d6 d7 u0 u1 u2 u3 u4 v0 v1 v2 v3 v4
  obtain ⟨d0, d1, d2, d3, d4, d5, d6, d7, u0, u1, u2, u3, u4, v0, v1, v2, v3, v4, _⟩ := rs_cells hRa
  have HRA := Lib.hid hRa
  clear hRa
  cases sz
  · go_wp2_with fail
    go_at_call 65
    refine (need_no _ _).mono ?_
    rintro e wn ⟨rfl, rfl⟩
    go_wp2_with fail
    exact ⟨rfl, rfl, HRA.out.but, HRA.out.rd⟩
  go_wp2_with fail
  go_at_call 97
  refine (HIM.out _).mono ?_
  rintro e w11 ⟨rfl, hB⟩
  have hRb := HRA.out.below hB
  clear HRA hB d0 d1 d2 d3 d4 d5 d6 d7 u0 u1 u2 u3 u4 v0 v1 v2 v3 v4
  obtain ⟨d0, d1, d2, d3, d4, d5, d6, d7, u0, u1, u2, u3, u4, v0, v1, v2, v3, v4, _⟩ := rs_cells hRb
  have HRB := Lib.hid hRb
  clear hRb
  cases im
  · go_wp2_with fail
    go_at_call 65
    refine (need_no _ _).mono ?_
    rintro e wn ⟨rfl, rfl⟩
    go_wp2_with fail
    exact ⟨rfl, rfl, HRB.out.but, HRB.out.rd⟩
  go_wp2_with fail
  go_at_call 65
  refine (need_yes _ _).mono ?_
  rintro e wn ⟨rfl, rfl⟩
  obtain ⟨⟨c0, c1, c2, c3, c4, c5, c6, c7⟩, f0, f1, f2, f3, f4, f5, f6, f7⟩ := cells8 HRB.out.res
  go_wp2_with fail
  exact bodyPost_ret (v := .agg (ins8 iop inar ireg isize idst isrc ioff iimm)) (results_cell_row Tryd.results66 _ _ w.heap.size 71 (ins8 iop inar ireg isize idst isrc ioff iimm) (0, 0) _ rfl (set8 HRB.out.res _ _ _ _ _ _ _ _) Tryd.underlying71 rfl (by kernel_rfl)) rfl ⟨rfl, but8 HRB.out.but (Nat.le_refl _) _ _ _ _ _ _ _ _, far8 q0 HRB.out.rd _ _ _ _ _ _ _ _⟩
end Go.Proofs.YtlodoinmippebaaDoor
