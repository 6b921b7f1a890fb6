/- Texts in one: CodeX CodeY. -/
import Derived.Test.YtlodoinmippebaaDoorCodeU
import Derived.Test.YtlodoinmippebaaDoorCodeT
/- Package code: the reader: more, next. -/
namespace Go.Proofs.YtlodoinmippebaaDoor
open Go.ChangeShapes Go.WideShapes Go.ChangeAt Go.RowKit
open Cod Bits
set_option linter.unusedVariables false

/-- what is kept but for one block: all that was there -/
structure But (g : Nat) (w w' : World) : Prop where
  os : w'.os = w.os
  tape : w'.tape = w.tape
  output : w'.output = w.output
  size : w.heap.size ≤ w'.heap.size
  block : ∀ k, k < w.heap.size → k ≠ g → w'.heap[k]? = w.heap[k]?
theorem But.refl (g : Nat) (w : World) : But g w w := ⟨rfl, rfl, rfl, Nat.le_refl _, fun _ _ _ => rfl⟩
theorem But.trans {g : Nat} {a b c : World} (h : But g a b) (k : But g b c) : But g a c :=
  ⟨k.os.trans h.os, k.tape.trans h.tape, k.output.trans h.output, Nat.le_trans h.size k.size, fun j hj hn => (k.block j (Nat.lt_of_lt_of_le hj h.size) hn).trans (h.block j hj hn)⟩
theorem But.of {g : Nat} {a b : World} (h : Below a.heap.size a b) : But g a b := ⟨h.os, h.tape, h.output, h.size, fun k hk _ => h.block k hk⟩
theorem But.then {g : Nat} {a b c : World} (h : But g a b) (k : Below b.heap.size b c) : But g a c := h.trans (.of k)
theorem But.setRow {g : Nat} {a b : World} (h : But g a b) (cs : Array Value) : But g a (b.setRow g cs) :=
  ⟨h.os, h.tape, h.output, by rw [setRow_size]; exact h.size, fun k hk hn => (setRow_other b g k cs hn).trans (h.block k hk hn)⟩
theorem But.setCell {g : Nat} {a b : World} (h : But g a b) (i : Nat) (v : Value) : But g a (b.setCell ⟨g, i, none⟩ v) :=
  ⟨h.os, h.tape, h.output, by simpa [World.setCell] using h.size, fun k hk hn => (Below.heap_setCell b ⟨g, i, none⟩ v k hn).trans (h.block k hk hn)⟩
theorem But.far {g b : Nat} {a w : World} (h : But g a w) (hb : a.heap.size ≤ b) (i : Nat) (v : Value) : But g a (w.setCell ⟨b, i, none⟩ v) :=
  ⟨h.os, h.tape, h.output, by simpa [World.setCell] using h.size, fun k hk hn => (Below.heap_setCell w ⟨b, i, none⟩ v k (by simp only; omega)).trans (h.block k hk hn)⟩
theorem But.alloc {g : Nat} {a b : World} (h : But g a b) (o : Obj) : But g a (b.alloc o) := h.then (below_box b o)
theorem But.drew {g : Nat} {a b : World} (h : But g a b) : But g a b.drew := ⟨h.os, h.tape, h.output, h.size, h.block⟩
theorem But.blk {g b : Nat} {w w' : World} {t : TypeId} {cs : Array Value} (h : But g w w') (hb : Blk w b t cs) (hne : b ≠ g) : Blk w' b t cs := (h.block b hb.lt hne).trans hb
theorem But.cell {g b o : Nat} {w w' : World} (h : But g w w') (hb : b < w.heap.size) (hne : b ≠ g) : w'.cell? ⟨b, o, none⟩ = w.cell? ⟨b, o, none⟩ := World.cell?_of_block (w := w) (h.block b hb hne)
theorem But.tabs {g : Nat} {w w' : World} (h : But g w w') (ht : Tabs w) (hg : 3 ≤ g) : Tabs w' := by
  have hl := ht.lt
  refine ⟨Nat.le_trans ht.lt h.size, fun i hi => ?_, fun i hi => ?_, fun i hi => ?_⟩
  · rw [h.cell (by show 0 < _; omega) (by show 0 ≠ _; omega)]; exact ht.sizes i hi
  · rw [h.cell (by show 1 < _; omega) (by show 1 ≠ _; omega)]; exact ht.joins i hi
  · rw [h.cell (by show 2 < _; omega) (by show 2 ≠ _; omega)]; exact ht.jumps i hi
theorem cells3 {w : World} {g : Nat} {t : TypeId} {a b c : Value} (h : Blk w g t #[a, b, c]) :
    (w.cell? ⟨g, 0, none⟩ = some a ∧ w.cell? ⟨g, 1, none⟩ = some b ∧ w.cell? ⟨g, 2, none⟩ = some c) ∧ (w.frozen? ⟨g, 0, none⟩ = false ∧ w.frozen? ⟨g, 1, none⟩ = false ∧ w.frozen? ⟨g, 2, none⟩ = false) := by
  refine ⟨⟨?_, ?_, ?_⟩, ⟨h.frozen 0, h.frozen 1, h.frozen 2⟩⟩ <;> rw [h.cell] <;> rfl
abbrev rd3 (A : Option Addr) (n c : Nat) (u bg : Int) : Array Value := #[.slice A n c, .int .i64 u, .int .i64 bg]

theorem rd_set {w : World} {g : Nat} {t : TypeId} {A : Option Addr} {n c : Nat} {u bg : Int} (h : Blk w g t (rd3 A n c u bg)) (A' : Option Addr) (n' c' : Nat) (u' : Int) : Blk ((w.setCell ⟨g, 0, none⟩ (.slice A' n' c')).setCell ⟨g, 1, none⟩ (.int .i64 u')) g t (rd3 A' n' c' u' bg) := by
  have h1 : Blk (w.setCell ⟨g, 0, none⟩ (.slice A' n' c')) g t (rd3 A' n' c' u bg) := h.set_ 0 _
  exact h1.set_ 1 _
theorem far5 {w : World} {g gz : Nat} (hne : g ≠ gz) {t : TypeId} {cs : Array Value} (h : Blk w g t cs) (a b c d e : Value) : Blk (((((w.setCell ⟨gz, 0, none⟩ a).setCell ⟨gz, 1, none⟩ b).setCell ⟨gz, 2, none⟩ c).setCell ⟨gz, 3, none⟩ d).setCell ⟨gz, 4, none⟩ e) g t cs :=
  ((((h.far (p := ⟨gz, 0, none⟩) hne _).far (p := ⟨gz, 1, none⟩) hne _).far (p := ⟨gz, 2, none⟩) hne _).far (p := ⟨gz, 3, none⟩) hne _).far (p := ⟨gz, 4, none⟩) hne _
theorem but7 {g gz : Nat} {a w : World} (h : But g a w) (hz : a.heap.size ≤ gz) (x y a0 b0 c0 d0 e0 : Value) : But g a (((((((w.setCell ⟨g, 0, none⟩ x).setCell ⟨g, 1, none⟩ y).setCell ⟨gz, 0, none⟩ a0).setCell ⟨gz, 1, none⟩ b0).setCell ⟨gz, 2, none⟩ c0).setCell ⟨gz, 3, none⟩ d0).setCell ⟨gz, 4, none⟩ e0) :=
  ((((((h.setCell 0 _).setCell 1 _).far hz 0 _).far hz 1 _).far hz 2 _).far hz 3 _).far hz 4 _

theorem more_any (g : Nat) (A : Option Addr) (n c : Nat) (u bg : Int) (w : World) (hb : Blk w g 112 (rd3 A n c u bg)) :
    Calls Tryd.prog 64 #[.pointer (some ⟨g, 0, none⟩)] w fun e w' => e = .returned (.bool (decide (0 < n))) ∧ w' = w.setCell ⟨g, 2, none⟩ (.int .i64 u) := by
  obtain ⟨⟨c0, c1, c2⟩, f0, f1, f2⟩ := cells3 hb
  clear hb
  go_enter Tryd.func64, Tryd.ntmps64
  go_wp2_with fail
  go_ret
  exact ⟨rfl, rfl⟩
set_option maxHeartbeats 1000000 in
theorem next_no (g : Nat) (A : Option Addr) (n c : Nat) (u bg : Int) (w : World) (hb : Blk w g 112 (rd3 A n c u bg)) (hn : n < 8) :
    Calls Tryd.prog 91 #[.pointer (some ⟨g, 0, none⟩)] w fun e w' => e = .panicked [{ v := .iface 34 (.int .i64 20), recovered := false }] ∧ Below w.heap.size w w' := by
  have hb1 := hb.alloc (.cells #[.int .i64 0, .int .i64 0, .int .i64 0, .int .i64 0, .int .i64 0] 106)
  obtain ⟨⟨c0, c1, c2⟩, f0, f1, f2⟩ := cells3 hb1
  have hd : decide ((8 : Int) ≤ (n : Int)) = false := by simp; omega
  clear hb hb1
  go_enter Tryd.func91, Tryd.ntmps91
  go_wp2_with fail
  go_at_call 65
  refine (need_no _ _).mono ?_
  rintro e w1 ⟨rfl, rfl⟩
  go_wp2_with fail
  exact ⟨rfl, rfl, below_box _ _⟩
set_option maxHeartbeats 1000000 in
theorem next_ok (g b off n c : Nat) (L : List Int) (u bg : Int) (w : World) (hb : Blk w g 112 (rd3 (some ⟨b, off, none⟩) n c u bg)) (hn : 8 ≤ n) (hc : n ≤ c) (hbl : b < w.heap.size) (hne : b ≠ g) (hlen : L.length = n) (hL : BytesL L)
    (hcell : ∀ i, i < L.length → w.cell? ⟨b, off + i, none⟩ = some (.int .u8 (L[i]?.getD 0))) (hu : 0 ≤ u ∧ u < 1152921504606846976) :
    Calls Tryd.prog 91 #[.pointer (some ⟨g, 0, none⟩)] w fun e w' => e = .returned (.agg #[.int .i64 (unitA L).oc, .int .i64 (unitA L).dst, .int .i64 (unitA L).src, .int .i64 (unitA L).off, .int .i64 (unitA L).imm]) ∧ But g w w' ∧
      Blk w' g 112 (rd3 (some (if c = 8 then ⟨b, off, none⟩ else ⟨b, off + 8, none⟩)) (n - 8) (c - 8) (u + 1) bg) := by
  have hb1 := hb.alloc (.cells #[.int .i64 0, .int .i64 0, .int .i64 0, .int .i64 0, .int .i64 0] 106)
  obtain ⟨⟨c0, c1, c2⟩, f0, f1, f2⟩ := cells3 hb1
  have hd : decide ((8 : Int) ≤ (n : Int)) = true := by simp; omega
  have hg := hb.lt
  have hP := Lib.hid (fun w1 (hB : Below w.heap.size w w1) (c : Nat) => parse_any b off c (gB L 0) (gB L 1) (gB L 2) (gB L 3) (gB L 4) (gB L 5) (gB L 6) (gB L 7) w1 (Nat.lt_of_lt_of_le hbl hB.size) (hL.g 0) (hL.g 1) (hL.g 2) (hL.g 3) (hL.g 4) (hL.g 5) (hL.g 6) (hL.g 7)
    ((hB.cell (p := ⟨b, off, none⟩) hbl).trans (hcell 0 (by omega))) ((hB.cell (p := ⟨b, off + 1, none⟩) hbl).trans (hcell 1 (by omega))) ((hB.cell (p := ⟨b, off + 2, none⟩) hbl).trans (hcell 2 (by omega))) ((hB.cell (p := ⟨b, off + 3, none⟩) hbl).trans (hcell 3 (by omega))) ((hB.cell (p := ⟨b, off + 4, none⟩) hbl).trans (hcell 4 (by omega))) ((hB.cell (p := ⟨b, off + 5, none⟩) hbl).trans (hcell 5 (by omega))) ((hB.cell (p := ⟨b, off + 6, none⟩) hbl).trans (hcell 6 (by omega))) ((hB.cell (p := ⟨b, off + 7, none⟩) hbl).trans (hcell 7 (by omega))))
  clear hcell hL
  go_enter Tryd.func91, Tryd.ntmps91
  go_wp2_with fail
  go_at_call 65
  refine (need_yes _ _).mono ?_
  rintro e w1 ⟨rfl, rfl⟩
  go_wp2_with fail
  go_at_call 116
  refine (hP.out _ (below_box _ _) c).mono ?_
  rintro e w1 ⟨rfl, hB⟩
  have hz : Blk w1 w.heap.size 106 #[.int .i64 0, .int .i64 0, .int .i64 0, .int .i64 0, .int .i64 0] := (Blk.new w _ _).below hB (by simp)
  have hrd : Blk w1 g 112 (rd3 (some ⟨b, off, none⟩) n c u bg) := hb1.below hB (by simp; omega)
  have hBB := Below.box hB
  clear c0 c1 c2 f0 f1 f2 hP hB hb1 hb
  have e0 : gB L 0 = (unitA L).oc := rfl
  have e1 : gB L 1 % 16 = (unitA L).dst := rfl
  have e2 : gB L 1 / 16 = (unitA L).src := rfl
  have e3 : off16 (gB L 2) (gB L 3) = (unitA L).off := rfl
  have e4 : imm32 (gB L 4) (gB L 5) (gB L 6) (gB L 7) = (unitA L).imm := rfl
  rw [e0, e1, e2, e3, e4]
  clear e0 e1 e2 e3 e4
  generalize hU : unitA L = U at *
  have HU := Lib.hid hU
  clear hU
  obtain ⟨oc, ud, us, uo, ui⟩ := U
  simp only
  have hrd1 := hrd.alloc (.cells #[.int .i64 oc, .int .i64 ud, .int .i64 us, .int .i64 uo, .int .i64 ui] 106)
  have hz1 := hz.alloc (.cells #[.int .i64 oc, .int .i64 ud, .int .i64 us, .int .i64 uo, .int .i64 ui] 106)
  have hu1 := Blk.new w1 106 #[.int .i64 oc, .int .i64 ud, .int .i64 us, .int .i64 uo, .int .i64 ui]
  have hk1 := (But.of (g := g) hBB).alloc (.cells #[.int .i64 oc, .int .i64 ud, .int .i64 us, .int .i64 uo, .int .i64 ui] 106)
  have hgu : g ≠ w1.heap.size := by have := hBB.size; omega
  have hzu : w.heap.size ≠ w1.heap.size := by have := hz.lt; omega
  have hgz : g ≠ w.heap.size := by omega
  clear hrd hz hBB
  go_upto_region 3 with (fail)
  generalize (w1.alloc (.cells #[.int .i64 oc, .int .i64 ud, .int .i64 us, .int .i64 uo, .int .i64 ui] 106)) = W2 at *
  generalize w1.heap.size = gu at *
  obtain ⟨⟨c0, c1, c2⟩, f0, f1, f2⟩ := cells3 hrd1
  obtain ⟨u0, u1, u2, u3, u4, k0, k1, k2, k3, k4⟩ := cells5 hu1
  obtain ⟨n0, n1, n2, n3, n4, q0, q1, q2, q3, q4⟩ := cells5 hz1
  have HZ := Lib.hid hz1
  have HRD := Lib.hid hrd1
  have HK := Lib.hid hk1
  clear hrd1 hz1 hu1 hk1
  go_wp2_with fail
  · exact bodyPost_ret (v := .agg #[.int .i64 oc, .int .i64 ud, .int .i64 us, .int .i64 uo, .int .i64 ui]) (results_cell_row Tryd.results91 _ _ w.heap.size 106 #[.int .i64 oc, .int .i64 ud, .int .i64 us, .int .i64 uo, .int .i64 ui] (0, 0) _ rfl (set5 ((HZ.out.far (p := ⟨g, 0, none⟩) hgz.symm _).far (p := ⟨g, 1, none⟩) hgz.symm _) _ _ _ _ _) Tryd.underlying106 rfl (by kernel_rfl)) rfl ⟨by rw [HU.out], but7 HK.out (Nat.le_refl _) _ _ _ _ _ _ _, far5 hgz (rd_set HRD.out _ _ _ _) _ _ _ _ _⟩
  · exact bodyPost_ret (v := .agg #[.int .i64 oc, .int .i64 ud, .int .i64 us, .int .i64 uo, .int .i64 ui]) (results_cell_row Tryd.results91 _ _ w.heap.size 106 #[.int .i64 oc, .int .i64 ud, .int .i64 us, .int .i64 uo, .int .i64 ui] (0, 0) _ rfl (set5 ((HZ.out.far (p := ⟨g, 0, none⟩) hgz.symm _).far (p := ⟨g, 1, none⟩) hgz.symm _) _ _ _ _ _) Tryd.underlying106 rfl (by kernel_rfl)) rfl ⟨by rw [HU.out], but7 HK.out (Nat.le_refl _) _ _ _ _ _ _ _, far5 hgz (rd_set HRD.out _ _ _ _) _ _ _ _ _⟩
end Go.Proofs.YtlodoinmippebaaDoor
/- Package code: chosen. -/
namespace Go.Proofs.YtlodoinmippebaaDoor
open Go.ChangeShapes Go.WideShapes Go.ChangeAt Go.RowKit
open Cod Bits
set_option linter.unusedVariables false

theorem blk_new3 (w : World) (a b : Obj) (t : TypeId) (cs : Array Value) : Blk (((w.alloc a).alloc b).alloc (.cells cs t)) (w.heap.size + 1 + 1) t cs := by
  have h := Blk.new ((w.alloc a).alloc b) t cs
  simpa using h
theorem below_box3 (w : World) (a b c : Obj) : Below w.heap.size w (((w.alloc a).alloc b).alloc c) := (below_box2 w a b).alloc (by simp; omega) c
abbrev un5 (oc ud us uo ui : Int) : Array Value := #[.int .i64 oc, .int .i64 ud, .int .i64 us, .int .i64 uo, .int .i64 ui]
def U.arr (u : U) : Array Value := un5 u.oc u.dst u.src u.off u.imm

set_option maxHeartbeats 1000000 in
theorem chosen_4y (nar reg : Bool) (size dst src off imm oc ud us uo ui : Int) (h : uo = 1) (w : World) :
    Calls Tryd.prog 94 #[.agg (ins8 4 nar reg size dst src off imm), .agg (un5 oc ud us uo ui)] w fun e w' => e = .returned (.agg (ins8 6 nar reg size dst src off imm)) ∧ Below w.heap.size w w' := by
  subst h
  go_enter Tryd.func94, Tryd.ntmps94
  · go_wp2_with fail
    exact bodyPost_ret (v := .agg (ins8 6 nar reg size dst src off imm)) (results_cell_row Tryd.results94 _ _ (w.heap.size + 1 + 1) 71 (ins8 6 nar reg size dst src off imm) (0, 0) _ rfl (blk_new3 w _ _ _ _) Tryd.underlying71 rfl (by kernel_rfl)) rfl ⟨rfl, below_box3 w _ _ _⟩
set_option maxHeartbeats 1000000 in
theorem chosen_4n (nar reg : Bool) (size dst src off imm oc ud us uo ui : Int) (h : uo ≠ 1) (w : World) :
    Calls Tryd.prog 94 #[.agg (ins8 4 nar reg size dst src off imm), .agg (un5 oc ud us uo ui)] w fun e w' => e = .returned (.agg (ins8 4 nar reg size dst src off imm)) ∧ Below w.heap.size w w' := by
  have t : (uo == 1) = false := by rw [beq_eq_false_iff_ne]; exact h
  go_enter Tryd.func94, Tryd.ntmps94
  · go_wp2_with fail
    exact bodyPost_ret (v := .agg (ins8 4 nar reg size dst src off imm)) (results_cell_row Tryd.results94 _ _ (w.heap.size + 1 + 1) 71 (ins8 4 nar reg size dst src off imm) (0, 0) _ rfl (blk_new3 w _ _ _ _) Tryd.underlying71 rfl (by kernel_rfl)) rfl ⟨rfl, below_box3 w _ _ _⟩
set_option maxHeartbeats 1000000 in
theorem chosen_5y (nar reg : Bool) (size dst src off imm oc ud us uo ui : Int) (h : uo = 1) (w : World) :
    Calls Tryd.prog 94 #[.agg (ins8 5 nar reg size dst src off imm), .agg (un5 oc ud us uo ui)] w fun e w' => e = .returned (.agg (ins8 7 nar reg size dst src off imm)) ∧ Below w.heap.size w w' := by
  subst h
  go_enter Tryd.func94, Tryd.ntmps94
  · go_wp2_with fail
    exact bodyPost_ret (v := .agg (ins8 7 nar reg size dst src off imm)) (results_cell_row Tryd.results94 _ _ (w.heap.size + 1 + 1) 71 (ins8 7 nar reg size dst src off imm) (0, 0) _ rfl (blk_new3 w _ _ _ _) Tryd.underlying71 rfl (by kernel_rfl)) rfl ⟨rfl, below_box3 w _ _ _⟩
set_option maxHeartbeats 1000000 in
theorem chosen_5n (nar reg : Bool) (size dst src off imm oc ud us uo ui : Int) (h : uo ≠ 1) (w : World) :
    Calls Tryd.prog 94 #[.agg (ins8 5 nar reg size dst src off imm), .agg (un5 oc ud us uo ui)] w fun e w' => e = .returned (.agg (ins8 5 nar reg size dst src off imm)) ∧ Below w.heap.size w w' := by
  have t : (uo == 1) = false := by rw [beq_eq_false_iff_ne]; exact h
  go_enter Tryd.func94, Tryd.ntmps94
  · go_wp2_with fail
    exact bodyPost_ret (v := .agg (ins8 5 nar reg size dst src off imm)) (results_cell_row Tryd.results94 _ _ (w.heap.size + 1 + 1) 71 (ins8 5 nar reg size dst src off imm) (0, 0) _ rfl (blk_new3 w _ _ _ _) Tryd.underlying71 rfl (by kernel_rfl)) rfl ⟨rfl, below_box3 w _ _ _⟩
set_option maxHeartbeats 1000000 in
theorem chosen_17 (nar reg : Bool) (size dst src off imm oc ud us uo ui : Int) (w : World) :
    Calls Tryd.prog 94 #[.agg (ins8 17 nar reg size dst src off imm), .agg (un5 oc ud us uo ui)] w fun e w' => e = .returned (.agg (ins8 17 nar reg ui dst src off imm)) ∧ Below w.heap.size w w' := by
  go_enter Tryd.func94, Tryd.ntmps94
  · go_wp2_with fail
    exact bodyPost_ret (v := .agg (ins8 17 nar reg ui dst src off imm)) (results_cell_row Tryd.results94 _ _ (w.heap.size + 1 + 1) 71 (ins8 17 nar reg ui dst src off imm) (0, 0) _ rfl (blk_new3 w _ _ _ _) Tryd.underlying71 rfl (by kernel_rfl)) rfl ⟨rfl, below_box3 w _ _ _⟩
set_option maxHeartbeats 1000000 in
theorem chosen_18 (nar reg : Bool) (size dst src off imm oc ud us uo ui : Int) (w : World) :
    Calls Tryd.prog 94 #[.agg (ins8 18 nar reg size dst src off imm), .agg (un5 oc ud us uo ui)] w fun e w' => e = .returned (.agg (ins8 18 nar reg ui dst src off imm)) ∧ Below w.heap.size w w' := by
  go_enter Tryd.func94, Tryd.ntmps94
  · go_wp2_with fail
    exact bodyPost_ret (v := .agg (ins8 18 nar reg ui dst src off imm)) (results_cell_row Tryd.results94 _ _ (w.heap.size + 1 + 1) 71 (ins8 18 nar reg ui dst src off imm) (0, 0) _ rfl (blk_new3 w _ _ _ _) Tryd.underlying71 rfl (by kernel_rfl)) rfl ⟨rfl, below_box3 w _ _ _⟩
set_option maxHeartbeats 1000000 in
theorem chosen_19 (nar reg : Bool) (size dst src off imm oc ud us uo ui : Int) (w : World) :
    Calls Tryd.prog 94 #[.agg (ins8 19 nar reg size dst src off imm), .agg (un5 oc ud us uo ui)] w fun e w' => e = .returned (.agg (ins8 19 nar reg ui dst src off imm)) ∧ Below w.heap.size w w' := by
  go_enter Tryd.func94, Tryd.ntmps94
  · go_wp2_with fail
    exact bodyPost_ret (v := .agg (ins8 19 nar reg ui dst src off imm)) (results_cell_row Tryd.results94 _ _ (w.heap.size + 1 + 1) 71 (ins8 19 nar reg ui dst src off imm) (0, 0) _ rfl (blk_new3 w _ _ _ _) Tryd.underlying71 rfl (by kernel_rfl)) rfl ⟨rfl, below_box3 w _ _ _⟩
set_option maxHeartbeats 1000000 in
theorem chosen_20y (nar reg : Bool) (size dst src off imm oc ud us uo ui : Int) (h : us = 6) (w : World) :
    Calls Tryd.prog 94 #[.agg (ins8 20 nar reg size dst src off imm), .agg (un5 oc ud us uo ui)] w fun e w' => e = .returned (.agg (ins8 21 nar reg size dst src off imm)) ∧ Below w.heap.size w w' := by
  subst h
  go_enter Tryd.func94, Tryd.ntmps94
  · go_wp2_with fail
    exact bodyPost_ret (v := .agg (ins8 21 nar reg size dst src off imm)) (results_cell_row Tryd.results94 _ _ (w.heap.size + 1 + 1) 71 (ins8 21 nar reg size dst src off imm) (0, 0) _ rfl (blk_new3 w _ _ _ _) Tryd.underlying71 rfl (by kernel_rfl)) rfl ⟨rfl, below_box3 w _ _ _⟩
set_option maxHeartbeats 1000000 in
theorem chosen_20n (nar reg : Bool) (size dst src off imm oc ud us uo ui : Int) (h : us ≠ 6) (w : World) :
    Calls Tryd.prog 94 #[.agg (ins8 20 nar reg size dst src off imm), .agg (un5 oc ud us uo ui)] w fun e w' => e = .returned (.agg (ins8 20 nar reg size dst src off imm)) ∧ Below w.heap.size w w' := by
  have t : (us == 6) = false := by rw [beq_eq_false_iff_ne]; exact h
  go_enter Tryd.func94, Tryd.ntmps94
  · go_wp2_with fail
    exact bodyPost_ret (v := .agg (ins8 20 nar reg size dst src off imm)) (results_cell_row Tryd.results94 _ _ (w.heap.size + 1 + 1) 71 (ins8 20 nar reg size dst src off imm) (0, 0) _ rfl (blk_new3 w _ _ _ _) Tryd.underlying71 rfl (by kernel_rfl)) rfl ⟨rfl, below_box3 w _ _ _⟩
set_option maxHeartbeats 1000000 in
theorem chosen_else (op : Int) (h : op ≠ 4 ∧ op ≠ 5 ∧ op ≠ 15 ∧ op ≠ 17 ∧ op ≠ 18 ∧ op ≠ 19 ∧ op ≠ 20) (nar reg : Bool) (size dst src off imm oc ud us uo ui : Int) (w : World) :
    Calls Tryd.prog 94 #[.agg (ins8 op nar reg size dst src off imm), .agg (un5 oc ud us uo ui)] w fun e w' => e = .returned (.agg (ins8 op nar reg size dst src off imm)) ∧ Below w.heap.size w w' := by
  have t4 : (op == 4) = false := by rw [beq_eq_false_iff_ne]; omega
  have t5 : (op == 5) = false := by rw [beq_eq_false_iff_ne]; omega
  have t15 : (op == 15) = false := by rw [beq_eq_false_iff_ne]; omega
  have t17 : (op == 17) = false := by rw [beq_eq_false_iff_ne]; omega
  have t18 : (op == 18) = false := by rw [beq_eq_false_iff_ne]; omega
  have t19 : (op == 19) = false := by rw [beq_eq_false_iff_ne]; omega
  have t20 : (op == 20) = false := by rw [beq_eq_false_iff_ne]; omega
  clear h
  go_enter Tryd.func94, Tryd.ntmps94
  · go_wp2_with fail
    exact bodyPost_ret (v := .agg (ins8 op nar reg size dst src off imm)) (results_cell_row Tryd.results94 _ _ (w.heap.size + 1 + 1) 71 (ins8 op nar reg size dst src off imm) (0, 0) _ rfl (blk_new3 w _ _ _ _) Tryd.underlying71 rfl (by kernel_rfl)) rfl ⟨rfl, below_box3 w _ _ _⟩
set_option maxHeartbeats 2000000 in
theorem chosen_15 (nar reg : Bool) (size dst src off imm oc ud us uo ui : Int) (w : World) :
    Calls Tryd.prog 94 #[.agg (ins8 15 nar reg size dst src off imm), .agg (un5 oc ud us uo ui)] w fun e w' => e = .returned (.agg (if operatesL 16 nar reg uo = true then ins8 16 nar reg uo 0 0 0 0 else ins8 15 nar reg size dst src off imm)) ∧ Below w.heap.size w w' := by
  have HO := Lib.hid (fun w => operates_any 16 nar reg uo 0 0 0 0 w)
  have hi := (((Blk.new w 71 (ins8 15 nar reg size dst src off imm)).alloc (.cells (un5 oc ud us uo ui) 106)).alloc (.cells (ins8 0 false false 0 0 0 0 0) 71)).alloc (.cells (ins8 16 nar reg uo 0 0 0 0) 71)
  have hr := (blk_new3 w (.cells (ins8 15 nar reg size dst src off imm) 71) (.cells (un5 oc ud us uo ui) 106) 71 (ins8 0 false false 0 0 0 0 0)).alloc (.cells (ins8 16 nar reg uo 0 0 0 0) 71)
  have hm : Blk ((((w.alloc (.cells (ins8 15 nar reg size dst src off imm) 71)).alloc (.cells (un5 oc ud us uo ui) 106)).alloc (.cells (ins8 0 false false 0 0 0 0 0) 71)).alloc (.cells (ins8 16 nar reg uo 0 0 0 0) 71)) (w.heap.size + 1 + 1 + 1) 71 (ins8 16 nar reg uo 0 0 0 0) := by
    have h := Blk.new (((w.alloc (.cells (ins8 15 nar reg size dst src off imm) 71)).alloc (.cells (un5 oc ud us uo ui) 106)).alloc (.cells (ins8 0 false false 0 0 0 0 0) 71)) 71 (ins8 16 nar reg uo 0 0 0 0)
    simpa using h
  have hB := (below_box3 w (.cells (ins8 15 nar reg size dst src off imm) 71) (.cells (un5 oc ud us uo ui) 106) (.cells (ins8 0 false false 0 0 0 0 0) 71)).alloc (by simp; omega) (.cells (ins8 16 nar reg uo 0 0 0 0) 71)
  have HI := Lib.hid hi
  have HR := Lib.hid hr
  have HM := Lib.hid hm
  have HB := Lib.hid hB
  clear hi hr hm hB
  generalize hl : operatesL 16 nar reg uo = ok at *
  clear hl
  go_enter Tryd.func94, Tryd.ntmps94
  go_wp2_with fail
  go_at_call 103
  refine (HO.out _).mono ?_
  rintro e w1 ⟨rfl, hB1⟩
  have hi := HI.out.below hB1 HI.out.lt
  have hr := HR.out.below hB1 HR.out.lt
  have hm := HM.out.below hB1 HM.out.lt
  have hB := HB.out.trans (hB1.mono HB.out.size)
  obtain ⟨⟨c0, c1, c2, c3, c4, c5, c6, c7⟩, f0, f1, f2, f3, f4, f5, f6, f7⟩ := cells8 hr
  obtain ⟨⟨d0, d1, d2, d3, d4, d5, d6, d7⟩, k0, k1, k2, k3, k4, k5, k6, k7⟩ := cells8 hm
  obtain ⟨⟨e0, e1, e2, e3, e4, e5, e6, e7⟩, l0, l1, l2, l3, l4, l5, l6, l7⟩ := cells8 hi
  have HS := Lib.hid (fun a b c d e f k l => set8 hr a b c d e f k l)
  have HW := Lib.hid (below8 (g := w.heap.size + 1 + 1) hB (by omega))
  clear hi hr hm hB hB1 HO HI HR HM HB
  cases ok
  · go_wp2_with fail
    exact bodyPost_ret (v := .agg (ins8 15 nar reg size dst src off imm)) (results_cell_row Tryd.results94 _ _ (w.heap.size + 1 + 1) 71 (ins8 15 nar reg size dst src off imm) (0, 0) _ rfl (HS.out _ _ _ _ _ _ _ _) Tryd.underlying71 rfl (by kernel_rfl)) rfl ⟨rfl, HW.out _ _ _ _ _ _ _ _⟩
  · go_wp2_with fail
    exact bodyPost_ret (v := .agg (ins8 16 nar reg uo 0 0 0 0)) (results_cell_row Tryd.results94 _ _ (w.heap.size + 1 + 1) 71 (ins8 16 nar reg uo 0 0 0 0) (0, 0) _ rfl (HS.out _ _ _ _ _ _ _ _) Tryd.underlying71 rfl (by kernel_rfl)) rfl ⟨rfl, HW.out _ _ _ _ _ _ _ _⟩
theorem chosen_any (i : Ins) (u : U) (w : World) :
    Calls Tryd.prog 94 #[.agg i.arr, .agg u.arr] w fun e w' => e = .returned (.agg (chosenL i u).arr) ∧ Below w.heap.size w w' := by
  obtain ⟨op, nar, reg, size, dst, src, off, imm⟩ := i
  obtain ⟨oc, ud, us, uo, ui⟩ := u
  unfold chosenL
  simp only
  by_cases h4 : op = 4
  · subst h4
    rw [if_pos rfl]
    by_cases h : uo = 1
    · rw [if_pos h]; exact chosen_4y nar reg size dst src off imm oc ud us uo ui h w
    · rw [if_neg h]; exact chosen_4n nar reg size dst src off imm oc ud us uo ui h w
  rw [if_neg h4]
  by_cases h5 : op = 5
  · subst h5
    rw [if_pos rfl]
    by_cases h : uo = 1
    · rw [if_pos h]; exact chosen_5y nar reg size dst src off imm oc ud us uo ui h w
    · rw [if_neg h]; exact chosen_5n nar reg size dst src off imm oc ud us uo ui h w
  rw [if_neg h5]
  by_cases h15 : op = 15
  · subst h15
    rw [if_pos rfl]
    refine (chosen_15 nar reg size dst src off imm oc ud us uo ui w).mono fun e w' ⟨h1, h2⟩ => ⟨?_, h2⟩
    rw [h1]
    split <;> rfl
  rw [if_neg h15]
  by_cases h17 : op = 17 ∨ op = 18 ∨ op = 19
  · rw [if_pos h17]
    rcases h17 with rfl | rfl | rfl
    · exact chosen_17 nar reg size dst src off imm oc ud us uo ui w
    · exact chosen_18 nar reg size dst src off imm oc ud us uo ui w
    · exact chosen_19 nar reg size dst src off imm oc ud us uo ui w
  rw [if_neg h17]
  by_cases h20 : op = 20
  · subst h20
    rw [if_pos rfl]
    by_cases h : us = 6
    · rw [if_pos h]; exact chosen_20y nar reg size dst src off imm oc ud us uo ui h w
    · rw [if_neg h]; exact chosen_20n nar reg size dst src off imm oc ud us uo ui h w
  rw [if_neg h20]
  exact chosen_else op ⟨h4, h5, h15, fun h => h17 (.inl h), fun h => h17 (.inr (.inl h)), fun h => h17 (.inr (.inr h)), h20⟩ nar reg size dst src off imm oc ud us uo ui w
end Go.Proofs.YtlodoinmippebaaDoor
