/- Package code: the reader: more, next. -/
import Derived.Test.YtlodoinmippebaaDoorCodeU
import Derived.Test.YtlodoinmippebaaDoorCodeT
namespace Go.Proofs.YtlodoinmippebaaDoor
open Go.ChangeShapes Go.WideShapes Go.ChangeAt Go.RowKit
open Cod Bits
set_option linter.unusedVariables false

/-- what is kept but for one block: all that was there -/
structure But (g : Nat) (w w' : World) : Prop where
  os : w'.os = w.os
  tape : w'.tape = w.tape
  output : w'.output = w.output
  size : w.heap.size ≤ w'.heap.size
  block : ∀ k, k < w.heap.size → k ≠ g → w'.heap[k]? = w.heap[k]?
theorem But.refl (g : Nat) (w : World) : But g w w := ⟨rfl, rfl, rfl, Nat.le_refl _, fun _ _ _ => rfl⟩
theorem But.trans {g : Nat} {a b c : World} (h : But g a b) (k : But g b c) : But g a c :=
  ⟨k.os.trans h.os, k.tape.trans h.tape, k.output.trans h.output, Nat.le_trans h.size k.size, fun j hj hn => (k.block j (Nat.lt_of_lt_of_le hj h.size) hn).trans (h.block j hj hn)⟩
theorem But.of {g : Nat} {a b : World} (h : Below a.heap.size a b) : But g a b := ⟨h.os, h.tape, h.output, h.size, fun k hk _ => h.block k hk⟩
theorem But.then {g : Nat} {a b c : World} (h : But g a b) (k : Below b.heap.size b c) : But g a c := h.trans (.of k)
theorem But.setRow {g : Nat} {a b : World} (h : But g a b) (cs : Array Value) : But g a (b.setRow g cs) :=
  ⟨h.os, h.tape, h.output, by rw [setRow_size]; exact h.size, fun k hk hn => (setRow_other b g k cs hn).trans (h.block k hk hn)⟩
theorem But.setCell {g : Nat} {a b : World} (h : But g a b) (i : Nat) (v : Value) : But g a (b.setCell ⟨g, i, none⟩ v) :=
  ⟨h.os, h.tape, h.output, by simpa [World.setCell] using h.size, fun k hk hn => (Below.heap_setCell b ⟨g, i, none⟩ v k hn).trans (h.block k hk hn)⟩
theorem But.far {g b : Nat} {a w : World} (h : But g a w) (hb : a.heap.size ≤ b) (i : Nat) (v : Value) : But g a (w.setCell ⟨b, i, none⟩ v) :=
  ⟨h.os, h.tape, h.output, by simpa [World.setCell] using h.size, fun k hk hn => (Below.heap_setCell w ⟨b, i, none⟩ v k (by simp only; omega)).trans (h.block k hk hn)⟩
theorem But.alloc {g : Nat} {a b : World} (h : But g a b) (o : Obj) : But g a (b.alloc o) := h.then (below_box b o)
theorem But.drew {g : Nat} {a b : World} (h : But g a b) : But g a b.drew := ⟨h.os, h.tape, h.output, h.size, h.block⟩
theorem But.blk {g b : Nat} {w w' : World} {t : TypeId} {cs : Array Value} (h : But g w w') (hb : Blk w b t cs) (hne : b ≠ g) : Blk w' b t cs := (h.block b hb.lt hne).trans hb
theorem But.cell {g b o : Nat} {w w' : World} (h : But g w w') (hb : b < w.heap.size) (hne : b ≠ g) : w'.cell? ⟨b, o, none⟩ = w.cell? ⟨b, o, none⟩ := World.cell?_of_block (w := w) (h.block b hb hne)
theorem But.tabs {g : Nat} {w w' : World} (h : But g w w') (ht : Tabs w) (hg : 3 ≤ g) : Tabs w' := by
  have hl := ht.lt
  refine ⟨Nat.le_trans ht.lt h.size, fun i hi => ?_, fun i hi => ?_, fun i hi => ?_⟩
  · rw [h.cell (by show 0 < _; omega) (by show 0 ≠ _; omega)]; exact ht.sizes i hi
  · rw [h.cell (by show 1 < _; omega) (by show 1 ≠ _; omega)]; exact ht.joins i hi
  · rw [h.cell (by show 2 < _; omega) (by show 2 ≠ _; omega)]; exact ht.jumps i hi
theorem cells3 {w : World} {g : Nat} {t : TypeId} {a b c : Value} (h : Blk w g t #[a, b, c]) :
    (w.cell? ⟨g, 0, none⟩ = some a ∧ w.cell? ⟨g, 1, none⟩ = some b ∧ w.cell? ⟨g, 2, none⟩ = some c) ∧ (w.frozen? ⟨g, 0, none⟩ = false ∧ w.frozen? ⟨g, 1, none⟩ = false ∧ w.frozen? ⟨g, 2, none⟩ = false) := by
  refine ⟨⟨?_, ?_, ?_⟩, ⟨h.frozen 0, h.frozen 1, h.frozen 2⟩⟩ <;> rw [h.cell] <;> rfl
abbrev rd3 (A : Option Addr) (n c : Nat) (u bg : Int) : Array Value := #[.slice A n c, .int .i64 u, .int .i64 bg]

theorem rd_set {w : World} {g : Nat} {t : TypeId} {A : Option Addr} {n c : Nat} {u bg : Int} (h : Blk w g t (rd3 A n c u bg)) (A' : Option Addr) (n' c' : Nat) (u' : Int) : Blk ((w.setCell ⟨g, 0, none⟩ (.slice A' n' c')).setCell ⟨g, 1, none⟩ (.int .i64 u')) g t (rd3 A' n' c' u' bg) := by
  have h1 : Blk (w.setCell ⟨g, 0, none⟩ (.slice A' n' c')) g t (rd3 A' n' c' u bg) := h.set_ 0 _
  exact h1.set_ 1 _
theorem far5 {w : World} {g gz : Nat} (hne : g ≠ gz) {t : TypeId} {cs : Array Value} (h : Blk w g t cs) (a b c d e : Value) : Blk (((((w.setCell ⟨gz, 0, none⟩ a).setCell ⟨gz, 1, none⟩ b).setCell ⟨gz, 2, none⟩ c).setCell ⟨gz, 3, none⟩ d).setCell ⟨gz, 4, none⟩ e) g t cs :=
  ((((h.far (p := ⟨gz, 0, none⟩) hne _).far (p := ⟨gz, 1, none⟩) hne _).far (p := ⟨gz, 2, none⟩) hne _).far (p := ⟨gz, 3, none⟩) hne _).far (p := ⟨gz, 4, none⟩) hne _
theorem but7 {g gz : Nat} {a w : World} (h : But g a w) (hz : a.heap.size ≤ gz) (x y a0 b0 c0 d0 e0 : Value) : But g a (((((((w.setCell ⟨g, 0, none⟩ x).setCell ⟨g, 1, none⟩ y).setCell ⟨gz, 0, none⟩ a0).setCell ⟨gz, 1, none⟩ b0).setCell ⟨gz, 2, none⟩ c0).setCell ⟨gz, 3, none⟩ d0).setCell ⟨gz, 4, none⟩ e0) :=
  ((((((h.setCell 0 _).setCell 1 _).far hz 0 _).far hz 1 _).far hz 2 _).far hz 3 _).far hz 4 _

theorem more_any (g : Nat) (A : Option Addr) (n c : Nat) (u bg : Int) (w : World) (hb : Blk w g 112 (rd3 A n c u bg)) :
    Calls Tryd.prog 64 #[.pointer (some ⟨g, 0, none⟩)] w fun e w' => e = .returned (.bool (decide (0 < n))) ∧ w' = w.setCell ⟨g, 2, none⟩ (.int .i64 u) := by
  obtain ⟨⟨c0, c1, c2⟩, f0, f1, f2⟩ := cells3 hb
  clear hb
  go_enter Tryd.func64, Tryd.ntmps64
  go_wp2_with fail
  go_ret
  exact ⟨rfl, rfl⟩
set_option maxHeartbeats 1000000 in
theorem next_no (g : Nat) (A : Option Addr) (n c : Nat) (u bg : Int) (w : World) (hb : Blk w g 112 (rd3 A n c u bg)) (hn : n < 8) :
    Calls Tryd.prog 91 #[.pointer (some ⟨g, 0, none⟩)] w fun e w' => e = .panicked [{ v := .iface 34 (.int .i64 20), recovered := false }] ∧ Below w.heap.size w w' := by
  have hb1 := hb.alloc (.cells #[.int .i64 0, .int .i64 0, .int .i64 0, .int .i64 0, .int .i64 0] 106)
  obtain ⟨⟨c0, c1, c2⟩, f0, f1, f2⟩ := cells3 hb1
  have hd : decide ((8 : Int) ≤ (n : Int)) = false := by simp; omega
  clear hb hb1
  go_enter Tryd.func91, Tryd.ntmps91
  go_wp2_with fail
  go_at_call 65
  refine (need_no _ _).mono ?_
  rintro e w1 ⟨rfl, rfl⟩
  go_wp2_with fail
  exact ⟨rfl, rfl, below_box _ _⟩
set_option maxHeartbeats 1000000 in
theorem next_ok (g b off n c : Nat) (L : List Int) (u bg : Int) (w : World) (hb : Blk w g 112 (rd3 (some ⟨b, off, none⟩) n c u bg)) (hn : 8 ≤ n) (hc : n ≤ c) (hbl : b < w.heap.size) (hne : b ≠ g) (hlen : L.length = n) (hL : BytesL L)
    (hcell : ∀ i, i < L.length → w.cell? ⟨b, off + i, none⟩ = some (.int .u8 (L[i]?.getD 0))) (hu : 0 ≤ u ∧ u < 1152921504606846976) :
    Calls Tryd.prog 91 #[.pointer (some ⟨g, 0, none⟩)] w fun e w' => e = .returned (.agg #[.int .i64 (unitA L).oc, .int .i64 (unitA L).dst, .int .i64 (unitA L).src, .int .i64 (unitA L).off, .int .i64 (unitA L).imm]) ∧ But g w w' ∧
      Blk w' g 112 (rd3 (some (if c = 8 then ⟨b, off, none⟩ else ⟨b, off + 8, none⟩)) (n - 8) (c - 8) (u + 1) bg) := by
  have hb1 := hb.alloc (.cells #[.int .i64 0, .int .i64 0, .int .i64 0, .int .i64 0, .int .i64 0] 106)
  obtain ⟨⟨c0, c1, c2⟩, f0, f1, f2⟩ := cells3 hb1
  have hd : decide ((8 : Int) ≤ (n : Int)) = true := by simp; omega
  have hg := hb.lt
  have hP := Lib.hid (fun w1 (hB : Below w.heap.size w w1) (c : Nat) => parse_any b off c (gB L 0) (gB L 1) (gB L 2) (gB L 3) (gB L 4) (gB L 5) (gB L 6) (gB L 7) w1 (Nat.lt_of_lt_of_le hbl hB.size) (hL.g 0) (hL.g 1) (hL.g 2) (hL.g 3) (hL.g 4) (hL.g 5) (hL.g 6) (hL.g 7)
    ((hB.cell (p := ⟨b, off, none⟩) hbl).trans (hcell 0 (by omega))) ((hB.cell (p := ⟨b, off + 1, none⟩) hbl).trans (hcell 1 (by omega))) ((hB.cell (p := ⟨b, off + 2, none⟩) hbl).trans (hcell 2 (by omega))) ((hB.cell (p := ⟨b, off + 3, none⟩) hbl).trans (hcell 3 (by omega))) ((hB.cell (p := ⟨b, off + 4, none⟩) hbl).trans (hcell 4 (by omega))) ((hB.cell (p := ⟨b, off + 5, none⟩) hbl).trans (hcell 5 (by omega))) ((hB.cell (p := ⟨b, off + 6, none⟩) hbl).trans (hcell 6 (by omega))) ((hB.cell (p := ⟨b, off + 7, none⟩) hbl).trans (hcell 7 (by omega))))
  clear hcell hL
  go_enter Tryd.func91, Tryd.ntmps91
  go_wp2_with fail
  go_at_call 65
  refine (need_yes _ _).mono ?_
  rintro e w1 ⟨rfl, rfl⟩
  go_wp2_with fail
  go_at_call 116
  refine (hP.out _ (below_box _ _) c).mono ?_
  rintro e w1 ⟨rfl, hB⟩
  have hz : Blk w1 w.heap.size 106 #[.int .i64 0, .int .i64 0, .int .i64 0, .int .i64 0, .int .i64 0] := (Blk.new w _ _).below hB (by simp)
  have hrd : Blk w1 g 112 (rd3 (some ⟨b, off, none⟩) n c u bg) := hb1.below hB (by simp; omega)
  have hBB := Below.box hB
  clear c0 c1 c2 f0 f1 f2 hP hB hb1 hb
  have e0 : gB L 0 = (unitA L).oc := rfl
  have e1 : gB L 1 % 16 = (unitA L).dst := rfl
  have e2 : gB L 1 / 16 = (unitA L).src := rfl
  have e3 : off16 (gB L 2) (gB L 3) = (unitA L).off := rfl
  have e4 : imm32 (gB L 4) (gB L 5) (gB L 6) (gB L 7) = (unitA L).imm := rfl
  rw [e0, e1, e2, e3, e4]
  clear e0 e1 e2 e3 e4
  generalize hU : unitA L = U at *
  have HU := Lib.hid hU
  clear hU
  obtain ⟨oc, ud, us, uo, ui⟩ := U
  simp only
  have hrd1 := hrd.alloc (.cells #[.int .i64 oc, .int .i64 ud, .int .i64 us, .int .i64 uo, .int .i64 ui] 106)
  have hz1 := hz.alloc (.cells #[.int .i64 oc, .int .i64 ud, .int .i64 us, .int .i64 uo, .int .i64 ui] 106)
  have hu1 := Blk.new w1 106 #[.int .i64 oc, .int .i64 ud, .int .i64 us, .int .i64 uo, .int .i64 ui]
  have hk1 := (But.of (g := g) hBB).alloc (.cells #[.int .i64 oc, .int .i64 ud, .int .i64 us, .int .i64 uo, .int .i64 ui] 106)
  have hgu : g ≠ w1.heap.size := by have := hBB.size; omega
  have hzu : w.heap.size ≠ w1.heap.size := by have := hz.lt; omega
  have hgz : g ≠ w.heap.size := by omega
  clear hrd hz hBB
  go_upto_region 3 with (fail)
  generalize (w1.alloc (.cells #[.int .i64 oc, .int .i64 ud, .int .i64 us, .int .i64 uo, .int .i64 ui] 106)) = W2 at *
  generalize w1.heap.size = gu at *
  obtain ⟨⟨c0, c1, c2⟩, f0, f1, f2⟩ := cells3 hrd1
  obtain ⟨u0, u1, u2, u3, u4, k0, k1, k2, k3, k4⟩ := cells5 hu1
  obtain ⟨n0, n1, n2, n3, n4, q0, q1, q2, q3, q4⟩ := cells5 hz1
  have HZ := Lib.hid hz1
  have HRD := Lib.hid hrd1
  have HK := Lib.hid hk1
  clear hrd1 hz1 hu1 hk1
  go_wp2_with fail
  · exact bodyPost_ret (v := .agg #[.int .i64 oc, .int .i64 ud, .int .i64 us, .int .i64 uo, .int .i64 ui]) (results_cell_row Tryd.results91 _ _ w.heap.size 106 #[.int .i64 oc, .int .i64 ud, .int .i64 us, .int .i64 uo, .int .i64 ui] (0, 0) _ rfl (set5 ((HZ.out.far (p := ⟨g, 0, none⟩) hgz.symm _).far (p := ⟨g, 1, none⟩) hgz.symm _) _ _ _ _ _) Tryd.underlying106 rfl (by kernel_rfl)) rfl ⟨by rw [HU.out], but7 HK.out (Nat.le_refl _) _ _ _ _ _ _ _, far5 hgz (rd_set HRD.out _ _ _ _) _ _ _ _ _⟩
  · exact bodyPost_ret (v := .agg #[.int .i64 oc, .int .i64 ud, .int .i64 us, .int .i64 uo, .int .i64 ui]) (results_cell_row Tryd.results91 _ _ w.heap.size 106 #[.int .i64 oc, .int .i64 ud, .int .i64 us, .int .i64 uo, .int .i64 ui] (0, 0) _ rfl (set5 ((HZ.out.far (p := ⟨g, 0, none⟩) hgz.symm _).far (p := ⟨g, 1, none⟩) hgz.symm _) _ _ _ _ _) Tryd.underlying106 rfl (by kernel_rfl)) rfl ⟨by rw [HU.out], but7 HK.out (Nat.le_refl _) _ _ _ _ _ _ _, far5 hgz (rd_set HRD.out _ _ _ _) _ _ _ _ _⟩
end Go.Proofs.YtlodoinmippebaaDoor
