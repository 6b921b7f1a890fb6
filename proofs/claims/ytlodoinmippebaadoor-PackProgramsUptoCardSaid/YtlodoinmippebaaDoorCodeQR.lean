/- Texts in one: CodeQ CodeR. -/
import Derived.Test.YtlodoinmippebaaDoorCodeP
import Derived.Test.YtlodoinmippebaaDoorCodeSS
import Derived.StillTailTactics
/- Package code: Units; need. -/
namespace Go.Proofs.YtlodoinmippebaaDoor
open Go.ChangeShapes Go.WideShapes Go.ChangeAt Go.RowKit
open Cod Bits
set_option linter.unusedVariables false

/-- the unit where instruction j begins -/
def uAt (L : List Ins) (j : Nat) : Int := (j : Int) + ((L.take j).filter isLong).length
def unitsL (L : List Ins) : List Int := (List.range (L.length + 1)).map (uAt L)
/-- the units, as far as place j -/
def uRow (L : List Ins) (n j : Nat) : List Int := (List.range (n + 1)).map fun k => if k ≤ j then uAt L k else 0
theorem uRow_length (L : List Ins) (n j : Nat) : (uRow L n j).length = n + 1 := by simp [uRow]
theorem uRow_start (L : List Ins) (n : Nat) : uRow L n 0 = zerosL (n + 1) := by
  refine List.ext_getElem (by simp [uRow, zerosL]) fun i h1 h2 => ?_
  simp only [uRow, zerosL, List.getElem_map, List.getElem_range, List.getElem_replicate]
  by_cases h : i ≤ 0
  · obtain rfl : i = 0 := by omega
    simp [uAt]
  · rw [if_neg h]
theorem uRow_step (L : List Ins) (n j : Nat) (h : j < n) : (uRow L n j).set (j + 1) (uAt L (j + 1)) = uRow L n (j + 1) := by
  refine List.ext_getElem (by simp [uRow]) fun i h1 h2 => ?_
  rw [List.getElem_set]
  simp only [uRow, List.getElem_map, List.getElem_range]
  by_cases e : j + 1 = i
  · subst e; simp
  · by_cases h3 : i ≤ j
    · simp [e, h3, show i ≤ j + 1 by omega]
    · simp [e, h3, show ¬ i ≤ j + 1 by omega]
theorem uRow_at (L : List Ins) (n j : Nat) (h : j ≤ n) : (uRow L n j)[j]?.getD 0 = uAt L j := by
  rw [List.getElem?_eq_getElem (by rw [uRow_length]; omega)]
  simp [uRow]
theorem uRow_end (L : List Ins) (n : Nat) (hL : L.length = n) : uRow L n n = unitsL L := by
  subst hL
  refine List.ext_getElem (by simp [uRow, unitsL]) fun i h1 h2 => ?_
  have : i < L.length + 1 := by rw [uRow_length] at h1; exact h1
  simp only [uRow, unitsL, List.getElem_map, List.getElem_range]
  rw [if_pos (by omega)]
theorem uAt_succ (L : List Ins) (j : Nat) (i : Ins) (h : L[j]? = some i) : uAt L (j + 1) = uAt L j + 1 + (if isLong i = true then 1 else 0) := by
  unfold uAt
  rw [List.take_add_one, h]
  simp only [Option.toList_some, List.filter_append, List.length_append, List.filter_cons, List.filter_nil]
  split <;> simp <;> omega
theorem uAt_rng (L : List Ins) (j : Nat) : 0 ≤ uAt L j ∧ uAt L j ≤ 2 * j := by
  unfold uAt
  have h1 := List.length_filter_le isLong (L.take j)
  have h2 := List.length_take_le j L
  omega

set_option maxHeartbeats 4000000 in
theorem units_any (w : World) (A : Option Addr) (n c : Nat) (L : List Ins) (hL : L.length = n) (hn : n ≤ 8796093022207) (h : CodeAt w A L) :
    Calls Tryd.prog 36 #[.slice A n c] w fun e w' => e = .returned (.slice (some ⟨w.heap.size, 0, none⟩) (n + 1) (n + 1)) ∧ IntBlk w' w.heap.size (unitsL L) ∧ Below w.heap.size w w' := by
  have hmk : ∀ w, (Instr.makeSlice 49 (.int .i64 ((n : Int) + 1)) (.int .i64 ((n : Int) + 1))).run Tryd.prog w = .ok (.slice (some ⟨w.heap.size, 0, none⟩) (n + 1) (n + 1)) (w.alloc (.cells ((zerosL (n + 1)).map (Value.int .i64)).toArray 3)) := fun w => by
    have := make_ints (n + 1) (by omega) w
    simpa using this
  have HA := Lib.hid h
  have HL := Lib.hid hL
  clear h hL
  go_enter Tryd.func36, Tryd.ntmps36
  go_wp2_with fail
  clear hmk
  go_loopw [4, 5, 12] (fun _ _ i wr => ∃ j : Nat, j ≤ n ∧ i = .int .i64 j ∧ IntBlk wr w.heap.size (uRow L n j) ∧ Below w.heap.size w wr) (fun _ _ i _ => (n - intOf i).toNat)
  case atStart => exact ⟨0, Nat.zero_le _, rfl, by rw [uRow_start]; exact IntBlk.new w _, (Below.refl _ _).alloc (Nat.le_refl _) _⟩
  case round =>
    obtain ⟨j, hj, rfl, hblk, hB⟩ := hrel
    by_cases hlt : j < n
    · have hlt' : (j : Int) < n := by omega
      obtain ⟨b, off, rfl, hbl, hc⟩ := HA.out (by have := HL.out; omega)
      obtain ⟨i, hi⟩ : ∃ i, L[j]? = some i := ⟨L[j]'(by have := HL.out; omega), List.getElem?_eq_getElem _⟩
      have hx := (hc j i hi).below hB hbl
      have hus := uAt_succ L j i hi
      have hur := uAt_rng L j
      have hstep := uRow_step L n j hlt
      obtain ⟨x0, x1, x2, x3, x4, x5, x6, x7⟩ := hx
      have HLO := Lib.hid (show isLong i = (i.op == 20 || i.op == 21) from rfl)
      have hgl := hblk.lt
      have hv1 := uRow_at L n j hj
      obtain ⟨old, hold⟩ : ∃ x, (uRow L n j)[j + 1]?.getD 0 = x := ⟨_, rfl⟩
      have c1 := hblk.cell j (by rw [uRow_length]; omega)
      have c2 := hblk.cell (j + 1) (by rw [uRow_length]; omega)
      rw [hv1] at c1
      rw [hold] at c2
      have f2 := hblk.frozen (j + 1)
      have HUS := Lib.hid hus
      have HSTEP := Lib.hid hstep
      have HSET := Lib.hid (fun u => hblk.set_ (j + 1) u)
      have HBB := Lib.hid hB
      have HLG := Lib.hid (fun w => long_any i.op w)
      have hjn : (j : Int) + 1 < n + 1 := by omega
      have hj0 : (0 : Int) ≤ (j : Int) + 1 := by omega
      have hjt : ((j : Int) + 1).toNat = j + 1 := by omega
      have hbx : Blk (wr.alloc (.cells i.cells.toArray 71)) wr.heap.size 71 i.cells.toArray := Blk.new _ _ _
      clear hc hi hus hstep hv1 hold hblk hB hbx
      generalize isLong i = lo at *
      obtain ⟨op, nar, reg, size, dst, src, io, imm⟩ := i
      simp only at x0 x1 x2 x3 x4 x5 x6 x7
      have hlo : lo = (op == 20 || op == 21) := HLO.out
      rw [← hlo] at HLG
      clear hlo
      generalize hua : uAt L j = ua at *
      have HUA := Lib.hid hua
      clear hua
      obtain ⟨hur1, hur2⟩ := hur
      cases lo
      · go_wp2_with fail
        refine (HLG.out _).mono ?_
        rintro e w' ⟨rfl, rfl⟩
        go_wp2_with fail
        go_roundw
        case rel =>
          refine ⟨j + 1, by omega, by go_num, ?_, ?_⟩
          · have h1 := HSET.out (ua + 1)
            have h2 : uAt L (j + 1) = ua + 1 := by rw [HUS.out]; simp
            rw [← h2, HSTEP.out] at h1
            rw [← h2]
            exact h1.below (below_box _ _) h1.lt
          · exact (HBB.out.setCell (p := ⟨w.heap.size, j + 1, none⟩) (Nat.le_refl _) _).alloc (by have := HBB.out.size; simp [World.setCell]; omega) _
        case measure => simp [intOf]; omega
      · go_wp2_with fail
        refine (HLG.out _).mono ?_
        rintro e w' ⟨rfl, rfl⟩
        go_wp2_with fail
        go_roundw
        case rel =>
          refine ⟨j + 1, by omega, by go_num, ?_, ?_⟩
          · have h1 := HSET.out (ua + 1)
            have h1 := h1.set_ (j + 1) (ua + 1 + 1)
            rw [List.set_set] at h1
            have h2 : uAt L (j + 1) = ua + 1 + 1 := by rw [HUS.out]; simp
            rw [← h2, HSTEP.out] at h1
            first
              | exact h1.below (below_box _ _) h1.lt
              | (rw [← h2]; exact h1.below (below_box _ _) h1.lt)
          · first
              | exact (HBB.out.setCell (p := ⟨w.heap.size, j + 1, none⟩) (Nat.le_refl _) _).alloc (by have := HBB.out.size; simp [World.setCell]; omega) _
              | exact ((HBB.out.setCell (p := ⟨w.heap.size, j + 1, none⟩) (Nat.le_refl _) _).setCell (p := ⟨w.heap.size, j + 1, none⟩) (Nat.le_refl _) _).alloc (by have := HBB.out.size; simp [World.setCell]; omega) _
        case measure => simp [intOf]; omega
    · have hlt' : decide (j < n) = false := by simp; omega
      obtain rfl : j = n := by omega
      rw [uRow_end L j HL.out] at hblk
      have HI := Lib.hid hblk
      clear hblk
      go_wp2_with fail
      go_ret
      exact ⟨rfl, HI.out, hB⟩
end Go.Proofs.YtlodoinmippebaaDoor
/- Package code: need; what the end of parse leaves. -/
namespace Go.Proofs.YtlodoinmippebaaDoor
open Go.ChangeShapes Go.WideShapes Go.ChangeAt Go.RowKit
open Cod Bits
set_option linter.unusedVariables false

theorem need_yes (x : Int) (w : World) : Calls Tryd.prog 65 #[.bool true, .int .i64 x] w fun e w' => e = .returned (.tuple #[]) ∧ w = w' := by
  go_enter Tryd.func65, Tryd.ntmps65
  go_wp2_with fail
  go_end0
  exact ⟨rfl, rfl⟩
theorem need_no (x : Int) (w : World) : Calls Tryd.prog 65 #[.bool false, .int .i64 x] w fun e w' => e = .panicked [{ v := .iface 34 (.int .i64 x), recovered := false }] ∧ w = w' := by
  go_enter Tryd.func65, Tryd.ntmps65
  go_wp2_with fail
  exact ⟨rfl, rfl, rfl⟩
theorem cell_kept {w : World} {o : Obj} {b k : Nat} {v : Value} (hb : b < w.heap.size) (h : w.cell? ⟨b, k, none⟩ = some v) : (w.alloc o).cell? ⟨b, k, none⟩ = some v := by
  rw [(below_box w o).cell (p := ⟨b, k, none⟩) hb]; exact h
theorem below_drew1 {B : Nat} {a w : World} (h : Below B a w) : Below B a w.drew := ⟨h.os, h.tape, h.output, h.size, h.block⟩
theorem parse_end (w W : World) (tmps : Array Value) (hp : tmps.getD 2 undef = .pointer (some ⟨w.heap.size, 0, none⟩)) (x0 x1 x2 x3 x4 y0 y1 y2 y3 y4 : Int)
    (hr : Blk W w.heap.size 106 #[.int .i64 x0, .int .i64 x1, .int .i64 x2, .int .i64 x3, .int .i64 x4]) (hB : Below w.heap.size w W)
    (h0 : x0 = y0) (h1 : x1 = y1) (h2 : x2 = y2) (h3 : x3 = y3) (h4 : x4 = y4) :
    bodyPost Tryd.prog Tryd.f116 (fun e w' => e = .returned (.agg #[.int .i64 y0, .int .i64 y1, .int .i64 y2, .int .i64 y3, .int .i64 y4]) ∧ Below w.heap.size w w') .ret { tmps := tmps, defers := [] } W := by
  subst h0 h1 h2 h3 h4
  exact bodyPost_ret (v := .agg #[.int .i64 x0, .int .i64 x1, .int .i64 x2, .int .i64 x3, .int .i64 x4]) (results_cell_row Tryd.results116 tmps W w.heap.size 106 #[.int .i64 x0, .int .i64 x1, .int .i64 x2, .int .i64 x3, .int .i64 x4] (0, 0) _ hp hr Tryd.underlying106 rfl (by kernel_rfl)) rfl ⟨rfl, hB⟩
theorem wpList_drewC {P : Program} {ops : Array Oper} {Q : Exit → Act → World → Prop} {l : List Oper} {a : Act} {W : World} (h : wpList P ops Q l a W.drew) :
    wpList P ops Q l a { heap := W.heap, tape := W.tape, drawn := W.drawn + 1, os := W.os, output := W.output } := h
theorem wpList_act {P : Program} {ops : Array Oper} {Q : Exit → Act → World → Prop} {l : List Oper} {w : World} {tm : Array Value} {d} (p2 p51 : Value)
    (h : ∀ (ops' : Array Oper) (tm' : Array Value), tm'.getD 2 undef = p2 → tm'.getD 51 undef = p51 → tm'[2]?.getD undef = p2 → tm'[51]?.getD undef = p51 → wpList P ops' Q l { tmps := tm', defers := d } w)
    (h2 : tm.getD 2 undef = p2) (h51 : tm.getD 51 undef = p51) : wpList P ops Q l { tmps := tm, defers := d } w :=
  h ops tm h2 h51 (by rw [← h2]; simp) (by rw [← h51]; simp)
end Go.Proofs.YtlodoinmippebaaDoor
