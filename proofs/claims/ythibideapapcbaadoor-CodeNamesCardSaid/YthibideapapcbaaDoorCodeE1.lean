/- Lists that are compared: instructions, numbers, bytes; where they are the same. -/
import Derived.Test.YthibideapapcbaaDoorCodeD4
import Derived.Deep.QuietTactic
namespace Go.Proofs.YthibideapapcbaaDoor
open Go.ChangeShapes Go.WideShapes Go.ChangeAt Go.RowKit
open Cod Bits
set_option linter.unusedVariables false
set_option linter.unusedSimpArgs false

set_option maxHeartbeats 2000000 in
theorem sameCode_yes (w : World) (A : Option Addr) (n c : Nat) (A' : Option Addr) (c' : Nat) (L : List Ins) (hL : L.length = n) (hn : n ≤ 4611686018427387904) (h : CodeAt w A L) (h' : CodeAt w A' L) :
    Calls Tryd.prog 47 #[.slice A n c, .slice A' n c'] w fun e w' => e = .returned (.bool true) ∧ Below w.heap.size w w' := by
  have HA := Lib.hid h
  have HA' := Lib.hid h'
  have HL := Lib.hid hL
  clear h h' hL
  go_enter Tryd.func47, Tryd.ntmps47
  go_wp2_with fail
  go_loopw [5] (fun i wr => ∃ j : Nat, j ≤ n ∧ i = .int .i64 j ∧ Below w.heap.size w wr) (fun i _ => (n - intOf i).toNat)
  case atStart => exact ⟨0, Nat.zero_le _, rfl, Below.refl _ _⟩
  case round =>
    obtain ⟨j, hj, rfl, hB⟩ := hrel
    by_cases hlt : j < n
    · have hlt' : (j : Int) < n := by omega
      obtain ⟨b, off, rfl, hbl, hc⟩ := HA.out (by have := HL.out; omega)
      obtain ⟨b', off', rfl, hbl', hc'⟩ := HA'.out (by have := HL.out; omega)
      obtain ⟨i, hi⟩ : ∃ i, L[j]? = some i := ⟨L[j]'(by have := HL.out; omega), List.getElem?_eq_getElem _⟩
      have hx := (hc j i hi).below hB hbl
      have hy := (hc' j i hi).below hB hbl'
      clear hc hc' hi
      obtain ⟨op, nar, reg, size, dst, src, io, imm⟩ := i
      obtain ⟨x0, x1, x2, x3, x4, x5, x6, x7⟩ := hx
      obtain ⟨y0, y1, y2, y3, y4, y5, y6, y7⟩ := hy
      simp only at x0 x1 x2 x3 x4 x5 x6 x7 y0 y1 y2 y3 y4 y5 y6 y7
      have HB := Lib.hid hB
      clear hB
      go_wp2_with fail
      go_quiet (fail)
      go_wp2_with fail
      go_roundw
      case rel => exact ⟨j + 1, by omega, by go_num, belowDrewN HB.out _⟩
      case measure => simp [intOf]; omega
    · have hlt' : decide ((j : Int) < n) = false := by simp; omega
      go_wp2_with fail
      go_ret
      exact ⟨rfl, hB⟩
set_option maxHeartbeats 2000000 in
theorem sameInts_yes (w : World) (A : Option Addr) (n c : Nat) (A' : Option Addr) (c' : Nat) (L : List Int) (hL : L.length = n) (hn : n ≤ 4611686018427387904) (h : IntsAt w A L) (h' : IntsAt w A' L) :
    Calls Tryd.prog 60 #[.slice A n c, .slice A' n c'] w fun e w' => e = .returned (.bool true) ∧ Below w.heap.size w w' := by
  have HA := Lib.hid h
  have HA' := Lib.hid h'
  have HL := Lib.hid hL
  clear h h' hL
  go_enter Tryd.func60, Tryd.ntmps60
  go_wp2_with fail
  go_loopw [5] (fun i wr => ∃ j : Nat, j ≤ n ∧ i = .int .i64 j ∧ Below w.heap.size w wr) (fun i _ => (n - intOf i).toNat)
  case atStart => exact ⟨0, Nat.zero_le _, rfl, Below.refl _ _⟩
  case round =>
    obtain ⟨j, hj, rfl, hB⟩ := hrel
    by_cases hlt : j < n
    · have hlt' : (j : Int) < n := by omega
      obtain ⟨b, off, rfl, hbl, hc⟩ := HA.out (by have := HL.out; omega)
      obtain ⟨b', off', rfl, hbl', hc'⟩ := HA'.out (by have := HL.out; omega)
      have x0 := (hB.cell (p := ⟨b, off + j, none⟩) hbl).trans (hc j (by have := HL.out; omega))
      have y0 := (hB.cell (p := ⟨b', off' + j, none⟩) hbl').trans (hc' j (by have := HL.out; omega))
      clear hc hc'
      generalize L[j]?.getD 0 = x at *
      have HB := Lib.hid hB
      clear hB
      go_wp2_with fail
      go_quiet (fail)
      go_wp2_with fail
      go_roundw
      case rel => exact ⟨j + 1, by omega, by go_num, belowDrewN HB.out _⟩
      case measure => simp [intOf]; omega
    · have hlt' : decide ((j : Int) < n) = false := by simp; omega
      go_wp2_with fail
      go_ret
      exact ⟨rfl, hB⟩
end Go.Proofs.YthibideapapcbaaDoor
