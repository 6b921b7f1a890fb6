/- Texts in one: CodeE1 CodeE2. -/
import Derived.Test.YtlodoinmippebaaDoorCodeD4
import Derived.Deep.QuietTactic
/- Lists that are compared: instructions, numbers, bytes; where they are the same. -/
namespace Go.Proofs.YtlodoinmippebaaDoor
open Go.ChangeShapes Go.WideShapes Go.ChangeAt Go.RowKit
open Cod Bits
set_option linter.unusedVariables false
set_option linter.unusedSimpArgs false

set_option maxHeartbeats 2000000 in
theorem sameCode_yes (w : World) (A : Option Addr) (n c : Nat) (A' : Option Addr) (c' : Nat) (L : List Ins) (hL : L.length = n) (hn : n ≤ 4611686018427387904) (h : CodeAt w A L) (h' : CodeAt w A' L) :
    Calls Tryd.prog 44 #[.slice A n c, .slice A' n c'] w fun e w' => e = .returned (.bool true) ∧ Below w.heap.size w w' := by
  have HA := Lib.hid h
  have HA' := Lib.hid h'
  have HL := Lib.hid hL
  clear h h' hL
  go_enter Tryd.func44, Tryd.ntmps44
  go_wp2_with fail
  go_loopw [5] (fun i wr => ∃ j : Nat, j ≤ n ∧ i = .int .i64 j ∧ Below w.heap.size w wr) (fun i _ => (n - intOf i).toNat)
  case atStart => exact ⟨0, Nat.zero_le _, rfl, Below.refl _ _⟩
  case round =>
    obtain ⟨j, hj, rfl, hB⟩ := hrel
    by_cases hlt : j < n
    · have hlt' : (j : Int) < n := by omega
      obtain ⟨b, off, rfl, hbl, hc⟩ := HA.out (by have := HL.out; omega)
      obtain ⟨b', off', rfl, hbl', hc'⟩ := HA'.out (by have := HL.out; omega)
      obtain ⟨i, hi⟩ : ∃ i, L[j]? = some i := ⟨L[j]'(by have := HL.out; omega), List.getElem?_eq_getElem _⟩
      have hx := (hc j i hi).below hB hbl
      have hy := (hc' j i hi).below hB hbl'
      clear hc hc' hi
      obtain ⟨op, nar, reg, size, dst, src, io, imm⟩ := i
      obtain ⟨x0, x1, x2, x3, x4, x5, x6, x7⟩ := hx
      obtain ⟨y0, y1, y2, y3, y4, y5, y6, y7⟩ := hy
      simp only at x0 x1 x2 x3 x4 x5 x6 x7 y0 y1 y2 y3 y4 y5 y6 y7
      have HB := Lib.hid hB
      clear hB
      go_wp2_with fail
      go_quiet (fail)
      go_wp2_with fail
      go_roundw
      case rel => exact ⟨j + 1, by omega, by go_num, belowDrewN HB.out _⟩
      case measure => simp [intOf]; omega
    · have hlt' : decide ((j : Int) < n) = false := by simp; omega
      go_wp2_with fail
      go_ret
      exact ⟨rfl, hB⟩
end Go.Proofs.YtlodoinmippebaaDoor
/- What the laws of package code ask first: one small program, both ways. -/
namespace Go.Proofs.YtlodoinmippebaaDoor
open Go.ChangeShapes Go.WideShapes Go.ChangeAt Go.RowKit
open Cod Bits
set_option linter.unusedVariables false
set_option linter.unusedSimpArgs false

def knownL : List Ins := [⟨15, false, false, 0, 0, 0, 0, 5⟩, ⟨20, false, false, 0, 4, 0, 0, 8589934591⟩, ⟨39, false, false, 0, 0, 0, 0, 0⟩]
def knownB : List Int := [183, 0, 0, 0, 5, 0, 0, 0, 24, 4, 0, 0, 255, 255, 255, 255, 0, 0, 0, 0, 1, 0, 0, 0, 149, 0, 0, 0, 0, 0, 0, 0]
theorem known_enc : encB knownL = knownB := by kernel_rfl
theorem known_chk : (checkL knownL 0).2 = 0 := by kernel_rfl
theorem known_dec : D knownB 0 0 = (0, 0, knownL) := by kernel_rfl
theorem known_cut : D (knownB.take 16) 0 0 = (20, 1, []) := by kernel_rfl
theorem known_units : unitsL knownL = [0, 1, 3, 4] := by kernel_rfl
theorem known_bytes : BytesL knownB := by
  intro x hx
  unfold knownB at hx
  simp only [List.mem_cons, List.not_mem_nil, or_false] at hx
  unfold IsB
  omega
/-- a long list of operations, laid in two pieces -/
theorem plain_list2 (P : Program) (i : Nat) (l m : List Oper) (b : Bool) (Q : Exit → Act → World → Prop) (a : Act) (w : World) : Code.wp P (Code.region i (l.append m).toArray b) Q a w = Code.wp P (Code.region i (l ++ m).toArray b) Q a w := rfl
theorem flat_getC : ∀ (L : List Ins) (j : Nat) (i : Ins), L[j]? = some i → ∀ k, k < 8 → (L.flatMap Ins.cells)[j * 8 + k]? = i.cells[k]?
  | [], j, i, h, _, _ => by simp at h
  | a :: t, 0, i, h, k, hk => by
    have e : a = i := by simpa using h
    subst e
    rw [List.flatMap_cons, List.getElem?_append_left (by simp [Ins.cells]; omega)]
    simp
  | a :: t, j + 1, i, h, k, hk => by
    have h2 : t[j]? = some i := by simpa using h
    have hl : a.cells.length = 8 := rfl
    rw [List.flatMap_cons, List.getElem?_append_right (by omega), hl, show (j + 1) * 8 + k - 8 = j * 8 + k by omega]
    exact flat_getC t j i h2 k hk
theorem codeAt_cells {w : World} {g : Nat} {L : List Ins} (hlt : g < w.heap.size) (h : ∀ m v, (L.flatMap Ins.cells)[m]? = some v → w.cell? ⟨g, m, none⟩ = some v) : CodeAt w (some ⟨g, 0, none⟩) L := fun _ =>
  ⟨g, 0, rfl, hlt, fun j i hi => by
    have k := flat_getC L j i hi
    rw [Nat.zero_add]
    exact ⟨h _ _ (k 0 (by decide)), h _ _ (k 1 (by decide)), h _ _ (k 2 (by decide)), h _ _ (k 3 (by decide)), h _ _ (k 4 (by decide)), h _ _ (k 5 (by decide)), h _ _ (k 6 (by decide)), h _ _ (k 7 (by decide))⟩⟩
theorem OwnI.codeAt {w : World} {base : Nat} {v : Value} {L : List Ins} (h : OwnI w base v L) : ∃ A c, v = .slice A L.length c ∧ CodeAt w A L := by
  rcases h.2 with ⟨hv, hn⟩ | ⟨g, cap, cur, hv, hg, hh, hnc, hcm, hcs, hx⟩
  · exact ⟨none, 0, by rw [hv, hn], fun hp => by omega⟩
  · have hlt : g < w.heap.size := by
      rcases Nat.lt_or_ge g w.heap.size with h1 | h1
      · exact h1
      · rw [Array.getElem?_eq_none h1] at hh; cases hh
    refine ⟨_, cap, hv, codeAt_cells hlt fun m u hm => ?_⟩
    rw [cell_of_row w g m cur 71 (0, 0) hh]
    rw [← hx] at hm
    have h2 : (cur.toList.take (L.length * 8))[m]? = some u := hm
    rw [List.getElem?_take] at h2
    split at h2
    · simpa using h2
    · cases h2
theorem left_of {w : World} {g n c : Nat} {L : List Int} (h : BytesAt w (some ⟨g, 0, none⟩) L) (hL : L.length = n) (hc : n ≤ c) (hb : BytesL L) : Left w w.heap.size (some ⟨g, 0, none⟩) n c L :=
  ⟨hL, hb, fun hn => by
    obtain ⟨b, off, e, hl, hx⟩ := h (by omega)
    exact ⟨hc, b, off, e, hl, hx⟩⟩
end Go.Proofs.YtlodoinmippebaaDoor
