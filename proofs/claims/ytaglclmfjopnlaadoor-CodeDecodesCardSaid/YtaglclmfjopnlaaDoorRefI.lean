/- Right of one instruction and Check of a list, of the document's answer for package code: they say what package code says. -/
import Derived.Test.YtaglclmfjopnlaaDoorRefH
namespace Go.Proofs.YtaglclmfjopnlaaDoor
open Go.ChangeShapes Go.WideShapes Go.ChangeAt Go.RowKit
open Cod Bits
set_option linter.unusedVariables false
set_option linter.unusedSimpArgs false

theorem rright_any (w : World) (A : Option Addr) (c : Nat) (h : RowsAt w A rowsL) (op : Int) (nar reg : Bool) (size dst src off imm : Int) :
    Calls Tryd.prog 21 #[.slice A 139 c, .agg (ins8 op nar reg size dst src off imm)] w fun e w' => e = .returned (.int .i64 (Ins.wrong ⟨op, nar, reg, size, dst, src, off, imm⟩)) ∧ Below w.heap.size w w' := by
  rw [← right_ref]
  cases hf : findR op nar reg size with
  | none =>
    have hr : rightR ⟨op, nar, reg, size, dst, src, off, imm⟩ = 21 := by unfold rightR; rw [hf]
    rw [hr]
    exact rright_none w A c h op nar reg size dst src off imm hf
  | some y =>
    obtain ⟨rc, ro, rz, rn, rr, rd, rs, rf, ri, r2, wr⟩ := y
    exact rright_some w A c h op nar reg size dst src off imm rc ro rz rn rr rd rs rf ri r2 wr hf
set_option maxHeartbeats 4000000 in
theorem refCheck_any (w : World) (A : Option Addr) (n c : Nat) (L : List Ins) (hL : L.length = n) (hn : n ≤ 140737488355328) (h : CodeAt w A L) :
    Calls Tryd.prog 20 #[.slice A n c] w fun e w' => e = .returned (.tuple #[.int .i64 (checkL L 0).1, .int .i64 (checkL L 0).2]) ∧ Below w.heap.size w w' := by
  have HA := Lib.hid h
  have HL := Lib.hid hL
  have HRW := Lib.hid (rows_any w)
  clear h hL
  go_enter Tryd.func20, Tryd.ntmps20
  go_wp2_with fail
  go_at_call 22
  refine HRW.out.mono ?_
  rintro e w1 ⟨v, rfl, hown, hB1⟩
  obtain ⟨Ar, cr, rfl, hra⟩ := hown.rowsAt
  rw [rowsL_len]
  have HR := Lib.hid hra
  have HB1 := Lib.hid hB1
  clear hown hra hB1 HRW
  go_wp2_with fail
  go_loopw [5, 6] (fun i e0 wr => ∃ j : Nat, j ≤ n ∧ i = .int .i64 j ∧ j ≤ 4096 ∧ checkL (L.drop j) j = checkL L 0 ∧ Below w1.heap.size w1 wr) (fun i _ _ => (n - intOf i).toNat)
  case atStart => exact ⟨0, Nat.zero_le _, rfl, by omega, rfl, Below.refl _ _⟩
  case round =>
    obtain ⟨j, hj, rfl, hj2, hck, hB⟩ := hrel
    by_cases hlt : j < n
    · have hlt' : (j : Int) < n := by omega
      obtain ⟨b, off, rfl, hbl, hc⟩ := HA.out (by have := HL.out; omega)
      obtain ⟨i, hi⟩ : ∃ i, L[j]? = some i := ⟨L[j]'(by have := HL.out; omega), List.getElem?_eq_getElem _⟩
      have hx := (hc j i hi).below (HB1.out.trans (hB.mono HB1.out.size)) hbl
      have hd : L.drop j = i :: L.drop (j + 1) := by
        rw [List.drop_eq_getElem_cons (by have := HL.out; omega)]
        rw [List.getElem?_eq_getElem (by have := HL.out; omega)] at hi
        injection hi with hi
        rw [hi]
      rw [hd, checkL] at hck
      have HCK := Lib.hid hck
      clear hc hi hd hck
      obtain ⟨op, nar, reg, size, dst, src, io, imm⟩ := i
      obtain ⟨x0, x1, x2, x3, x4, x5, x6, x7⟩ := hx
      simp only at x0 x1 x2 x3 x4 x5 x6 x7
      have HW := Lib.hid (rright_any wr Ar cr (HR.out.below hB) op nar reg size dst src io imm)
      generalize Ins.wrong ⟨op, nar, reg, size, dst, src, io, imm⟩ = v at *
      by_cases h4 : j = 4096
      · have hc4 := HCK.out
        rw [if_pos h4] at hc4
        have HC3 := Lib.hid hc4
        subst h4
        clear hc4 HCK HW
        go_wp2_with fail
        go_ret2
        exact ⟨by rw [← HC3.out]; rfl, HB1.out.trans (hB.mono HB1.out.size)⟩
      · have t4 : ((j : Int) == 4096) = false := by rw [beq_eq_false_iff_ne]; omega
        have hc4 := HCK.out
        rw [if_neg h4] at hc4
        have HB := Lib.hid hB
        clear hB
        by_cases h0 : v = 0
        · rw [if_pos h0] at hc4
          have HC3 := Lib.hid hc4
          subst h0
          clear hc4 HCK
          go_wp2_with fail
          go_at_call 21
          refine HW.out.mono ?_
          rintro e w2 ⟨rfl, hB2⟩
          have hB3 := HB.out.trans (hB2.mono HB.out.size)
          clear hB2 HW HB x0 x1 x2 x3 x4 x5 x6 x7
          go_wp2_with fail
          go_roundw
          case rel => exact ⟨j + 1, by omega, by go_num, by omega, HC3.out, hB3⟩
          case measure => simp [intOf]; omega
        · rw [if_neg h0] at hc4
          have t0 : (v != 0) = true := by rw [bne_iff_ne]; exact h0
          have HC3 := Lib.hid hc4
          clear hc4 HCK h0
          go_wp2_with fail
          go_at_call 21
          refine HW.out.mono ?_
          rintro e w2 ⟨rfl, hB2⟩
          have hB3 := HB.out.trans (hB2.mono HB.out.size)
          clear hB2 HW HB x0 x1 x2 x3 x4 x5 x6 x7
          go_wp2_with fail
          go_ret2
          exact ⟨by rw [← HC3.out]; rfl, HB1.out.trans (hB3.mono HB1.out.size)⟩
    · have hlt' : decide (j < n) = false := by simp; omega
      have hd : L.drop j = [] := List.drop_of_length_le (by have := HL.out; omega)
      rw [hd] at hck
      have HCK := Lib.hid hck
      clear hck hd
      go_wp2_with fail
      go_ret2
      exact ⟨by rw [← HCK.out]; rfl, HB1.out.trans (hB.mono HB1.out.size)⟩
end Go.Proofs.YtaglclmfjopnlaaDoor
