/- Texts in one: RfH RfI. -/
import Derived.Test.YtlodoinmippebaaDoorRfA
import Derived.Test.YtlodoinmippebaaDoorRfT
/- An instruction's error, and a list's first one, of the document's answer for package code. -/
namespace Go.Proofs.YtlodoinmippebaaDoor.Rf
open Go.ChangeShapes Go.WideShapes Go.ChangeAt Go.RowKit
open Cod Bits
set_option linter.unusedVariables false
set_option linter.unusedSimpArgs false

theorem ret_num {a b : Int} (h : a = b) : Ending.returned (.int .i64 a) = Ending.returned (.int .i64 b) := by rw [h]
theorem cells11 {w : World} {g : Nat} {t : TypeId} {a b c d e f k l m n o : Value} (h : Blk w g t #[a, b, c, d, e, f, k, l, m, n, o]) :
    w.cell? ⟨g, 0, none⟩ = some a ∧ w.cell? ⟨g, 1, none⟩ = some b ∧ w.cell? ⟨g, 2, none⟩ = some c ∧ w.cell? ⟨g, 3, none⟩ = some d ∧ w.cell? ⟨g, 4, none⟩ = some e ∧ w.cell? ⟨g, 5, none⟩ = some f ∧ w.cell? ⟨g, 6, none⟩ = some k ∧ w.cell? ⟨g, 7, none⟩ = some l ∧ w.cell? ⟨g, 8, none⟩ = some m ∧ w.cell? ⟨g, 9, none⟩ = some n ∧ w.cell? ⟨g, 10, none⟩ = some o := by
  refine ⟨?_, ?_, ?_, ?_, ?_, ?_, ?_, ?_, ?_, ?_, ?_⟩ <;> rw [h.cell] <;> rfl
theorem rowsL_len : rowsL.length = 139 := by kernel_rfl
/-- two blocks that the call made, and nothing below them written -/
structure RightIn (w : World) (a : Array Value) (b : Array Value) (g : Nat) (W : World) : Prop where
  ins : Blk W w.heap.size 71 a
  row : Blk W g 125 b
  below : Below w.heap.size w W
theorem RightIn.up {w : World} {a b : Array Value} {g : Nat} {W W' : World} (h : RightIn w a b g W) (hb : Below W.heap.size W W') : RightIn w a b g W' :=
  ⟨h.ins.below hb h.ins.lt, h.row.below hb h.row.lt, h.below.trans (hb.mono h.below.size)⟩
set_option maxRecDepth 100000 in
set_option maxHeartbeats 8000000 in
theorem rright_none (w : World) (A : Option Addr) (c : Nat) (h : RowsAt w A rowsL) (op : Int) (nar reg : Bool) (size dst src off imm : Int) (hf : findR op nar reg size = none) :
    Calls Tryd.prog 105 #[.slice A 139 c, .agg (ins8 op nar reg size dst src off imm)] w fun e w' => e = .returned (.int .i64 21) ∧ Below w.heap.size w w' := by
  have hb := below_box w (.cells (ins8 op nar reg size dst src off imm) 71)
  have HF := Lib.hid (find_any (w.alloc (.cells (ins8 op nar reg size dst src off imm) 71)) A 139 c rowsL rowsL_len (by decide) (h.below hb) op nar reg size dst src off imm)
  have HB := Lib.hid hb
  clear h hb
  go_enter Tryd.func105, Tryd.ntmps105
  go_wp2_with fail
  go_at_call 73
  refine HF.out.mono ?_
  rintro e w2 ⟨he, hB2⟩
  rw [show rowsL.find? (fun r => r.fitsI op nar reg size) = none from hf] at he
  have he' : e = .returned (.tuple #[.agg zero11, .bool false]) := he
  subst he'
  have HB2 := Lib.hid (HB.out.trans (hB2.mono HB.out.size))
  clear hB2 HF HB he
  go_wp2_with fail
  go_ret
  exact ⟨rfl, HB2.out.trans ((below_box w2 _).mono HB2.out.size)⟩
set_option maxRecDepth 100000 in
set_option maxHeartbeats 16000000 in
theorem rright_some (w : World) (A : Option Addr) (c : Nat) (h : RowsAt w A rowsL) (op : Int) (nar reg : Bool) (size dst src off imm : Int) (rc ro rz : Int) (rn rr : Bool) (rd rs rf ri r2 : Int) (wr : Bool) (hf : findR op nar reg size = some ⟨rc, ro, rz, rn, rr, rd, rs, rf, ri, r2, wr⟩) :
    Calls Tryd.prog 105 #[.slice A 139 c, .agg (ins8 op nar reg size dst src off imm)] w fun e w' => e = .returned (.int .i64 (rightR ⟨op, nar, reg, size, dst, src, off, imm⟩)) ∧ Below w.heap.size w w' := by
  have hb := below_box w (.cells (ins8 op nar reg size dst src off imm) 71)
  have HR := Lib.hid (show rightR ⟨op, nar, reg, size, dst, src, off, imm⟩ = (if regsR ⟨rc, ro, rz, rn, rr, rd, rs, rf, ri, r2, wr⟩ dst src imm = false then 22 else
    if (rd != -1 && dst != 0) || (rs != -1 && src != 0) || (rf != -1 && off != 0) || decide (off < -32768) || decide (32767 < off) then 23 else
    if ri != -1 && r2 != -1 && imm != 0 then 24 else
    if (ri == -1 || r2 == -1) && !goodR ⟨rc, ro, rz, rn, rr, rd, rs, rf, ri, r2, wr⟩ imm then 24 else 0) by unfold rightR; rw [hf])
  have HF := Lib.hid (find_any (w.alloc (.cells (ins8 op nar reg size dst src off imm) 71)) A 139 c rowsL rowsL_len (by decide) (h.below hb) op nar reg size dst src off imm)
  have HRG := Lib.hid (fun w => rregs_any rc ro rz rn rr rd rs rf ri r2 wr dst src imm w)
  have HX := Lib.hid (Blk.new w 71 (ins8 op nar reg size dst src off imm))
  have HB := Lib.hid hb
  generalize rightR ⟨op, nar, reg, size, dst, src, off, imm⟩ = out at *
  clear h hb
  go_enter Tryd.func105, Tryd.ntmps105
  go_wp2_with fail
  go_at_call 73
  refine HF.out.mono ?_
  rintro e w2 ⟨he, hB2⟩
  rw [show rowsL.find? (fun r => r.fitsI op nar reg size) = some ⟨rc, ro, rz, rn, rr, rd, rs, rf, ri, r2, wr⟩ from hf] at he
  have he' : e = .returned (.tuple #[.agg (row11 rc ro rz rn rr rd rs rf ri r2 wr), .bool true]) := he
  subst he'
  have HX2 := Lib.hid (HX.out.below hB2 HX.out.lt)
  have HB2 := Lib.hid (HB.out.trans (hB2.mono HB.out.size))
  have HI3 := Lib.hid (show RightIn w (ins8 op nar reg size dst src off imm) (row11 rc ro rz rn rr rd rs rf ri r2 wr) w2.heap.size (w2.alloc (.cells (row11 rc ro rz rn rr rd rs rf ri r2 wr) 125)) from
    ⟨HX2.out.alloc _, Blk.new _ _ _, HB2.out.trans ((below_box w2 _).mono HB2.out.size)⟩)
  obtain ⟨⟨c0, c1, c2, c3, c4, c5, c6, c7⟩, -⟩ := cells8 HI3.out.ins
  obtain ⟨y0, y1, y2, y3, y4, y5, y6, y7, y8, y9, y10⟩ := cells11 HI3.out.row
  clear hB2 HF HB HX HX2 HB2 he hf
  go_wp2_with fail
  go_at_call 101
  refine (HRG.out _).mono ?_
  rintro e w4 ⟨rfl, hB4⟩
  have HI4 := Lib.hid (HI3.out.up hB4)
  clear hB4 HI3 HRG c0 c1 c2 c3 c4 c5 c6 c7 y0 y1 y2 y3 y4 y5 y6 y7 y8 y9 y10
  generalize regsR ⟨rc, ro, rz, rn, rr, rd, rs, rf, ri, r2, wr⟩ dst src imm = rg at *
  obtain ⟨⟨c0, c1, c2, c3, c4, c5, c6, c7⟩, -⟩ := cells8 HI4.out.ins
  obtain ⟨y0, y1, y2, y3, y4, y5, y6, y7, y8, y9, y10⟩ := cells11 HI4.out.row
  generalize w2.heap.size = g at *
  cases rg
  · go_wp2_with fail
    go_ret
    exact ⟨ret_num (by rw [HR.out]; rfl), HI4.out.below⟩
  · go_wp2_with (go_at_call 124; (with_reducible refine (rgood_any _ _ _ _ _ _ _ _ _ _ _ _ _).mono ?_); rintro e w5 ⟨rfl, hB5⟩; have hB6 := HI4.out.below.trans (hB5.mono HI4.out.below.size); clear hB5)
    all_goals
      have hr := HR.out
      clear HR c0 c1 c2 c3 c4 c5 c6 c7 y0 y1 y2 y3 y4 y5 y6 y7 y8 y9 y10
      go_ret
      refine ⟨ret_num ?_, by first | exact hB6 | exact HI4.out.below⟩
      rw [hr]
      clear hr HI4
      simp_all
end Go.Proofs.YtlodoinmippebaaDoor.Rf
/- Right of one instruction and Check of a list, of the document's answer for package code: they say what package code says. -/
namespace Go.Proofs.YtlodoinmippebaaDoor.Rf
open Go.ChangeShapes Go.WideShapes Go.ChangeAt Go.RowKit
open Cod Bits
set_option linter.unusedVariables false
set_option linter.unusedSimpArgs false

theorem rright_any (w : World) (A : Option Addr) (c : Nat) (h : RowsAt w A rowsL) (op : Int) (nar reg : Bool) (size dst src off imm : Int) :
    Calls Tryd.prog 105 #[.slice A 139 c, .agg (ins8 op nar reg size dst src off imm)] w fun e w' => e = .returned (.int .i64 (Ins.wrong ⟨op, nar, reg, size, dst, src, off, imm⟩)) ∧ Below w.heap.size w w' := by
  rw [← right_ref]
  cases hf : findR op nar reg size with
  | none =>
    have hr : rightR ⟨op, nar, reg, size, dst, src, off, imm⟩ = 21 := by unfold rightR; rw [hf]
    rw [hr]
    exact rright_none w A c h op nar reg size dst src off imm hf
  | some y =>
    obtain ⟨rc, ro, rz, rn, rr, rd, rs, rf, ri, r2, wr⟩ := y
    exact rright_some w A c h op nar reg size dst src off imm rc ro rz rn rr rd rs rf ri r2 wr hf
set_option maxHeartbeats 4000000 in
theorem refCheck_any (w : World) (A : Option Addr) (n c : Nat) (L : List Ins) (hL : L.length = n) (hn : n ≤ 140737488355328) (h : CodeAt w A L) :
    Calls Tryd.prog 72 #[.slice A n c] w fun e w' => e = .returned (.tuple #[.int .i64 (checkL L 0).1, .int .i64 (checkL L 0).2]) ∧ Below w.heap.size w w' := by
  have HA := Lib.hid h
  have HL := Lib.hid hL
  have HRW := Lib.hid (rows_any w)
  clear h hL
  go_enter Tryd.func72, Tryd.ntmps72
  go_wp2_with fail
  go_at_call 69
  refine HRW.out.mono ?_
  rintro e w1 ⟨v, rfl, hown, hB1⟩
  obtain ⟨Ar, cr, rfl, hra⟩ := hown.rowsAt
  rw [rowsL_len]
  have HR := Lib.hid hra
  have HB1 := Lib.hid hB1
  clear hown hra hB1 HRW
  go_wp2_with fail
  go_loopw [5, 6] (fun i e0 wr => ∃ j : Nat, j ≤ n ∧ i = .int .i64 j ∧ j ≤ 4096 ∧ checkL (L.drop j) j = checkL L 0 ∧ Below w1.heap.size w1 wr) (fun i _ _ => (n - intOf i).toNat)
  case atStart => exact ⟨0, Nat.zero_le _, rfl, by omega, rfl, Below.refl _ _⟩
  case round =>
    obtain ⟨j, hj, rfl, hj2, hck, hB⟩ := hrel
    by_cases hlt : j < n
    · have hlt' : (j : Int) < n := by omega
      obtain ⟨b, off, rfl, hbl, hc⟩ := HA.out (by have := HL.out; omega)
      obtain ⟨i, hi⟩ : ∃ i, L[j]? = some i := ⟨L[j]'(by have := HL.out; omega), List.getElem?_eq_getElem _⟩
      have hx := (hc j i hi).below (HB1.out.trans (hB.mono HB1.out.size)) hbl
      have hd : L.drop j = i :: L.drop (j + 1) := by
        rw [List.drop_eq_getElem_cons (by have := HL.out; omega)]
        rw [List.getElem?_eq_getElem (by have := HL.out; omega)] at hi
        injection hi with hi
        rw [hi]
      rw [hd, checkL] at hck
      have HCK := Lib.hid hck
      clear hc hi hd hck
      obtain ⟨op, nar, reg, size, dst, src, io, imm⟩ := i
      obtain ⟨x0, x1, x2, x3, x4, x5, x6, x7⟩ := hx
      simp only at x0 x1 x2 x3 x4 x5 x6 x7
      have HW := Lib.hid (rright_any wr Ar cr (HR.out.below hB) op nar reg size dst src io imm)
      generalize Ins.wrong ⟨op, nar, reg, size, dst, src, io, imm⟩ = v at *
      by_cases h4 : j = 4096
      · have hc4 := HCK.out
        rw [if_pos h4] at hc4
        have HC3 := Lib.hid hc4
        subst h4
        clear hc4 HCK HW
        go_wp2_with fail
        go_ret2
        exact ⟨by rw [← HC3.out]; rfl, HB1.out.trans (hB.mono HB1.out.size)⟩
      · have t4 : ((j : Int) == 4096) = false := by rw [beq_eq_false_iff_ne]; omega
        have hc4 := HCK.out
        rw [if_neg h4] at hc4
        have HB := Lib.hid hB
        clear hB
        by_cases h0 : v = 0
        · rw [if_pos h0] at hc4
          have HC3 := Lib.hid hc4
          subst h0
          clear hc4 HCK
          go_wp2_with fail
          go_at_call 105
          refine HW.out.mono ?_
          rintro e w2 ⟨rfl, hB2⟩
          have hB3 := HB.out.trans (hB2.mono HB.out.size)
          clear hB2 HW HB x0 x1 x2 x3 x4 x5 x6 x7
          go_wp2_with fail
          go_roundw
          case rel => exact ⟨j + 1, by omega, by go_num, by omega, HC3.out, hB3⟩
          case measure => simp [intOf]; omega
        · rw [if_neg h0] at hc4
          have t0 : (v != 0) = true := by rw [bne_iff_ne]; exact h0
          have HC3 := Lib.hid hc4
          clear hc4 HCK h0
          go_wp2_with fail
          go_at_call 105
          refine HW.out.mono ?_
          rintro e w2 ⟨rfl, hB2⟩
          have hB3 := HB.out.trans (hB2.mono HB.out.size)
          clear hB2 HW HB x0 x1 x2 x3 x4 x5 x6 x7
          go_wp2_with fail
          go_ret2
          exact ⟨by rw [← HC3.out]; rfl, HB1.out.trans (hB3.mono HB1.out.size)⟩
    · have hlt' : decide (j < n) = false := by simp; omega
      have hd : L.drop j = [] := List.drop_of_length_le (by have := HL.out; omega)
      rw [hd] at hck
      have HCK := Lib.hid hck
      clear hck hd
      go_wp2_with fail
      go_ret2
      exact ⟨by rw [← HCK.out]; rfl, HB1.out.trans (hB.mono HB1.out.size)⟩
end Go.Proofs.YtlodoinmippebaaDoor.Rf
