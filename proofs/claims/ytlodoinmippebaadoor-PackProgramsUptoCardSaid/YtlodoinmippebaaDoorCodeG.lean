/- Lists of instructions in memory; Check. -/
import Derived.Test.YtlodoinmippebaaDoorCodeF
import Derived.Outline
namespace Go.Proofs.YtlodoinmippebaaDoor
open Go.ChangeShapes Go.WideShapes Go.ChangeAt Go.RowKit
open Cod
set_option linter.unusedVariables false

structure Ins where
  op : Int
  nar : Bool
  reg : Bool
  size : Int
  dst : Int
  src : Int
  off : Int
  imm : Int
deriving DecidableEq
def Ins.wrong (i : Ins) : Int := wrongL i.op i.nar i.reg i.size i.dst i.src i.off i.imm
def Ins.cells (i : Ins) : List Value := [.int .i64 i.op, .bool i.nar, .bool i.reg, .int .i64 i.size, .int .i64 i.dst, .int .i64 i.src, .int .i64 i.off, .int .i64 i.imm]
/-- cells at an address are this instruction -/
def InsIs (w : World) (b o : Nat) (i : Ins) : Prop :=
  w.cell? ⟨b, o, none⟩ = some (.int .i64 i.op) ∧ w.cell? ⟨b, o + 1, none⟩ = some (.bool i.nar) ∧ w.cell? ⟨b, o + 2, none⟩ = some (.bool i.reg) ∧ w.cell? ⟨b, o + 3, none⟩ = some (.int .i64 i.size) ∧ w.cell? ⟨b, o + 4, none⟩ = some (.int .i64 i.dst) ∧ w.cell? ⟨b, o + 5, none⟩ = some (.int .i64 i.src) ∧ w.cell? ⟨b, o + 6, none⟩ = some (.int .i64 i.off) ∧ w.cell? ⟨b, o + 7, none⟩ = some (.int .i64 i.imm)
/-- the slice's cells, in world w, are these instructions -/
def CodeAt (w : World) (A : Option Addr) (L : List Ins) : Prop :=
  0 < L.length → ∃ b off, A = some ⟨b, off, none⟩ ∧ b < w.heap.size ∧ ∀ j i, L[j]? = some i → InsIs w b (off + j * 8) i
theorem InsIs.below {w w' : World} {B b o : Nat} {i : Ins} (h : InsIs w b o i) (hb : Below B w w') (hl : b < B) : InsIs w' b o i := by
  obtain ⟨h0, h1, h2, h3, h4, h5, h6, h7⟩ := h
  exact ⟨(hb.cell (p := ⟨b, o, none⟩) hl).trans h0, (hb.cell (p := ⟨b, o + 1, none⟩) hl).trans h1, (hb.cell (p := ⟨b, o + 2, none⟩) hl).trans h2, (hb.cell (p := ⟨b, o + 3, none⟩) hl).trans h3, (hb.cell (p := ⟨b, o + 4, none⟩) hl).trans h4, (hb.cell (p := ⟨b, o + 5, none⟩) hl).trans h5, (hb.cell (p := ⟨b, o + 6, none⟩) hl).trans h6, (hb.cell (p := ⟨b, o + 7, none⟩) hl).trans h7⟩
theorem CodeAt.below {w w' : World} {A : Option Addr} {L : List Ins} (h : CodeAt w A L) (hb : Below w.heap.size w w') : CodeAt w' A L := fun hp => by
  obtain ⟨b, off, e, hl, hc⟩ := h hp
  exact ⟨b, off, e, Nat.lt_of_lt_of_le hl hb.size, fun j i hi => (hc j i hi).below hb hl⟩
/-- Check, from a list's place n on -/
def checkL : List Ins → Nat → Int × Int
  | [], _ => (0, 0)
  | i :: t, n => if n = 4096 then (n, 25) else if i.wrong = 0 then checkL t (n + 1) else (n, i.wrong)

set_option maxHeartbeats 2000000 in
theorem check_any (w : World) (A : Option Addr) (n c : Nat) (L : List Ins) (hL : L.length = n) (hn : n ≤ 140737488355328) (h : CodeAt w A L) :
    Calls Tryd.prog 46 #[.slice A n c] w fun e w' => e = .returned (.tuple #[.int .i64 (checkL L 0).1, .int .i64 (checkL L 0).2]) ∧ Below w.heap.size w w' := by
  have HA := Lib.hid h
  have HL := Lib.hid hL
  clear h hL
  go_enter Tryd.func46, Tryd.ntmps46
  go_wp2_with fail
  go_loopw [4, 5, 6, 9] (fun n0 i0 e0 i wr => ∃ j : Nat, j ≤ n ∧ i = .int .i64 j ∧ j ≤ 4096 ∧ checkL (L.drop j) j = checkL L 0 ∧ Below w.heap.size w wr) (fun _ _ _ i _ => (n - intOf i).toNat)
  case atStart => exact ⟨0, Nat.zero_le _, rfl, by omega, rfl, Below.refl _ _⟩
  case round =>
    obtain ⟨j, hj, rfl, hj2, hck, hB⟩ := hrel
    by_cases hlt : j < n
    · have hlt' : (j : Int) < n := by omega
      obtain ⟨b, off, rfl, hbl, hc⟩ := HA.out (by have := HL.out; omega)
      obtain ⟨i, hi⟩ : ∃ i, L[j]? = some i := ⟨L[j]'(by have := HL.out; omega), List.getElem?_eq_getElem _⟩
      have hx := (hc j i hi).below hB hbl
      have hd : L.drop j = i :: L.drop (j + 1) := by
        rw [List.drop_eq_getElem_cons (by have := HL.out; omega)]
        rw [List.getElem?_eq_getElem (by have := HL.out; omega)] at hi
        injection hi with hi
        rw [hi]
      rw [hd, checkL] at hck
      have HCK := Lib.hid hck
      clear hc hi hd hck
      obtain ⟨x0, x1, x2, x3, x4, x5, x6, x7⟩ := hx
      have HW := Lib.hid (fun w => wrong_any i.op i.nar i.reg i.size i.dst i.src i.off i.imm w)
      obtain ⟨v, hv⟩ : ∃ v, i.wrong = v := ⟨_, rfl⟩
      have hv' : wrongL i.op i.nar i.reg i.size i.dst i.src i.off i.imm = v := hv
      have HW' := Lib.hid (show ∀ w, Calls Tryd.prog 71 #[.agg #[.int .i64 i.op, .bool i.nar, .bool i.reg, .int .i64 i.size, .int .i64 i.dst, .int .i64 i.src, .int .i64 i.off, .int .i64 i.imm]] w fun e w' => e = .returned (.int .i64 v) ∧ Below w.heap.size w w' by rw [← hv']; exact HW.out)
      have HCK' := HCK.out
      rw [hv] at HCK'
      have HC2 := Lib.hid HCK'
      clear HW hv hv' HCK HCK'
      by_cases h4 : j = 4096
      · have hc4 := HC2.out
        rw [if_pos h4] at hc4
        have HC3 := Lib.hid hc4
        subst h4
        clear hc4 HC2
        go_wp2_with fail
        go_ret2
        exact ⟨by rw [← HC3.out]; rfl, (hB.alloc hB.size _)⟩
      · have t4 : ((j : Int) == 4096) = false := by rw [beq_eq_false_iff_ne]; omega
        have hc4 := HC2.out
        rw [if_neg h4] at hc4
        by_cases h0 : v = 0
        · rw [if_pos h0] at hc4
          have HC3 := Lib.hid hc4
          subst h0
          clear hc4 HC2
          go_wp2_with fail
          refine (HW'.out _).mono ?_
          rintro e w1 ⟨rfl, hB1⟩
          have hB2 := (hB.alloc hB.size _).trans (hB1.mono (by have := hB.size; simp; omega))
          clear hB1 x0 x1 x2 x3 x4 x5 x6 x7
          go_wp2_with fail
          go_roundw
          case rel => exact ⟨j + 1, by omega, by go_num, by omega, HC3.out, hB2⟩
          case measure => simp [intOf]; omega
        · rw [if_neg h0] at hc4
          have t0 : (v != 0) = true := by rw [bne_iff_ne]; exact h0
          have HC3 := Lib.hid hc4
          clear hc4 HC2 h0
          go_wp2_with fail
          refine (HW'.out _).mono ?_
          rintro e w1 ⟨rfl, hB1⟩
          have hB2 := (hB.alloc hB.size _).trans (hB1.mono (by have := hB.size; simp; omega))
          clear hB1 x0 x1 x2 x3 x4 x5 x6 x7
          go_wp2_with fail
          go_ret2
          exact ⟨by rw [← HC3.out]; rfl, hB2⟩
    · have hlt' : decide (j < n) = false := by simp; omega
      have hd : L.drop j = [] := List.drop_of_length_le (by have := HL.out; omega)
      rw [hd] at hck
      have HCK := Lib.hid hck
      clear hck hd
      go_wp2_with fail
      go_ret2
      exact ⟨by rw [← HCK.out]; rfl, hB⟩
end Go.Proofs.YtlodoinmippebaaDoor
