/- Instructions, plain mathematics: what names what, what is right. No program is named. -/
import Derived.WalkKit
namespace Go.Proofs.YtlodoinmippebaaDoor.Cod
open Go.RowKit

/-- the bits of what a row names: Narrow 1, Reg 2, Dst 4, Src 8, Off 16, Imm 32 -/
def rowL (op : Int) : Int :=
  if op = 14 then 5 else if op = 17 ∨ op = 18 ∨ op = 19 then 4 else if op = 20 ∨ op = 21 then 36 else if op = 22 ∨ op = 23 then 28 else if op = 24 then 22 else if op = 25 then 60 else
  if op = 26 then 1 else if op = 38 then 32 else if op = 39 then 0 else if 27 ≤ op then 23 else 7
def namedL (op : Int) (nar reg : Bool) : Int :=
  if op = 26 then (if nar = true then 33 else 17) else
  if op = 14 then 5 else if op = 17 ∨ op = 18 ∨ op = 19 then 4 else if op = 20 ∨ op = 21 then 36 else if op = 22 ∨ op = 23 then 28 else if op = 25 then 60 else if op = 38 then 32 else if op = 39 then 0 else
  if op = 24 then (if reg = true then 30 else 54) else
  if 27 ≤ op then (if reg = true then 31 else 55) else (if reg = true then 15 else 39)
def sizedL (op : Int) (nar : Bool) (size : Int) : Bool :=
  if op = 16 then size == 8 || size == 16 || (size == 32 && !nar) else
  if op = 17 ∨ op = 18 ∨ op = 19 then size == 16 || size == 32 || size == 64 else
  if op = 22 ∨ op = 24 then size == 1 || size == 2 || size == 4 || size == 8 else
  if op = 23 then size == 1 || size == 2 || size == 4 else
  if op = 25 then size == 4 || size == 8 else size == 0
def operatesL (op : Int) (nar reg : Bool) (size : Int) : Bool :=
  if op < 1 ∨ 39 < op then false else if op = 16 ∧ reg = false then false else
  (rowL op % 2 == 1 || !nar) && (rowL op / 2 % 2 == 1 || !reg) && sizedL op nar size
def fetchesL (imm : Int) : Bool := imm == 1 || imm == 65 || imm == 81 || imm == 161 || imm == 225
def atomL (imm : Int) : Bool := imm == 0 || imm == 64 || imm == 80 || imm == 160 || imm == 241 || fetchesL imm
def registerL (r : Int) (written : Bool) : Bool := decide (0 ≤ r) && (decide (r < 10) || (r == 10 && !written))
def fieldsL (op : Int) (nar reg : Bool) (dst src off : Int) : Bool :=
  (namedL op nar reg / 4 % 2 == 1 || dst == 0) && (namedL op nar reg / 8 % 2 == 1 || src == 0) && (namedL op nar reg / 16 % 2 == 1 || off == 0) && (decide (-32768 ≤ off) && decide (off ≤ 32767))
def registersL (op : Int) (nar reg : Bool) (dst src imm : Int) : Bool :=
  (namedL op nar reg / 4 % 2 == 0 || registerL dst (decide (1 ≤ op) && decide (op ≤ 23))) && (namedL op nar reg / 8 % 2 == 0 || registerL src (op == 25 && fetchesL imm))
def fitsL (v most : Int) : Bool := decide (-most - 1 ≤ v) && decide (v ≤ most)
def immediateL (op : Int) (nar reg : Bool) (imm : Int) : Bool :=
  if namedL op nar reg / 32 % 2 = 0 then imm == 0 else
  if op = 20 then true else if op = 21 then decide (0 ≤ imm) && decide (imm ≤ 2147483647) else if op = 25 then atomL imm else
  if op = 4 ∨ op = 5 ∨ op = 6 ∨ op = 7 then imm != 0 && fitsL imm 2147483647 else
  if op = 11 ∨ op = 12 ∨ op = 13 then decide (0 ≤ imm) && (decide (imm ≤ 31) || (decide (imm ≤ 63) && !nar)) else fitsL imm 2147483647
def wrongL (op : Int) (nar reg : Bool) (size dst src off imm : Int) : Int :=
  if operatesL op nar reg size = false then 21 else if registersL op nar reg dst src imm = false then 22 else if fieldsL op nar reg dst src off = false then 23 else if immediateL op nar reg imm = false then 24 else 0
/-! arms of short tests -/
theorem arms2 (a b : Bool) : a = true ∨ (a = false ∧ b = true) ∨ (a = false ∧ b = false) := by cases a <;> cases b <;> decide
theorem arms3 (a b c : Bool) : a = true ∨ (a = false ∧ b = true) ∨ (a = false ∧ b = false ∧ c = true) ∨ (a = false ∧ b = false ∧ c = false) := by cases a <;> cases b <;> cases c <;> decide
theorem arms4 (a b c d : Bool) : a = true ∨ (a = false ∧ b = true) ∨ (a = false ∧ b = false ∧ c = true) ∨ (a = false ∧ b = false ∧ c = false ∧ d = true) ∨ (a = false ∧ b = false ∧ c = false ∧ d = false) := by cases a <;> cases b <;> cases c <;> cases d <;> decide
end Go.Proofs.YtlodoinmippebaaDoor.Cod
