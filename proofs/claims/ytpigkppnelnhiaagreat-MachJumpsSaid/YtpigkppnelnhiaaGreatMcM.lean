/- The plain machine, plain mathematics: a state, and what each instruction makes of it (no memory, no tables, no data: programs without either). -/
import Derived.Test.YtpigkppnelnhiaaGreatMcW
import Derived.Test.YtpigkppnelnhiaaGreatCodeG
namespace Go.Proofs.YtpigkppnelnhiaaGreat
open Go.ChangeShapes Go.WideShapes Go.ChangeAt Go.RowKit
set_option linter.unusedVariables false
/-- a value: kind, table, row, number or offset -/
structure V where
  k : Int
  t : Int
  r : Int
  x : Int
deriving DecidableEq
/-- a slot: a pointer, or bytes of which some were written -/
structure Sl where
  p : V
  b : Nat → Int
  m : Int
structure St where
  regs : Nat → V
  stk : Nat → Sl
  ctx : List Int
  sent : List Int
  pc : Nat
  steps : Int
  done : Bool
/-- what does not change: the instructions, and where jumps lead -/
structure Pg where
  code : List Ins
  goals : List Int
def V.zero : V := ⟨0, 0, 0, 0⟩
def V.num (n : Int) : V := ⟨1, 0, 0, n⟩
def V.isNum (v : V) : Bool := v.k == 1
def V.isFix (v : V) : Bool := v.k == 2 || v.k == 3 || v.k == 4
def V.isPtr (v : V) : Bool := v.isFix || v.k == 5
def updV (f : Nat → V) (r : Nat) (v : V) : Nat → V := fun q => if q = r then v else f q
theorem updV_same (f : Nat → V) (r : Nat) (v : V) : updV f r v r = v := if_pos rfl
theorem updV_ne (f : Nat → V) {r q : Nat} (v : V) (h : q ≠ r) : updV f r v q = f q := if_neg h
/-- going on at an instruction -/
def St.go (S : St) (to : Nat) : St := { S with pc := to, steps := wrap64 (S.steps + 1) }
def St.put (S : St) (r : Nat) (v : V) : St := { S with regs := updV S.regs r v }
def goToL (P : Pg) (S : St) (to : Int) : Int × St := if to < 0 ∨ (P.code.length : Int) ≤ to then (89, S) else (0, S.go to.toNat)
def setL (P : Pg) (S : St) (r : Nat) (v : V) : Int × St := if P.code.length ≤ S.pc + 1 then (89, S) else (0, (S.go (S.pc + 1)).put r v)
def secL (S : St) (i : Ins) : V := if i.reg = true then S.regs i.src.toNat else V.num i.imm
def conL (P : Pg) (S : St) (i : Ins) : Int × St := setL P S i.dst.toNat ⟨if i.op = 21 then 4 else 1, 0, 0, i.imm⟩
def joinL (P : Pg) (S : St) (i : Ins) : Int × St :=
  if ((S.regs i.dst.toNat).isNum && (secL S i).isNum) = true then
    (if aluE i.op i.nar (secL S i).x = 0 then setL P S i.dst.toNat (V.num (aluR i.op i.nar (S.regs i.dst.toNat).x (secL S i).x)) else (aluE i.op i.nar (secL S i).x, S))
  else (80, S)
def movedL (P : Pg) (S : St) (dst : Nat) (p : V) (y : Int) : Int × St := if wrap64 (p.x + y) < -1048576 ∨ 1048576 < wrap64 (p.x + y) then (85, S) else setL P S dst { p with x := wrap64 (p.x + y) }
def distL (n : Int) : Int := max (-2097153) (min n 2097153)
def addL (P : Pg) (S : St) (i : Ins) : Int × St :=
  if (!i.nar && ((S.regs i.dst.toNat).isPtr && (secL S i).isNum)) = true then movedL P S i.dst.toNat (S.regs i.dst.toNat) (distL (secL S i).x)
  else if (!i.nar && ((S.regs i.dst.toNat).isNum && (secL S i).isPtr)) = true then movedL P S i.dst.toNat (secL S i) (distL (S.regs i.dst.toNat).x)
  else joinL P S i
def subL (P : Pg) (S : St) (i : Ins) : Int × St :=
  if (!i.nar && ((S.regs i.dst.toNat).isPtr && (secL S i).isNum)) = true then movedL P S i.dst.toNat (S.regs i.dst.toNat) (-(distL (secL S i).x))
  else if (!i.nar && ((S.regs i.dst.toNat).isFix && ((S.regs i.dst.toNat).k == (secL S i).k))) = true then setL P S i.dst.toNat (V.num (wrap64 ((S.regs i.dst.toNat).x - (secL S i).x)))
  else joinL P S i
def movL (P : Pg) (S : St) (i : Ins) : Int × St :=
  if (i.nar && (secL S i).isNum) = true then setL P S i.dst.toNat (V.num (aluR i.op true 0 (secL S i).x))
  else if (i.nar || (secL S i).k == 0) = true then (80, S) else setL P S i.dst.toNat (secL S i)
def extF (size : Int) (n : Bool) (a : Int) : Int := if size = 8 ∨ size = 16 ∨ (size = 32 ∧ n = false) then extV size.toNat n a else 0
def swapF (size : Int) (t : Bool) (a : Int) : Int := if size = 16 ∨ size = 32 ∨ size = 64 then swapV (size.toNat / 8) t a else 0
def extL (P : Pg) (S : St) (i : Ins) : Int × St := if (S.regs i.src.toNat).isNum = true then setL P S i.dst.toNat (V.num (extF i.size i.nar (S.regs i.src.toNat).x)) else (80, S)
def swapL (P : Pg) (S : St) (i : Ins) : Int × St := if (S.regs i.dst.toNat).isNum = true then setL P S i.dst.toNat (V.num (swapF i.size (i.op != 17) (S.regs i.dst.toNat).x)) else (80, S)
def exitL (S : St) : Int × St := if (S.regs 0).isNum = true then (0, { S with steps := wrap64 (S.steps + 1), done := true }) else (86, S)
def goalL (P : Pg) (S : St) : Int := P.goals[S.pc]?.getD 0
def jumpL (P : Pg) (S : St) : Int × St := goToL P S (goalL P S)
def sgnOp (op : Int) : Int := if op = 29 then 33 else if op = 30 then 34 else if op = 31 then 35 else if op = 32 then 36 else op
def decL (i : Ins) (a b : V) : Bool × Int :=
  if (a.isNum && b.isNum) = true then (holdsM i.op i.nar a.x b.x, 0)
  else if (i.nar || i.op == 37) = true then (false, 80)
  else if (a.isFix && (a.k == b.k)) = true then (holdsM (sgnOp i.op) false a.x b.x, 0)
  else if (a.k == 5 && !i.reg && i.imm == 0 && (i.op == 27 || i.op == 28)) = true then (i.op == 28, 0)
  else (false, 80)
def brL (P : Pg) (S : St) (i : Ins) : Int × St :=
  if (decL i (S.regs i.dst.toNat) (secL S i)).2 = 0 then (if (decL i (S.regs i.dst.toNat) (secL S i)).1 = true then goToL P S (goalL P S) else goToL P S (S.pc + 1)) else ((decL i (S.regs i.dst.toNat) (secL S i)).2, S)
end Go.Proofs.YtpigkppnelnhiaaGreat
