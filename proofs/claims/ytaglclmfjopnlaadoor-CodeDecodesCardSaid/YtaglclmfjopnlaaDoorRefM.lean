/- The table of rows of the document's answer for package code, plain mathematics: what it finds, and that its answer on an instruction is the one that package code gives. -/
import Derived.Test.YtaglclmfjopnlaaDoorCodeV
namespace Go.Proofs.YtaglclmfjopnlaaDoor
open Go.RowKit
open Cod
set_option linter.unusedVariables false

structure RRow where
  code : Int
  op : Int
  size : Int
  nar : Bool
  reg : Bool
  dst : Int
  src : Int
  off : Int
  imm : Int
  second : Int
  writes : Bool
deriving DecidableEq
def RRow.cells (r : RRow) : List Value := [.int .i64 r.code, .int .i64 r.op, .int .i64 r.size, .bool r.nar, .bool r.reg, .int .i64 r.dst, .int .i64 r.src, .int .i64 r.off, .int .i64 r.imm, .int .i64 r.second, .bool r.writes]
def zeroR : RRow := ⟨0, 0, 0, false, false, 0, 0, 0, 0, 0, false⟩
def aluRow (op digit off : Int) (i : Nat) : RRow :=
  ⟨16 * digit + 7 + (if i % 2 = 1 then 8 else 0) - (if 2 ≤ i then 3 else 0), op, 0, decide (2 ≤ i), i % 2 == 1, -1, if i % 2 = 1 then -1 else 0, off, if i % 2 = 1 then 0 else -1, 0, true⟩
def aluL (op digit off : Int) : List RRow := (List.range 4).map (aluRow op digit off)
def jumpRow (op digit : Int) (i : Nat) : RRow :=
  ⟨16 * digit + 5 + (if i % 2 = 1 then 8 else 0) + (if 2 ≤ i then 1 else 0), op, 0, decide (2 ≤ i), i % 2 == 1, -1, if i % 2 = 1 then -1 else 0, -1, if i % 2 = 1 then 0 else -1, 0, false⟩
def jumpRL (op digit : Int) : List RRow := (List.range 4).map (jumpRow op digit)
def movsL : List RRow := [⟨191, 16, 8, false, true, -1, -1, 8, 0, 0, true⟩, ⟨188, 16, 8, true, true, -1, -1, 8, 0, 0, true⟩, ⟨191, 16, 16, false, true, -1, -1, 16, 0, 0, true⟩, ⟨188, 16, 16, true, true, -1, -1, 16, 0, 0, true⟩, ⟨191, 16, 32, false, true, -1, -1, 32, 0, 0, true⟩]
def negL : List RRow := [⟨135, 14, 0, false, false, -1, 0, 0, 0, 0, true⟩, ⟨132, 14, 0, true, false, -1, 0, 0, 0, 0, true⟩]
def swapL (size : Int) : List RRow := [⟨212, 17, size, false, false, -1, 0, 0, size, 0, true⟩, ⟨220, 18, size, false, false, -1, 0, 0, size, 0, true⟩, ⟨215, 19, size, false, false, -1, 0, 0, size, 0, true⟩]
def wideL : List RRow := [⟨24, 20, 0, false, false, -1, 0, 0, -1, -1, true⟩, ⟨24, 21, 0, false, false, -1, 6, 0, 0, -1, true⟩]
def memL : List RRow :=
  [⟨113, 22, 1, false, false, -1, -1, -1, 0, 0, true⟩, ⟨145, 23, 1, false, false, -1, -1, -1, 0, 0, true⟩, ⟨115, 24, 1, false, true, -1, -1, -1, 0, 0, false⟩, ⟨114, 24, 1, false, false, -1, 0, -1, -1, 0, false⟩,
   ⟨105, 22, 2, false, false, -1, -1, -1, 0, 0, true⟩, ⟨137, 23, 2, false, false, -1, -1, -1, 0, 0, true⟩, ⟨107, 24, 2, false, true, -1, -1, -1, 0, 0, false⟩, ⟨106, 24, 2, false, false, -1, 0, -1, -1, 0, false⟩,
   ⟨97, 22, 4, false, false, -1, -1, -1, 0, 0, true⟩, ⟨129, 23, 4, false, false, -1, -1, -1, 0, 0, true⟩, ⟨99, 24, 4, false, true, -1, -1, -1, 0, 0, false⟩, ⟨98, 24, 4, false, false, -1, 0, -1, -1, 0, false⟩, ⟨195, 25, 4, false, false, -1, -1, -1, -1, 0, false⟩,
   ⟨121, 22, 8, false, false, -1, -1, -1, 0, 0, true⟩, ⟨123, 24, 8, false, true, -1, -1, -1, 0, 0, false⟩, ⟨122, 24, 8, false, false, -1, 0, -1, -1, 0, false⟩, ⟨219, 25, 8, false, false, -1, -1, -1, -1, 0, false⟩]
def jaL : List RRow := [⟨5, 26, 0, false, false, 0, 0, -1, 0, 0, false⟩, ⟨6, 26, 0, true, false, 0, 0, 0, -1, 0, false⟩]
def endL : List RRow := [⟨133, 38, 0, false, false, 0, 0, 0, -1, 0, false⟩, ⟨149, 39, 0, false, false, 0, 0, 0, 0, 0, false⟩]
def rowsL : List RRow :=
  aluL 1 0 0 ++ aluL 2 1 0 ++ aluL 3 2 0 ++ aluL 4 3 0 ++ aluL 6 3 1 ++ aluL 8 4 0 ++ aluL 9 5 0 ++ aluL 11 6 0 ++ aluL 12 7 0 ++ aluL 5 9 0 ++ aluL 7 9 1 ++ aluL 10 10 0 ++ aluL 15 11 0 ++ aluL 13 12 0 ++
  movsL ++ negL ++ swapL 16 ++ swapL 32 ++ swapL 64 ++ wideL ++ memL ++ jaL ++
  jumpRL 27 1 ++ jumpRL 29 2 ++ jumpRL 30 3 ++ jumpRL 37 4 ++ jumpRL 28 5 ++ jumpRL 33 6 ++ jumpRL 34 7 ++ jumpRL 31 10 ++ jumpRL 32 11 ++ jumpRL 35 12 ++ jumpRL 36 13 ++ endL
def RRow.fitsI (r : RRow) (op : Int) (nar reg : Bool) (size : Int) : Bool := r.op == op && r.nar == nar && r.reg == reg && r.size == size
def findR (op : Int) (nar reg : Bool) (size : Int) : Option RRow := rowsL.find? fun r => r.fitsI op nar reg size
def regsR (r : RRow) (dst src imm : Int) : Bool :=
  !(r.dst == -1 && (decide (dst < 0) || (decide (10 < dst) || (dst == 10 && r.writes)))) && !(r.src == -1 && (decide (src < 0) || (decide (10 < src) || (src == 10 && (r.op == 25 && fetchesL imm)))))
def goodR (r : RRow) (imm : Int) : Bool :=
  if r.op = 20 then true else if imm < -2147483648 ∨ 2147483647 < imm then false else
  if r.op = 4 ∨ r.op = 5 ∨ r.op = 6 ∨ r.op = 7 then imm != 0 else
  if r.op = 11 ∨ r.op = 12 ∨ r.op = 13 then decide (0 ≤ imm ∧ imm < 32) || (decide (0 ≤ imm ∧ imm < 64) && !r.nar) else
  if r.op = 25 then atomL imm else if r.op = 21 then decide (0 ≤ imm) else true
def rightR (i : Ins) : Int :=
  match findR i.op i.nar i.reg i.size with
  | none => 21
  | some y => if regsR y i.dst i.src i.imm = false then 22 else
    if (y.dst != -1 && i.dst != 0) || (y.src != -1 && i.src != 0) || (y.off != -1 && i.off != 0) || decide (i.off < -32768) || decide (32767 < i.off) then 23 else
    if y.imm != -1 && y.second != -1 && i.imm != 0 then 24 else
    if (y.imm == -1 || y.second == -1) && !goodR y i.imm then 24 else 0
/-- what the table says of one form, against what package code says -/
def formOk (op : Int) (nar reg : Bool) (size : Int) : Bool :=
  match findR op nar reg size with
  | none => !operatesL op nar reg size
  | some y => operatesL op nar reg size && y.op == op && y.nar == nar && ((y.dst == -1) == (namedL op nar reg / 4 % 2 == 1)) && ((y.src == -1) == (namedL op nar reg / 8 % 2 == 1)) && ((y.off == -1) == (namedL op nar reg / 16 % 2 == 1)) &&
      ((y.imm == -1 || y.second == -1) == (namedL op nar reg / 32 % 2 == 1)) && (y.writes == (decide (1 ≤ op) && decide (op ≤ 23)))
def chkR : Bool := (List.range 40).all fun op => [true, false].all fun nar => [true, false].all fun reg => sizesA.all fun size => formOk op nar reg size
theorem chkR_ok : chkR = true := by kernel_rfl
/-- every row is of a known operation and size -/
def rowOk (r : RRow) : Bool := decide (1 ≤ r.op) && decide (r.op ≤ 39) && sizesA.contains r.size
theorem rows_ok : rowsL.all rowOk = true := by kernel_rfl
theorem form_ok (op : Int) (nar reg : Bool) (size : Int) : formOk op nar reg size = true := by
  by_cases h : (1 ≤ op ∧ op ≤ 39) ∧ size ∈ sizesA
  · obtain ⟨⟨h1, h2⟩, h3⟩ := h
    have h0 := chkR_ok
    unfold chkR at h0
    have a1 := List.all_eq_true.1 h0 op.toNat (List.mem_range.2 (by omega))
    rw [show ((op.toNat : Nat) : Int) = op by omega] at a1
    have a2 := List.all_eq_true.1 a1 nar (by cases nar <;> simp)
    have a3 := List.all_eq_true.1 a2 reg (by cases reg <;> simp)
    exact List.all_eq_true.1 a3 size h3
  · have hn : findR op nar reg size = none := by
      unfold findR
      rw [List.find?_eq_none]
      intro r hr hf
      have hk := List.all_eq_true.1 rows_ok r hr
      unfold rowOk at hk
      unfold RRow.fitsI at hf
      simp only [Bool.and_eq_true, decide_eq_true_eq, beq_iff_eq, List.contains_iff_mem] at hk hf
      refine h ⟨by omega, ?_⟩
      rw [← hf.2]; exact hk.2
    unfold formOk
    rw [hn]
    have ho : operatesL op nar reg size = false := by
      cases hop : operatesL op nar reg size with
      | false => rfl
      | true =>
        exact absurd ⟨(op_sized hop).1, sized_mem (op_sized hop).2⟩ h
    rw [ho]; rfl
theorem reg_b (d w : Bool) (r : Int) : (!(d && (decide (r < 0) || (decide (10 < r) || (r == 10 && w))))) = (!d || registerL r w) := by
  unfold registerL
  cases d
  · rfl
  · rw [Bool.eq_iff_iff]
    cases w <;> simp <;> omega
theorem bit_no (x : Int) : (x % 2 == 0) = !(x % 2 == 1) := by
  have h : x % 2 = 0 ∨ x % 2 = 1 := by omega
  rcases h with e | e <;> rw [e] <;> rfl
def immB (op : Int) (nar : Bool) (imm : Int) : Bool :=
  if op = 20 then true else if op = 21 then decide (0 ≤ imm) && decide (imm ≤ 2147483647) else if op = 25 then atomL imm else
  if op = 4 ∨ op = 5 ∨ op = 6 ∨ op = 7 then imm != 0 && fitsL imm 2147483647 else
  if op = 11 ∨ op = 12 ∨ op = 13 then decide (0 ≤ imm) && (decide (imm ≤ 31) || (decide (imm ≤ 63) && !nar)) else fitsL imm 2147483647
theorem good_imm (r : RRow) (imm : Int) : goodR r imm = immB r.op r.nar imm := by
  unfold goodR immB fitsL
  by_cases h20 : r.op = 20
  · rw [if_pos h20, if_pos h20]
  rw [if_neg h20, if_neg h20]
  by_cases hr : imm < -2147483648 ∨ 2147483647 < imm
  · rw [if_pos hr]
    by_cases h21 : r.op = 21
    · rw [if_pos h21, Bool.eq_iff_iff]; simp; omega
    rw [if_neg h21]
    by_cases h25 : r.op = 25
    · rw [if_pos h25]
      cases ha : atomL imm with
      | false => rfl
      | true => have := atom_rng ha; omega
    rw [if_neg h25]
    split
    · rw [Bool.eq_iff_iff]; simp; omega
    · split
      · rw [Bool.eq_iff_iff]; simp; omega
      · rw [Bool.eq_iff_iff]; simp; omega
  · rw [if_neg hr]
    by_cases h4 : r.op = 4 ∨ r.op = 5 ∨ r.op = 6 ∨ r.op = 7
    · rw [if_pos h4, if_neg (by omega), if_neg (by omega), if_pos h4, Bool.eq_iff_iff]; simp; omega
    rw [if_neg h4]
    by_cases h11 : r.op = 11 ∨ r.op = 12 ∨ r.op = 13
    · rw [if_pos h11, if_neg (by omega), if_neg (by omega), if_neg h4, if_pos h11]
      cases r.nar
      · rw [Bool.eq_iff_iff]; simp; omega
      · rw [Bool.eq_iff_iff]; simp; omega
    rw [if_neg h11]
    by_cases h25 : r.op = 25
    · rw [if_pos h25, if_neg (by omega), if_pos h25]
    rw [if_neg h25]
    by_cases h21 : r.op = 21
    · rw [if_pos h21, if_pos h21, Bool.eq_iff_iff]; simp; omega
    rw [if_neg h21, if_neg h21, if_neg h25, if_neg h4, if_neg h11, Bool.eq_iff_iff]; simp; omega
theorem immediate_b (op : Int) (nar reg : Bool) (imm : Int) : immediateL op nar reg imm = if (namedL op nar reg / 32 % 2 == 1) = true then immB op nar imm else imm == 0 := by
  unfold immediateL immB
  have h : namedL op nar reg / 32 % 2 = 0 ∨ namedL op nar reg / 32 % 2 = 1 := by omega
  rcases h with e | e
  · rw [if_pos e, e]; rfl
  · rw [if_neg (by omega), e]; rfl
/-- a row that is found: its fields are those that are named -/
structure Found (i : Ins) (y : RRow) : Prop where
  ops : operatesL i.op i.nar i.reg i.size = true
  op : y.op = i.op
  nar : y.nar = i.nar
  dst : (y.dst == -1) = (i.p / 4 % 2 == 1)
  src : (y.src == -1) = (i.p / 8 % 2 == 1)
  off : (y.off == -1) = (i.p / 16 % 2 == 1)
  imm : (y.imm == -1 || y.second == -1) = (i.p / 32 % 2 == 1)
  writes : y.writes = (decide (1 ≤ i.op) && decide (i.op ≤ 23))
theorem found_some {i : Ins} {y : RRow} (h : findR i.op i.nar i.reg i.size = some y) : Found i y := by
  have hf := form_ok i.op i.nar i.reg i.size
  unfold formOk at hf
  rw [h] at hf
  simp only [Bool.and_eq_true, beq_iff_eq] at hf
  obtain ⟨⟨⟨⟨⟨⟨⟨f0, f1⟩, f2⟩, f3⟩, f4⟩, f5⟩, f6⟩, f7⟩ := hf
  exact ⟨f0, f1, f2, f3, f4, f5, f6, f7⟩
theorem found_none {i : Ins} (h : findR i.op i.nar i.reg i.size = none) : operatesL i.op i.nar i.reg i.size = false := by
  have hf := form_ok i.op i.nar i.reg i.size
  unfold formOk at hf
  rw [h] at hf
  simpa using hf
theorem Found.regs {i : Ins} {y : RRow} (F : Found i y) (dst src imm : Int) : regsR y dst src imm = registersL i.op i.nar i.reg dst src imm := by
  unfold regsR registersL
  rw [reg_b, reg_b, F.dst, F.src, F.op, F.writes, bit_no (namedL i.op i.nar i.reg / 4), bit_no (namedL i.op i.nar i.reg / 8)]
  rfl
theorem fields_b (a b c : Bool) (dst src off : Int) : ((a || dst == 0) && (b || src == 0) && (c || off == 0) && (decide (-32768 ≤ off) && decide (off ≤ 32767))) =
    !((!a && dst != 0) || (!b && src != 0) || (!c && off != 0) || decide (off < -32768) || decide (32767 < off)) := by
  rw [Bool.eq_iff_iff]
  cases a <;> cases b <;> cases c <;> simp <;> omega
theorem Found.fields {i : Ins} {y : RRow} (F : Found i y) : fieldsL i.op i.nar i.reg i.dst i.src i.off = !((y.dst != -1 && i.dst != 0) || (y.src != -1 && i.src != 0) || (y.off != -1 && i.off != 0) || decide (i.off < -32768) || decide (32767 < i.off)) := by
  unfold fieldsL
  rw [fields_b]
  have e1 : (y.dst != -1) = !(namedL i.op i.nar i.reg / 4 % 2 == 1) := congrArg not F.dst
  have e2 : (y.src != -1) = !(namedL i.op i.nar i.reg / 8 % 2 == 1) := congrArg not F.src
  have e3 : (y.off != -1) = !(namedL i.op i.nar i.reg / 16 % 2 == 1) := congrArg not F.off
  rw [e1, e2, e3]
theorem right_ref (i : Ins) : rightR i = i.wrong := by
  unfold rightR Ins.wrong wrongL
  cases hy : findR i.op i.nar i.reg i.size with
  | none => rw [if_pos (found_none hy)]
  | some y =>
    have F := found_some hy
    simp only
    rw [F.regs, F.fields, immediate_b]
    simp only [F.ops, Bool.true_eq_false, if_false]
    generalize registersL i.op i.nar i.reg i.dst i.src i.imm = rg
    generalize ((y.dst != -1 && i.dst != 0) || (y.src != -1 && i.src != 0) || (y.off != -1 && i.off != 0) || decide (i.off < -32768) || decide (32767 < i.off)) = fl
    have e32 : (namedL i.op i.nar i.reg / 32 % 2 == 1) = (y.imm == -1 || y.second == -1) := F.imm.symm
    rw [e32, good_imm, F.op, F.nar]
    have en : (y.imm != -1 && y.second != -1) = !(y.imm == -1 || y.second == -1) := by
      unfold bne
      cases (y.imm == -1) <;> cases (y.second == -1) <;> rfl
    rw [en]
    generalize (y.imm == -1 || y.second == -1) = b
    generalize immB i.op i.nar i.imm = q
    cases rg <;> cases fl <;> cases b <;> cases q <;> simp [bne]
end Go.Proofs.YtaglclmfjopnlaaDoor
