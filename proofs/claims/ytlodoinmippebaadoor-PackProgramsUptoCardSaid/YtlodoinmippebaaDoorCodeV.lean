/- Package code: reading, plain mathematics: what an opcode tells, what the units of an instruction are, what is read of bytes; what is written is read back, what is read is written as it was. -/
import Derived.Test.YtlodoinmippebaaDoorCodeP
import Derived.Test.YtlodoinmippebaaDoorCodeSS
namespace Go.Proofs.YtlodoinmippebaaDoor
open Go.RowKit
open Cod
set_option linter.unusedVariables false

/-- a unit's fields -/
structure U where
  oc : Int
  dst : Int
  src : Int
  off : Int
  imm : Int
deriving DecidableEq
def zeroI : Ins := ⟨0, false, false, 0, 0, 0, 0, 0⟩
def zeroU : U := ⟨0, 0, 0, 0, 0⟩
def touchOp (k : Int) : Int := if k = 97 then 22 else if k = 129 then 23 else if k = 98 then 24 else if k = 99 then 24 else if k = 195 then 25 else 0
def touchL (c : Int) : Ins := ⟨touchOp (c - 8 * (c / 8 % 4)), false, c - 8 * (c / 8 % 4) == 99, sizeT.getD (c / 8 % 4).toNat 0, 0, 0, 0, 0⟩
def toldL (c : Int) : Ins :=
  if c % 8 = 4 ∨ c % 8 = 7 then (if c / 16 < 13 then ⟨joinT.getD (c / 16).toNat 0, c % 8 == 4, c / 8 % 2 == 1, 0, 0, 0, 0, 0⟩ else zeroI)
  else if c % 8 = 5 ∨ c % 8 = 6 then (if c / 16 < 14 then ⟨jumpT.getD (c / 16).toNat 0, c % 8 == 6, c / 8 % 2 == 1, 0, 0, 0, 0, 0⟩ else zeroI)
  else touchL c
def opI (op : Int) : Ins := ⟨op, false, false, 0, 0, 0, 0, 0⟩
def opL (c : Int) : Ins :=
  if c = 24 then opI 20 else if c = 212 then opI 17 else if c = 220 then opI 18 else if c = 215 then opI 19 else
  if operatesL (toldL c).op (toldL c).nar (toldL c).reg (toldL c).size = true then toldL c else zeroI
def chosenL (i : Ins) (u : U) : Ins :=
  if i.op = 4 then (if u.off = 1 then { i with op := 6 } else i)
  else if i.op = 5 then (if u.off = 1 then { i with op := 7 } else i)
  else if i.op = 15 then (if operatesL 16 i.nar i.reg u.off = true then ⟨16, i.nar, i.reg, u.off, 0, 0, 0, 0⟩ else i)
  else if i.op = 17 ∨ i.op = 18 ∨ i.op = 19 then { i with size := u.imm }
  else if i.op = 20 then (if u.src = 6 then { i with op := 21 } else i)
  else i
def Ins.p (i : Ins) : Int := namedL i.op i.nar i.reg
def filledL (i : Ins) (u v : U) : Ins :=
  { i with
    dst := if i.p / 4 % 2 = 1 then u.dst else i.dst
    src := if i.p / 8 % 2 = 1 then u.src else i.src
    off := if i.p / 16 % 2 = 1 then u.off else i.off
    imm := if i.op = 20 then v.imm * 4294967296 + u.imm % 4294967296 else if i.op = 21 then v.imm else if i.p / 32 % 2 = 1 then u.imm else i.imm }
def readL (u v : U) : Ins := filledL (chosenL (opL u.oc) u) u v
/-- the error that reading an instruction of these units gives up with; 0: none -/
def errL (i : Ins) (u v : U) : Int :=
  if registersL i.op i.nar i.reg i.dst i.src i.imm = false then 22
  else if ¬ (u.dst = i.dst ∧ u.src = firstS i ∧ u.off = firstO i) then 23
  else if ¬ (v.oc = 0 ∧ v.dst = 0 ∧ v.src = 0 ∧ v.off = 0) then 23
  else if ¬ (u.imm = firstI i ∧ sizedL i.op i.nar i.size = true ∧ immediateL i.op i.nar i.reg i.imm = true) then 24 else 0

/-! finite facts -/
def sizesA : List Int := [0, 1, 2, 4, 8, 16, 32, 64]
def baseOp (op : Int) : Int := if op = 6 then 4 else if op = 7 then 5 else if op = 16 then 15 else if op = 21 then 20 else op
def baseI (op : Int) (nar reg : Bool) (size : Int) : Ins := ⟨baseOp op, nar, reg, if 16 ≤ op ∧ op ≤ 19 then 0 else size, 0, 0, 0, 0⟩
def chk1 : Bool := (List.range 40).all fun op => [true, false].all fun nar => [true, false].all fun reg => sizesA.all fun size =>
  !(operatesL op nar reg size) || decide (opL (opcodeL op nar reg size) = baseI op nar reg size)
theorem chk1_ok : chk1 = true := by kernel_rfl
def chk2 : Bool := (List.range 256).all fun c => decide ((opL c).op = 0) || (decide (1 ≤ (opL c).op ∧ (opL c).op ≤ 39 ∧ (opL c).dst = 0 ∧ (opL c).src = 0 ∧ (opL c).off = 0 ∧ (opL c).imm = 0 ∧ opcodeL (opL c).op (opL c).nar (opL c).reg (opL c).size = c ∧ (opL c).op ≠ 16 ∧ (opL c).op ≠ 6 ∧ (opL c).op ≠ 7 ∧ (opL c).op ≠ 21)
  && (if (opL c).op = 17 ∨ (opL c).op = 18 ∨ (opL c).op = 19 then !(opL c).nar && !(opL c).reg else operatesL (opL c).op (opL c).nar (opL c).reg (opL c).size))
theorem chk2_ok : chk2 = true := by kernel_rfl

theorem sized_mem {op : Int} {nar : Bool} {size : Int} (h : sizedL op nar size = true) : size ∈ sizesA := by
  unfold sizedL at h
  unfold sizesA
  simp only [List.mem_cons, List.not_mem_nil, or_false]
  repeat' (split at h)
  all_goals simp only [Bool.or_eq_true, Bool.and_eq_true, beq_iff_eq] at h
  all_goals omega
theorem op_sized {op : Int} {nar reg : Bool} {size : Int} (h : operatesL op nar reg size = true) : (1 ≤ op ∧ op ≤ 39) ∧ sizedL op nar size = true := by
  unfold operatesL at h
  split at h
  · exact absurd h (by decide)
  · split at h
    · exact absurd h (by decide)
    · simp only [Bool.and_eq_true] at h
      exact ⟨by omega, h.2⟩
theorem opL_of {op : Int} {nar reg : Bool} {size : Int} (h : operatesL op nar reg size = true) : opL (opcodeL op nar reg size) = baseI op nar reg size := by
  have h1 := op_sized h
  have h2 := sized_mem h1.2
  have h3 := chk1_ok
  unfold chk1 at h3
  rw [List.all_eq_true] at h3
  obtain ⟨n, hn⟩ := Int.eq_ofNat_of_zero_le (show 0 ≤ op by omega)
  have h4 := h3 n (List.mem_range.2 (by omega))
  rw [List.all_eq_true] at h4
  have h5 := h4 nar (by cases nar <;> simp)
  rw [List.all_eq_true] at h5
  have h6 := h5 reg (by cases reg <;> simp)
  rw [List.all_eq_true] at h6
  have h7 := h6 size h2
  rw [← hn, h] at h7
  simpa using h7
structure OpFacts (c : Int) : Prop where
  op : 1 ≤ (opL c).op ∧ (opL c).op ≤ 39
  zero : (opL c).dst = 0 ∧ (opL c).src = 0 ∧ (opL c).off = 0 ∧ (opL c).imm = 0
  oc : opcodeL (opL c).op (opL c).nar (opL c).reg (opL c).size = c
  not : (opL c).op ≠ 16 ∧ (opL c).op ≠ 6 ∧ (opL c).op ≠ 7 ∧ (opL c).op ≠ 21
  ops : ¬ ((opL c).op = 17 ∨ (opL c).op = 18 ∨ (opL c).op = 19) → operatesL (opL c).op (opL c).nar (opL c).reg (opL c).size = true
  swap : (opL c).op = 17 ∨ (opL c).op = 18 ∨ (opL c).op = 19 → (opL c).nar = false ∧ (opL c).reg = false
theorem opL_facts {c : Int} (hc : 0 ≤ c ∧ c < 256) (h : (opL c).op ≠ 0) : OpFacts c := by
  have h3 := chk2_ok
  unfold chk2 at h3
  rw [List.all_eq_true] at h3
  obtain ⟨n, hn⟩ := Int.eq_ofNat_of_zero_le hc.1
  have h4 := h3 n (List.mem_range.2 (by omega))
  rw [← hn] at h4
  rw [Bool.or_eq_true, Bool.and_eq_true] at h4
  simp only [decide_eq_true_eq] at h4
  rcases h4 with h4 | ⟨⟨h5, h6, h7, h8, h9, h10, h11, h12, h13, h14, h15⟩, h16⟩
  · exact absurd h4 h
  · refine ⟨⟨h5, h6⟩, ⟨h7, h8, h9, h10⟩, h11, ⟨h12, h13, h14, h15⟩, fun hn => ?_, fun hy => ?_⟩
    · rw [if_neg hn] at h16; exact h16
    · rw [if_pos hy] at h16
      simpa using h16

/-! what is written is read back -/
def Ins.u1 (i : Ins) : U := ⟨i.oc, i.dst, firstS i, firstO i, firstI i⟩
def Ins.u2 (i : Ins) : U := if isLong i = true then ⟨0, 0, 0, 0, secondI i⟩ else zeroU
def Ins.rng (i : Ins) : Prop := -9223372036854775808 ≤ i.imm ∧ i.imm < 9223372036854775808
structure Right (i : Ins) : Prop where
  ops : operatesL i.op i.nar i.reg i.size = true
  regs : registersL i.op i.nar i.reg i.dst i.src i.imm = true
  dst : i.p / 4 % 2 = 1 ∨ i.dst = 0
  src : i.p / 8 % 2 = 1 ∨ i.src = 0
  off : i.p / 16 % 2 = 1 ∨ i.off = 0
  offr : -32768 ≤ i.off ∧ i.off ≤ 32767
  imm : immediateL i.op i.nar i.reg i.imm = true
theorem right_iff (i : Ins) : i.wrong = 0 ↔ Right i := by
  unfold Ins.wrong wrongL
  constructor
  · intro h
    split at h
    · exact absurd h (by decide)
    · split at h
      · exact absurd h (by decide)
      · split at h
        · exact absurd h (by decide)
        · split at h
          · exact absurd h (by decide)
          · rename_i h1 h2 h3 h4
            simp only [Bool.not_eq_false] at h1 h2 h3 h4
            have h3' := h3
            unfold fieldsL at h3'
            simp only [Bool.and_eq_true, Bool.or_eq_true, beq_iff_eq, decide_eq_true_eq] at h3'
            exact ⟨h1, h2, h3'.1.1.1, h3'.1.1.2, h3'.1.2, h3'.2, h4⟩
  · rintro ⟨h1, h2, h3, h4, h5, h6, h7⟩
    rw [if_neg (by simp [h1]), if_neg (by simp [h2]), if_neg ?_, if_neg (by simp [h7])]
    unfold fieldsL
    simp only [Bool.not_eq_false, Bool.and_eq_true, Bool.or_eq_true, beq_iff_eq, decide_eq_true_eq]
    exact ⟨⟨⟨h3, h4⟩, h5⟩, h6⟩
theorem p_15 (nar reg : Bool) : namedL 15 nar reg / 16 % 2 = 0 := by cases nar <;> cases reg <;> decide
theorem p_4 (nar reg : Bool) : namedL 4 nar reg / 16 % 2 = 0 := by cases nar <;> cases reg <;> decide
theorem p_5 (nar reg : Bool) : namedL 5 nar reg / 16 % 2 = 0 := by cases nar <;> cases reg <;> decide
theorem p_20 (nar reg : Bool) : namedL 20 nar reg / 8 % 2 = 0 := by cases nar <;> cases reg <;> decide
theorem o16 (nar reg : Bool) : operatesL 16 nar reg 0 = false := by cases nar <;> cases reg <;> decide
theorem chosen_back (i : Ins) (h : Right i) : chosenL (baseI i.op i.nar i.reg i.size) i.u1 = ⟨i.op, i.nar, i.reg, i.size, 0, 0, 0, 0⟩ := by
  obtain ⟨op, nar, reg, size, dst, src, off, imm⟩ := i
  have hop := (op_sized h.ops).1
  have hsz := (op_sized h.ops).2
  have ho := h.off
  have hs := h.src
  have hops := h.ops
  simp only [Ins.p] at *
  by_cases h4 : op = 4
  · subst h4
    have := p_4 nar reg
    have e : off = 0 := by omega
    subst e
    simp [chosenL, baseI, baseOp, Ins.u1, firstO]
  by_cases h5 : op = 5
  · subst h5
    have := p_5 nar reg
    have e : off = 0 := by omega
    subst e
    simp [chosenL, baseI, baseOp, Ins.u1, firstO]
  by_cases h6 : op = 6
  · subst h6
    simp [chosenL, baseI, baseOp, Ins.u1, firstO]
  by_cases h7 : op = 7
  · subst h7
    simp [chosenL, baseI, baseOp, Ins.u1, firstO]
  by_cases h15 : op = 15
  · subst h15
    have := p_15 nar reg
    have e : off = 0 := by omega
    subst e
    simp [chosenL, baseI, baseOp, Ins.u1, firstO, o16]
  by_cases h16 : op = 16
  · subst h16
    simp [chosenL, baseI, baseOp, Ins.u1, firstO, hops]
  by_cases h17 : op = 17 ∨ op = 18 ∨ op = 19
  · rcases h17 with rfl | rfl | rfl <;> simp [chosenL, baseI, baseOp, Ins.u1, firstI]
  by_cases h20 : op = 20
  · subst h20
    have := p_20 nar reg
    have e : src = 0 := by omega
    subst e
    simp [chosenL, baseI, baseOp, Ins.u1, firstS]
  by_cases h21 : op = 21
  · subst h21
    simp [chosenL, baseI, baseOp, Ins.u1, firstS]
  · unfold chosenL baseI baseOp
    rw [if_neg h6, if_neg h7, if_neg h16, if_neg h21, if_neg (by omega : ¬ (16 ≤ op ∧ op ≤ 19))]
    simp only
    rw [if_neg h4, if_neg h5, if_neg h15, if_neg h17, if_neg h20]
theorem p_6 (nar reg : Bool) : namedL 6 nar reg / 16 % 2 = 0 := by cases nar <;> cases reg <;> decide
theorem p_7 (nar reg : Bool) : namedL 7 nar reg / 16 % 2 = 0 := by cases nar <;> cases reg <;> decide
theorem p_16 (nar reg : Bool) : namedL 16 nar reg / 16 % 2 = 0 := by cases nar <;> cases reg <;> decide
theorem p_21 (nar reg : Bool) : namedL 21 nar reg / 8 % 2 = 0 := by cases nar <;> cases reg <;> decide
theorem p_17 (nar reg : Bool) : namedL 17 nar reg / 32 % 2 = 0 ∧ namedL 18 nar reg / 32 % 2 = 0 ∧ namedL 19 nar reg / 32 % 2 = 0 := by cases nar <;> cases reg <;> decide
theorem firstO_named (i : Ins) (h : i.p / 16 % 2 = 1) : firstO i = i.off := by
  unfold firstO
  unfold Ins.p at h
  by_cases h6 : i.op = 6
  · rw [h6, p_6] at h; omega
  by_cases h7 : i.op = 7
  · rw [h7, p_7] at h; omega
  by_cases h16 : i.op = 16
  · rw [h16, p_16] at h; omega
  rw [if_neg (by omega), if_neg h16]
theorem firstS_named (i : Ins) (h : i.p / 8 % 2 = 1) : firstS i = i.src := by
  unfold firstS
  unfold Ins.p at h
  by_cases h6 : i.op = 21
  · rw [h6, p_21] at h; omega
  rw [if_neg h6]
theorem firstI_named (i : Ins) (h : i.p / 32 % 2 = 1) (h20 : i.op ≠ 20) (h21 : i.op ≠ 21) : firstI i = i.imm := by
  unfold firstI
  unfold Ins.p at h
  by_cases h17 : i.op = 17
  · rw [h17, (p_17 _ _).1] at h; omega
  by_cases h18 : i.op = 18
  · rw [h18, (p_17 _ _).2.1] at h; omega
  by_cases h19 : i.op = 19
  · rw [h19, (p_17 _ _).2.2] at h; omega
  rw [if_neg (by omega), if_neg h20, if_neg h21]
theorem imm_named (i : Ins) (h : Right i) : i.p / 32 % 2 = 1 ∨ i.imm = 0 := by
  by_cases h1 : i.p / 32 % 2 = 1
  · exact .inl h1
  · have h2 := h.imm
    unfold immediateL at h2
    unfold Ins.p at h1
    rw [if_pos (by omega)] at h2
    right
    simpa using h2
theorem wrap32_mod (x : Int) : wrap32 x % 4294967296 = x % 4294967296 := by unfold wrap32; omega
theorem filled_back (i : Ins) (h : Right i) : filledL ⟨i.op, i.nar, i.reg, i.size, 0, 0, 0, 0⟩ i.u1 i.u2 = i := by
  have hd := h.dst
  have hs := h.src
  have ho := h.off
  have hi := imm_named i h
  have fo := firstO_named i
  have fs := firstS_named i
  have fi := firstI_named i
  unfold filledL
  have hp : Ins.p ⟨i.op, i.nar, i.reg, i.size, 0, 0, 0, 0⟩ = i.p := rfl
  rw [hp]
  simp only [Ins.u1, Ins.u2]
  have e1 : (if i.p / 4 % 2 = 1 then i.dst else 0) = i.dst := by split <;> omega
  have e2 : (if i.p / 8 % 2 = 1 then firstS i else 0) = i.src := by
    split
    · rename_i h1; exact fs h1
    · omega
  have e3 : (if i.p / 16 % 2 = 1 then firstO i else 0) = i.off := by
    split
    · rename_i h1; exact fo h1
    · omega
  have e4 : (if i.op = 20 then (if isLong i = true then (⟨0, 0, 0, 0, secondI i⟩ : U) else zeroU).imm * 4294967296 + firstI i % 4294967296 else if i.op = 21 then (if isLong i = true then (⟨0, 0, 0, 0, secondI i⟩ : U) else zeroU).imm else if i.p / 32 % 2 = 1 then firstI i else 0) = i.imm := by
    by_cases h20 : i.op = 20
    · have hl : isLong i = true := by simp [isLong, h20]
      rw [if_pos h20, if_pos hl]
      simp only [secondI, firstI, h20]
      have := wrap32_mod i.imm
      simp only [if_true, show ¬ ((20 : Int) = 17 ∨ (20 : Int) = 18 ∨ (20 : Int) = 19) by decide, if_false]
      omega
    · rw [if_neg h20]
      by_cases h21 : i.op = 21
      · have hl : isLong i = true := by simp [isLong, h21]
        rw [if_pos h21, if_pos hl]
        simp only [secondI, if_neg h20]
      · rw [if_neg h21]
        split
        · rename_i h1; exact fi h1 h20 h21
        · omega
  rw [e1, e2, e3, e4]
theorem read_back (i : Ins) (h : Right i) : readL i.u1 i.u2 = i ∧ errL i i.u1 i.u2 = 0 ∧ (opL i.oc).op = baseOp i.op := by
  have e1 : opL i.oc = baseI i.op i.nar i.reg i.size := opL_of h.ops
  refine ⟨?_, ?_, ?_⟩
  · unfold readL
    rw [show i.u1.oc = i.oc from rfl, e1, chosen_back i h, filled_back i h]
  · unfold errL
    rw [if_neg (by simp [h.regs])]
    have hu2 : i.u2.oc = 0 ∧ i.u2.dst = 0 ∧ i.u2.src = 0 ∧ i.u2.off = 0 := by unfold Ins.u2; split <;> exact ⟨rfl, rfl, rfl, rfl⟩
    rw [if_neg (by simp [Ins.u1]), if_neg (by simp [hu2]), if_neg (by simp [Ins.u1, h.imm, (op_sized h.ops).2])]
  · rw [e1]; rfl

/-! what is read is right, and written as it was -/
structure Kept (c : Int) (lg : Bool) (k : Ins) : Prop where
  op : 1 ≤ k.op ∧ k.op ≤ 39
  zero : k.dst = 0 ∧ k.src = 0 ∧ k.off = 0 ∧ k.imm = 0
  oc : opcodeL k.op k.nar k.reg k.size = c
  ops : sizedL k.op k.nar k.size = true → operatesL k.op k.nar k.reg k.size = true
  long : isLong k = lg
theorem oc_div (nar reg : Bool) (size : Int) : opcodeL 6 nar reg size = opcodeL 4 nar reg size ∧ opcodeL 7 nar reg size = opcodeL 5 nar reg size := by
  constructor <;> kernel_rfl
theorem oc_mov (nar reg : Bool) (size s : Int) : opcodeL 16 nar reg s = opcodeL 15 nar reg size := by kernel_rfl
theorem oc_swap (nar reg : Bool) (size s : Int) : opcodeL 17 nar reg s = opcodeL 17 nar reg size ∧ opcodeL 18 nar reg s = opcodeL 18 nar reg size ∧ opcodeL 19 nar reg s = opcodeL 19 nar reg size := by
  refine ⟨?_, ?_, ?_⟩ <;> kernel_rfl
theorem oc_data (nar reg : Bool) (size s : Int) : opcodeL 21 nar reg s = opcodeL 20 nar reg size := by kernel_rfl
theorem ops_div (nar reg : Bool) (size : Int) : operatesL 6 nar reg size = operatesL 4 nar reg size ∧ operatesL 7 nar reg size = operatesL 5 nar reg size ∧ operatesL 21 nar reg size = operatesL 20 nar reg size := by
  refine ⟨?_, ?_, ?_⟩ <;> kernel_rfl
theorem ops_swap (op : Int) (h : op = 17 ∨ op = 18 ∨ op = 19) (size : Int) (hs : sizedL op false size = true) : operatesL op false false size = true := by
  rcases h with rfl | rfl | rfl <;> (unfold operatesL; simp [hs])
theorem chosen_kept {c : Int} (F : OpFacts c) (u : U) : Kept c (decide ((opL c).op = 20)) (chosenL (opL c) u) := by
  obtain ⟨fop, fz, foc, fn, fops, fsw⟩ := F
  have hlong : ∀ (o : Int) (a b : Bool) (x1 x2 x3 x4 x5 : Int), o ≠ 20 → o ≠ 21 → (opL c).op ≠ 20 → isLong ⟨o, a, b, x1, x2, x3, x4, x5⟩ = decide ((opL c).op = 20) := fun o a b x1 x2 x3 x4 x5 h1 h2 h3 => by
    simp [isLong, h1, h2, h3]
  revert hlong
  generalize opL c = j at *
  obtain ⟨op, nar, reg, size, dst, src, off, imm⟩ := j
  simp only at *
  intro hlong
  have d19 : ∀ x : Int, x = 4 ∨ x = 5 ∨ x = 15 ∨ x = 6 ∨ x = 7 ∨ x = 16 → ¬ (x = 17 ∨ x = 18 ∨ x = 19) := fun x h => by omega
  unfold chosenL
  simp only
  by_cases h4 : op = 4
  · subst h4
    rw [if_pos rfl]
    have h1 := fops (by decide)
    split
    · exact ⟨⟨by simp only; omega, by simp only; omega⟩, fz, (oc_div nar reg size).1.trans foc, fun _ => (ops_div nar reg size).1.trans h1, hlong _ _ _ _ _ _ _ _ (by decide) (by decide) (by decide)⟩
    · exact ⟨⟨by simp only; omega, by simp only; omega⟩, fz, foc, fun _ => h1, hlong _ _ _ _ _ _ _ _ (by decide) (by decide) (by decide)⟩
  rw [if_neg h4]
  by_cases h5 : op = 5
  · subst h5
    rw [if_pos rfl]
    have h1 := fops (by decide)
    split
    · exact ⟨⟨by simp only; omega, by simp only; omega⟩, fz, (oc_div nar reg size).2.trans foc, fun _ => (ops_div nar reg size).2.1.trans h1, hlong _ _ _ _ _ _ _ _ (by decide) (by decide) (by decide)⟩
    · exact ⟨⟨by simp only; omega, by simp only; omega⟩, fz, foc, fun _ => h1, hlong _ _ _ _ _ _ _ _ (by decide) (by decide) (by decide)⟩
  rw [if_neg h5]
  by_cases h15 : op = 15
  · subst h15
    rw [if_pos rfl]
    have h1 := fops (by decide)
    split
    · rename_i h2
      exact ⟨⟨by simp only; omega, by simp only; omega⟩, ⟨rfl, rfl, rfl, rfl⟩, (oc_mov nar reg size u.off).trans foc, fun _ => h2, hlong _ _ _ _ _ _ _ _ (by decide) (by decide) (by decide)⟩
    · exact ⟨⟨by simp only; omega, by simp only; omega⟩, fz, foc, fun _ => h1, hlong _ _ _ _ _ _ _ _ (by decide) (by decide) (by decide)⟩
  rw [if_neg h15]
  by_cases h17 : op = 17 ∨ op = 18 ∨ op = 19
  · rw [if_pos h17]
    obtain ⟨e1, e2⟩ := fsw h17
    subst e1 e2
    refine ⟨fop, fz, ?_, fun hs => ops_swap op h17 _ hs, hlong _ _ _ _ _ _ _ _ (by omega) (by omega) (by omega)⟩
    rcases h17 with rfl | rfl | rfl
    · exact (oc_swap false false size u.imm).1.trans foc
    · exact (oc_swap false false size u.imm).2.1.trans foc
    · exact (oc_swap false false size u.imm).2.2.trans foc
  rw [if_neg h17]
  have h1 := fops h17
  by_cases h20 : op = 20
  · subst h20
    rw [if_pos rfl]
    split
    · exact ⟨⟨by simp only; omega, by simp only; omega⟩, fz, (oc_data nar reg size size).trans foc, fun _ => (ops_div nar reg size).2.2.trans h1, rfl⟩
    · exact ⟨⟨by simp only; omega, by simp only; omega⟩, fz, foc, fun _ => h1, rfl⟩
  rw [if_neg h20]
  exact ⟨fop, fz, foc, fun _ => h1, hlong _ _ _ _ _ _ _ _ h20 fn.2.2.2 h20⟩
/-- units that bytes say -/
structure UOk (u : U) : Prop where
  oc : 0 ≤ u.oc ∧ u.oc < 256
  dst : 0 ≤ u.dst ∧ u.dst < 16
  src : 0 ≤ u.src ∧ u.src < 16
  off : -32768 ≤ u.off ∧ u.off ≤ 32767
  imm : -2147483648 ≤ u.imm ∧ u.imm ≤ 2147483647
theorem UOk.zero : UOk zeroU := ⟨by decide, by decide, by decide, by decide, by decide⟩
structure ReadOk (u v : U) (i : Ins) : Prop where
  right : Right i
  first : u = i.u1
  second : isLong i = true → v = ⟨0, 0, 0, 0, secondI i⟩
  long : isLong i = decide ((opL u.oc).op = 20)
  rng : i.rng
  fit : -2147483648 ≤ i.size ∧ i.size ≤ 2147483647
theorem err_zero {i : Ins} {u v : U} (h : errL i u v = 0) : registersL i.op i.nar i.reg i.dst i.src i.imm = true ∧ (u.dst = i.dst ∧ u.src = firstS i ∧ u.off = firstO i) ∧ (v.oc = 0 ∧ v.dst = 0 ∧ v.src = 0 ∧ v.off = 0) ∧ u.imm = firstI i ∧ sizedL i.op i.nar i.size = true ∧ immediateL i.op i.nar i.reg i.imm = true := by
  unfold errL at h
  split at h
  · exact absurd h (by decide)
  · split at h
    · exact absurd h (by decide)
    · split at h
      · exact absurd h (by decide)
      · split at h
        · exact absurd h (by decide)
        · rename_i h1 h2 h3 h4
          exact ⟨by simpa using h1, Decidable.not_not.1 h2, Decidable.not_not.1 h3, (Decidable.not_not.1 h4)⟩
theorem read_ok {u v : U} (hu : UOk u) (hv : UOk v) (h0 : (opL u.oc).op ≠ 0) (hz : (opL u.oc).op ≠ 20 → v = zeroU) (he : errL (readL u v) u v = 0) : ReadOk u v (readL u v) := by
  have F := opL_facts hu.oc h0
  have K := chosen_kept F u
  obtain ⟨e1, ⟨e2, e3, e4⟩, ⟨e5, e6, e7, e8⟩, e9, e10, e11⟩ := err_zero he
  obtain ⟨kop, kz, koc, kops, klong⟩ := K
  revert e1 e2 e3 e4 e9 e10 e11
  unfold readL
  generalize chosenL (opL u.oc) u = k at *
  obtain ⟨op, nar, reg, size, dst, src, off, imm⟩ := k
  simp only at kop kz koc kops klong
  obtain ⟨rfl, rfl, rfl, rfl⟩ := kz
  generalize hi : filledL ⟨op, nar, reg, size, 0, 0, 0, 0⟩ u v = i
  intro e1 e2 e3 e4 e9 e10 e11
  have hq : i.op = op ∧ i.nar = nar ∧ i.reg = reg ∧ i.size = size := by rw [← hi]; exact ⟨rfl, rfl, rfl, rfl⟩
  have hp : i.p = namedL op nar reg := by unfold Ins.p; rw [hq.1, hq.2.1, hq.2.2.1]
  have hpp : Ins.p ⟨op, nar, reg, size, 0, 0, 0, 0⟩ = namedL op nar reg := rfl
  have hd : i.dst = if namedL op nar reg / 4 % 2 = 1 then u.dst else 0 := by rw [← hi]; rfl
  have hs : i.src = if namedL op nar reg / 8 % 2 = 1 then u.src else 0 := by rw [← hi]; rfl
  have ho : i.off = if namedL op nar reg / 16 % 2 = 1 then u.off else 0 := by rw [← hi]; rfl
  have hm : i.imm = if op = 20 then v.imm * 4294967296 + u.imm % 4294967296 else if op = 21 then v.imm else if namedL op nar reg / 32 % 2 = 1 then u.imm else 0 := by rw [← hi]; rfl
  have hlen : isLong i = isLong ⟨op, nar, reg, size, 0, 0, 0, 0⟩ := by unfold isLong; rw [hq.1]
  have hvi := hv.imm
  have hui := hu.imm
  have huo := hu.off
  rw [hq.1, hq.2.1, hq.2.2.2] at e10
  have hops := kops e10
  clear hi
  refine ⟨⟨?_, e1, ?_, ?_, ?_, ?_, e11⟩, ?_, ?_, ?_, ?_, ?_⟩
  · rw [hq.1, hq.2.1, hq.2.2.1, hq.2.2.2]; exact hops
  · rw [hp, hd]; by_cases h : namedL op nar reg / 4 % 2 = 1
    · exact .inl h
    · right; rw [if_neg h]
  · rw [hp, hs]; by_cases h : namedL op nar reg / 8 % 2 = 1
    · exact .inl h
    · right; rw [if_neg h]
  · rw [hp, ho]; by_cases h : namedL op nar reg / 16 % 2 = 1
    · exact .inl h
    · right; rw [if_neg h]
  · rw [ho]; split <;> omega
  · have hoc : i.oc = u.oc := by unfold Ins.oc; rw [hq.1, hq.2.1, hq.2.2.1, hq.2.2.2]; exact koc
    obtain ⟨a, b, c, d, e⟩ := u
    unfold Ins.u1
    simp only at *
    rw [← hoc, ← e2, ← e3, ← e4, ← e9]
  · intro hl
    obtain ⟨a, b, c, d, e⟩ := v
    simp only at e5 e6 e7 e8 hm hvi ⊢
    subst e5 e6 e7 e8
    have : secondI i = e := by
      unfold secondI
      rw [hq.1, hm]
      rw [hlen] at hl
      simp only [isLong, Bool.or_eq_true, beq_iff_eq] at hl
      rcases hl with h | h
      · rw [if_pos h, if_pos h]; omega
      · rw [if_neg (by omega), if_neg (by omega), if_pos h]
    rw [this]
  · rw [hlen]; exact klong
  · unfold Ins.rng
    rw [hm]
    split
    · omega
    · split
      · omega
      · split <;> omega
  · have h2 := sized_mem e10
    rw [hq.2.2.2]
    unfold sizesA at h2
    simp only [List.mem_cons, List.not_mem_nil, or_false] at h2
    omega

/-! bytes and units -/
def gB (l : List Int) (k : Nat) : Int := l.getD k 0
def unitA (l : List Int) : U := ⟨gB l 0, gB l 1 % 16, gB l 1 / 16, off16 (gB l 2) (gB l 3), imm32 (gB l 4) (gB l 5) (gB l 6) (gB l 7)⟩
def chk3 : Bool := (List.range 16).all fun d => (List.range 16).all fun s => decide (bits BinOp.or IntKind.i64 (d : Int) (wrap64 ((s : Int) * 16)) = (d : Int) + 16 * s)
theorem chk3_ok : chk3 = true := by kernel_rfl
theorem or_nib {d s : Int} (hd : 0 ≤ d ∧ d < 16) (hs : 0 ≤ s ∧ s < 16) : bits BinOp.or IntKind.i64 d (wrap64 (s * 16)) = d + 16 * s := by
  have h := chk3_ok
  unfold chk3 at h
  obtain ⟨m, rfl⟩ := Int.eq_ofNat_of_zero_le hd.1
  obtain ⟨n, rfl⟩ := Int.eq_ofNat_of_zero_le hs.1
  rw [List.all_eq_true] at h
  have h2 := h m (List.mem_range.2 (by omega))
  rw [List.all_eq_true] at h2
  have h3 := h2 n (List.mem_range.2 (by omega))
  exact of_decide_eq_true h3
theorem off_bytes (o : Int) (h : -32768 ≤ o ∧ o ≤ 32767) : off16 (o % 256) (o / 256 % 256) = o := by unfold off16; split <;> omega
theorem imm_bytes (m : Int) (h : -2147483648 ≤ m ∧ m ≤ 2147483647) : imm32 (m % 256) (m / 256 % 256) (m / 65536 % 256) (m / 16777216 % 256) = m := by unfold imm32; split <;> omega
theorem unitA_back (u : U) (h : UOk u) (rest : List Int) : unitA (unitB u.oc u.dst u.src u.off u.imm ++ rest) = u := by
  obtain ⟨oc, d, s, o, m⟩ := u
  obtain ⟨h1, h2, h3, h4, h5⟩ := h
  simp only at h1 h2 h3 h4 h5
  have e : bits BinOp.or IntKind.i64 d (wrap64 (s * 16)) % 256 = d + 16 * s := by rw [or_nib h2 h3]; omega
  show (⟨oc % 256, bits BinOp.or IntKind.i64 d (wrap64 (s * 16)) % 256 % 16, bits BinOp.or IntKind.i64 d (wrap64 (s * 16)) % 256 / 16, off16 (o % 256) (o / 256 % 256), imm32 (m % 256) (m / 256 % 256) (m / 65536 % 256) (m / 16777216 % 256)⟩ : U) = _
  rw [e, off_bytes o h4, imm_bytes m h5, show oc % 256 = oc by omega, show (d + 16 * s) % 16 = d by omega, show (d + 16 * s) / 16 = s by omega]
def BytesL (l : List Int) : Prop := ∀ x ∈ l, IsB x
theorem BytesL.g {l : List Int} (h : BytesL l) (k : Nat) : IsB (gB l k) := by
  unfold gB
  rw [List.getD_eq_getElem?_getD]
  by_cases hk : k < l.length
  · rw [List.getElem?_eq_getElem hk]; exact h _ (List.getElem_mem hk)
  · rw [List.getElem?_eq_none (by omega)]; exact ⟨by decide, by decide⟩
theorem BytesL.drop {l : List Int} (h : BytesL l) (k : Nat) : BytesL (l.drop k) := fun x hx => h x (List.mem_of_mem_drop hx)
theorem unitA_ok {l : List Int} (h : BytesL l) : UOk (unitA l) := by
  have h0 := h.g 0; have h1 := h.g 1; have h2 := h.g 2; have h3 := h.g 3; have h4 := h.g 4; have h5 := h.g 5; have h6 := h.g 6; have h7 := h.g 7
  unfold IsB at *
  refine ⟨h0, ?_, ?_, ?_, ?_⟩
  · simp only [unitA]; omega
  · simp only [unitA]; omega
  · simp only [unitA, off16]; split <;> omega
  · simp only [unitA, imm32]; split <;> omega
theorem off_split (a b : Int) (ha : IsB a) (hb : IsB b) : off16 a b % 256 = a ∧ off16 a b / 256 % 256 = b := by
  unfold IsB at *; unfold off16; split <;> omega
theorem imm_split (a b c d : Int) (ha : IsB a) (hb : IsB b) (hc : IsB c) (hd : IsB d) : imm32 a b c d % 256 = a ∧ imm32 a b c d / 256 % 256 = b ∧ imm32 a b c d / 65536 % 256 = c ∧ imm32 a b c d / 16777216 % 256 = d := by
  unfold IsB at *; unfold imm32; split <;> omega
theorem unitB_of {l : List Int} (h : BytesL l) (h8 : 8 ≤ l.length) : l.take 8 = unitB (unitA l).oc (unitA l).dst (unitA l).src (unitA l).off (unitA l).imm := by
  match l, h8 with
  | a0 :: a1 :: a2 :: a3 :: a4 :: a5 :: a6 :: a7 :: t, _ =>
    have g : ∀ x ∈ [a0, a1, a2, a3, a4, a5, a6, a7], IsB x := fun x hx => h x (by simp at hx ⊢; omega)
    have h0 := g a0 (by simp); have h1 := g a1 (by simp); have h2 := g a2 (by simp); have h3 := g a3 (by simp)
    have h4 := g a4 (by simp); have h5 := g a5 (by simp); have h6 := g a6 (by simp); have h7 := g a7 (by simp)
    show [a0, a1, a2, a3, a4, a5, a6, a7] = unitB a0 (a1 % 16) (a1 / 16) (off16 a2 a3) (imm32 a4 a5 a6 a7)
    unfold unitB
    obtain ⟨o1, o2⟩ := off_split a2 a3 h2 h3
    obtain ⟨i1, i2, i3, i4⟩ := imm_split a4 a5 a6 a7 h4 h5 h6 h7
    unfold IsB at h0 h1
    rw [o1, o2, i1, i2, i3, i4, or_nib (by omega) (by omega), show a0 % 256 = a0 by omega, show (a1 % 16 + 16 * (a1 / 16)) % 256 = a1 by omega]
theorem unitB_length (a b c d e : Int) : (unitB a b c d e).length = 8 := rfl

/-! reading one instruction, and all -/
def insD (l : List Int) : Int × Ins × Nat :=
  if l.length < 8 then (20, zeroI, 0) else
  if (opL (unitA l).oc).op = 0 then (21, zeroI, 0) else
  if (opL (unitA l).oc).op = 20 then (if l.length < 16 then (20, zeroI, 0) else (errL (readL (unitA l) (unitA (l.drop 8))) (unitA l) (unitA (l.drop 8)), readL (unitA l) (unitA (l.drop 8)), 2))
  else (errL (readL (unitA l) zeroU) (unitA l) zeroU, readL (unitA l) zeroU, 1)
def joinD (done : List Ins) (r : Int × Nat × List Ins) : Int × Nat × List Ins := if r.1 = 0 then (0, 0, done ++ r.2.2) else (r.1, r.2.1, [])
def decD : Nat → List Int → Nat → Nat → Int × Nat × List Ins
  | 0, _, _, _ => (0, 0, [])
  | f + 1, l, cnt, unit =>
    if l.length = 0 then (0, 0, []) else if cnt = 4096 then (25, unit, []) else
    if (insD l).1 ≠ 0 then ((insD l).1, unit, []) else joinD [(insD l).2.1] (decD f (l.drop (8 * (insD l).2.2)) (cnt + 1) (unit + (insD l).2.2))
theorem joinD_nil (r : Int × Nat × List Ins) (h : r.1 = 0 → r.2.1 = 0) (h2 : r.1 ≠ 0 → r.2.2 = []) : joinD [] r = r := by
  obtain ⟨e, a, L⟩ := r
  unfold joinD
  simp only at *
  split
  · rename_i h0; rw [h h0, h0]; rfl
  · rename_i h0; rw [h2 h0]
theorem joinD_join (a b : List Ins) (r : Int × Nat × List Ins) : joinD a (joinD b r) = joinD (a ++ b) r := by
  unfold joinD
  by_cases h : r.1 = 0
  · rw [if_pos h, if_pos h, if_pos rfl, List.append_assoc]
  · rw [if_neg h, if_neg h]; simp [h]
def decode (l : List Int) : Int × Nat × List Ins := decD (l.length + 1) l 0 0
/-- an instruction as its bytes: right, of a number that fits -/
structure Good (i : Ins) : Prop where
  right : Right i
  rng : i.rng
theorem named_op (nar reg : Bool) : namedL 21 nar reg / 4 % 2 = 1 ∧ namedL 20 nar reg / 4 % 2 = 1 := by cases nar <;> cases reg <;> decide
theorem reg_rng {r : Int} {w : Bool} (h : registerL r w = true) : 0 ≤ r ∧ r < 16 := by
  unfold registerL at h
  simp only [Bool.and_eq_true, Bool.or_eq_true, decide_eq_true_eq, beq_iff_eq] at h
  omega
theorem regs_rng {i : Ins} (h : Right i) : (0 ≤ i.dst ∧ i.dst < 16) ∧ (0 ≤ i.src ∧ i.src < 16) := by
  have h1 := h.regs
  unfold registersL at h1
  have hd := h.dst
  have hs := h.src
  unfold Ins.p at hd hs
  simp only [Bool.and_eq_true, Bool.or_eq_true, beq_iff_eq] at h1
  constructor
  · rcases h1.1 with h2 | h2
    · omega
    · exact reg_rng h2
  · rcases h1.2 with h2 | h2
    · omega
    · exact reg_rng h2

def chk4 : Bool := (List.range 40).all fun op => [true, false].all fun nar => [true, false].all fun reg => sizesA.all fun size =>
  !(operatesL op nar reg size) || (decide (0 ≤ opcodeL op nar reg size) && decide (opcodeL op nar reg size < 256))
theorem chk4_ok : chk4 = true := by kernel_rfl
theorem oc_rng {i : Ins} (h : Right i) : 0 ≤ i.oc ∧ i.oc < 256 := by
  obtain ⟨op, nar, reg, size, dst, src, off, imm⟩ := i
  have h1 := op_sized h.ops
  have h2 := sized_mem h1.2
  simp only at h1 h2
  have h3 := chk4_ok
  unfold chk4 at h3
  rw [List.all_eq_true] at h3
  obtain ⟨n, hn⟩ := Int.eq_ofNat_of_zero_le (show 0 ≤ op by omega)
  have h4 := h3 n (List.mem_range.2 (by omega))
  rw [List.all_eq_true] at h4
  have h5 := h4 nar (by cases nar <;> simp)
  rw [List.all_eq_true] at h5
  have h6 := h5 reg (by cases reg <;> simp)
  rw [List.all_eq_true] at h6
  have h7 := h6 size h2
  rw [← hn, show operatesL op nar reg size = true from h.ops] at h7
  simpa [Ins.oc] using h7
theorem atom_rng {imm : Int} (h : atomL imm = true) : 0 ≤ imm ∧ imm ≤ 241 := by
  unfold atomL fetchesL at h
  simp only [Bool.or_eq_true, beq_iff_eq] at h
  omega
theorem imm_rng {i : Ins} (h : Right i) (h20 : i.op ≠ 20) : -2147483648 ≤ i.imm ∧ i.imm ≤ 2147483647 := by
  have hi := h.imm
  unfold immediateL at hi
  split at hi
  · rw [beq_iff_eq] at hi; omega
  · split at hi
    · simp only [Bool.and_eq_true, decide_eq_true_eq] at hi; omega
    · split at hi
      · have := atom_rng hi; omega
      · split at hi
        · unfold fitsL at hi; simp only [Bool.and_eq_true, decide_eq_true_eq] at hi; omega
        · split at hi
          · simp only [Bool.and_eq_true, Bool.or_eq_true, decide_eq_true_eq] at hi; omega
          · unfold fitsL at hi; simp only [Bool.and_eq_true, decide_eq_true_eq] at hi; omega
theorem size_rng {i : Ins} (h : Right i) : 0 ≤ i.size ∧ i.size ≤ 64 := by
  have h2 := sized_mem (op_sized h.ops).2
  unfold sizesA at h2
  simp only [List.mem_cons, List.not_mem_nil, or_false] at h2
  omega
theorem wrap32_rng (x : Int) : -2147483648 ≤ wrap32 x ∧ wrap32 x ≤ 2147483647 := by unfold wrap32; omega
theorem u1_ok {i : Ins} (h : Right i) : UOk i.u1 := by
  have h1 := regs_rng h
  have h2 := h.offr
  have h3 := size_rng h
  refine ⟨oc_rng h, h1.1, ?_, ?_, ?_⟩
  · show 0 ≤ firstS i ∧ firstS i < 16
    unfold firstS; split <;> omega
  · show -32768 ≤ firstO i ∧ firstO i ≤ 32767
    unfold firstO; split
    · omega
    · split <;> omega
  · show -2147483648 ≤ firstI i ∧ firstI i ≤ 2147483647
    unfold firstI; split
    · omega
    · split
      · exact wrap32_rng _
      · rename_i h20
        split
        · omega
        · exact imm_rng h h20
theorem u2_ok {i : Ins} (h : Good i) : UOk i.u2 := by
  unfold Ins.u2
  split
  · refine ⟨⟨by show (0 : Int) ≤ 0; decide, by show (0 : Int) < 256; decide⟩, ⟨by show (0 : Int) ≤ 0; decide, by show (0 : Int) < 16; decide⟩, ⟨by show (0 : Int) ≤ 0; decide, by show (0 : Int) < 16; decide⟩, ⟨by show -32768 ≤ (0 : Int); decide, by show (0 : Int) ≤ 32767; decide⟩, ?_⟩
    show -2147483648 ≤ secondI i ∧ secondI i ≤ 2147483647
    unfold secondI
    have := h.rng
    unfold Ins.rng at this
    split
    · omega
    · rename_i h20; exact imm_rng h.right h20
  · exact .zero
theorem insB_u (i : Ins) : insB i = unitB i.u1.oc i.u1.dst i.u1.src i.u1.off i.u1.imm ++ (if isLong i = true then unitB i.u2.oc i.u2.dst i.u2.src i.u2.off i.u2.imm else []) := by
  unfold insB Ins.u2
  split <;> rfl
def Ins.units (i : Ins) : Nat := if isLong i = true then 2 else 1
theorem insB_len (i : Ins) : (insB i).length = 8 * i.units := by unfold insB Ins.units; split <;> rfl
theorem insD_back {i : Ins} (h : Good i) (rest : List Int) : insD (insB i ++ rest) = (0, i, i.units) := by
  obtain ⟨r1, r2, r3⟩ := read_back i h.right
  have hlen := insB_len i
  have hop := (op_sized h.right.ops).1
  have hu : unitA (insB i ++ rest) = i.u1 := by
    rw [insB_u, List.append_assoc]; exact unitA_back i.u1 (u1_ok h.right) _
  unfold insD
  rw [hu, show i.u1.oc = i.oc from rfl, r3, if_neg (by rw [List.length_append, hlen]; unfold Ins.units; split <;> omega), if_neg (by unfold baseOp; repeat' split; all_goals omega)]
  by_cases hl : isLong i = true
  · have hb : baseOp i.op = 20 := by
      simp only [isLong, Bool.or_eq_true, beq_iff_eq] at hl
      unfold baseOp
      rcases hl with hl | hl <;> (rw [hl]; decide)
    have hv : unitA ((insB i ++ rest).drop 8) = i.u2 := by
      rw [insB_u, if_pos hl, List.append_assoc]
      rw [List.drop_append, unitB_length, Nat.sub_self, List.drop_zero]
      rw [List.drop_eq_nil_of_le (by rw [unitB_length]; exact Nat.le_refl _), List.nil_append]
      exact unitA_back i.u2 (u2_ok h) _
    have hn : i.units = 2 := by unfold Ins.units; rw [if_pos hl]
    rw [if_pos hb, hv, if_neg (by rw [List.length_append, hlen, hn]; omega), r1, r2, hn]
  · have hb : baseOp i.op ≠ 20 := by
      simp only [isLong, Bool.or_eq_true, beq_iff_eq, not_or] at hl
      unfold baseOp
      repeat' split
      all_goals omega
    have hz : i.u2 = zeroU := by unfold Ins.u2; rw [if_neg hl]
    have hn : i.units = 1 := by unfold Ins.units; rw [if_neg hl]
    rw [hz] at r1 r2
    rw [if_neg hb, r1, r2, hn]
theorem insD_forth {l : List Int} (hl : BytesL l) (h : (insD l).1 = 0) : Good (insD l).2.1 ∧ (insD l).2.2 = (insD l).2.1.units ∧ 8 * (insD l).2.2 ≤ l.length ∧ l.take (8 * (insD l).2.2) = insB (insD l).2.1 := by
  unfold insD at h ⊢
  by_cases c1 : l.length < 8
  · rw [if_pos c1] at h; exact absurd h (by decide)
  rw [if_neg c1] at h ⊢
  by_cases c2 : (opL (unitA l).oc).op = 0
  · rw [if_pos c2] at h; exact absurd h (by decide)
  rw [if_neg c2] at h ⊢
  have hu := unitA_ok hl
  have t8 := unitB_of hl (by omega)
  by_cases c3 : (opL (unitA l).oc).op = 20
  · rw [if_pos c3] at h ⊢
    by_cases c4 : l.length < 16
    · rw [if_pos c4] at h; exact absurd h (by decide)
    rw [if_neg c4] at h ⊢
    have hv := unitA_ok (hl.drop 8)
    have R := read_ok hu hv c2 (fun hn => absurd c3 hn) h
    have hlong : isLong (readL (unitA l) (unitA (l.drop 8))) = true := by rw [R.long]; exact decide_eq_true c3
    have t16 := unitB_of (hl.drop 8) (by rw [List.length_drop]; omega)
    refine ⟨⟨R.right, R.rng⟩, ?_, ?_, ?_⟩
    · unfold Ins.units; rw [if_pos hlong]
    · show 8 * 2 ≤ _; omega
    · show l.take 16 = insB (readL (unitA l) (unitA (l.drop 8)))
      have e2 : (readL (unitA l) (unitA (l.drop 8))).u2 = unitA (l.drop 8) := by
        unfold Ins.u2; rw [if_pos hlong, ← R.second hlong]
      rw [insB_u, if_pos hlong, e2, ← R.first, ← t8, ← t16]
      rw [show (16 : Nat) = 8 + 8 by rfl, List.take_add]
  · rw [if_neg c3] at h ⊢
    have R := read_ok hu UOk.zero c2 (fun _ => rfl) h
    have hlong : ¬ isLong (readL (unitA l) zeroU) = true := by rw [R.long]; simpa using c3
    refine ⟨⟨R.right, R.rng⟩, ?_, ?_, ?_⟩
    · unfold Ins.units; rw [if_neg hlong]
    · show 8 * 1 ≤ _; omega
    · show l.take 8 = insB (readL (unitA l) zeroU)
      rw [insB_u, if_neg hlong, ← R.first, ← t8, List.append_nil]

/-! all instructions -/
theorem insD_len (l : List Int) (h : (insD l).1 = 0) : 1 ≤ (insD l).2.2 ∧ 8 * (insD l).2.2 ≤ l.length := by
  unfold insD at h ⊢
  by_cases c1 : l.length < 8
  · rw [if_pos c1] at h; exact absurd h (by decide)
  rw [if_neg c1] at h ⊢
  by_cases c2 : (opL (unitA l).oc).op = 0
  · rw [if_pos c2] at h; exact absurd h (by decide)
  rw [if_neg c2] at h ⊢
  by_cases c3 : (opL (unitA l).oc).op = 20
  · rw [if_pos c3] at h ⊢
    by_cases c4 : l.length < 16
    · rw [if_pos c4] at h; exact absurd h (by decide)
    rw [if_neg c4]
    exact ⟨by show 1 ≤ 2; decide, by show 8 * 2 ≤ _; omega⟩
  · rw [if_neg c3]
    exact ⟨by show 1 ≤ 1; decide, by show 8 * 1 ≤ _; omega⟩
theorem errL_rng (i : Ins) (u v : U) : errL i u v = 0 ∨ (20 ≤ errL i u v ∧ errL i u v ≤ 24) := by
  unfold errL
  repeat' split
  all_goals simp
theorem insD_rng (l : List Int) : (insD l).1 = 0 ∨ (20 ≤ (insD l).1 ∧ (insD l).1 ≤ 24) := by
  unfold insD
  repeat' split
  all_goals first | exact errL_rng _ _ _ | (right; exact ⟨by decide, by decide⟩)
theorem decD_fuel : ∀ (n : Nat) (l : List Int), l.length ≤ n → ∀ f g cnt u, l.length < f → l.length < g → decD f l cnt u = decD g l cnt u := by
  intro n
  induction n with
  | zero =>
    intro l hl f g cnt u hf hg
    obtain ⟨f, rfl⟩ : ∃ k, f = k + 1 := ⟨f - 1, by omega⟩
    obtain ⟨g, rfl⟩ : ∃ k, g = k + 1 := ⟨g - 1, by omega⟩
    have : l.length = 0 := by omega
    simp only [decD, if_pos this]
  | succ n ih =>
    intro l hl f g cnt u hf hg
    obtain ⟨f, rfl⟩ : ∃ k, f = k + 1 := ⟨f - 1, by omega⟩
    obtain ⟨g, rfl⟩ : ∃ k, g = k + 1 := ⟨g - 1, by omega⟩
    simp only [decD]
    by_cases h0 : l.length = 0
    · rw [if_pos h0, if_pos h0]
    rw [if_neg h0, if_neg h0]
    by_cases h1 : cnt = 4096
    · rw [if_pos h1, if_pos h1]
    rw [if_neg h1, if_neg h1]
    by_cases h2 : (insD l).1 = 0
    · have h3 := insD_len l h2
      have hd : (l.drop (8 * (insD l).2.2)).length = l.length - 8 * (insD l).2.2 := List.length_drop ..
      rw [if_neg (by simp [h2]), if_neg (by simp [h2]), ih _ (by omega) f g _ _ (by omega) (by omega)]
    · rw [if_pos h2, if_pos h2]
def D (l : List Int) (cnt u : Nat) : Int × Nat × List Ins := decD (l.length + 1) l cnt u
theorem D_nil (cnt u : Nat) : D [] cnt u = (0, 0, []) := rfl
theorem D_many {l : List Int} (h : l.length ≠ 0) (u : Nat) : D l 4096 u = (25, u, []) := by
  simp only [D, decD, if_neg h, if_true]
theorem D_err {l : List Int} (h : l.length ≠ 0) {cnt : Nat} (hc : cnt ≠ 4096) (u : Nat) (he : (insD l).1 ≠ 0) : D l cnt u = ((insD l).1, u, []) := by
  simp only [D, decD, if_neg h, if_neg hc, if_pos he]
theorem D_step {l : List Int} (h : l.length ≠ 0) {cnt : Nat} (hc : cnt ≠ 4096) (u : Nat) (he : (insD l).1 = 0) : D l cnt u = joinD [(insD l).2.1] (D (l.drop (8 * (insD l).2.2)) (cnt + 1) (u + (insD l).2.2)) := by
  have h3 := insD_len l he
  have hd : (l.drop (8 * (insD l).2.2)).length = l.length - 8 * (insD l).2.2 := List.length_drop ..
  unfold D
  rw [decD, if_neg h, if_neg hc, if_neg (by simp [he]), decD_fuel l.length _ (by omega) l.length ((l.drop (8 * (insD l).2.2)).length + 1) _ _ (by omega) (by omega)]
theorem joinD_norm (L : List Ins) (r : Int × Nat × List Ins) : ((joinD L r).1 = 0 → (joinD L r).2.1 = 0) ∧ ((joinD L r).1 ≠ 0 → (joinD L r).2.2 = []) := by
  unfold joinD
  split
  · exact ⟨fun _ => rfl, fun h => absurd rfl h⟩
  · rename_i h; exact ⟨fun h2 => absurd h2 h, fun _ => rfl⟩
theorem D_norm (l : List Int) (cnt u : Nat) : ((D l cnt u).1 = 0 → (D l cnt u).2.1 = 0) ∧ ((D l cnt u).1 ≠ 0 → (D l cnt u).2.2 = []) := by
  by_cases h0 : l.length = 0
  · rw [List.length_eq_zero_iff.1 h0, D_nil]; exact ⟨fun _ => rfl, fun h => absurd rfl h⟩
  by_cases h1 : cnt = 4096
  · rw [h1, D_many h0]; exact ⟨fun h => absurd h (show ¬ ((25 : Int) = 0) by decide), fun _ => rfl⟩
  by_cases h2 : (insD l).1 = 0
  · rw [D_step h0 h1 u h2]; exact joinD_norm _ _
  · rw [D_err h0 h1 u h2]; exact ⟨fun h => absurd h h2, fun _ => rfl⟩
def unitsN : List Ins → Nat
  | [] => 0
  | i :: t => i.units + unitsN t
theorem encB_len (L : List Ins) : (encB L).length = 8 * unitsN L := by
  induction L with
  | nil => rfl
  | cons i t ih => rw [encB, List.length_append, insB_len, ih, unitsN]; omega
theorem unitsN_append (a b : List Ins) : unitsN (a ++ b) = unitsN a + unitsN b := by
  induction a with
  | nil => simp [unitsN]
  | cons i t ih => rw [List.cons_append, unitsN, unitsN, ih]; omega
theorem units_pos (i : Ins) : 1 ≤ i.units := by unfold Ins.units; split <;> decide
theorem unitsN_le (L : List Ins) : L.length ≤ unitsN L := by
  induction L with
  | nil => simp
  | cons i t ih => have := units_pos i; rw [unitsN, List.length_cons]; omega
theorem D_app : ∀ (L : List Ins), (∀ i ∈ L, Good i) → ∀ (rest : List Int) (cnt u : Nat), cnt + L.length ≤ 4096 → D (encB L ++ rest) cnt u = joinD L (D rest (cnt + L.length) (u + unitsN L)) := by
  intro L
  induction L with
  | nil =>
    intro _ rest cnt u _
    have h := D_norm rest cnt u
    exact (joinD_nil _ h.1 h.2).symm
  | cons i t ih =>
    intro hg rest cnt u hc
    have hi := hg i (by simp)
    have hb := insD_back hi (encB t ++ rest)
    have hl := insB_len i
    have hp := units_pos i
    have e : encB (i :: t) ++ rest = insB i ++ (encB t ++ rest) := by rw [encB, List.append_assoc]
    rw [List.length_cons] at hc
    rw [e, D_step (by rw [List.length_append]; omega) (by omega) u (by rw [hb]), hb]
    show joinD [i] (D ((insB i ++ (encB t ++ rest)).drop (8 * i.units)) (cnt + 1) (u + i.units)) = _
    rw [← hl, List.drop_left, ih (fun x hx => hg x (by simp [hx])) rest (cnt + 1) (u + i.units) (by omega), joinD_join]
    rw [List.length_cons, unitsN, show cnt + 1 + t.length = cnt + (t.length + 1) by omega, show u + i.units + unitsN t = u + (i.units + unitsN t) by omega]
    rfl
/-- what reading finds -/
structure Split (l : List Int) (cnt u : Nat) (L : List Ins) (rest : List Int) : Prop where
  eq : l = encB L ++ rest
  good : ∀ i ∈ L, Good i
  le : cnt + L.length ≤ 4096
  ends : rest = [] ∨ (rest.length ≠ 0 ∧ cnt + L.length = 4096) ∨ (rest.length ≠ 0 ∧ cnt + L.length < 4096 ∧ (insD rest).1 ≠ 0)
theorem split_any : ∀ (n : Nat) (l : List Int), l.length ≤ n → BytesL l → ∀ cnt u, cnt ≤ 4096 → ∃ L rest, Split l cnt u L rest := by
  intro n
  induction n with
  | zero =>
    intro l hl _ cnt u hc
    have : l = [] := List.length_eq_zero_iff.1 (by omega)
    subst this
    exact ⟨[], [], rfl, by simp, by simpa using hc, .inl rfl⟩
  | succ n ih =>
    intro l hl hB cnt u hc
    by_cases h0 : l.length = 0
    · have : l = [] := List.length_eq_zero_iff.1 h0
      subst this
      exact ⟨[], [], rfl, by simp, by simpa using hc, .inl rfl⟩
    by_cases h1 : cnt = 4096
    · exact ⟨[], l, rfl, by simp, by simpa using hc, .inr (.inl ⟨h0, by simpa using h1⟩)⟩
    by_cases h2 : (insD l).1 = 0
    · obtain ⟨hg, hn, hle, htk⟩ := insD_forth hB h2
      have h3 := insD_len l h2
      obtain ⟨L, rest, hs⟩ := ih (l.drop (8 * (insD l).2.2)) (by rw [List.length_drop]; omega) (hB.drop _) (cnt + 1) (u + (insD l).2.2) (by omega)
      refine ⟨(insD l).2.1 :: L, rest, ?_, ?_, ?_, ?_⟩
      · rw [encB, List.append_assoc, ← hs.eq, ← htk, List.take_append_drop]
      · intro x hx
        rcases List.mem_cons.1 hx with rfl | hx
        · exact hg
        · exact hs.good x hx
      · have := hs.le; rw [List.length_cons]; omega
      · have := hs.ends; rw [List.length_cons, show cnt + (L.length + 1) = cnt + 1 + L.length by omega]; exact this
    · exact ⟨[], l, rfl, by simp, by simpa using hc, .inr (.inr ⟨h0, by simp only [List.length_nil]; omega, h2⟩)⟩
theorem Split.D_eq {l : List Int} {cnt u : Nat} {L : List Ins} {rest : List Int} (h : Split l cnt u L rest) :
    D l cnt u = if rest = [] then (0, 0, L) else if cnt + L.length = 4096 then (25, u + unitsN L, []) else ((insD rest).1, u + unitsN L, []) := by
  rw [h.eq, D_app L h.good rest cnt u h.le]
  rcases h.ends with h1 | ⟨h1, h2⟩ | ⟨h1, h2, h3⟩
  · rw [h1, D_nil, if_pos rfl, joinD]; simp
  · rw [h2, D_many h1, if_neg (by intro e; rw [e] at h1; exact h1 rfl), if_pos rfl, joinD, if_neg (show ¬ ((25 : Int) = 0) by decide)]
  · rw [D_err h1 (by omega) _ h3, if_neg (by intro e; rw [e] at h1; exact h1 rfl), if_neg (by omega), joinD, if_neg h3]
theorem D_enc (L : List Ins) (hg : ∀ i ∈ L, Good i) (hl : L.length ≤ 4096) (u : Nat) : D (encB L) 0 u = (0, 0, L) := by
  have := D_app L hg [] 0 u (by omega)
  rw [List.append_nil, D_nil] at this
  rw [this]; simp [joinD]
theorem D_forth {l : List Int} (hB : BytesL l) (h : (D l 0 0).1 = 0) : (∀ i ∈ (D l 0 0).2.2, Good i) ∧ (D l 0 0).2.2.length ≤ 4096 ∧ encB (D l 0 0).2.2 = l ∧ (D l 0 0).2.1 = 0 := by
  obtain ⟨L, rest, hs⟩ := split_any l.length l (Nat.le_refl _) hB 0 0 (by omega)
  have hd := hs.D_eq
  by_cases h1 : rest = []
  · rw [if_pos h1] at hd
    rw [hd]
    refine ⟨hs.good, by have := hs.le; show L.length ≤ 4096; omega, ?_, rfl⟩
    have := hs.eq; rw [h1, List.append_nil] at this; exact this.symm
  · rw [if_neg h1] at hd
    rcases hs.ends with h2 | ⟨h2, h3⟩ | ⟨h2, h3, h4⟩
    · exact absurd h2 h1
    · rw [if_pos h3] at hd; rw [hd] at h; exact absurd h (show ¬ ((25 : Int) = 0) by decide)
    · rw [if_neg (by omega)] at hd; rw [hd] at h; exact absurd h h4
theorem D_fault {l : List Int} (hB : BytesL l) (h : (D l 0 0).1 ≠ 0) : (D l 0 0).2.2 = [] ∧ 8 * (D l 0 0).2.1 < l.length := by
  obtain ⟨L, rest, hs⟩ := split_any l.length l (Nat.le_refl _) hB 0 0 (by omega)
  have hd := hs.D_eq
  have hlen : l.length = 8 * unitsN L + rest.length := by rw [hs.eq, List.length_append, encB_len]
  by_cases h1 : rest = []
  · rw [if_pos h1] at hd; rw [hd] at h; exact absurd rfl h
  · rw [if_neg h1] at hd
    have : rest.length ≠ 0 := fun e => h1 (List.length_eq_zero_iff.1 e)
    split at hd <;> (rw [hd]; refine ⟨rfl, ?_⟩; simp only [Nat.zero_add]; omega)
end Go.Proofs.YtlodoinmippebaaDoor
