/- Texts in one: RefD RefE RefL RefN RefO RefP LentB CodeDecodesLaw CodeDecodesEnd. -/
import Derived.Test.YtaglclmfjopnlaaDoorRefM
import Derived.Test.YtaglclmfjopnlaaDoorRefF
import Derived.Test.YtaglclmfjopnlaaDoorCodeT
import Derived.Deep.DeepCutAuto
import Derived.Test.YtaglclmfjopnlaaDoorRefG
import Derived.Deep.CutBlock
import Derived.StillTailTactics
import Derived.Test.YtaglclmfjopnlaaDoorRefI
import Derived.Deep.QuietTactic
import Derived.Test.YtaglclmfjopnlaaDoorCodeD4
import Derived.Test.YtaglclmfjopnlaaDoorCodeJ1
import Derived.Test.YtaglclmfjopnlaaDoorCodeO
import Derived.Test.YtaglclmfjopnlaaDoorCodeEnd
import Derived.Test.YtaglclmfjopnlaaDoorOpenC
/- The table of rows, plain mathematics: what is written by a row is what package code writes; what is read by the rows of an opcode is what package code reads. -/
namespace Go.Proofs.YtaglclmfjopnlaaDoor
open Go.RowKit
open Cod
set_option linter.unusedVariables false

/-! a row's own numbers -/
def srcN (op : Int) : Int := if op = 21 then 6 else 0
def offN (op size : Int) : Int := if op = 6 ∨ op = 7 then 1 else if op = 16 then size else 0
def immN (op size : Int) : Int := if op = 17 ∨ op = 18 ∨ op = 19 then size else 0
def formOk2 (op : Int) (nar reg : Bool) (size : Int) : Bool :=
  match findR op nar reg size with
  | none => true
  | some y => y.code == opcodeL op nar reg size && y.reg == reg && y.size == size && (y.dst == -1 || y.dst == 0) && (if y.src = -1 then decide (op ≠ 21) else y.src == srcN op) && (if y.off = -1 then decide (op ≠ 6) && (decide (op ≠ 7) && decide (op ≠ 16)) else y.off == offN op size) &&
      (if y.imm = -1 then decide (op ≠ 21) && (decide (op ≠ 17) && (decide (op ≠ 18) && decide (op ≠ 19))) else decide (op ≠ 20) && y.imm == immN op size) && ((y.second == -1) == (op == 20 || op == 21))
def chkR2 : Bool := (List.range 40).all fun op => [true, false].all fun nar => [true, false].all fun reg => sizesA.all fun size => formOk2 op nar reg size
theorem chkR2_ok : chkR2 = true := by kernel_rfl
theorem form_ok2 (op : Int) (nar reg : Bool) (size : Int) : formOk2 op nar reg size = true := by
  by_cases h : (1 ≤ op ∧ op ≤ 39) ∧ size ∈ sizesA
  · obtain ⟨⟨h1, h2⟩, h3⟩ := h
    have h0 := chkR2_ok
    unfold chkR2 at h0
    have a1 := List.all_eq_true.1 h0 op.toNat (List.mem_range.2 (by omega))
    rw [show ((op.toNat : Nat) : Int) = op by omega] at a1
    have a2 := List.all_eq_true.1 a1 nar (by cases nar <;> simp)
    have a3 := List.all_eq_true.1 a2 reg (by cases reg <;> simp)
    exact List.all_eq_true.1 a3 size h3
  · have hn : findR op nar reg size = none := by
      unfold findR
      rw [List.find?_eq_none]
      intro r hr hf
      have hk := List.all_eq_true.1 rows_ok r hr
      unfold rowOk at hk
      unfold RRow.fitsI at hf
      simp only [Bool.and_eq_true, decide_eq_true_eq, beq_iff_eq, List.contains_iff_mem] at hk hf
      refine h ⟨by omega, ?_⟩
      rw [← hf.2]; exact hk.2
    unfold formOk2
    rw [hn]
structure Found2 (op : Int) (nar reg : Bool) (size : Int) (y : RRow) : Prop where
  code : y.code = opcodeL op nar reg size
  eqReg : y.reg = reg
  eqSize : y.size = size
  dst : y.dst = -1 ∨ y.dst = 0
  src : (y.src = -1 ∧ op ≠ 21) ∨ (y.src ≠ -1 ∧ y.src = srcN op)
  off : (y.off = -1 ∧ op ≠ 6 ∧ op ≠ 7 ∧ op ≠ 16) ∨ (y.off ≠ -1 ∧ y.off = offN op size)
  imm : (y.imm = -1 ∧ op ≠ 21 ∧ op ≠ 17 ∧ op ≠ 18 ∧ op ≠ 19) ∨ (y.imm ≠ -1 ∧ op ≠ 20 ∧ y.imm = immN op size)
  second : (y.second == -1) = (op == 20 || op == 21)
theorem found_more {op : Int} {nar reg : Bool} {size : Int} {y : RRow} (h : findR op nar reg size = some y) : Found2 op nar reg size y := by
  have hf := form_ok2 op nar reg size
  unfold formOk2 at hf
  rw [h] at hf
  simp only [Bool.and_eq_true, beq_iff_eq, Bool.or_eq_true] at hf
  obtain ⟨⟨⟨⟨⟨⟨⟨f0, f1⟩, f2⟩, f3⟩, f4⟩, f5⟩, f6⟩, f7⟩ := hf
  refine ⟨f0, f1, f2, f3, ?_, ?_, ?_, f7⟩
  · split at f4
    · rename_i e; exact .inl ⟨e, of_decide_eq_true f4⟩
    · rename_i e; exact .inr ⟨e, by simpa using f4⟩
  · split at f5
    · rename_i e
      simp only [Bool.and_eq_true, decide_eq_true_eq] at f5
      exact .inl ⟨e, f5.1, f5.2.1, f5.2.2⟩
    · rename_i e; exact .inr ⟨e, by simpa using f5⟩
  · split at f6
    · rename_i e
      simp only [Bool.and_eq_true, decide_eq_true_eq] at f6
      exact .inl ⟨e, f6.1, f6.2.1, f6.2.2.1, f6.2.2.2⟩
    · rename_i e
      simp only [Bool.and_eq_true, decide_eq_true_eq, beq_iff_eq] at f6
      exact .inr ⟨e, f6.1, f6.2⟩

/-! bytes -/
def lowL (x : Int) : Nat → List Int
  | 0 => []
  | k + 1 => x % 256 :: lowL (x / 256) k
def pickN (own x : Int) : Int := if own = -1 then x else own
def bytesR (y : RRow) (x : Ins) : List Int :=
  [y.code % 256, (16 * pickN y.src x.src + pickN y.dst x.dst) % 256] ++ lowL (pickN y.off x.off) 2 ++ lowL (pickN y.imm x.imm) 4 ++
  (if x.op = 20 then [0, 0, 0, 0] ++ lowL (x.imm / 4294967296) 4 else if x.op = 21 then [0, 0, 0, 0] ++ lowL x.imm 4 else [])
theorem low2 (x : Int) : lowL x 2 = [x % 256, x / 256 % 256] := rfl
theorem low4 (x : Int) : lowL x 4 = [x % 256, x / 256 % 256, x / 65536 % 256, x / 16777216 % 256] := by
  simp only [lowL]
  rw [show x / 256 / 256 = x / 65536 by omega, show x / 65536 / 256 = x / 16777216 by omega]
theorem low4_wrap (x : Int) : lowL (wrap32 x) 4 = lowL x 4 := by
  rw [low4, low4]
  unfold wrap32
  have e1 : ((x + 2147483648) % 4294967296 - 2147483648) % 256 = x % 256 := by omega
  have e2 : ((x + 2147483648) % 4294967296 - 2147483648) / 256 % 256 = x / 256 % 256 := by omega
  have e3 : ((x + 2147483648) % 4294967296 - 2147483648) / 65536 % 256 = x / 65536 % 256 := by omega
  have e4 : ((x + 2147483648) % 4294967296 - 2147483648) / 16777216 % 256 = x / 16777216 % 256 := by omega
  rw [e1, e2, e3, e4]
theorem unitB_low (oc d s o m : Int) (hd : 0 ≤ d ∧ d < 16) (hs : 0 ≤ s ∧ s < 16) : unitB oc d s o m = [oc % 256, (16 * s + d) % 256] ++ lowL o 2 ++ lowL m 4 := by
  rw [low2, low4]
  unfold unitB
  rw [or_nib hd hs, Int.add_comm d]
  rfl
theorem unitB_zero (m : Int) : unitB 0 0 0 0 m = [0, 0, 0, 0] ++ lowL m 4 := by
  rw [unitB_low 0 0 0 0 m (by decide) (by decide)]; rfl
theorem bytes_ref {i : Ins} {y : RRow} (h : Right i) (hy : findR i.op i.nar i.reg i.size = some y) : bytesR y i = insB i := by
  have F := found_some hy
  have G := found_more hy
  have hr := regs_rng h
  have hp4 := F.dst
  have hp8 := F.src
  have hp16 := F.off
  have hd : pickN y.dst i.dst = i.dst := by
    unfold pickN
    rcases G.dst with e | e
    · rw [if_pos e]
    · rw [e] at hp4 ⊢
      rcases h.dst with h1 | h1
      · rw [h1] at hp4; exact absurd hp4 (by decide)
      · rw [h1]; rfl
  have hs : pickN y.src i.src = firstS i := by
    unfold pickN firstS
    rcases G.src with ⟨e, e2⟩ | ⟨e, e2⟩
    · rw [if_pos e, if_neg e2]
    · rw [if_neg e, e2]
      unfold srcN
      split
      · rfl
      · rcases h.src with h1 | h1
        · rw [h1] at hp8
          have : y.src = -1 := by simpa using hp8
          exact absurd this e
        · exact h1.symm
  have ho : pickN y.off i.off = firstO i := by
    unfold pickN firstO
    rcases G.off with ⟨e, e2, e3, e4⟩ | ⟨e, e2⟩
    · rw [if_pos e, if_neg (by omega), if_neg e4]
    · rw [if_neg e, e2]
      unfold offN
      split
      · rfl
      · split
        · rfl
        · rcases h.off with h1 | h1
          · rw [h1] at hp16
            have : y.off = -1 := by simpa using hp16
            exact absurd this e
          · exact h1.symm
  have hm : lowL (pickN y.imm i.imm) 4 = lowL (firstI i) 4 := by
    unfold pickN firstI
    rcases G.imm with ⟨e, e2, e3, e4, e5⟩ | ⟨e, e2, e3⟩
    · rw [if_pos e, if_neg (by omega)]
      split
      · exact (low4_wrap _).symm
      · first | rfl | rw [if_neg e2]
    · rw [if_neg e, e3]
      unfold immN
      split
      · rfl
      · try rw [if_neg e2]
        split
        · rfl
        · rename_i h21
          rcases imm_named i h with h1 | h1
          · have hq := F.imm
            rw [h1] at hq
            have hsec := G.second
            have : (y.second == -1) = false := by rw [hsec]; simp [e2, h21]
            rw [this] at hq
            have : y.imm = -1 := by simpa using hq
            exact absurd this e
          · rw [h1]
  have hf : 0 ≤ firstS i ∧ firstS i < 16 := by unfold firstS; split <;> omega
  unfold bytesR insB
  rw [hd, hs, ho, hm, unitB_low i.oc i.dst (firstS i) (firstO i) (firstI i) hr.1 hf, G.code, show opcodeL i.op i.nar i.reg i.size = i.oc from rfl, unitB_zero]
  congr 1
  unfold isLong secondI
  by_cases h20 : i.op = 20
  · simp [h20]
  · by_cases h21 : i.op = 21
    · simp [h21]
    · simp [h20, h21]

/-! reading by the rows of one opcode -/
def rowsC (c : Int) : List RRow := rowsL.filter fun r => r.code == c
def fitR (r : RRow) (dst src off : Int) : Bool := (r.dst == -1 || r.dst == dst) && (r.src == -1 || r.src == src) && (r.off == -1 || r.off == off)
def immR (r : RRow) (imm sec : Int) : Int := if r.op = 20 then sec * 4294967296 + (if imm < 0 then imm + 4294967296 else imm) else if r.op = 21 then sec else if r.imm = -1 then imm else 0
def insR (r : RRow) (dst src off imm sec : Int) : Ins := ⟨r.op, r.nar, r.reg, r.size, if r.dst = -1 then dst else 0, if r.src = -1 then src else 0, if r.off = -1 then off else 0, immR r imm sec⟩
def readR (r : RRow) (imm sec : Int) : Bool :=
  if r.imm ≠ -1 ∧ r.imm ≠ imm then false else if r.imm = -1 ∨ r.second = -1 then goodR r (immR r imm sec) else true
def formI (r : RRow) : Ins := ⟨r.op, r.nar, r.reg, r.size, 0, 0, 0, 0⟩
theorem own_ok : (rowsL.all fun r => decide (findR r.op r.nar r.reg r.size = some r)) = true := by kernel_rfl
theorem find_own {r : RRow} (h : r ∈ rowsL) : findR r.op r.nar r.reg r.size = some r := of_decide_eq_true (List.all_eq_true.1 own_ok r h)
theorem beq_bit {a x : Int} {b : Bool} (h : (a == -1) = b) : (if a = -1 then x else 0) = if b = true then x else 0 := by
  subst h
  by_cases e : a = -1 <;> simp [e]
structure Core (r : RRow) (u v : U) (i : Ins) : Prop where
  ins : insR r u.dst u.src u.off u.imm v.imm = i
  regs : regsR r u.dst u.src u.imm = registersL i.op i.nar i.reg i.dst i.src i.imm
  fit : fitR r u.dst u.src u.off = decide (u.dst = i.dst ∧ u.src = firstS i ∧ u.off = firstO i)
  read : readR r u.imm v.imm = decide (u.imm = firstI i ∧ sizedL i.op i.nar i.size = true ∧ immediateL i.op i.nar i.reg i.imm = true)
theorem bit_prop {a : Int} (b : Prop) [Decidable b] (h : (a == 1) = decide b) : (a = 1) = b := by
  apply propext
  by_cases hb : b
  · have : (a == 1) = true := by rw [h]; exact decide_eq_true hb
    exact ⟨fun _ => hb, fun _ => by simpa using this⟩
  · have : (a == 1) = false := by rw [h]; exact decide_eq_false hb
    exact ⟨fun e => by rw [e] at this; exact absurd this (by decide), fun e => absurd e hb⟩
theorem core {r : RRow} (hr : r ∈ rowsL) {u v : U} (hu : UOk u) (hv : UOk v) : Core r u v (filledL (formI r) u v) := by
  have hy := find_own hr
  have F := found_some (i := formI r) hy
  have G := found_more hy
  have hui := hu.imm
  have p4 : ((formI r).p / 4 % 2 = 1) = (r.dst = -1) := bit_prop _ (by rw [← F.dst]; rfl)
  have p8 : ((formI r).p / 8 % 2 = 1) = (r.src = -1) := bit_prop _ (by rw [← F.src]; rfl)
  have p16 : ((formI r).p / 16 % 2 = 1) = (r.off = -1) := bit_prop _ (by rw [← F.off]; rfl)
  have p32 : ((formI r).p / 32 % 2 = 1) = (r.imm = -1 ∨ r.second = -1) := bit_prop _ (by rw [← F.imm, Bool.eq_iff_iff]; simp)
  have hsec : r.second = -1 ↔ (r.op = 20 ∨ r.op = 21) := by
    have := G.second
    constructor
    · intro e; rw [e] at this; simpa using this.symm
    · intro e
      have h2 : (r.op == 20 || r.op == 21) = true := by simpa using e
      rw [h2] at this; simpa using this
  have ein : insR r u.dst u.src u.off u.imm v.imm = filledL (formI r) u v := by
    unfold insR filledL
    simp only [p4, p8, p16, p32]
    have e : immR r u.imm v.imm = if (formI r).op = 20 then v.imm * 4294967296 + u.imm % 4294967296 else if (formI r).op = 21 then v.imm else if r.imm = -1 ∨ r.second = -1 then u.imm else (formI r).imm := by
      show immR r u.imm v.imm = if r.op = 20 then v.imm * 4294967296 + u.imm % 4294967296 else if r.op = 21 then v.imm else if r.imm = -1 ∨ r.second = -1 then u.imm else 0
      unfold immR
      by_cases h20 : r.op = 20
      · rw [if_pos h20, if_pos h20]; split <;> omega
      rw [if_neg h20, if_neg h20]
      by_cases h21 : r.op = 21
      · rw [if_pos h21, if_pos h21]
      rw [if_neg h21, if_neg h21]
      by_cases hi : r.imm = -1
      · rw [if_pos hi, if_pos (.inl hi)]
      · rw [if_neg hi, if_neg (by rw [hsec]; omega)]
    rw [e]
    rfl
  have hq : (filledL (formI r) u v).op = r.op ∧ (filledL (formI r) u v).nar = r.nar ∧ (filledL (formI r) u v).reg = r.reg ∧ (filledL (formI r) u v).size = r.size := ⟨rfl, rfl, rfl, rfl⟩
  have hd : (filledL (formI r) u v).dst = if r.dst = -1 then u.dst else 0 := by rw [← ein]; rfl
  have hs : (filledL (formI r) u v).src = if r.src = -1 then u.src else 0 := by rw [← ein]; rfl
  have ho : (filledL (formI r) u v).off = if r.off = -1 then u.off else 0 := by rw [← ein]; rfl
  have hm : (filledL (formI r) u v).imm = immR r u.imm v.imm := by rw [← ein]; rfl
  obtain ⟨q1, q2, q3, q4⟩ := hq
  have hvi := hv.imm
  generalize filledL (formI r) u v = i at *
  refine ⟨ein, ?_, ?_, ?_⟩
  · rw [q1, q2, q3]
    refine Eq.trans ?_ (F.regs i.dst i.src i.imm)
    rw [hd, hs, hm]
    unfold regsR
    by_cases e1 : r.dst = -1
    · by_cases e2 : r.src = -1
      · rw [if_pos e1, if_pos e2]
        by_cases e25 : r.op = 25
        · have : immR r u.imm v.imm = u.imm := by
            unfold immR
            rw [if_neg (by omega), if_neg (by omega)]
            rcases G.imm with ⟨e, _⟩ | ⟨e, _, e3⟩
            · rw [if_pos e]
            · exfalso
              have h1 := F.imm
              have h2 : ((formI r).p / 32 % 2 == 1) = true := by
                show (namedL r.op r.nar r.reg / 32 % 2 == 1) = true
                rw [e25]; cases r.nar <;> cases r.reg <;> rfl
              rw [h2] at h1
              have h3 : (r.second == -1) = false := by rw [G.second, e25]; rfl
              rw [h3] at h1
              exact e (by simpa using h1)
          rw [this]
        · have : (r.op == 25) = false := by rw [beq_eq_false_iff_ne]; exact e25
          rw [this]; rfl
      · have : (r.src == -1) = false := by rw [beq_eq_false_iff_ne]; exact e2
        rw [if_pos e1, this]; rfl
    · have : (r.dst == -1) = false := by rw [beq_eq_false_iff_ne]; exact e1
      rw [this]
      by_cases e2 : r.src = -1
      · rw [if_pos e2]
        by_cases e25 : r.op = 25
        · exfalso
          have h1 := F.dst
          have h2 : ((formI r).p / 4 % 2 == 1) = true := by
            show (namedL r.op r.nar r.reg / 4 % 2 == 1) = true
            rw [e25]; cases r.nar <;> cases r.reg <;> rfl
          rw [h2] at h1
          exact e1 (by simpa using h1)
        · have : (r.op == 25) = false := by rw [beq_eq_false_iff_ne]; exact e25
          rw [this]; rfl
      · have : (r.src == -1) = false := by rw [beq_eq_false_iff_ne]; exact e2
        rw [this]; rfl
  · have k1 : (r.dst == -1 || r.dst == u.dst) = decide (u.dst = i.dst) := by
      rw [hd]
      rcases G.dst with e | e
      · rw [e]; simp
      · rw [e, if_neg (by decide), Bool.eq_iff_iff]; simp; exact eq_comm
    have k2 : (r.src == -1 || r.src == u.src) = decide (u.src = firstS i) := by
      unfold firstS
      rw [q1, hs]
      rcases G.src with ⟨e, e2⟩ | ⟨e, e2⟩
      · rw [e, if_neg e2]; simp
      · rw [if_neg e, show (r.src == -1) = false by rw [beq_eq_false_iff_ne]; exact e, Bool.false_or, e2, Bool.eq_iff_iff]
        unfold srcN
        simp; exact eq_comm
    have k3 : (r.off == -1 || r.off == u.off) = decide (u.off = firstO i) := by
      unfold firstO
      rw [q1, q4, ho]
      rcases G.off with ⟨e, e2, e3, e4⟩ | ⟨e, e2⟩
      · rw [e, if_neg (by omega), if_neg e4]; simp
      · rw [if_neg e, show (r.off == -1) = false by rw [beq_eq_false_iff_ne]; exact e, Bool.false_or, e2, Bool.eq_iff_iff]
        unfold offN
        simp; exact eq_comm
    unfold fitR
    rw [k1, k2, k3, Bool.eq_iff_iff]
    simp only [Bool.and_eq_true, decide_eq_true_eq]
    exact and_assoc
  · have hsz : sizedL i.op i.nar i.size = true := by rw [q1, q2, q4]; exact (op_sized F.ops).2
    have himm : immediateL i.op i.nar i.reg i.imm = if r.imm = -1 ∨ r.second = -1 then immB r.op r.nar i.imm else i.imm == 0 := by
      rw [immediate_b, q1, q2, q3]
      have : ((namedL r.op r.nar r.reg / 32 % 2 == 1) = true) = (r.imm = -1 ∨ r.second = -1) := by
        rw [← p32]; simp [Ins.p, formI]
      simp only [this]
    rcases G.imm with ⟨e, e2, e3, e4, e5⟩ | ⟨e, e2, e3⟩
    · have hF : firstI i = u.imm := by
        unfold firstI
        rw [q1, q4, hm, if_neg (by omega)]
        unfold immR
        by_cases h20 : r.op = 20
        · rw [if_pos h20, if_pos h20]; unfold wrap32; split <;> omega
        · rw [if_neg h20, if_neg h20, if_neg e2, if_neg e2, if_pos e]
      have hI : immediateL i.op i.nar i.reg i.imm = immB r.op r.nar (immR r u.imm v.imm) := by rw [himm, if_pos (.inl e), hm]
      have hR : readR r u.imm v.imm = immB r.op r.nar (immR r u.imm v.imm) := by
        unfold readR
        rw [if_neg (fun h => h.1 e), if_pos (.inl e), good_imm]
      rw [hR, hF, hI, hsz]
      simp
    · have hF : firstI i = r.imm := by
        unfold firstI
        rw [q1, q4, hm, e3]
        unfold immN
        by_cases h17 : r.op = 17 ∨ r.op = 18 ∨ r.op = 19
        · rw [if_pos h17, if_pos h17]
        · rw [if_neg h17, if_neg h17, if_neg e2]
          by_cases h21 : r.op = 21
          · rw [if_pos h21]
          · rw [if_neg h21]; unfold immR; rw [if_neg e2, if_neg h21, if_neg e]
      rw [hF]
      by_cases hc : r.imm = u.imm
      · by_cases h21 : r.op = 21
        · have hs2 : r.second = -1 := hsec.2 (.inr h21)
          have hI : immediateL i.op i.nar i.reg i.imm = immB r.op r.nar (immR r u.imm v.imm) := by rw [himm, if_pos (.inr hs2), hm]
          have hR : readR r u.imm v.imm = immB r.op r.nar (immR r u.imm v.imm) := by
            unfold readR
            rw [if_neg (fun h => h.2 hc), if_pos (.inr hs2), good_imm]
          rw [hR, hI, hsz, ← hc]
          simp
        · have hn : ¬ (r.imm = -1 ∨ r.second = -1) := by rw [hsec]; omega
          have hz : immR r u.imm v.imm = 0 := by unfold immR; rw [if_neg e2, if_neg h21, if_neg e]
          have hI : immediateL i.op i.nar i.reg i.imm = true := by rw [himm, if_neg hn, hm, hz]; rfl
          have hR : readR r u.imm v.imm = true := by
            unfold readR
            rw [if_neg (fun h => h.2 hc), if_neg hn]
          rw [hR, hI, hsz, ← hc]
          simp
      · have hR : readR r u.imm v.imm = false := by unfold readR; rw [if_pos ⟨e, hc⟩]
        rw [hR]
        symm
        rw [decide_eq_false_iff_not]
        rintro ⟨h1, -⟩
        exact hc h1.symm
end Go.Proofs.YtaglclmfjopnlaaDoor
/- Reading by the rows of one opcode is what package code reads: plain mathematics. -/
namespace Go.Proofs.YtaglclmfjopnlaaDoor
open Go.RowKit
open Cod
set_option linter.unusedVariables false

def pickR (rs : List RRow) (u : U) (sec : Int) (bad : Bool) : Int × Ins :=
  match rs with
  | [] => (21, zeroI)
  | a :: t => if regsR a u.dst u.src u.imm = false then (22, zeroI) else
    if ((a :: t).filter fun r => fitR r u.dst u.src u.off) = [] ∨ bad = true then (23, zeroI) else
    match ((a :: t).filter fun r => fitR r u.dst u.src u.off).find? (fun r => readR r u.imm sec) with
    | none => (24, zeroI)
    | some r => (0, insR r u.dst u.src u.off u.imm sec)
theorem pick_sel {a : RRow} {t : List RRow} {u : U} {sec : Int} {bad : Bool} {r : RRow} (hr : r ∈ a :: t) (hreg : regsR a u.dst u.src u.imm = regsR r u.dst u.src u.imm)
    (ho : ∀ x ∈ a :: t, x ≠ r → fitR x u.dst u.src u.off = false ∨ (fitR x u.dst u.src u.off = fitR r u.dst u.src u.off ∧ readR x u.imm sec = false)) :
    pickR (a :: t) u sec bad = if regsR r u.dst u.src u.imm = false then (22, zeroI) else if fitR r u.dst u.src u.off = false ∨ bad = true then (23, zeroI) else
      if readR r u.imm sec = true then (0, insR r u.dst u.src u.off u.imm sec) else (24, zeroI) := by
  unfold pickR
  simp only
  rw [hreg]
  by_cases h1 : regsR r u.dst u.src u.imm = false
  · rw [if_pos h1, if_pos h1]
  rw [if_neg h1, if_neg h1]
  have hemp : (((a :: t).filter fun r => fitR r u.dst u.src u.off) = []) = (fitR r u.dst u.src u.off = false) := by
    apply propext
    rw [List.filter_eq_nil_iff]
    constructor
    · intro h; simpa using h r hr
    · intro h x hx
      by_cases hxr : x = r
      · rw [hxr, h]; decide
      · rcases ho x hx hxr with h2 | h2
        · rw [h2]; decide
        · rw [h2.1, h]; decide
  simp only [hemp]
  by_cases h2 : fitR r u.dst u.src u.off = false ∨ bad = true
  · rw [if_pos h2, if_pos h2]
  rw [if_neg h2, if_neg h2]
  have hfit : fitR r u.dst u.src u.off = true := by
    cases hf : fitR r u.dst u.src u.off with
    | true => rfl
    | false => exact absurd (.inl hf) h2
  have hmem : r ∈ (a :: t).filter fun r => fitR r u.dst u.src u.off := List.mem_filter.2 ⟨hr, hfit⟩
  have hoth : ∀ x ∈ (a :: t).filter (fun r => fitR r u.dst u.src u.off), x ≠ r → readR x u.imm sec = false := by
    intro x hx hxr
    obtain ⟨k1, k2⟩ := List.mem_filter.1 hx
    rcases ho x k1 hxr with h3 | h3
    · rw [h3] at k2; exact absurd k2 (by decide)
    · exact h3.2
  generalize (a :: t).filter (fun r => fitR r u.dst u.src u.off) = F at *
  by_cases h3 : readR r u.imm sec = true
  · rw [if_pos h3]
    cases hf : F.find? (fun r => readR r u.imm sec) with
    | none => exact absurd h3 (by simpa using List.find?_eq_none.1 hf r hmem)
    | some x =>
      have k1 := List.mem_of_find?_eq_some hf
      have k2 := List.find?_some hf
      by_cases hxr : x = r
      · rw [hxr]
      · rw [hoth x k1 hxr] at k2; exact absurd k2 (by decide)
  · rw [if_neg h3]
    have hf : F.find? (fun r => readR r u.imm sec) = none := by
      rw [List.find?_eq_none]
      intro x hx
      by_cases hxr : x = r
      · rw [hxr]; exact h3
      · rw [hoth x hx hxr]; decide
    rw [hf]
def badU (v : U) : Bool := !(decide (v.oc = 0 ∧ v.dst = 0 ∧ v.src = 0 ∧ v.off = 0))
/-- what reading answers: the error, and the instruction where there is none -/
def readE (i : Ins) (u v : U) : Int × Ins := if errL i u v = 0 then (0, i) else (errL i u v, zeroI)
theorem errL_core {r : RRow} {u v : U} {i : Ins} (C : Core r u v i) :
    readE i u v = if regsR r u.dst u.src u.imm = false then (22, zeroI) else if fitR r u.dst u.src u.off = false ∨ badU v = true then (23, zeroI) else
      if readR r u.imm v.imm = true then (0, insR r u.dst u.src u.off u.imm v.imm) else (24, zeroI) := by
  rw [C.regs, C.fit, C.read, C.ins]
  unfold readE errL badU
  by_cases h1 : registersL i.op i.nar i.reg i.dst i.src i.imm = false
  · simp only [if_pos h1]; rfl
  simp only [if_neg h1]
  by_cases h2 : u.dst = i.dst ∧ u.src = firstS i ∧ u.off = firstO i
  · by_cases h3 : v.oc = 0 ∧ v.dst = 0 ∧ v.src = 0 ∧ v.off = 0
    · have e1 : ¬ (decide (u.dst = i.dst ∧ u.src = firstS i ∧ u.off = firstO i) = false ∨ (!decide (v.oc = 0 ∧ v.dst = 0 ∧ v.src = 0 ∧ v.off = 0)) = true) := by
        rw [decide_eq_true h2, decide_eq_true h3]; decide
      simp only [if_neg (not_not_intro h2), if_neg (not_not_intro h3), if_neg e1]
      by_cases h4 : u.imm = firstI i ∧ sizedL i.op i.nar i.size = true ∧ immediateL i.op i.nar i.reg i.imm = true
      · simp only [if_neg (not_not_intro h4), decide_eq_true h4, if_true]
      · simp only [if_pos h4, decide_eq_false h4]; rfl
    · have e1 : decide (u.dst = i.dst ∧ u.src = firstS i ∧ u.off = firstO i) = false ∨ (!decide (v.oc = 0 ∧ v.dst = 0 ∧ v.src = 0 ∧ v.off = 0)) = true := .inr (by rw [decide_eq_false h3]; rfl)
      simp only [if_neg (not_not_intro h2), if_pos h3, if_pos e1]; rfl
  · have e1 : decide (u.dst = i.dst ∧ u.src = firstS i ∧ u.off = firstO i) = false ∨ (!decide (v.oc = 0 ∧ v.dst = 0 ∧ v.src = 0 ∧ v.off = 0)) = true := .inl (decide_eq_false h2)
    simp only [if_pos h2, if_pos e1]; rfl
theorem pick_core {a : RRow} {t : List RRow} {u v : U} {r : RRow} (hu : UOk u) (hv : UOk v) (hsub : ∀ x ∈ a :: t, x ∈ rowsL) (hr : r ∈ a :: t) (hc : chosenL (opL u.oc) u = formI r) (hreg : regsR a u.dst u.src u.imm = regsR r u.dst u.src u.imm)
    (ho : ∀ x ∈ a :: t, x ≠ r → fitR x u.dst u.src u.off = false ∨ (fitR x u.dst u.src u.off = fitR r u.dst u.src u.off ∧ readR x u.imm v.imm = false)) :
    pickR (a :: t) u v.imm (badU v) = readE (readL u v) u v := by
  have C := core (hsub r hr) hu hv
  rw [pick_sel hr hreg ho]
  unfold readL
  rw [hc]
  exact (errL_core C).symm

/-! the opcodes -/
def special (c : Int) : Bool := c == 24 || c == 191 || c == 188 || c == 212 || c == 220 || c == 215
def catOk (c : Int) : Bool :=
  special c || match rowsC c with
  | [] => (opL c).op == 0
  | [r] => decide (opL c = formI r) && (decide (r.op ≠ 4 ∧ r.op ≠ 5 ∧ r.op ≠ 17 ∧ r.op ≠ 18 ∧ r.op ≠ 19 ∧ r.op ≠ 20) && (decide (r.op ≠ 15) || !r.reg))
  | [a, b] => decide (opL c = formI a) && (((a.op == 4 && b.op == 6) || (a.op == 5 && b.op == 7)) && (decide (b.nar = a.nar ∧ b.reg = a.reg ∧ b.size = a.size ∧ b.dst = a.dst ∧ b.src = a.src ∧ b.writes = a.writes) && (a.off == 0 && b.off == 1)))
  | _ => false
def chkC : Bool := (List.range 256).all fun c => catOk (c : Int)
theorem chkC_ok : chkC = true := by kernel_rfl
theorem rowsC_sub {c : Int} {x : RRow} (h : x ∈ rowsC c) : x ∈ rowsL := (List.mem_filter.1 h).1
theorem chosen_plain {r : RRow} (u : U) (h : r.op ≠ 4 ∧ r.op ≠ 5 ∧ r.op ≠ 17 ∧ r.op ≠ 18 ∧ r.op ≠ 19 ∧ r.op ≠ 20) (h15 : r.op ≠ 15 ∨ r.reg = false) : chosenL (formI r) u = formI r := by
  unfold chosenL formI
  simp only
  rw [if_neg h.1, if_neg h.2.1]
  by_cases h1 : r.op = 15
  · rw [if_pos h1]
    rcases h15 with h2 | h2
    · exact absurd h1 h2
    · rw [h2]
      have : operatesL 16 r.nar false u.off = false := by unfold operatesL; simp
      rw [this]; simp
  · rw [if_neg h1, if_neg (by omega), if_neg (by omega)]
theorem regs_like {a b : RRow} (h1 : b.dst = a.dst) (h2 : b.src = a.src) (h3 : b.writes = a.writes) (h4 : a.op ≠ 25) (h5 : b.op ≠ 25) (d s m : Int) : regsR a d s m = regsR b d s m := by
  unfold regsR
  rw [h1, h2, h3, show (a.op == 25) = false by rw [beq_eq_false_iff_ne]; exact h4, show (b.op == 25) = false by rw [beq_eq_false_iff_ne]; exact h5]
theorem fit_no_off {r : RRow} {d s o : Int} (h1 : r.off ≠ -1) (h2 : r.off ≠ o) : fitR r d s o = false := by
  unfold fitR
  rw [show (r.off == -1) = false by rw [beq_eq_false_iff_ne]; exact h1, show (r.off == o) = false by rw [beq_eq_false_iff_ne]; exact h2]
  simp
theorem fit_no_src {r : RRow} {d s o : Int} (h1 : r.src ≠ -1) (h2 : r.src ≠ s) : fitR r d s o = false := by
  unfold fitR
  rw [show (r.src == -1) = false by rw [beq_eq_false_iff_ne]; exact h1, show (r.src == s) = false by rw [beq_eq_false_iff_ne]; exact h2]
  simp
theorem read_no {r : RRow} {m sec : Int} (h1 : r.imm ≠ -1) (h2 : r.imm ≠ m) : readR r m sec = false := by unfold readR; rw [if_pos ⟨h1, h2⟩]
theorem pick_one {r : RRow} {u v : U} (hu : UOk u) (hv : UOk v) (hrs : rowsC u.oc = [r]) (hop : opL u.oc = formI r) (h : r.op ≠ 4 ∧ r.op ≠ 5 ∧ r.op ≠ 17 ∧ r.op ≠ 18 ∧ r.op ≠ 19 ∧ r.op ≠ 20) (h15 : r.op ≠ 15 ∨ r.reg = false) :
    pickR [r] u v.imm (badU v) = readE (readL u v) u v :=
  pick_core hu hv (fun x hx => rowsC_sub (by rw [hrs]; exact hx)) (by simp) (by rw [hop]; exact chosen_plain u h h15) rfl (fun x hx hn => absurd (by simpa using hx) hn)
theorem pick_two {a b : RRow} {u v : U} (hu : UOk u) (hv : UOk v) (hrs : rowsC u.oc = [a, b]) (hop : opL u.oc = formI a) (hab : (a.op = 4 ∧ b.op = 6) ∨ (a.op = 5 ∧ b.op = 7))
    (hs : b.nar = a.nar ∧ b.reg = a.reg ∧ b.size = a.size ∧ b.dst = a.dst ∧ b.src = a.src ∧ b.writes = a.writes) (ha : a.off = 0) (hb : b.off = 1) : pickR [a, b] u v.imm (badU v) = readE (readL u v) u v := by
  obtain ⟨s1, s2, s3, s4, s5, s6⟩ := hs
  by_cases h1 : u.off = 1
  · refine pick_core (r := b) hu hv (fun x hx => rowsC_sub (by rw [hrs]; exact hx)) (by simp) ?_ (regs_like s4 s5 s6 (by omega) (by omega) _ _ _) (fun x hx hn => .inl ?_)
    · rw [hop]
      unfold chosenL formI
      simp only
      rcases hab with ⟨e1, e2⟩ | ⟨e1, e2⟩
      · rw [if_pos e1, if_pos h1, e2, s1, s2, s3]
      · rw [if_neg (by omega), if_pos e1, if_pos h1, e2, s1, s2, s3]
    · have hxa : x = a := by
        simp only [List.mem_cons, List.not_mem_nil, or_false] at hx
        rcases hx with hx | hx
        · exact hx
        · exact absurd hx hn
      rw [hxa]
      exact fit_no_off (by omega) (by omega)
  · refine pick_core (r := a) hu hv (fun x hx => rowsC_sub (by rw [hrs]; exact hx)) (by simp) ?_ rfl (fun x hx hn => .inl ?_)
    · rw [hop]
      unfold chosenL formI
      simp only
      rcases hab with ⟨e1, e2⟩ | ⟨e1, e2⟩
      · rw [if_pos e1, if_neg h1]
      · rw [if_neg (by omega), if_pos e1, if_neg h1]
    · have hxa : x = b := by
        simp only [List.mem_cons, List.not_mem_nil, or_false] at hx
        rcases hx with hx | hx
        · exact absurd hx hn
        · exact hx
      rw [hxa]
      exact fit_no_off (by omega) (by omega)
def rWide : RRow := ⟨24, 20, 0, false, false, -1, 0, 0, -1, -1, true⟩
def rData : RRow := ⟨24, 21, 0, false, false, -1, 6, 0, 0, -1, true⟩
theorem rows_24 : rowsC 24 = [rWide, rData] := by kernel_rfl
theorem opL_24 : opL 24 = formI rWide := by kernel_rfl
theorem pick_24 {u v : U} (hu : UOk u) (hv : UOk v) (hc : u.oc = 24) : pickR [rWide, rData] u v.imm (badU v) = readE (readL u v) u v := by
  have hsub : ∀ x ∈ [rWide, rData], x ∈ rowsL := fun x hx => rowsC_sub (c := 24) (by rw [rows_24]; exact hx)
  by_cases h1 : u.src = 6
  · refine pick_core (r := rData) hu hv hsub (by simp) ?_ rfl (fun x hx hn => .inl ?_)
    · rw [hc, opL_24]
      unfold chosenL formI
      simp only [rWide]
      rw [if_neg (by decide), if_neg (by decide), if_neg (by decide), if_neg (by decide), if_pos trivial, if_pos h1]
      rfl
    · have hxa : x = rWide := by
        simp only [List.mem_cons, List.not_mem_nil, or_false] at hx
        rcases hx with hx | hx
        · exact hx
        · exact absurd hx hn
      rw [hxa]
      exact fit_no_src (by decide) (by rw [h1]; decide)
  · refine pick_core (r := rWide) hu hv hsub (by simp) ?_ rfl (fun x hx hn => .inl ?_)
    · rw [hc, opL_24]
      unfold chosenL formI
      simp only [rWide]
      rw [if_neg (by decide), if_neg (by decide), if_neg (by decide), if_neg (by decide), if_pos trivial, if_neg h1]
    · have hxa : x = rData := by
        simp only [List.mem_cons, List.not_mem_nil, or_false] at hx
        rcases hx with hx | hx
        · exact absurd hx hn
        · exact hx
      rw [hxa]
      exact fit_no_src (by decide) (by show (6 : Int) ≠ u.src; omega)
def rMov (c : Int) (nar : Bool) : RRow := ⟨c, 15, 0, nar, true, -1, -1, 0, 0, 0, true⟩
def rMovs (c : Int) (nar : Bool) (size : Int) : RRow := ⟨c, 16, size, nar, true, -1, -1, size, 0, 0, true⟩
theorem rows_191 : rowsC 191 = [rMov 191 false, rMovs 191 false 8, rMovs 191 false 16, rMovs 191 false 32] := by kernel_rfl
theorem rows_188 : rowsC 188 = [rMov 188 true, rMovs 188 true 8, rMovs 188 true 16] := by kernel_rfl
theorem opL_191 : opL 191 = formI (rMov 191 false) := by kernel_rfl
theorem opL_188 : opL 188 = formI (rMov 188 true) := by kernel_rfl
theorem chosen_movs (c : Int) (nar : Bool) (u : U) (h : operatesL 16 nar true u.off = true) : chosenL (formI (rMov c nar)) u = formI (rMovs c nar u.off) := by
  unfold chosenL formI rMov
  simp only
  rw [if_neg (by decide), if_neg (by decide), if_pos trivial, if_pos h]
  rfl
theorem chosen_mov (c : Int) (nar : Bool) (u : U) (h : operatesL 16 nar true u.off = false) : chosenL (formI (rMov c nar)) u = formI (rMov c nar) := by
  unfold chosenL formI rMov
  simp only
  rw [if_neg (by decide), if_neg (by decide), if_pos trivial, if_neg (by rw [h]; decide)]
theorem pick_mov {u v : U} (hu : UOk u) (hv : UOk v) (c : Int) (nar : Bool) (t : List RRow) (hc : u.oc = c) (hrs : rowsC c = rMov c nar :: t) (hop : opL c = formI (rMov c nar))
    (ht : ∀ x ∈ t, ∃ s, x = rMovs c nar s ∧ s ≠ 0 ∧ s ≠ -1) (hs : ∀ s, operatesL 16 nar true s = true → rMovs c nar s ∈ t) (hs2 : ∀ s, rMovs c nar s ∈ t → operatesL 16 nar true s = true) : pickR (rMov c nar :: t) u v.imm (badU v) = readE (readL u v) u v := by
  have hsub : ∀ x ∈ rMov c nar :: t, x ∈ rowsL := fun x hx => rowsC_sub (c := c) (by rw [hrs]; exact hx)
  by_cases h1 : operatesL 16 nar true u.off = true
  · refine pick_core (r := rMovs c nar u.off) hu hv hsub (by simp [hs _ h1]) (by rw [hc, hop]; exact chosen_movs c nar u h1) rfl (fun x hx hn => .inl ?_)
    rcases List.mem_cons.1 hx with hx | hx
    · rw [hx]
      refine fit_no_off (by show (0 : Int) ≠ -1; decide) (fun e => ?_)
      have e0 : u.off = 0 := e.symm
      obtain ⟨s, hx2, hx3, _⟩ := ht _ (hs _ h1)
      have : u.off = s := congrArg RRow.size hx2
      omega
    · obtain ⟨s, rfl, h2, h3⟩ := ht x hx
      exact fit_no_off h3 (fun e => hn (by rw [show s = u.off from e]))
  · have h1' : operatesL 16 nar true u.off = false := by simpa using h1
    refine pick_core (r := rMov c nar) hu hv hsub (by simp) (by rw [hc, hop]; exact chosen_mov c nar u h1') rfl (fun x hx hn => .inl ?_)
    rcases List.mem_cons.1 hx with hx | hx
    · exact absurd hx hn
    · obtain ⟨s, rfl, h2, h3⟩ := ht x hx
      exact fit_no_off h3 (fun e => h1 (by rw [← show s = u.off from e]; exact hs2 s hx))
theorem ops16 (nar : Bool) (s : Int) : operatesL 16 nar true s = (s == 8 || s == 16 || (s == 32 && !nar)) := by
  unfold operatesL sizedL
  rw [if_neg (by decide), if_neg (by decide), if_pos rfl]
  cases nar <;> rfl
theorem movs_inj {c : Int} {nar : Bool} {s t : Int} (h : rMovs c nar s = rMovs c nar t) : s = t := congrArg RRow.size h
theorem pick_191 {u v : U} (hu : UOk u) (hv : UOk v) (hc : u.oc = 191) : pickR (rowsC 191) u v.imm (badU v) = readE (readL u v) u v := by
  rw [rows_191]
  refine pick_mov hu hv 191 false _ hc rows_191 opL_191 (fun x hx => ?_) (fun s hs => ?_) (fun s hs => ?_)
  · simp only [List.mem_cons, List.not_mem_nil, or_false] at hx
    rcases hx with rfl | rfl | rfl <;> exact ⟨_, rfl, by decide, by decide⟩
  · rw [ops16] at hs
    simp at hs
    rcases hs with (rfl | rfl) | rfl <;> simp
  · simp only [List.mem_cons, List.not_mem_nil, or_false] at hs
    rcases hs with h | h | h <;> (rw [movs_inj h]; decide)
theorem pick_188 {u v : U} (hu : UOk u) (hv : UOk v) (hc : u.oc = 188) : pickR (rowsC 188) u v.imm (badU v) = readE (readL u v) u v := by
  rw [rows_188]
  refine pick_mov hu hv 188 true _ hc rows_188 opL_188 (fun x hx => ?_) (fun s hs => ?_) (fun s hs => ?_)
  · simp only [List.mem_cons, List.not_mem_nil, or_false] at hx
    rcases hx with rfl | rfl <;> exact ⟨_, rfl, by decide, by decide⟩
  · rw [ops16] at hs
    simp at hs
    rcases hs with rfl | rfl <;> simp
  · simp only [List.mem_cons, List.not_mem_nil, or_false] at hs
    rcases hs with h | h <;> (rw [movs_inj h]; decide)
def rSwap (c op size : Int) : RRow := ⟨c, op, size, false, false, -1, 0, 0, size, 0, true⟩
theorem swap_sub (c op s : Int) (h : rSwap c op s ∈ rowsL) : True := trivial
theorem pick_swap {u v : U} (hu : UOk u) (hv : UOk v) (c op : Int) (ho : op = 17 ∨ op = 18 ∨ op = 19) (hc : u.oc = c) (hrs : rowsC c = [rSwap c op 16, rSwap c op 32, rSwap c op 64]) (hop : opL c = opI op) : pickR [rSwap c op 16, rSwap c op 32, rSwap c op 64] u v.imm (badU v) = readE (readL u v) u v := by
  have hsub : ∀ x ∈ [rSwap c op 16, rSwap c op 32, rSwap c op 64], x ∈ rowsL := fun x hx => rowsC_sub (c := c) (by rw [hrs]; exact hx)
  have hch : chosenL (opL u.oc) u = formI (rSwap c op u.imm) := by
    rw [hc, hop]
    unfold chosenL opI formI rSwap
    simp only
    rw [if_neg (by omega), if_neg (by omega), if_neg (by omega), if_pos ho]
  by_cases hm : u.imm = 16 ∨ u.imm = 32 ∨ u.imm = 64
  · refine pick_core (r := rSwap c op u.imm) hu hv hsub ?_ hch (regs_like rfl rfl rfl (by show op ≠ 25; omega) (by show op ≠ 25; omega) _ _ _) (fun x hx hn => .inr ?_)
    · rcases hm with e | e | e <;> rw [e] <;> simp
    · simp only [List.mem_cons, List.not_mem_nil, or_false] at hx
      rcases hx with rfl | rfl | rfl <;> exact ⟨rfl, read_no (by simp [rSwap]) (fun e => hn (by rw [← e]; rfl))⟩
  · have C := core (hsub (rSwap c op 16) (by simp)) hu hv
    have hread : ∀ x ∈ [rSwap c op 16, rSwap c op 32, rSwap c op 64], readR x u.imm v.imm = false := fun x hx => by
      simp only [List.mem_cons, List.not_mem_nil, or_false] at hx
      rcases hx with rfl | rfl | rfl <;> exact read_no (by simp [rSwap]) (by simp [rSwap]; omega)
    rw [pick_sel (r := rSwap c op 16) (by simp) rfl (fun x hx hn => .inr ⟨by
      simp only [List.mem_cons, List.not_mem_nil, or_false] at hx
      rcases hx with rfl | rfl | rfl <;> rfl, hread x hx⟩), hread _ (by simp), C.regs, C.fit]
    unfold readL
    rw [hch]
    generalize hi : filledL (formI (rSwap c op 16)) u v = i
    generalize hj : filledL (formI (rSwap c op u.imm)) u v = j
    have k : j.op = i.op ∧ j.nar = i.nar ∧ j.reg = i.reg ∧ j.dst = i.dst ∧ j.src = i.src ∧ j.off = i.off ∧ j.imm = i.imm := by rw [← hi, ← hj]; exact ⟨rfl, rfl, rfl, rfl, rfl, rfl, rfl⟩
    have k0 : j.op = op ∧ j.nar = false ∧ j.size = u.imm := by rw [← hj]; exact ⟨rfl, rfl, rfl⟩
    obtain ⟨k1, k2, k3, k4, k5, k6, k7⟩ := k
    obtain ⟨k8, k9, k10⟩ := k0
    clear hi hj C
    have hf : firstS j = firstS i ∧ firstO j = firstO i := by
      unfold firstS firstO
      rw [k1, k5, k6]
      have : i.op = op := by rw [← k1]; exact k8
      rw [if_neg (by omega), if_neg (by omega), if_neg (by omega), if_neg (by omega), if_neg (by omega)]
      exact ⟨rfl, rfl⟩
    have hsz : sizedL j.op j.nar j.size = false := by
      rw [k8, k9, k10]
      unfold sizedL
      rw [if_neg (by omega), if_pos ho]
      simp; omega
    unfold readE errL badU
    rw [hf.1, hf.2, k4, hsz, ← k1, ← k2, ← k3, ← k4, ← k5, ← k7]
    by_cases h1 : registersL j.op j.nar j.reg j.dst j.src j.imm = false
    · simp only [if_pos h1]; rfl
    simp only [if_neg h1]
    by_cases h2 : u.dst = j.dst ∧ u.src = firstS i ∧ u.off = firstO i
    · by_cases h3 : v.oc = 0 ∧ v.dst = 0 ∧ v.src = 0 ∧ v.off = 0
      · have e1 : ¬ (decide (u.dst = j.dst ∧ u.src = firstS i ∧ u.off = firstO i) = false ∨ (!decide (v.oc = 0 ∧ v.dst = 0 ∧ v.src = 0 ∧ v.off = 0)) = true) := by
          rw [decide_eq_true h2, decide_eq_true h3]; decide
        simp only [if_neg (not_not_intro h2), if_neg (not_not_intro h3), if_neg e1]
        simp
      · have e1 : decide (u.dst = j.dst ∧ u.src = firstS i ∧ u.off = firstO i) = false ∨ (!decide (v.oc = 0 ∧ v.dst = 0 ∧ v.src = 0 ∧ v.off = 0)) = true := .inr (by rw [decide_eq_false h3]; rfl)
        simp only [if_neg (not_not_intro h2), if_pos h3, if_pos e1]; rfl
    · have e1 : decide (u.dst = j.dst ∧ u.src = firstS i ∧ u.off = firstO i) = false ∨ (!decide (v.oc = 0 ∧ v.dst = 0 ∧ v.src = 0 ∧ v.off = 0)) = true := .inl (decide_eq_false h2)
      simp only [if_pos h2, if_pos e1]; rfl
theorem rows_212 : rowsC 212 = [rSwap 212 17 16, rSwap 212 17 32, rSwap 212 17 64] := by kernel_rfl
theorem rows_220 : rowsC 220 = [rSwap 220 18 16, rSwap 220 18 32, rSwap 220 18 64] := by kernel_rfl
theorem rows_215 : rowsC 215 = [rSwap 215 19 16, rSwap 215 19 32, rSwap 215 19 64] := by kernel_rfl
theorem ops_24 (c : Int) : special c = true → c ≠ 24 → (opL c).op ≠ 20 := by
  intro h h2
  unfold special at h
  simp only [Bool.or_eq_true, beq_iff_eq] at h
  rcases h with ((((h | h) | h) | h) | h) | h
  · exact absurd h h2
  all_goals (rw [h]; decide +kernel)
/-- reading by the rows of an opcode -/
theorem pick_any {u v : U} (hu : UOk u) (hv : UOk v) : (rowsC u.oc = [] ↔ (opL u.oc).op = 0) ∧ (rowsC u.oc ≠ [] → pickR (rowsC u.oc) u v.imm (badU v) = readE (readL u v) u v) := by
  have hk := chkC_ok
  unfold chkC at hk
  obtain ⟨n, hn⟩ := Int.eq_ofNat_of_zero_le hu.oc.1
  have h1 := List.all_eq_true.1 hk n (List.mem_range.2 (by have := hu.oc.2; omega))
  rw [← hn] at h1
  unfold catOk at h1
  by_cases hs : special u.oc = true
  · have hs' := hs
    unfold special at hs'
    simp only [Bool.or_eq_true, beq_iff_eq] at hs'
    rcases hs' with ((((h | h) | h) | h) | h) | h
    · refine ⟨by rw [h, rows_24, opL_24]; decide, fun _ => ?_⟩
      have := pick_24 hu hv h
      rw [h, rows_24]; exact this
    · refine ⟨by rw [h, rows_191, opL_191]; decide, fun _ => ?_⟩
      have := pick_191 hu hv h
      rw [h]; exact this
    · refine ⟨by rw [h, rows_188, opL_188]; decide, fun _ => ?_⟩
      have := pick_188 hu hv h
      rw [h]; exact this
    · refine ⟨by rw [h, rows_212]; decide +kernel, fun _ => ?_⟩
      rw [h, rows_212]; exact pick_swap hu hv 212 17 (by decide) h rows_212 (by kernel_rfl)
    · refine ⟨by rw [h, rows_220]; decide +kernel, fun _ => ?_⟩
      rw [h, rows_220]; exact pick_swap hu hv 220 18 (by decide) h rows_220 (by kernel_rfl)
    · refine ⟨by rw [h, rows_215]; decide +kernel, fun _ => ?_⟩
      rw [h, rows_215]; exact pick_swap hu hv 215 19 (by decide) h rows_215 (by kernel_rfl)
  · have hs' : special u.oc = false := by simpa using hs
    rw [hs', Bool.false_or] at h1
    match hrs : rowsC u.oc, h1 with
    | [], h1 => exact ⟨⟨fun _ => by simpa using h1, fun _ => rfl⟩, fun h => absurd rfl h⟩
    | [r], h1 =>
      simp only [Bool.and_eq_true, decide_eq_true_eq, Bool.or_eq_true, Bool.not_eq_true'] at h1
      obtain ⟨e1, e2, e3⟩ := h1
      have hp : 1 ≤ r.op := by
        have hm : r ∈ rowsL := rowsC_sub (c := u.oc) (by rw [hrs]; simp)
        have := List.all_eq_true.1 rows_ok r hm
        unfold rowOk at this
        simp only [Bool.and_eq_true, decide_eq_true_eq] at this
        exact this.1.1
      refine ⟨⟨(fun h => by cases h), fun h => ?_⟩, fun _ => pick_one hu hv hrs e1 e2 e3⟩
      rw [e1] at h
      exact absurd (show r.op = 0 from h) (by omega)
    | [a, b], h1 =>
      simp only [Bool.and_eq_true, decide_eq_true_eq, Bool.or_eq_true, beq_iff_eq] at h1
      obtain ⟨e1, e2, e3, e4, e5⟩ := h1
      refine ⟨⟨(fun h => by cases h), fun h => ?_⟩, fun _ => pick_two hu hv hrs e1 e2 e3 e4 e5⟩
      rw [e1] at h
      exact absurd (show a.op = 0 from h) (by omega)
/-- what the document's answer reads at the beginning of bytes -/
def oneR (l : List Int) : Int × Ins × Nat :=
  if l.length < 8 then (20, zeroI, 0) else
  if rowsC (gB l 0) = [] then (21, zeroI, 0) else
  if gB l 0 = 24 then (if l.length < 16 then (20, zeroI, 0) else ((pickR (rowsC (gB l 0)) (unitA l) (unitA (l.drop 8)).imm (badU (unitA (l.drop 8)))).1, (pickR (rowsC (gB l 0)) (unitA l) (unitA (l.drop 8)).imm (badU (unitA (l.drop 8)))).2, 2))
  else ((pickR (rowsC (gB l 0)) (unitA l) 0 false).1, (pickR (rowsC (gB l 0)) (unitA l) 0 false).2, 1)
theorem op20_iff {c : Int} (hc : 0 ≤ c ∧ c < 256) : (opL c).op = 20 ↔ c = 24 := by
  have h : ((List.range 256).all fun c => ((opL (c : Int)).op == 20) == (((c : Nat) : Int) == 24)) = true := by kernel_rfl
  obtain ⟨n, hn⟩ := Int.eq_ofNat_of_zero_le hc.1
  have h1 := List.all_eq_true.1 h n (List.mem_range.2 (by omega))
  rw [← hn] at h1
  have h2 : ((opL c).op == 20) = (c == 24) := by simpa using h1
  constructor
  · intro e; rw [e] at h2; simpa using h2.symm
  · intro e; rw [show (c == 24) = true by simpa using e] at h2; simpa using h2
theorem one_ref {l : List Int} (hl : BytesL l) : (oneR l).1 = (insD l).1 ∧ ((insD l).1 = 0 → oneR l = insD l) ∧ ((insD l).1 ≠ 0 → (oneR l).2.1 = zeroI) := by
  have hu := unitA_ok hl
  have h0 : (unitA l).oc = gB l 0 := rfl
  unfold oneR insD
  by_cases c1 : l.length < 8
  · rw [if_pos c1, if_pos c1]; exact ⟨rfl, fun _ => rfl, fun _ => rfl⟩
  rw [if_neg c1, if_neg c1]
  obtain ⟨p1, -⟩ := pick_any hu UOk.zero
  rw [h0] at p1
  by_cases c2 : rowsC (gB l 0) = []
  · rw [if_pos c2, h0, if_pos (p1.1 c2)]; exact ⟨rfl, fun _ => rfl, fun _ => rfl⟩
  rw [if_neg c2, h0, if_neg (fun h => c2 (p1.2 h))]
  have q := op20_iff (c := gB l 0) (by rw [← h0]; exact hu.oc)
  have fin : ∀ (i : Ins) (v : U) (k : Nat), ((readE i (unitA l) v).1, (readE i (unitA l) v).2, k).1 = (errL i (unitA l) v, i, k).1 ∧ ((errL i (unitA l) v, i, k).1 = 0 → ((readE i (unitA l) v).1, (readE i (unitA l) v).2, k) = (errL i (unitA l) v, i, k)) ∧ ((errL i (unitA l) v, i, k).1 ≠ 0 → ((readE i (unitA l) v).1, (readE i (unitA l) v).2, k).2.1 = zeroI) := by
    intro i v k
    unfold readE
    by_cases h : errL i (unitA l) v = 0
    · rw [if_pos h, h]; exact ⟨rfl, fun _ => rfl, fun h => absurd rfl h⟩
    · rw [if_neg h]; exact ⟨rfl, fun h2 => absurd h2 h, fun _ => rfl⟩
  by_cases c3 : gB l 0 = 24
  · rw [if_pos c3, if_pos (q.2 c3)]
    by_cases c4 : l.length < 16
    · rw [if_pos c4, if_pos c4]; exact ⟨rfl, fun _ => rfl, fun _ => rfl⟩
    rw [if_neg c4, if_neg c4]
    have hv := unitA_ok (hl.drop 8)
    have h2 := (pick_any hu hv).2 (by rw [h0]; exact c2)
    rw [h0] at h2
    rw [h2]
    exact fin _ _ _
  · rw [if_neg c3, if_neg (fun h => c3 (q.1 h))]
    have h2 := (pick_any hu UOk.zero).2 (by rw [h0]; exact c2)
    rw [h0, show zeroU.imm = 0 from rfl, show badU zeroU = false from rfl] at h2
    rw [h2]
    exact fin _ _ _
end Go.Proofs.YtaglclmfjopnlaaDoor
/- signed of the document's answer for package code: two bytes, four bytes. -/
namespace Go.Proofs.YtaglclmfjopnlaaDoor
open Go.ChangeShapes Go.WideShapes Go.ChangeAt Go.RowKit
open Cod Bits
set_option linter.unusedVariables false
set_option linter.unusedSimpArgs false

theorem ret_int {a b : Int} (h : a = b) : Ending.returned (.int .i64 a) = Ending.returned (.int .i64 b) := by rw [h]
set_option maxRecDepth 100000 in
set_option maxHeartbeats 4000000 in
theorem signed_2 (w : World) (b off c : Nat) (b0 b1 : Int) (r0 : IsB b0) (r1 : IsB b1) (c0 : w.cell? ⟨b, off, none⟩ = some (.int .u8 b0)) (c1 : w.cell? ⟨b, off + 1, none⟩ = some (.int .u8 b1)) :
    Calls Tryd.prog 53 #[.slice (some ⟨b, off, none⟩) 2 c] w fun e w' => e = .returned (.int .i64 (off16 b0 b1)) ∧ w = w' := by
  obtain ⟨p0, q0⟩ := r0
  obtain ⟨p1, q1⟩ := r1
  have HD := Lib.hid (show off16 b0 b1 = if b0 + 256 * b1 < 32768 then b0 + 256 * b1 else b0 + 256 * b1 - 65536 from rfl)
  generalize off16 b0 b1 = out at *
  go_enter Tryd.func53, Tryd.ntmps53
  go_wp2_with fail
  go_loopw [3, 4, 5] (fun s u i wr => w = wr ∧ ((s = .int .i64 0 ∧ u = .int .i64 1 ∧ i = .int .i64 0) ∨ (s = .int .i64 b0 ∧ u = .int .i64 256 ∧ i = .int .i64 1) ∨ (s = .int .i64 (b0 + 256 * b1) ∧ u = .int .i64 65536 ∧ i = .int .i64 2))) (fun _ _ i _ => (2 - intOf i).toNat)
  case atStart => exact ⟨rfl, .inl ⟨rfl, rfl, rfl⟩⟩
  case round =>
    obtain ⟨rfl, ⟨rfl, rfl, rfl⟩ | ⟨rfl, rfl, rfl⟩ | ⟨rfl, rfl, rfl⟩⟩ := hrel
    · go_wp2_with fail
      go_roundw
      case rel => exact ⟨by first | trivial | rfl, .inr (.inl ⟨by first | rfl | simp, rfl, rfl⟩)⟩
      case measure => simp [intOf]
    · go_wp2_with fail
      go_roundw
      case rel => exact ⟨by first | trivial | rfl, .inr (.inr ⟨rfl, rfl, rfl⟩)⟩
      case measure => simp [intOf]
    · by_cases h : b0 + 256 * b1 < 32768
      · have HE := Lib.hid (HD.out.trans (if_pos h))
        have t : decide (32768 ≤ b0 + 256 * b1) = false := decide_eq_false (by omega)
        clear h
        go_wp2_with fail
        go_ret
        exact ⟨ret_int HE.out.symm, rfl⟩
      · have HE := Lib.hid (HD.out.trans (if_neg h))
        have t : decide (32768 ≤ b0 + 256 * b1) = true := decide_eq_true (by omega)
        clear h
        go_wp2_with fail
        go_ret
        exact ⟨ret_int HE.out.symm, rfl⟩
set_option maxRecDepth 100000 in
set_option maxHeartbeats 4000000 in
theorem signed_4 (w : World) (b off c : Nat) (b0 b1 b2 b3 : Int) (r0 : IsB b0) (r1 : IsB b1) (r2 : IsB b2) (r3 : IsB b3) (c0 : w.cell? ⟨b, off, none⟩ = some (.int .u8 b0)) (c1 : w.cell? ⟨b, off + 1, none⟩ = some (.int .u8 b1)) (c2 : w.cell? ⟨b, off + 2, none⟩ = some (.int .u8 b2)) (c3 : w.cell? ⟨b, off + 3, none⟩ = some (.int .u8 b3)) :
    Calls Tryd.prog 53 #[.slice (some ⟨b, off, none⟩) 4 c] w fun e w' => e = .returned (.int .i64 (imm32 b0 b1 b2 b3)) ∧ w = w' := by
  obtain ⟨p0, q0⟩ := r0
  obtain ⟨p1, q1⟩ := r1
  obtain ⟨p2, q2⟩ := r2
  obtain ⟨p3, q3⟩ := r3
  have HD := Lib.hid (show imm32 b0 b1 b2 b3 = if b0 + 256 * b1 + 65536 * b2 + 16777216 * b3 < 2147483648 then b0 + 256 * b1 + 65536 * b2 + 16777216 * b3 else b0 + 256 * b1 + 65536 * b2 + 16777216 * b3 - 4294967296 from rfl)
  generalize imm32 b0 b1 b2 b3 = out at *
  go_enter Tryd.func53, Tryd.ntmps53
  go_wp2_with fail
  go_loopw [3, 4, 5] (fun s u i wr => w = wr ∧ ((s = .int .i64 0 ∧ u = .int .i64 1 ∧ i = .int .i64 0) ∨ (s = .int .i64 b0 ∧ u = .int .i64 256 ∧ i = .int .i64 1) ∨ (s = .int .i64 (b0 + 256 * b1) ∧ u = .int .i64 65536 ∧ i = .int .i64 2) ∨ (s = .int .i64 (b0 + 256 * b1 + 65536 * b2) ∧ u = .int .i64 16777216 ∧ i = .int .i64 3) ∨ (s = .int .i64 (b0 + 256 * b1 + 65536 * b2 + 16777216 * b3) ∧ u = .int .i64 4294967296 ∧ i = .int .i64 4))) (fun _ _ i _ => (4 - intOf i).toNat)
  case atStart => exact ⟨rfl, .inl ⟨rfl, rfl, rfl⟩⟩
  case round =>
    obtain ⟨rfl, ⟨rfl, rfl, rfl⟩ | ⟨rfl, rfl, rfl⟩ | ⟨rfl, rfl, rfl⟩ | ⟨rfl, rfl, rfl⟩ | ⟨rfl, rfl, rfl⟩⟩ := hrel
    · go_wp2_with fail
      go_roundw
      case rel => exact ⟨by first | trivial | rfl, .inr (.inl ⟨by first | rfl | simp, rfl, rfl⟩)⟩
      case measure => simp [intOf]
    · go_wp2_with fail
      go_roundw
      case rel => exact ⟨by first | trivial | rfl, .inr (.inr (.inl ⟨rfl, rfl, rfl⟩))⟩
      case measure => simp [intOf]
    · go_wp2_with fail
      go_roundw
      case rel => exact ⟨by first | trivial | rfl, .inr (.inr (.inr (.inl ⟨rfl, rfl, rfl⟩)))⟩
      case measure => simp [intOf]
    · go_wp2_with fail
      go_roundw
      case rel => exact ⟨by first | trivial | rfl, .inr (.inr (.inr (.inr ⟨rfl, rfl, rfl⟩)))⟩
      case measure => simp [intOf]
    · by_cases h : b0 + 256 * b1 + 65536 * b2 + 16777216 * b3 < 2147483648
      · have HE := Lib.hid (HD.out.trans (if_pos h))
        have t : decide (2147483648 ≤ b0 + 256 * b1 + 65536 * b2 + 16777216 * b3) = false := decide_eq_false (by omega)
        clear h
        go_wp2_with fail
        go_ret
        exact ⟨ret_int HE.out.symm, rfl⟩
      · have HE := Lib.hid (HD.out.trans (if_neg h))
        have t : decide (2147483648 ≤ b0 + 256 * b1 + 65536 * b2 + 16777216 * b3) = true := decide_eq_true (by omega)
        clear h
        go_wp2_with fail
        go_ret
        exact ⟨ret_int HE.out.symm, rfl⟩
end Go.Proofs.YtaglclmfjopnlaaDoor
/- read of the document's answer for package code: what a row whose fields fit tells. -/
namespace Go.Proofs.YtaglclmfjopnlaaDoor
open Go.ChangeShapes Go.WideShapes Go.ChangeAt Go.RowKit
open Cod Bits
set_option linter.unusedVariables false
set_option linter.unusedSimpArgs false

theorem cells11m {w : World} {g : Nat} {t : TypeId} {a b c d e f k l m n o : Value} (h : Blk w g t #[a, b, c, d, e, f, k, l, m, n, o]) :
    w.cell? ⟨g, 0, none⟩ = some a ∧ w.cell? ⟨g, 1, none⟩ = some b ∧ w.cell? ⟨g, 2, none⟩ = some c ∧ w.cell? ⟨g, 3, none⟩ = some d ∧ w.cell? ⟨g, 4, none⟩ = some e ∧ w.cell? ⟨g, 5, none⟩ = some f ∧ w.cell? ⟨g, 6, none⟩ = some k ∧ w.cell? ⟨g, 7, none⟩ = some l ∧ w.cell? ⟨g, 8, none⟩ = some m ∧ w.cell? ⟨g, 9, none⟩ = some n ∧ w.cell? ⟨g, 10, none⟩ = some o := by
  refine ⟨?_, ?_, ?_, ?_, ?_, ?_, ?_, ?_, ?_, ?_, ?_⟩ <;> rw [h.cell] <;> rfl
abbrev zero8 : Array Value := ins8 0 false false 0 0 0 0 0
/-- inside read: the row's box, the result's, the instruction's -/
structure ReadIn (w : World) (b y : Array Value) (W : World) : Prop where
  row : Blk W w.heap.size 65 b
  res : Blk W (w.heap.size + 1) 41 zero8
  ins : Blk W (w.heap.size + 1 + 1) 41 y
  below : Below w.heap.size w W
theorem ReadIn.start (w : World) (b y : Array Value) : ReadIn w b y (((w.alloc (.cells b 65)).alloc (.cells zero8 41)).alloc (.cells y 41)) :=
  ⟨((Blk.new w _ _).alloc _).alloc _, (blk_new2 w _ _ _).alloc _, blk_new3 w _ _ _ _, below_box3 w _ _ _⟩
theorem ReadIn.put {w : World} {b y : Array Value} {W : World} (h : ReadIn w b y W) (k : Nat) (u : Value) : ReadIn w b (y.setIfInBounds k u) (W.setCell ⟨w.heap.size + 1 + 1, k, none⟩ u) :=
  ⟨h.row.far (p := ⟨w.heap.size + 1 + 1, k, none⟩) (by show w.heap.size ≠ w.heap.size + 1 + 1; omega) u, h.res.far (p := ⟨w.heap.size + 1 + 1, k, none⟩) (by show w.heap.size + 1 ≠ w.heap.size + 1 + 1; omega) u, h.ins.set_ k u, h.below.setCell (p := ⟨w.heap.size + 1 + 1, k, none⟩) (by show w.heap.size ≤ w.heap.size + 1 + 1; omega) u⟩
theorem ReadIn.up {w : World} {b y : Array Value} {W W' : World} (h : ReadIn w b y W) (hb : Below W.heap.size W W') : ReadIn w b y W' :=
  ⟨h.row.below hb h.row.lt, h.res.below hb h.res.lt, h.ins.below hb h.ins.lt, h.below.trans (hb.mono h.below.size)⟩
theorem ReadIn.drew {w : World} {b y : Array Value} {W : World} (h : ReadIn w b y W) : ReadIn w b y W.drew := ⟨h.row, h.res, h.ins, belowDrewN h.below 1⟩
/-- .. the result's box holding whatever -/
structure ReadQ (w : World) (b y : Array Value) (W : World) : Prop where
  row : Blk W w.heap.size 65 b
  ins : Blk W (w.heap.size + 1 + 1) 41 y
theorem read_q {w : World} {rc ro rz : Int} {rn rr : Bool} {rd rs rf ri r2 : Int} {rw_ : Bool} {pd ps po IMR : Int} {W : World} (h : ReadQ w (row11 rc ro rz rn rr rd rs rf ri r2 rw_) (ins8 ro rn rr rz pd ps po IMR) W) :
    W.cell? ⟨w.heap.size + 1 + 1, 0, none⟩ = some (.int .i64 ro) ∧ W.cell? ⟨w.heap.size + 1 + 1, 1, none⟩ = some (.bool rn) ∧ W.cell? ⟨w.heap.size + 1 + 1, 2, none⟩ = some (.bool rr) ∧ W.cell? ⟨w.heap.size + 1 + 1, 3, none⟩ = some (.int .i64 rz) ∧ W.cell? ⟨w.heap.size + 1 + 1, 4, none⟩ = some (.int .i64 pd) ∧ W.cell? ⟨w.heap.size + 1 + 1, 5, none⟩ = some (.int .i64 ps) ∧ W.cell? ⟨w.heap.size + 1 + 1, 6, none⟩ = some (.int .i64 po) ∧ W.cell? ⟨w.heap.size + 1 + 1, 7, none⟩ = some (.int .i64 IMR) ∧ W.cell? ⟨w.heap.size, 0, none⟩ = some (.int .i64 rc) ∧ W.cell? ⟨w.heap.size, 1, none⟩ = some (.int .i64 ro) ∧ W.cell? ⟨w.heap.size, 2, none⟩ = some (.int .i64 rz) ∧ W.cell? ⟨w.heap.size, 3, none⟩ = some (.bool rn) ∧ W.cell? ⟨w.heap.size, 4, none⟩ = some (.bool rr) ∧ W.cell? ⟨w.heap.size, 5, none⟩ = some (.int .i64 rd) ∧ W.cell? ⟨w.heap.size, 6, none⟩ = some (.int .i64 rs) ∧ W.cell? ⟨w.heap.size, 7, none⟩ = some (.int .i64 rf) ∧ W.cell? ⟨w.heap.size, 8, none⟩ = some (.int .i64 ri) ∧ W.cell? ⟨w.heap.size, 9, none⟩ = some (.int .i64 r2) ∧ W.cell? ⟨w.heap.size, 10, none⟩ = some (.bool rw_) ∧ ReadQ w (row11 rc ro rz rn rr rd rs rf ri r2 rw_) (ins8 ro rn rr rz pd ps po IMR) W := by
  obtain ⟨⟨c0, c1, c2, c3, c4, c5, c6, c7⟩, -⟩ := cells8 h.ins
  obtain ⟨y0, y1, y2, y3, y4, y5, y6, y7, y8, y9, y10⟩ := cells11m h.row
  exact ⟨c0, c1, c2, c3, c4, c5, c6, c7, y0, y1, y2, y3, y4, y5, y6, y7, y8, y9, y10, h⟩
theorem ReadIn.q {w : World} {b y : Array Value} {W : World} (h : ReadIn w b y W) : ReadQ w b y W := ⟨h.row, h.ins⟩
theorem ReadQ.set {w : World} {b y : Array Value} {W : World} (h : ReadQ w b y W) (k : Nat) (u : Value) : ReadQ w b y (W.setCell ⟨w.heap.size + 1, k, none⟩ u) :=
  ⟨h.row.far (p := ⟨w.heap.size + 1, k, none⟩) (by show w.heap.size ≠ w.heap.size + 1; omega) u, h.ins.far (p := ⟨w.heap.size + 1, k, none⟩) (by show w.heap.size + 1 + 1 ≠ w.heap.size + 1; omega) u⟩
theorem ReadQ.set8 {w : World} {b y : Array Value} {W : World} (h : ReadQ w b y W) (x0 x1 x2 x3 x4 x5 x6 x7 : Value) : ReadQ w b y ((((((((W.setCell ⟨w.heap.size + 1, 0, none⟩ x0).setCell ⟨w.heap.size + 1, 1, none⟩ x1).setCell ⟨w.heap.size + 1, 2, none⟩ x2).setCell ⟨w.heap.size + 1, 3, none⟩ x3).setCell ⟨w.heap.size + 1, 4, none⟩ x4).setCell ⟨w.heap.size + 1, 5, none⟩ x5).setCell ⟨w.heap.size + 1, 6, none⟩ x6).setCell ⟨w.heap.size + 1, 7, none⟩ x7) :=
  (((((((h.set 0 x0).set 1 x1).set 2 x2).set 3 x3).set 4 x4).set 5 x5).set 6 x6).set 7 x7
/-- what read answers -/
def readRes (r : RRow) (dst src off imm sec : Int) : Ins × Bool := if r.imm ≠ -1 ∧ r.imm ≠ imm then (zeroI, false) else (insR r dst src off imm sec, readR r imm sec)
/-- the bytes that hold the second number -/
def SecAt (w : World) (v : Value) (sec : Int) : Prop := ∃ b o n c b0 b1 b2 b3, v = .slice (some ⟨b, o, none⟩) n c ∧ 16 ≤ n ∧ n ≤ c ∧ b < w.heap.size ∧ (IsB b0 ∧ IsB b1 ∧ IsB b2 ∧ IsB b3) ∧
  (w.cell? ⟨b, o + 12, none⟩ = some (.int .u8 b0) ∧ w.cell? ⟨b, o + 12 + 1, none⟩ = some (.int .u8 b1) ∧ w.cell? ⟨b, o + 12 + 2, none⟩ = some (.int .u8 b2) ∧ w.cell? ⟨b, o + 12 + 3, none⟩ = some (.int .u8 b3)) ∧ sec = imm32 b0 b1 b2 b3
theorem SecAt.signed {w W : World} {v : Value} {sec : Int} (h : SecAt w v sec) (hb : Below w.heap.size w W) : ∃ b o n c, v = .slice (some ⟨b, o, none⟩) n c ∧ 16 ≤ n ∧ n ≤ c ∧ ∀ k, Calls Tryd.prog 53 #[.slice (some ⟨b, o + 12, none⟩) 4 k] W fun e w' => e = .returned (.int .i64 sec) ∧ W = w' := by
  obtain ⟨b, o, n, c, b0, b1, b2, b3, rfl, hn, hc, hlt, ⟨r0, r1, r2, r3⟩, ⟨c0, c1, c2, c3⟩, rfl⟩ := h
  exact ⟨b, o, n, c, rfl, hn, hc, fun k => signed_4 W b (o + 12) k b0 b1 b2 b3 r0 r1 r2 r3 ((hb.cell (p := ⟨b, o + 12, none⟩) hlt).trans c0) ((hb.cell (p := ⟨b, o + 12 + 1, none⟩) hlt).trans c1) ((hb.cell (p := ⟨b, o + 12 + 2, none⟩) hlt).trans c2) ((hb.cell (p := ⟨b, o + 12 + 3, none⟩) hlt).trans c3)⟩
set_option maxRecDepth 100000 in
set_option maxHeartbeats 8000000 in
theorem rread_any (rc ro rz : Int) (rn rr : Bool) (rd rs rf ri r2 : Int) (rw_ : Bool) (v : Value) (dst src off imm sec : Int) (him : -2147483648 ≤ imm ∧ imm ≤ 2147483647) (hsc : -2147483648 ≤ sec ∧ sec ≤ 2147483647) (w : World)
    (hs : ro = 20 ∨ ro = 21 → SecAt w v sec) :
    Calls Tryd.prog 54 #[.agg (row11 rc ro rz rn rr rd rs rf ri r2 rw_), v, .int .i64 dst, .int .i64 src, .int .i64 off, .int .i64 imm] w fun e w' =>
      e = .returned (.tuple #[.agg (readRes ⟨rc, ro, rz, rn, rr, rd, rs, rf, ri, r2, rw_⟩ dst src off imm sec).1.arr, .bool (readRes ⟨rc, ro, rz, rn, rr, rd, rs, rf, ri, r2, rw_⟩ dst src off imm sec).2]) ∧ Below w.heap.size w w' := by
  have HI := Lib.hid (ReadIn.start w (row11 rc ro rz rn rr rd rs rf ri r2 rw_) (ins8 ro rn rr rz 0 0 0 0))
  have HQ := Lib.hid (show readRes ⟨rc, ro, rz, rn, rr, rd, rs, rf, ri, r2, rw_⟩ dst src off imm sec = if ri ≠ -1 ∧ ri ≠ imm then (zeroI, false) else
    (⟨ro, rn, rr, rz, if rd = -1 then dst else 0, if rs = -1 then src else 0, if rf = -1 then off else 0, immR ⟨rc, ro, rz, rn, rr, rd, rs, rf, ri, r2, rw_⟩ imm sec⟩, if ri ≠ -1 ∧ ri ≠ imm then false else if ri = -1 ∨ r2 = -1 then goodR ⟨rc, ro, rz, rn, rr, rd, rs, rf, ri, r2, rw_⟩ (immR ⟨rc, ro, rz, rn, rr, rd, rs, rf, ri, r2, rw_⟩ imm sec) else true) from rfl)
  have HM := Lib.hid (show immR ⟨rc, ro, rz, rn, rr, rd, rs, rf, ri, r2, rw_⟩ imm sec = if ro = 20 then sec * 4294967296 + (if imm < 0 then imm + 4294967296 else imm) else if ro = 21 then sec else if ri = -1 then imm else 0 from rfl)
  have HG := Lib.hid (fun w => rgood_any rc ro rz rn rr rd rs rf ri r2 rw_ (immR ⟨rc, ro, rz, rn, rr, rd, rs, rf, ri, r2, rw_⟩ imm sec) w)
  have HSE := Lib.hid hs
  generalize readRes ⟨rc, ro, rz, rn, rr, rd, rs, rf, ri, r2, rw_⟩ dst src off imm sec = RES at *
  generalize immR ⟨rc, ro, rz, rn, rr, rd, rs, rf, ri, r2, rw_⟩ imm sec = IMR at *
  generalize goodR ⟨rc, ro, rz, rn, rr, rd, rs, rf, ri, r2, rw_⟩ IMR = GD at *
  clear hs
  go_enter Tryd.func54, Tryd.ntmps54
  go_upto_if 27 with (fail)
  generalize ((w.alloc (.cells (row11 rc ro rz rn rr rd rs rf ri r2 rw_) 65)).alloc (.cells zero8 41)).alloc (.cells (ins8 ro rn rr rz 0 0 0 0) 41) = W0 at *
  obtain ⟨y0, y1, y2, y3, y4, y5, y6, y7, y8, y9, y10⟩ := cells11m HI.out.row
  go_cut [] (fun wx => ReadIn w (row11 rc ro rz rn rr rd rs rf ri r2 rw_) (ins8 ro rn rr rz (if rd = -1 then dst else 0) 0 0 0) wx)
  case first =>
    obtain ⟨⟨c0, c1, c2, c3, c4, c5, c6, c7⟩, f0, f1, f2, f3, f4, f5, f6, f7⟩ := cells8 HI.out.ins
    by_cases e : rd = -1
    · have HP := Lib.hid (show (if rd = -1 then dst else 0) = dst from if_pos e)
      have t : (rd == -1) = true := by rw [e]; rfl
      have HI2 := Lib.hid (HI.out.put 4 (.int .i64 dst))
      clear e
      go_wp2_with fail
      go_meet
      case rel => rw [HP.out]; exact HI2.out
    · have HP := Lib.hid (show (if rd = -1 then dst else 0) = 0 from if_neg e)
      have t : (rd == -1) = false := by rw [beq_eq_false_iff_ne]; exact e
      clear e
      go_wp2_with fail
      go_meet
      case rel => rw [HP.out]; exact HI.out
  case rest =>
    clear HI y0 y1 y2 y3 y4 y5 y6 y7 y8 y9 y10
    have HI := Lib.hid hcut
    clear hcut
    generalize (if rd = -1 then dst else 0) = pd at *
    obtain ⟨y0, y1, y2, y3, y4, y5, y6, y7, y8, y9, y10⟩ := cells11m HI.out.row
    go_upto_if 32 with (fail)
    go_cut [] (fun wx => ReadIn w (row11 rc ro rz rn rr rd rs rf ri r2 rw_) (ins8 ro rn rr rz pd (if rs = -1 then src else 0) 0 0) wx)
    case first =>
      obtain ⟨⟨c0, c1, c2, c3, c4, c5, c6, c7⟩, f0, f1, f2, f3, f4, f5, f6, f7⟩ := cells8 HI.out.ins
      by_cases e : rs = -1
      · have HP := Lib.hid (show (if rs = -1 then src else 0) = src from if_pos e)
        have t : (rs == -1) = true := by rw [e]; rfl
        have HI2 := Lib.hid (HI.out.put 5 (.int .i64 src))
        clear e
        go_wp2_with fail
        go_meet
        case rel => rw [HP.out]; exact HI2.out
      · have HP := Lib.hid (show (if rs = -1 then src else 0) = 0 from if_neg e)
        have t : (rs == -1) = false := by rw [beq_eq_false_iff_ne]; exact e
        clear e
        go_wp2_with fail
        go_meet
        case rel => rw [HP.out]; exact HI.out
    case rest =>
      clear HI y0 y1 y2 y3 y4 y5 y6 y7 y8 y9 y10
      have HI := Lib.hid hcut
      clear hcut
      generalize (if rs = -1 then src else 0) = ps at *
      obtain ⟨y0, y1, y2, y3, y4, y5, y6, y7, y8, y9, y10⟩ := cells11m HI.out.row
      go_upto_if 37 with (fail)
      go_cut [] (fun wx => ReadIn w (row11 rc ro rz rn rr rd rs rf ri r2 rw_) (ins8 ro rn rr rz pd ps (if rf = -1 then off else 0) 0) wx)
      case first =>
        obtain ⟨⟨c0, c1, c2, c3, c4, c5, c6, c7⟩, f0, f1, f2, f3, f4, f5, f6, f7⟩ := cells8 HI.out.ins
        by_cases e : rf = -1
        · have HP := Lib.hid (show (if rf = -1 then off else 0) = off from if_pos e)
          have t : (rf == -1) = true := by rw [e]; rfl
          have HI2 := Lib.hid (HI.out.put 6 (.int .i64 off))
          clear e
          go_wp2_with fail
          go_meet
          case rel => rw [HP.out]; exact HI2.out
        · have HP := Lib.hid (show (if rf = -1 then off else 0) = 0 from if_neg e)
          have t : (rf == -1) = false := by rw [beq_eq_false_iff_ne]; exact e
          clear e
          go_wp2_with fail
          go_meet
          case rel => rw [HP.out]; exact HI.out
      case rest =>
        clear HI y0 y1 y2 y3 y4 y5 y6 y7 y8 y9 y10
        have HI := Lib.hid hcut
        clear hcut
        generalize (if rf = -1 then off else 0) = po at *
        obtain ⟨y0, y1, y2, y3, y4, y5, y6, y7, y8, y9, y10⟩ := cells11m HI.out.row
        go_upto_region 8 with (fail)
        obtain ⟨hri, hrn⟩ | hri : (ri ≠ -1 ∧ ri ≠ imm) ∨ ¬ (ri ≠ -1 ∧ ri ≠ imm) := Classical.em _
        · have HQ2 := Lib.hid (HQ.out.trans (if_pos ⟨hri, hrn⟩))
          obtain ⟨⟨q0, q1, q2, q3, q4, q5, q6, q7⟩, g0, g1, g2, g3, g4, g5, g6, g7⟩ := cells8 HI.out.res
          have HS8 := Lib.hid (fun a b c d e f k l => set8 HI.out.res a b c d e f k l)
          have HW8 := Lib.hid (below8 (g := w.heap.size + 1) HI.out.below (by omega))
          have t1 : (ri != -1) = true := by rw [bne_iff_ne]; exact hri
          have t2 : (ri != imm) = true := by rw [bne_iff_ne]; exact hrn
          clear hri hrn HQ HM HG HSE
          go_wp2_with fail
          exact bodyPost_ret (v := .tuple #[.agg zero8, .bool false]) (results_cell_tmp Tryd.results54 _ _ (w.heap.size + 1) 41 zero8 (0, 0) _ _ rfl rfl (HS8.out _ _ _ _ _ _ _ _) Tryd.underlying41 rfl (by kernel_rfl)) rfl ⟨by rw [HQ2.out]; rfl, HW8.out _ _ _ _ _ _ _ _⟩
        have HQ2 := Lib.hid (HQ.out.trans (if_neg hri))
        rw [if_neg hri] at HQ2
        have HHR := Lib.hid hri
        clear HQ hri
        go_cut [48] (fun s48 wx => s48 = .bool false ∧ ReadIn w (row11 rc ro rz rn rr rd rs rf ri r2 rw_) (ins8 ro rn rr rz pd ps po 0) wx)
        case first =>
          by_cases e : ri = -1
          · have t1 : (ri != -1) = false := by rw [e]; rfl
            clear e
            go_wp2_with fail
            go_meet
            case rel => exact ⟨rfl, HI.out⟩
          · have e2 : ri = imm := Classical.byContradiction fun h => HHR.out ⟨e, h⟩
            have t1 : (ri != -1) = true := by rw [bne_iff_ne]; exact e
            have t2 : (ri != imm) = false := by rw [e2]; simp
            clear e e2
            go_wp2_with fail
            go_meet
            case rel => exact ⟨rfl, HI.out⟩
        case rest =>
          clear HI y0 y1 y2 y3 y4 y5 y6 y7 y8 y9 y10
          obtain ⟨rfl, hI⟩ := hcut
          have HI := Lib.hid hI
          clear hI
          obtain ⟨y0, y1, y2, y3, y4, y5, y6, y7, y8, y9, y10⟩ := cells11m HI.out.row
          go_upto_if 52 with (fail)
          go_cut [] (fun wx => ReadIn w (row11 rc ro rz rn rr rd rs rf ri r2 rw_) (ins8 ro rn rr rz pd ps po (if ri = -1 then imm else 0)) wx)
          case first =>
            obtain ⟨⟨c0, c1, c2, c3, c4, c5, c6, c7⟩, f0, f1, f2, f3, f4, f5, f6, f7⟩ := cells8 HI.out.ins
            by_cases e : ri = -1
            · have HP := Lib.hid (show (if ri = -1 then imm else 0) = imm from if_pos e)
              have t : (ri == -1) = true := by rw [e]; rfl
              have HI2 := Lib.hid (HI.out.put 7 (.int .i64 imm))
              clear e
              go_wp2_with fail
              go_meet
              case rel => rw [HP.out]; exact HI2.out
            · have HP := Lib.hid (show (if ri = -1 then imm else 0) = 0 from if_neg e)
              have t : (ri == -1) = false := by rw [beq_eq_false_iff_ne]; exact e
              clear e
              go_wp2_with fail
              go_meet
              case rel => rw [HP.out]; exact HI.out
          case rest =>
            clear HI y0 y1 y2 y3 y4 y5 y6 y7 y8 y9 y10
            have HI := Lib.hid hcut
            clear hcut
            obtain ⟨y0, y1, y2, y3, y4, y5, y6, y7, y8, y9, y10⟩ := cells11m HI.out.row
            go_upto_block 0 with (fail)
            go_cut [] (fun wx => ReadIn w (row11 rc ro rz rn rr rd rs rf ri r2 rw_) (ins8 ro rn rr rz pd ps po IMR) wx)
            case first =>
              obtain ⟨⟨c0, c1, c2, c3, c4, c5, c6, c7⟩, f0, f1, f2, f3, f4, f5, f6, f7⟩ := cells8 HI.out.ins
              clear y0 y1 y2 y3 y4 y5 y6 y7 y8 y9 y10
              by_cases e20 : ro = 20
              · have hm := HM.out
                rw [if_pos e20] at hm
                have t20 : (ro == 20) = true := by rw [e20]; rfl
                obtain ⟨sb, so, sn, sc, rfl, hn16, hnc, hcall⟩ := (HSE.out (.inl e20)).signed HI.out.below
                have HCL := Lib.hid hcall
                have hb12 : 12 ≤ sc := by omega
                have hb16 : 16 ≤ sc := by omega
                have hi16 : (16 : Int) ≤ (sc : Int) := by omega
                clear e20 hcall
                by_cases hneg : imm < 0
                · rw [if_pos hneg] at hm
                  have HM2 := Lib.hid hm
                  have t0 : decide (imm < 0) = true := decide_eq_true hneg
                  clear hm HSE HM
                  go_wp2_with fail
                  go_at_call 53
                  refine (HCL.out _).mono ?_
                  rintro e w' ⟨rfl, rfl⟩
                  have HI2 := Lib.hid (HI.out.put 7 (.int .i64 (sec * 4294967296 + (imm + 4294967296))))
                  go_wp2_with fail
                  go_meet
                  case rel => rw [HM2.out]; exact HI2.out
                · rw [if_neg hneg] at hm
                  have HM2 := Lib.hid hm
                  have t0 : decide (imm < 0) = false := decide_eq_false hneg
                  clear hm HSE HM
                  go_wp2_with fail
                  go_at_call 53
                  refine (HCL.out _).mono ?_
                  rintro e w' ⟨rfl, rfl⟩
                  have HI2 := Lib.hid (HI.out.put 7 (.int .i64 (sec * 4294967296 + imm)))
                  go_wp2_with fail
                  go_meet
                  case rel => rw [HM2.out]; exact HI2.out
              · by_cases e21 : ro = 21
                · have HM2 := Lib.hid (show IMR = sec by rw [HM.out, if_neg e20, if_pos e21])
                  have t20 : (ro == 20) = false := by rw [beq_eq_false_iff_ne]; exact e20
                  have t21 : (ro == 21) = true := by rw [e21]; rfl
                  obtain ⟨sb, so, sn, sc, rfl, hn16, hnc, hcall⟩ := (HSE.out (.inr e21)).signed HI.out.below
                  have HCL := Lib.hid hcall
                  have hb12 : 12 ≤ sc := by omega
                  have hb16 : 16 ≤ sc := by omega
                  have hi16 : (16 : Int) ≤ (sc : Int) := by omega
                  clear e20 e21 hcall HSE HM
                  go_wp2_with fail
                  go_at_call 53
                  refine (HCL.out _).mono ?_
                  rintro e w' ⟨rfl, rfl⟩
                  have HI2 := Lib.hid (HI.out.put 7 (.int .i64 (sec)))
                  go_wp2_with fail
                  go_meet
                  case rel => rw [HM2.out]; exact HI2.out
                · have HM2 := Lib.hid (show IMR = (if ri = -1 then imm else 0) by rw [HM.out, if_neg e20, if_neg e21])
                  have t20 : (ro == 20) = false := by rw [beq_eq_false_iff_ne]; exact e20
                  have t21 : (ro == 21) = false := by rw [beq_eq_false_iff_ne]; exact e21
                  clear e20 e21 HSE HM
                  go_wp2_with fail
                  go_meet
                  case rel => rw [HM2.out]; exact HI.out
            case rest =>
              clear HI HSE HM HHR y0 y1 y2 y3 y4 y5 y6 y7 y8 y9 y10
              have HI := Lib.hid hcut
              clear hcut
              obtain ⟨y0, y1, y2, y3, y4, y5, y6, y7, y8, y9, y10⟩ := cells11m HI.out.row
              go_upto_region 20 with (fail)
              go_cut [84] (fun s84 wx => s84 = .bool (ri == -1 || r2 == -1) ∧ ReadIn w (row11 rc ro rz rn rr rd rs rf ri r2 rw_) (ins8 ro rn rr rz pd ps po IMR) wx)
              case first =>
                cases h1 : (ri == -1)
                · cases h2 : (r2 == -1)
                  · go_wp2_with fail
                    go_meet
                    case rel => exact ⟨by rw [h1, h2]; rfl, HI.out⟩
                  · go_wp2_with fail
                    go_meet
                    case rel => exact ⟨by rw [h1, h2]; rfl, HI.out⟩
                · go_wp2_with fail
                  go_meet
                  case rel => exact ⟨by rw [h1]; rfl, HI.out⟩
              case rest =>
                clear HI y0 y1 y2 y3 y4 y5 y6 y7 y8 y9 y10
                obtain ⟨rfl, hI⟩ := hcut
                have HI := Lib.hid hI
                clear hI
                have HB := Lib.hid (show (ri = -1 ∨ r2 = -1) ↔ (ri == -1 || r2 == -1) = true by simp)
                generalize (ri == -1 || r2 == -1) = bb at *
                cases bb
                · have HQ3 := Lib.hid (HQ2.out.trans (by rw [if_neg (fun h => absurd (HB.out.1 h) (by decide))]))
                  obtain ⟨⟨c0, c1, c2, c3, c4, c5, c6, c7⟩, f0, f1, f2, f3, f4, f5, f6, f7⟩ := cells8 HI.out.ins
                  obtain ⟨⟨q0, q1, q2, q3, q4, q5, q6, q7⟩, g0, g1, g2, g3, g4, g5, g6, g7⟩ := cells8 HI.out.res
                  have HS8 := Lib.hid (fun a b c d e f k l => set8 HI.out.res a b c d e f k l)
                  have HW8 := Lib.hid (below8 (g := w.heap.size + 1) HI.out.below (by omega))
                  clear HQ2 HB HG HI
                  go_wp2_with fail
                  exact bodyPost_ret (v := .tuple #[.agg (ins8 ro rn rr rz pd ps po IMR), .bool true]) (results_cell_tmp Tryd.results54 _ _ (w.heap.size + 1) 41 (ins8 ro rn rr rz pd ps po IMR) (0, 0) _ _ rfl rfl (HS8.out _ _ _ _ _ _ _ _) Tryd.underlying41 rfl (by kernel_rfl)) rfl ⟨by rw [HQ3.out]; rfl, HW8.out _ _ _ _ _ _ _ _⟩
                · have HQ3 := Lib.hid (HQ2.out.trans (by rw [if_pos (HB.out.2 rfl)]))
                  clear HQ2 HB
                  go_upto_region 21 with (fail)
                  go_region_held3 (fun w' => w'.cell? ⟨w.heap.size + 1 + 1, 0, none⟩ = some (.int .i64 ro) ∧ w'.cell? ⟨w.heap.size + 1 + 1, 1, none⟩ = some (.bool rn) ∧ w'.cell? ⟨w.heap.size + 1 + 1, 2, none⟩ = some (.bool rr) ∧ w'.cell? ⟨w.heap.size + 1 + 1, 3, none⟩ = some (.int .i64 rz) ∧ w'.cell? ⟨w.heap.size + 1 + 1, 4, none⟩ = some (.int .i64 pd) ∧ w'.cell? ⟨w.heap.size + 1 + 1, 5, none⟩ = some (.int .i64 ps) ∧ w'.cell? ⟨w.heap.size + 1 + 1, 6, none⟩ = some (.int .i64 po) ∧ w'.cell? ⟨w.heap.size + 1 + 1, 7, none⟩ = some (.int .i64 IMR) ∧ w'.cell? ⟨w.heap.size, 0, none⟩ = some (.int .i64 rc) ∧ w'.cell? ⟨w.heap.size, 1, none⟩ = some (.int .i64 ro) ∧ w'.cell? ⟨w.heap.size, 2, none⟩ = some (.int .i64 rz) ∧ w'.cell? ⟨w.heap.size, 3, none⟩ = some (.bool rn) ∧ w'.cell? ⟨w.heap.size, 4, none⟩ = some (.bool rr) ∧ w'.cell? ⟨w.heap.size, 5, none⟩ = some (.int .i64 rd) ∧ w'.cell? ⟨w.heap.size, 6, none⟩ = some (.int .i64 rs) ∧ w'.cell? ⟨w.heap.size, 7, none⟩ = some (.int .i64 rf) ∧ w'.cell? ⟨w.heap.size, 8, none⟩ = some (.int .i64 ri) ∧ w'.cell? ⟨w.heap.size, 9, none⟩ = some (.int .i64 r2) ∧ w'.cell? ⟨w.heap.size, 10, none⟩ = some (.bool rw_) ∧ ReadQ w (row11 rc ro rz rn rr rd rs rf ri r2 rw_) (ins8 ro rn rr rz pd ps po IMR) w')
                    (first | with_reducible exact read_q HI.out.drew.q | with_reducible exact read_q hR5.q | with_reducible exact read_q (hR5.q.set8 _ _ _ _ _ _ _ _) | fail)
                    (first | (go_at_call 42; (with_reducible refine (HG.out _).mono ?_); rintro e w5 ⟨rfl, hB5⟩; have hR5 := HI.out.drew.up hB5; obtain ⟨⟨q0, q1, q2, q3, q4, q5, q6, q7⟩, g0, g1, g2, g3, g4, g5, g6, g7⟩ := cells8 hR5.res; clear hB5))
                  have HS8 := Lib.hid (fun a b c d e f k l => set8 hR5.res a b c d e f k l)
                  have HW8 := Lib.hid (below8 (g := w.heap.size + 1) hR5.below (by omega))
                  clear hR5 HI HG q0 q1 q2 q3 q4 q5 q6 q7 g0 g1 g2 g3 g4 g5 g6 g7
                  go_wp2_with fail
                  exact bodyPost_ret (v := .tuple #[.agg (ins8 ro rn rr rz pd ps po IMR), .bool GD]) (results_cell_tmp Tryd.results54 _ _ (w.heap.size + 1) 41 (ins8 ro rn rr rz pd ps po IMR) (0, 0) _ _ rfl rfl (HS8.out _ _ _ _ _ _ _ _) Tryd.underlying41 rfl (by kernel_rfl)) rfl ⟨by rw [HQ3.out]; rfl, HW8.out _ _ _ _ _ _ _ _⟩
end Go.Proofs.YtaglclmfjopnlaaDoor
/- one of the document's answer for package code: what stands at the beginning of bytes. -/
namespace Go.Proofs.YtaglclmfjopnlaaDoor
open Go.ChangeShapes Go.WideShapes Go.ChangeAt Go.RowKit
open Cod Bits
set_option linter.unusedVariables false
set_option linter.unusedSimpArgs false

theorem results_cell_tmp2 {P : Program} {fn : Func} {p q s : Tmp} {ty : TypeId} (h : fn.results = #[.cell p ty, .tmp q, .tmp s]) (tmps : Array Value) (w : World) (g : Nat) (t : TypeId) (cs : Array Value) (fr : Nat × Nat) (d : TypeDesc) (v v2 : Value)
    (hp : tmps.getD p undef = .pointer (some ⟨g, 0, none⟩)) (hq : tmps.getD q undef = v) (hs : tmps.getD s undef = v2) (hg : w.heap[g]? = some (.cells cs t fr))
    (hu : P.underlying ty = some d) (hd : (match d with | .struct _ | .array _ _ => true | _ => false) = true) (hi : (P.info? ty).map (·.size) = some cs.size) :
    (results fn tmps).run P w = .ok (.tuple #[.agg cs, v, v2]) w := by
  have hp' : tmps[p]?.getD undef = .pointer (some ⟨g, 0, none⟩) := by simpa using hp
  have hq' : tmps[q]?.getD undef = v := by simpa using hq
  have hs' : tmps[s]?.getD undef = v2 := by simpa using hs
  simp [results, h, hp', hq', hs', asAddr, run_loadVar_row w g t ty cs fr d hg hu hd hi]
theorem sec_code : (rowsL.all fun r => ((r.op == 20 || r.op == 21) == (r.code == 24))) = true := by kernel_rfl
theorem sec_24 {c : Int} {r : RRow} (h : r ∈ rowsC c) (ho : r.op = 20 ∨ r.op = 21) : c = 24 := by
  have h1 := List.all_eq_true.1 sec_code r (rowsC_sub h)
  have h2 : (r.code == c) = true := (List.mem_filter.1 h).2
  have h3 : (r.op == 20 || r.op == 21) = true := by rcases ho with e | e <;> rw [e] <;> rfl
  rw [h3] at h1
  have h4 : r.code = 24 := by simpa using h1
  rw [← (by simpa using h2 : r.code = c)]; exact h4
theorem filter_next {T : List RRow} {j : Nat} {r : RRow} (hr : T[j]? = some r) (p : RRow → Bool) : (T.take (j + 1)).filter p = (T.take j).filter p ++ (if p r = true then [r] else []) := by
  rw [List.take_add_one, hr, List.filter_append]
  cases h : p r <;> simp [h]
theorem filter_len {T : List RRow} (j : Nat) (p : RRow → Bool) (h : T.length ≤ 139) : ((T.take j).filter p).length ≤ 139 := by
  have h1 := List.length_filter_le p (T.take j)
  have h2 := List.length_take_le j T
  have h3 : (T.take j).length ≤ T.length := by rw [List.length_take]; omega
  omega
/-- the bytes, in every later world -/
structure BytesIn (w : World) (b off n c : Nat) (L : List Int) : Prop where
  len : L.length = n
  le : n ≤ c
  lt : b < w.heap.size
  cell : ∀ k, k < n → w.cell? ⟨b, off + k, none⟩ = some (.int .u8 (gB L k))
  byte : ∀ k, IsB (gB L k)
theorem BytesIn.at_ {w W : World} {b off n c : Nat} {L : List Int} (h : BytesIn w b off n c L) (hb : Below w.heap.size w W) (k : Nat) (hk : k < n) : W.cell? ⟨b, off + k, none⟩ = some (.int .u8 (gB L k)) := (hb.cell (p := ⟨b, off + k, none⟩) h.lt).trans (h.cell k hk)
/-- inside one: the result's box -/
def OneAt (w W : World) : Prop := Blk W w.heap.size 41 zero8 ∧ Below w.heap.size w W
theorem OneAt.up {w W W' : World} (h : OneAt w W) (hb : Below W.heap.size W W') : OneAt w W' := ⟨h.1.below hb h.1.lt, h.2.trans (hb.mono h.2.size)⟩
/-- what the fields of the first unit are -/
theorem oneR_says (L : List Int) (hn : 8 ≤ L.length) : oneR L = if rowsC (gB L 0) = [] then (21, zeroI, 0) else if (L.length : Int) < 8 * (if gB L 0 = 24 then 2 else 1) then (20, zeroI, 0) else
    ((pickR (rowsC (gB L 0)) (unitA L) (if gB L 0 = 24 then (unitA (L.drop 8)).imm else 0) (decide (gB L 0 = 24) && badU (unitA (L.drop 8)))).1, (pickR (rowsC (gB L 0)) (unitA L) (if gB L 0 = 24 then (unitA (L.drop 8)).imm else 0) (decide (gB L 0 = 24) && badU (unitA (L.drop 8)))).2, if gB L 0 = 24 then 2 else 1) := by
  unfold oneR
  rw [if_neg (by omega)]
  by_cases h1 : rowsC (gB L 0) = []
  · rw [if_pos h1, if_pos h1]
  rw [if_neg h1, if_neg h1]
  by_cases h2 : gB L 0 = 24
  · have e1 : (if gB L 0 = 24 then (2 : Int) else 1) = 2 := if_pos h2
    have e2 : (if gB L 0 = 24 then (unitA (L.drop 8)).imm else 0) = (unitA (L.drop 8)).imm := if_pos h2
    have e3 : decide (gB L 0 = 24) = true := decide_eq_true h2
    have e4 : (if gB L 0 = 24 then (2 : Nat) else 1) = 2 := if_pos h2
    rw [e1, e2, e3, e4, if_pos h2, Bool.true_and]
    by_cases h3 : L.length < 16
    · rw [if_pos h3, if_pos (by omega)]
    · rw [if_neg h3, if_neg (by omega)]
  · have e1 : (if gB L 0 = 24 then (2 : Int) else 1) = 1 := if_neg h2
    have e2 : (if gB L 0 = 24 then (unitA (L.drop 8)).imm else 0) = 0 := if_neg h2
    have e3 : decide (gB L 0 = 24) = false := decide_eq_false h2
    have e4 : (if gB L 0 = 24 then (2 : Nat) else 1) = 1 := if_neg h2
    rw [e1, e2, e3, e4, if_neg h2, Bool.false_and, if_neg (by omega)]
theorem pickR_cons (a : RRow) (t : List RRow) (u : U) (sec : Int) (bad : Bool) : pickR (a :: t) u sec bad = if regsR a u.dst u.src u.imm = false then ((22, zeroI) : Int × Ins) else
    if ((a :: t).filter fun r => fitR r u.dst u.src u.off) = [] ∨ bad = true then (23, zeroI) else
    match ((a :: t).filter fun r => fitR r u.dst u.src u.off).find? (fun r => readR r u.imm sec) with
    | none => (24, zeroI)
    | some r => (0, insR r u.dst u.src u.off u.imm sec) := rfl
theorem badU_bytes {L : List Int} (h : ∀ k, IsB (gB L k)) : badU (unitA (L.drop 8)) = (gB L 8 != 0 || gB L 9 != 0 || gB L 10 != 0 || gB L 11 != 0) := by
  have e : ∀ k, gB (L.drop 8) k = gB L (8 + k) := fun k => by unfold gB; simp [List.getD_eq_getElem?_getD, List.getElem?_drop]
  unfold badU unitA
  simp only [e]
  obtain ⟨a1, a2⟩ := h 8
  obtain ⟨b1, b2⟩ := h 9
  obtain ⟨c1, c2⟩ := h 10
  obtain ⟨d1, d2⟩ := h 11
  show (!decide (gB L 8 = 0 ∧ gB L 9 % 16 = 0 ∧ gB L 9 / 16 = 0 ∧ off16 (gB L 10) (gB L 11) = 0)) = _
  have ho : off16 (gB L 10) (gB L 11) = 0 ↔ gB L 10 = 0 ∧ gB L 11 = 0 := by
    unfold off16; split <;> omega
  rw [Bool.eq_iff_iff]
  simp only [ho, Bool.not_eq_true', decide_eq_false_iff_not, Bool.or_eq_true, bne_iff_ne, ne_eq]
  omega
theorem off16_in {a b : Int} (ha : IsB a) (hb : IsB b) : -32768 ≤ off16 a b ∧ off16 a b ≤ 32767 := by
  obtain ⟨h1, h2⟩ := ha; obtain ⟨h3, h4⟩ := hb
  unfold off16; split <;> omega
theorem imm32_in {a b c d : Int} (ha : IsB a) (hb : IsB b) (hc : IsB c) (hd : IsB d) : -2147483648 ≤ imm32 a b c d ∧ imm32 a b c d ≤ 2147483647 := by
  obtain ⟨h1, h2⟩ := ha; obtain ⟨h3, h4⟩ := hb; obtain ⟨h5, h6⟩ := hc; obtain ⟨h7, h8⟩ := hd
  unfold imm32; split <;> omega
/-- what one answers -/
def oneRes (L : List Int) : Value := .tuple #[.agg (oneR L).2.1.arr, .int .i64 (if (oneR L).1 = 0 then ((oneR L).2.2 : Nat) else (0 : Nat)), .int .i64 (oneR L).1]
set_option maxRecDepth 100000 in
set_option maxHeartbeats 4000000 in
theorem rone_short (w : World) (Ar : Option Addr) (cr : Nat) (A : Option Addr) (n c : Nat) (L : List Int) (hL : L.length = n) (hn : n < 8) :
    Calls Tryd.prog 31 #[.slice Ar 139 cr, .slice A n c] w fun e w' => e = .returned (oneRes L) ∧ Below w.heap.size w w' := by
  have HQ := Lib.hid (show oneRes L = .tuple #[.agg zero8, .int .i64 0, .int .i64 20] by unfold oneRes oneR; rw [if_pos (by omega)]; rfl)
  have t8 : decide ((n : Int) < 8) = true := decide_eq_true (by omega)
  clear hL
  go_enter Tryd.func31, Tryd.ntmps31
  go_wp2_with fail
  exact bodyPost_ret (v := .tuple #[.agg zero8, .int .i64 0, .int .i64 20]) (results_cell_tmp2 Tryd.results31 _ _ w.heap.size 41 zero8 (0, 0) _ _ _ rfl rfl rfl (Blk.new w _ _) Tryd.underlying41 rfl (by kernel_rfl)) rfl ⟨by rw [HQ.out], below_box w _⟩
set_option maxRecDepth 100000 in
set_option maxHeartbeats 16000000 in
theorem rone_long (w : World) (Ar : Option Addr) (cr : Nat) (hR : RowsAt w Ar rowsL) (b off n c : Nat) (L : List Int) (hY : BytesIn w b off n c L) (hn : 8 ≤ n) (hn2 : n ≤ 281474976710656) :
    Calls Tryd.prog 31 #[.slice Ar 139 cr, .slice (some ⟨b, off, none⟩) n c] w fun e w' => e = .returned (oneRes L) ∧ Below w.heap.size w w' := by
  obtain ⟨rb, ro, rfl, hrb, hrc⟩ := hR (by rw [rowsL_len]; decide)
  have HC := Lib.hid hrc
  have HY := Lib.hid hY
  have t8 : decide ((n : Int) < 8) = false := decide_eq_false (by omega)
  have hn0 : (0 : Int) < (n : Int) := by omega
  obtain ⟨cc, hcc⟩ : ∃ cc, gB L 0 = cc := ⟨_, rfl⟩
  have HCC := Lib.hid hcc
  obtain ⟨hc0, hc1⟩ : 0 ≤ cc ∧ cc < 256 := by rw [← hcc]; exact hY.byte 0
  clear hR hrc hY hcc
  go_enter Tryd.func31, Tryd.ntmps31
  go_upto_block 0 with (fail)
  have HW0 := Lib.hid (show OneAt w (w.alloc (.cells zero8 41)) from ⟨Blk.new w _ _, below_box w _⟩)
  generalize w.alloc (.cells zero8 41) = W0 at *
  clear t8
  go_cut [7] (fun s7 wx => OwnR wx W0.heap.size s7 (rowsC cc) ∧ Below W0.heap.size W0 wx)
  case first =>
    go_wp2_with fail
    go_loopw [7, 8] (fun v i wr => ∃ j : Nat, j ≤ 139 ∧ i = .int .i64 j ∧ OwnR wr W0.heap.size v ((rowsL.take j).filter fun r => r.code == cc) ∧ Below W0.heap.size W0 wr) (fun _ i _ => (139 - intOf i).toNat)
    case atStart => exact ⟨0, Nat.zero_le _, rfl, OwnR.nil _ _, Below.refl _ _⟩
    case round =>
      obtain ⟨j, hj, rfl, hown, hB⟩ := hrel
      by_cases hlt : j < 139
      · have hlt' : (j : Int) < 139 := by omega
        obtain ⟨r, hr⟩ : ∃ r, rowsL[j]? = some r := ⟨rowsL[j]'(by rw [rowsL_len]; omega), List.getElem?_eq_getElem _⟩
        have hbw := HW0.out.2.trans (hB.mono HW0.out.2.size)
        obtain ⟨y0, -⟩ := (HC.out j r hr).below hbw hrb
        have hb0 := HY.out.at_ hbw 0 (by omega)
        rw [Nat.add_zero, HCC.out] at hb0
        have HO := Lib.hid hown
        have HB := Lib.hid hB
        have HF := Lib.hid (filter_next hr fun r => r.code == cc)
        have HLN := Lib.hid (filter_len (T := rowsL) j (fun r => r.code == cc) (by rw [rowsL_len]; decide))
        have HRJ := Lib.hid hr
        generalize (rowsL.take j).filter (fun r => r.code == cc) = T at *
        obtain ⟨A1, k1, rfl⟩ := hown.form
        clear hown hB hr hbw
        obtain ⟨rc, ro_, rz, rn, rr, rd, rs, rf, ri, r2, rw_⟩ := r
        simp only at y0 HF HRJ
        go_upto_region 7 with (fail)
        go_cut [39] (fun s39 wx => s39 = .bool (rc == cc) ∧ OwnR wx W0.heap.size (.slice A1 T.length k1) T ∧ Below W0.heap.size W0 wx)
        case first =>
          go_quiet (fail)
          go_wp2_with fail
          go_meet
          case rel => exact ⟨rfl, HO.out, belowDrewN HB.out _⟩
        case rest =>
          clear HO HB y0 hb0
          obtain ⟨rfl, hO2, hB2⟩ := hcut
          have HO := Lib.hid hO2
          have HB := Lib.hid hB2
          clear hO2 hB2
          cases hp : (rc == cc)
          · rw [hp] at HF
            go_wp2_with fail
            go_roundw
            case rel => exact ⟨j + 1, by omega, by go_num, by rw [HF.out]; simpa using HO.out, HB.out⟩
            case measure => simp [intOf]; omega
          · rw [hp] at HF
            obtain ⟨y0, y1, y2, y3, y4, y5, y6, y7, y8, y9, y10⟩ := (HC.out j _ HRJ.out).below (HW0.out.2.trans (HB.out.mono HW0.out.2.size)) hrb
            simp only at y0 y1 y2 y3 y4 y5 y6 y7 y8 y9 y10
            have hlen : T.length ≤ 4096 := Nat.le_trans HLN.out (by decide)
            have hbase : W0.heap.size ≤ wc.heap.size := HB.out.size
            go_wp2_with (at_builtin; (refine append_row Tryd.underlying47 row_info _ wc rfl (.tmp 40) (.tmp 45) rfl W0.heap.size _ _ rfl HO.out ⟨rc, ro_, rz, rn, rr, rd, rs, rf, ri, r2, rw_⟩ rfl _ rfl rfl hlen hbase ?_; intro v' w' hown' hB' _))
            have hb2 := HB.out.trans hB'
            clear HO HB hB' y0 y1 y2 y3 y4 y5 y6 y7 y8 y9 y10
            go_roundw
            case rel => exact ⟨j + 1, by omega, by go_num, by rw [HF.out]; exact hown', hb2⟩
            case measure => simp [intOf]; omega
      · obtain rfl : j = 139 := by omega
        have htk : rowsL.take 139 = rowsL := List.take_of_length_le (by rw [rowsL_len]; exact Nat.le_refl _)
        rw [htk] at hown
        go_wp2_with fail
        go_meet
        case rel => exact ⟨hown, hB⟩
  case rest =>
    obtain ⟨hO1, hB1⟩ := hcut
    generalize wc = W1 at *
    obtain ⟨A1, k1, rfl, hra1⟩ := hO1.rowsAt
    have HX1 := Lib.hid (HW0.out.up hB1)
    have HRA := Lib.hid hra1
    clear HW0 hO1 hra1 hB1
    have HQ := Lib.hid (oneR_says L (by rw [HY.out.len]; exact hn))
    rw [HY.out.len, HCC.out] at HQ
    have HSB := Lib.hid (fun r (h : r ∈ rowsC cc) => @sec_24 cc r h)
    have hlr : (rowsC cc).length ≤ 139 := by have := filter_len (T := rowsL) 139 (fun r => r.code == cc) (by rw [rowsL_len]; decide); rwa [List.take_of_length_le (by rw [rowsL_len]; exact Nat.le_refl _)] at this
    generalize rowsC cc = R at *
    obtain ⟨m1, hm1⟩ : ∃ m, R.length = m := ⟨_, rfl⟩
    rw [hm1] at hlr ⊢
    have HM1 := Lib.hid hm1
    clear hm1
    by_cases hnil : R = []
    · have hq := HQ.out
      rw [if_pos hnil] at hq
      have HQ2 := Lib.hid (show oneRes L = .tuple #[.agg zero8, .int .i64 0, .int .i64 21] by unfold oneRes; rw [hq]; rfl)
      obtain rfl : m1 = 0 := by rw [← HM1.out, hnil]; rfl
      clear hq hnil HQ
      obtain ⟨⟨q0, q1, q2, q3, q4, q5, q6, q7⟩, g0, g1, g2, g3, g4, g5, g6, g7⟩ := cells8 HX1.out.1
      have HS8 := Lib.hid (fun a b c d e f k l => set8 HX1.out.1 a b c d e f k l)
      have HW8 := Lib.hid (below8 (g := w.heap.size) HX1.out.2 (Nat.le_refl _))
      go_wp2_with fail
      exact bodyPost_ret (v := .tuple #[.agg zero8, .int .i64 0, .int .i64 21]) (results_cell_tmp2 Tryd.results31 _ _ w.heap.size 41 zero8 (0, 0) _ _ _ rfl rfl rfl (HS8.out _ _ _ _ _ _ _ _) Tryd.underlying41 rfl (by kernel_rfl)) rfl ⟨by rw [HQ2.out], HW8.out _ _ _ _ _ _ _ _⟩
    have hq := HQ.out
    rw [if_neg hnil] at hq
    have hm0 : 0 < m1 := by rw [← HM1.out]; exact List.length_pos_iff.2 hnil
    have tm : ((m1 : Int) == 0) = false := by rw [beq_eq_false_iff_ne]; omega
    have hb0 := HY.out.at_ HX1.out.2 0 (by omega)
    rw [Nat.add_zero, HCC.out] at hb0
    obtain ⟨un, hun⟩ : ∃ un : Int, (if cc = 24 then 2 else 1) = un := ⟨_, rfl⟩
    obtain ⟨hu1, hu2⟩ : 1 ≤ un ∧ un ≤ 2 := by rw [← hun]; split <;> omega
    have HUN := Lib.hid hun
    rw [hun] at hq
    have HQ := Lib.hid hq
    clear hq hun
    go_upto_if 54 with (fail)
    go_cut [9] (fun s9 wx => s9 = .int .i64 un ∧ wx = W1)
    case first =>
      by_cases h24 : cc = 24
      · have hun := HUN.out
        rw [if_pos h24] at hun
        have HU := Lib.hid hun
        have t : (cc == 24) = true := by rw [h24]; rfl
        clear h24 hun
        go_wp2_with fail
        go_meet
        case rel => exact ⟨by rw [← HU.out], rfl⟩
      · have hun := HUN.out
        rw [if_neg h24] at hun
        have HU := Lib.hid hun
        have t : (cc == 24) = false := by rw [beq_eq_false_iff_ne]; exact h24
        clear h24 hun
        go_wp2_with fail
        go_meet
        case rel => exact ⟨by rw [← HU.out], rfl⟩
    case rest =>
      obtain ⟨rfl, rfl⟩ := hcut
      clear tm hb0
      by_cases hsh : (n : Int) < 8 * un
      · have hq := HQ.out
        rw [if_pos hsh] at hq
        have HQ2 := Lib.hid (show oneRes L = .tuple #[.agg zero8, .int .i64 0, .int .i64 20] by unfold oneRes; rw [hq]; rfl)
        have t : decide ((n : Int) < 8 * un) = true := decide_eq_true hsh
        clear hq HQ
        obtain ⟨⟨q0, q1, q2, q3, q4, q5, q6, q7⟩, g0, g1, g2, g3, g4, g5, g6, g7⟩ := cells8 HX1.out.1
        have HS8 := Lib.hid (fun a b c d e f k l => set8 HX1.out.1 a b c d e f k l)
        have HW8 := Lib.hid (below8 (g := w.heap.size) HX1.out.2 (Nat.le_refl _))
        go_wp2_with fail
        exact bodyPost_ret (v := .tuple #[.agg zero8, .int .i64 0, .int .i64 20]) (results_cell_tmp2 Tryd.results31 _ _ w.heap.size 41 zero8 (0, 0) _ _ _ rfl rfl rfl (HS8.out _ _ _ _ _ _ _ _) Tryd.underlying41 rfl (by kernel_rfl)) rfl ⟨by rw [HQ2.out], HW8.out _ _ _ _ _ _ _ _⟩
      have hq := HQ.out
      rw [if_neg hsh] at hq
      have HQ := Lib.hid hq
      have t : decide ((n : Int) < 8 * un) = false := decide_eq_false hsh
      clear hq
      have hb1 := HY.out.at_ HX1.out.2 1 (by omega)
      obtain ⟨h10, h11⟩ := HY.out.byte 1
      have HS2 := Lib.hid (fun k => signed_2 wc b (off + 2) k (gB L 2) (gB L 3) (HY.out.byte 2) (HY.out.byte 3) (HY.out.at_ HX1.out.2 2 (by omega)) (HY.out.at_ HX1.out.2 3 (by omega)))
      have HS4 := Lib.hid (fun k => signed_4 wc b (off + 4) k (gB L 4) (gB L 5) (gB L 6) (gB L 7) (HY.out.byte 4) (HY.out.byte 5) (HY.out.byte 6) (HY.out.byte 7) (HY.out.at_ HX1.out.2 4 (by omega)) (HY.out.at_ HX1.out.2 5 (by omega)) (HY.out.at_ HX1.out.2 6 (by omega)) (HY.out.at_ HX1.out.2 7 (by omega)))
      have HUA := Lib.hid (show unitA L = ⟨cc, gB L 1 % 16, gB L 1 / 16, off16 (gB L 2) (gB L 3), imm32 (gB L 4) (gB L 5) (gB L 6) (gB L 7)⟩ by rw [← HCC.out]; rfl)
      have hpo := off16_in (HY.out.byte 2) (HY.out.byte 3)
      have hpi := imm32_in (HY.out.byte 4) (HY.out.byte 5) (HY.out.byte 6) (HY.out.byte 7)
      have hc4 : 4 ≤ c := by have := HY.out.le; omega
      have hc8 : 8 ≤ c := by have := HY.out.le; omega
      have hc2 : 2 ≤ c := by omega
      have hcl := HY.out.le
      generalize off16 (gB L 2) (gB L 3) = po at *
      generalize imm32 (gB L 4) (gB L 5) (gB L 6) (gB L 7) = pi at *
      generalize gB L 1 = z1 at *
      go_wp2_with fail
      go_at_call 53
      refine (HS2.out _).mono ?_
      rintro e w2 ⟨rfl, rfl⟩
      go_wp2_with fail
      go_at_call 53
      refine (HS4.out _).mono ?_
      rintro e w2 ⟨rfl, rfl⟩
      clear HS2 HS4 hb1 hc2 hc4 hc8
      have hlr2 := hlr
      obtain ⟨a, tl, hR⟩ : ∃ a tl, R = a :: tl := by
        cases R with
        | nil => exact absurd rfl hnil
        | cons a tl => exact ⟨a, tl, rfl⟩
      obtain ⟨lb, lo, rfl, hlb, hlc⟩ := HRA.out (by rw [HM1.out]; exact hm0)
      have hra := hlc 0 a (by rw [hR]; rfl)
      rw [Nat.zero_mul, Nat.add_zero] at hra
      have hq := HQ.out
      rw [HUA.out, show pickR R = pickR (a :: tl) from congrArg pickR hR] at hq
      simp only [pickR_cons] at hq
      rw [← hR] at hq
      have HQ := Lib.hid hq
      have HLC := Lib.hid hlc
      obtain ⟨ac, ao, az, an, ar, ad, as_, af, ai, a2, aw⟩ := a
      obtain ⟨y0, y1, y2, y3, y4, y5, y6, y7, y8, y9, y10⟩ := hra
      simp only at y0 y1 y2 y3 y4 y5 y6 y7 y8 y9 y10
      have HRG := Lib.hid (rregs_any ac ao az an ar ad as_ af ai a2 aw (z1 % 16) (z1 / 16) pi wc)
      clear hq hlc hR hnil HUA
      generalize regsR ⟨ac, ao, az, an, ar, ad, as_, af, ai, a2, aw⟩ (z1 % 16) (z1 / 16) pi = rg at *
      have hm0i : (0 : Int) < (m1 : Int) := by omega
      go_wp2_with fail
      go_at_call 41
      refine HRG.out.mono ?_
      rintro e w3 ⟨rfl, hB3⟩
      have HX3 := Lib.hid (HX1.out.up hB3)
      have HLC3 := Lib.hid (show lb < w3.heap.size ∧ ∀ j r, R[j]? = some r → RowIs w3 lb (lo + j * 11) r from ⟨Nat.lt_of_lt_of_le hlb hB3.size, fun j r hr => (HLC.out j r hr).below hB3 hlb⟩)
      clear hB3 HX1 HLC HRA HRG hlb y0 y1 y2 y3 y4 y5 y6 y7 y8 y9 y10
      generalize z1 % 16 = pd at *
      generalize z1 / 16 = ps at *
      cases rg
      · have HQ2 := Lib.hid (show oneRes L = .tuple #[.agg zero8, .int .i64 0, .int .i64 22] by unfold oneRes; rw [HQ.out, if_pos rfl]; rfl)
        clear HQ
        obtain ⟨⟨q0, q1, q2, q3, q4, q5, q6, q7⟩, g0, g1, g2, g3, g4, g5, g6, g7⟩ := cells8 HX3.out.1
        have HS8 := Lib.hid (fun a b c d e f k l => set8 HX3.out.1 a b c d e f k l)
        have HW8 := Lib.hid (below8 (g := w.heap.size) HX3.out.2 (Nat.le_refl _))
        go_wp2_with fail
        exact bodyPost_ret (v := .tuple #[.agg zero8, .int .i64 0, .int .i64 22]) (results_cell_tmp2 Tryd.results31 _ _ w.heap.size 41 zero8 (0, 0) _ _ _ rfl rfl rfl (HS8.out _ _ _ _ _ _ _ _) Tryd.underlying41 rfl (by kernel_rfl)) rfl ⟨by rw [HQ2.out], HW8.out _ _ _ _ _ _ _ _⟩
      have hq := HQ.out
      rw [if_neg (show ¬ (true = false) by decide)] at hq
      have HQ := Lib.hid hq
      clear hq
      go_upto_block 2 with (fail)
      go_cut [14] (fun s14 wx => OwnR wx w3.heap.size s14 (R.filter fun r => fitR r pd ps po) ∧ Below w3.heap.size w3 wx)
      case first =>
        clear HQ
        go_wp2_with fail
        go_loopw [14, 15, 16] (fun v i x wr => ∃ j : Nat, j ≤ m1 ∧ i = .int .i64 j ∧ OwnR wr w3.heap.size v ((R.take j).filter fun r => fitR r pd ps po) ∧ Below w3.heap.size w3 wr) (fun _ i _ _ => (m1 - intOf i).toNat)
        case atStart => exact ⟨0, Nat.zero_le _, rfl, OwnR.nil _ _, Below.refl _ _⟩
        case round =>
          obtain ⟨j, hj, rfl, hown, hB⟩ := hrel
          by_cases hlt : j < m1
          · have hlt' : (j : Int) < m1 := by omega
            obtain ⟨r, hr⟩ : ∃ r, R[j]? = some r := ⟨R[j]'(by rw [HM1.out]; omega), List.getElem?_eq_getElem _⟩
            have HF := Lib.hid (filter_next hr fun r => fitR r pd ps po)
            have HLN := Lib.hid (filter_len (T := R) j (fun r => fitR r pd ps po) (by rw [HM1.out]; exact hlr))
            generalize (R.take j).filter (fun r => fitR r pd ps po) = T at *
            obtain ⟨A2, k2, rfl⟩ := hown.form
            obtain ⟨y0, y1, y2, y3, y4, y5, y6, y7, y8, y9, y10⟩ := (HLC3.out.2 j r hr).below hB HLC3.out.1
            obtain ⟨rc, ro_, rz, rn, rr, rd, rs, rf, ri, r2, rw_⟩ := r
            simp only at y0 y1 y2 y3 y4 y5 y6 y7 y8 y9 y10 HF
            have HO := Lib.hid (hown.below (below_box wr (.cells (row11 rc ro_ rz rn rr rd rs rf ri r2 rw_) 65)))
            have HB := Lib.hid (hB.trans ((below_box wr (.cells (row11 rc ro_ rz rn rr rd rs rf ri r2 rw_) 65)).mono hB.size))
            have HK := Lib.hid (Blk.new wr 65 (row11 rc ro_ rz rn rr rd rs rf ri r2 rw_))
            clear hown hB hr
            go_upto_region 27 with (fail)
            generalize wr.alloc (.cells (row11 rc ro_ rz rn rr rd rs rf ri r2 rw_) 65) = Wb at *
            generalize wr.heap.size = gb at *
            clear y0 y1 y2 y3 y4 y5 y6 y7 y8 y9 y10
            obtain ⟨y0, y1, y2, y3, y4, y5, y6, y7, y8, y9, y10⟩ := cells11m HK.out
            go_cut [126] (fun s wx => s = .bool (fitR ⟨rc, ro_, rz, rn, rr, rd, rs, rf, ri, r2, rw_⟩ pd ps po) ∧ Wb = wx)
            case first =>
              have HD := Lib.hid (show fitR ⟨rc, ro_, rz, rn, rr, rd, rs, rf, ri, r2, rw_⟩ pd ps po = ((rd == -1 || rd == pd) && (rs == -1 || rs == ps) && (rf == -1 || rf == po)) from rfl)
              generalize fitR ⟨rc, ro_, rz, rn, rr, rd, rs, rf, ri, r2, rw_⟩ pd ps po = fb at *
              clear HF HO HB HK HLN
              cases d1 : (rd == -1)
              · cases d2 : (rd == pd)
                · skip
                  go_wp2_with fail
                  go_meet
                  case rel => exact ⟨congrArg Value.bool (by rw [HD.out, d1, d2]; rfl), by first | rfl | trivial⟩
                · skip
                  cases s1 : (rs == -1)
                  · cases s2 : (rs == ps)
                    · skip
                      go_wp2_with fail
                      go_meet
                      case rel => exact ⟨congrArg Value.bool (by rw [HD.out, d1, d2, s1, s2]; rfl), by first | rfl | trivial⟩
                    · skip
                      cases o1 : (rf == -1)
                      · cases o2 : (rf == po)
                        · skip
                          go_wp2_with fail
                          go_meet
                          case rel => exact ⟨congrArg Value.bool (by rw [HD.out, d1, d2, s1, s2, o1, o2]; rfl), by first | rfl | trivial⟩
                        · skip
                          go_wp2_with fail
                          go_meet
                          case rel => exact ⟨congrArg Value.bool (by rw [HD.out, d1, d2, s1, s2, o1, o2]; rfl), by first | rfl | trivial⟩
                      · skip
                        go_wp2_with fail
                        go_meet
                        case rel => exact ⟨congrArg Value.bool (by rw [HD.out, d1, d2, s1, s2, o1]; rfl), by first | rfl | trivial⟩
                  · skip
                    cases o1 : (rf == -1)
                    · cases o2 : (rf == po)
                      · skip
                        go_wp2_with fail
                        go_meet
                        case rel => exact ⟨congrArg Value.bool (by rw [HD.out, d1, d2, s1, o1, o2]; rfl), by first | rfl | trivial⟩
                      · skip
                        go_wp2_with fail
                        go_meet
                        case rel => exact ⟨congrArg Value.bool (by rw [HD.out, d1, d2, s1, o1, o2]; rfl), by first | rfl | trivial⟩
                    · skip
                      go_wp2_with fail
                      go_meet
                      case rel => exact ⟨congrArg Value.bool (by rw [HD.out, d1, d2, s1, o1]; rfl), by first | rfl | trivial⟩
              · skip
                cases s1 : (rs == -1)
                · cases s2 : (rs == ps)
                  · skip
                    go_wp2_with fail
                    go_meet
                    case rel => exact ⟨congrArg Value.bool (by rw [HD.out, d1, s1, s2]; rfl), by first | rfl | trivial⟩
                  · skip
                    cases o1 : (rf == -1)
                    · cases o2 : (rf == po)
                      · skip
                        go_wp2_with fail
                        go_meet
                        case rel => exact ⟨congrArg Value.bool (by rw [HD.out, d1, s1, s2, o1, o2]; rfl), by first | rfl | trivial⟩
                      · skip
                        go_wp2_with fail
                        go_meet
                        case rel => exact ⟨congrArg Value.bool (by rw [HD.out, d1, s1, s2, o1, o2]; rfl), by first | rfl | trivial⟩
                    · skip
                      go_wp2_with fail
                      go_meet
                      case rel => exact ⟨congrArg Value.bool (by rw [HD.out, d1, s1, s2, o1]; rfl), by first | rfl | trivial⟩
                · skip
                  cases o1 : (rf == -1)
                  · cases o2 : (rf == po)
                    · skip
                      go_wp2_with fail
                      go_meet
                      case rel => exact ⟨congrArg Value.bool (by rw [HD.out, d1, s1, o1, o2]; rfl), by first | rfl | trivial⟩
                    · skip
                      go_wp2_with fail
                      go_meet
                      case rel => exact ⟨congrArg Value.bool (by rw [HD.out, d1, s1, o1, o2]; rfl), by first | rfl | trivial⟩
                  · skip
                    go_wp2_with fail
                    go_meet
                    case rel => exact ⟨congrArg Value.bool (by rw [HD.out, d1, s1, o1]; rfl), by first | rfl | trivial⟩
            case rest =>
              obtain ⟨rfl, hwb⟩ := hcut
              subst hwb
              cases hp : fitR ⟨rc, ro_, rz, rn, rr, rd, rs, rf, ri, r2, rw_⟩ pd ps po
              · rw [hp] at HF
                clear hp y0 y1 y2 y3 y4 y5 y6 y7 y8 y9 y10
                go_wp2_with fail
                go_roundw
                case rel => exact ⟨j + 1, by omega, by go_num, by rw [HF.out]; simpa using HO.out, HB.out⟩
                case measure => simp [intOf]; omega
              · rw [hp] at HF
                have hlen : T.length ≤ 4096 := Nat.le_trans HLN.out (by decide)
                have hbase : w3.heap.size ≤ Wb.heap.size := HB.out.size
                go_wp2_with (at_builtin; (refine append_row Tryd.underlying47 row_info _ Wb rfl (.tmp 127) (.tmp 129) rfl w3.heap.size _ _ rfl HO.out ⟨rc, ro_, rz, rn, rr, rd, rs, rf, ri, r2, rw_⟩ rfl _ rfl rfl hlen hbase ?_; intro v' w' hown' hB' _))
                have hb2 := HB.out.trans hB'
                clear HO HB HK hp hB' y0 y1 y2 y3 y4 y5 y6 y7 y8 y9 y10
                go_roundw
                case rel => exact ⟨j + 1, by omega, by go_num, by rw [HF.out]; exact hown', hb2⟩
                case measure => simp [intOf]; omega
          · obtain rfl : j = m1 := by omega
            have hjn : decide ((j : Int) < j) = false := decide_eq_false (by omega)
            have htk : R.take j = R := List.take_of_length_le (by rw [HM1.out]; exact Nat.le_refl _)
            rw [htk] at hown
            go_wp2_with fail
            go_meet
            case rel => exact ⟨hown, hB⟩
      case rest =>
        obtain ⟨hO4, hB4⟩ := hcut
        generalize wc = W4 at *
        obtain ⟨A4, k4, rfl, hra4⟩ := hO4.rowsAt
        have HX4 := Lib.hid (HX3.out.up hB4)
        have HRA := Lib.hid hra4
        have HFS := Lib.hid (fun r (h : r ∈ R.filter fun r => fitR r pd ps po) => HSB.out r (List.mem_filter.1 h).1)
        have hl4 : (R.filter fun r => fitR r pd ps po).length ≤ 139 := Nat.le_trans (List.length_filter_le _ _) (by rw [HM1.out]; exact hlr)
        clear HX3 HLC3 HSB hra4 hB4 hO4
        generalize R.filter (fun r => fitR r pd ps po) = F at *
        obtain ⟨m4, hm4⟩ : ∃ m, F.length = m := ⟨_, rfl⟩
        rw [hm4] at hl4 ⊢
        have HM4 := Lib.hid hm4
        clear hm4
        obtain ⟨BB, hBB⟩ : ∃ BB, (decide (cc = 24) && badU (unitA (L.drop 8))) = BB := ⟨_, rfl⟩
        have HBB := Lib.hid (show BB = (decide (cc = 24) && (gB L 8 != 0 || gB L 9 != 0 || gB L 10 != 0 || gB L 11 != 0)) by rw [← hBB, badU_bytes HY.out.byte])
        rw [hBB] at HQ
        clear hBB
        go_upto_region 29 with (fail)
        go_cut [161] (fun s wx => s = .bool (decide (F = []) || BB) ∧ W4 = wx)
        case first =>
          clear HQ
          by_cases hF : F = []
          · obtain rfl : m4 = 0 := by rw [← HM4.out, hF]; rfl
            have HD := Lib.hid (show (decide (F = []) || BB) = true by rw [decide_eq_true hF]; rfl)
            clear hF
            go_wp2_with fail
            go_meet
            case rel => exact ⟨by rw [HD.out], by first | rfl | trivial⟩
          · have hm0 : 0 < m4 := by rw [← HM4.out]; exact List.length_pos_iff.2 hF
            have tm : ((m4 : Int) == 0) = false := by rw [beq_eq_false_iff_ne]; omega
            have HD := Lib.hid (show (decide (F = []) || BB) = BB by rw [decide_eq_false hF]; rfl)
            by_cases h24 : cc = 24
            · have hun := HUN.out
              rw [if_pos h24] at hun
              have hbb := HBB.out
              rw [decide_eq_true h24, Bool.true_and] at hbb
              have hn16 : 16 ≤ n := by rw [← hun] at hsh; omega
              have x8 := HY.out.at_ HX4.out.2 8 (by omega)
              have x9 := HY.out.at_ HX4.out.2 9 (by omega)
              have x10 := HY.out.at_ HX4.out.2 10 (by omega)
              have x11 := HY.out.at_ HX4.out.2 11 (by omega)
              have hcl := HY.out.le
              have tu : (un == 2) = true := by rw [← hun]; rfl
              have HB5 := Lib.hid hbb
              have i8 : (8 : Int) < (n : Int) := by omega
              have i9 : (9 : Int) < (n : Int) := by omega
              have i10 : (10 : Int) < (n : Int) := by omega
              have i11 : (11 : Int) < (n : Int) := by omega
              clear hF h24 hun hbb
              cases e8 : (gB L 8 != 0)
              · cases e9 : (gB L 9 != 0)
                · cases e10 : (gB L 10 != 0)
                  · cases e11 : (gB L 11 != 0)
                    · skip
                      go_wp2_with fail
                      go_meet
                      case rel => exact ⟨by rw [HD.out, HB5.out, e8, e9, e10, e11]; rfl, by first | rfl | trivial⟩
                    · skip
                      go_wp2_with fail
                      go_meet
                      case rel => exact ⟨by rw [HD.out, HB5.out, e8, e9, e10, e11]; rfl, by first | rfl | trivial⟩
                  · skip
                    go_wp2_with fail
                    go_meet
                    case rel => exact ⟨by rw [HD.out, HB5.out, e8, e9, e10]; rfl, by first | rfl | trivial⟩
                · skip
                  go_wp2_with fail
                  go_meet
                  case rel => exact ⟨by rw [HD.out, HB5.out, e8, e9]; rfl, by first | rfl | trivial⟩
              · skip
                go_wp2_with fail
                go_meet
                case rel => exact ⟨by rw [HD.out, HB5.out, e8]; rfl, by first | rfl | trivial⟩
            · have hun := HUN.out
              rw [if_neg h24] at hun
              have HB5 := Lib.hid (show BB = false by rw [HBB.out, decide_eq_false h24]; rfl)
              have tu : (un == 2) = false := by rw [← hun]; rfl
              clear hF h24 hun
              go_wp2_with fail
              go_meet
              case rel => exact ⟨by rw [HD.out, HB5.out], by first | rfl | trivial⟩
        case rest =>
          obtain ⟨rfl, hw4⟩ := hcut
          subst hw4
          have HD := Lib.hid (show (F = [] ∨ BB = true) ↔ (decide (F = []) || BB) = true by simp)
          generalize (decide (F = []) || BB) = fb at *
          cases fb
          case true =>
            have HQ2 := Lib.hid (show oneRes L = .tuple #[.agg zero8, .int .i64 0, .int .i64 23] by unfold oneRes; rw [HQ.out, if_pos (HD.out.2 rfl)]; rfl)
            clear HQ HD
            obtain ⟨⟨q0, q1, q2, q3, q4, q5, q6, q7⟩, g0, g1, g2, g3, g4, g5, g6, g7⟩ := cells8 HX4.out.1
            have HS8 := Lib.hid (fun a b c d e f k l => set8 HX4.out.1 a b c d e f k l)
            have HW8 := Lib.hid (below8 (g := w.heap.size) HX4.out.2 (Nat.le_refl _))
            go_wp2_with fail
            exact bodyPost_ret (v := .tuple #[.agg zero8, .int .i64 0, .int .i64 23]) (results_cell_tmp2 Tryd.results31 _ _ w.heap.size 41 zero8 (0, 0) _ _ _ rfl rfl rfl (HS8.out _ _ _ _ _ _ _ _) Tryd.underlying41 rfl (by kernel_rfl)) rfl ⟨by rw [HQ2.out], HW8.out _ _ _ _ _ _ _ _⟩
          case false =>
            have hq := HQ.out
            rw [if_neg (fun h => absurd (HD.out.1 h) (by decide))] at hq
            have HQ := Lib.hid hq
            clear hq HD
            have hsec : (if cc = 24 then (unitA (L.drop 8)).imm else 0) = (if cc = 24 then imm32 (gB L 12) (gB L 13) (gB L 14) (gB L 15) else 0) := by
              have e : ∀ k, gB (L.drop 8) k = gB L (8 + k) := fun k => by unfold gB; simp [List.getD_eq_getElem?_getD, List.getElem?_drop]
              have e2 : (unitA (L.drop 8)).imm = imm32 (gB (L.drop 8) 4) (gB (L.drop 8) 5) (gB (L.drop 8) 6) (gB (L.drop 8) 7) := rfl
              rw [e2, e, e, e, e]
            obtain ⟨sec, hse⟩ : ∃ sec, (if cc = 24 then (unitA (L.drop 8)).imm else 0) = sec := ⟨_, rfl⟩
            rw [hse] at HQ
            have hsr : -2147483648 ≤ sec ∧ sec ≤ 2147483647 := by
              rw [← hse, hsec]; split
              · exact imm32_in (HY.out.byte 12) (HY.out.byte 13) (HY.out.byte 14) (HY.out.byte 15)
              · decide
            have HSA := Lib.hid (fun W (hb : Below w.heap.size w W) r (hr : r ∈ F) (ho : r.op = 20 ∨ r.op = 21) => (show SecAt W (.slice (some ⟨b, off, none⟩) n c) sec from by
              have h24 := HFS.out r hr ho
              have hun := HUN.out
              rw [if_pos h24] at hun hse hsec
              have hn16 : 16 ≤ n := by rw [← hun] at hsh; omega
              exact ⟨b, off, n, c, _, _, _, _, rfl, hn16, HY.out.le, Nat.lt_of_lt_of_le HY.out.lt hb.size, ⟨HY.out.byte 12, HY.out.byte 13, HY.out.byte 14, HY.out.byte 15⟩, ⟨HY.out.at_ hb 12 (by omega), HY.out.at_ hb 13 (by omega), HY.out.at_ hb 14 (by omega), HY.out.at_ hb 15 (by omega)⟩, by rw [← hse, hsec, if_pos h24]⟩))
            have HUE := Lib.hid (show (((if cc = 24 then 2 else 1 : Nat) : Nat) : Int) = un by rw [← HUN.out]; split <;> rfl)
            clear hse hsec
            generalize (if cc = 24 then (2 : Nat) else 1) = UNn at *
            go_wp2_with fail
            go_loopw [17, 18, 19] (fun i y ok wr => ∃ j : Nat, j ≤ m4 ∧ i = .int .i64 j ∧ F.find? (fun r => readR r pi sec) = (F.drop j).find? (fun r => readR r pi sec) ∧ Below W4.heap.size W4 wr) (fun i _ _ _ => (m4 - intOf i).toNat)
            case atStart => exact ⟨0, Nat.zero_le _, rfl, rfl, Below.refl _ _⟩
            case round =>
              obtain ⟨j, hj, rfl, hfd, hB⟩ := hrel
              have HXr := Lib.hid (HX4.out.up hB)
              by_cases hlt : j < m4
              · have hlt' : (j : Int) < m4 := by omega
                obtain ⟨fb, fo, rfl, hfb, hfc⟩ := HRA.out (by rw [HM4.out]; omega)
                obtain ⟨r, hr⟩ : ∃ r, F[j]? = some r := ⟨F[j]'(by rw [HM4.out]; omega), List.getElem?_eq_getElem _⟩
                have HFD := Lib.hid (hfd.trans (find_step hr fun r => readR r pi sec))
                have hrm := List.mem_of_getElem? hr
                obtain ⟨y0, y1, y2, y3, y4, y5, y6, y7, y8, y9, y10⟩ := (hfc j r hr).below hB hfb
                have HSR := Lib.hid (HSA.out wr HXr.out.2 r hrm)
                have HB := Lib.hid hB
                obtain ⟨rc, ro_, rz, rn, rr, rd, rs, rf, ri, r2, rw_⟩ := r
                simp only at y0 y1 y2 y3 y4 y5 y6 y7 y8 y9 y10 HFD HSR
                have HRD := Lib.hid (rread_any rc ro_ rz rn rr rd rs rf ri r2 rw_ (.slice (some ⟨b, off, none⟩) n c) pd ps po pi sec hpi hsr wr HSR.out)
                have hr2 : (readRes ⟨rc, ro_, rz, rn, rr, rd, rs, rf, ri, r2, rw_⟩ pd ps po pi sec).2 = readR ⟨rc, ro_, rz, rn, rr, rd, rs, rf, ri, r2, rw_⟩ pi sec := by
                  unfold readRes readR; split <;> simp_all
                have hr1 : readR ⟨rc, ro_, rz, rn, rr, rd, rs, rf, ri, r2, rw_⟩ pi sec = true → (readRes ⟨rc, ro_, rz, rn, rr, rd, rs, rf, ri, r2, rw_⟩ pd ps po pi sec).1 = insR ⟨rc, ro_, rz, rn, rr, rd, rs, rf, ri, r2, rw_⟩ pd ps po pi sec := by
                  unfold readRes readR; split <;> simp_all
                rw [hr2] at HRD
                have HR1 := Lib.hid hr1
                generalize (readRes ⟨rc, ro_, rz, rn, rr, rd, rs, rf, ri, r2, rw_⟩ pd ps po pi sec).1 = X at *
                generalize readR ⟨rc, ro_, rz, rn, rr, rd, rs, rf, ri, r2, rw_⟩ pi sec = ok at *
                obtain ⟨xo, xn, xr, xz, xd, xs, xf, xi⟩ := X
                simp only [Ins.arr] at HRD
                clear hfd hfc hr hrm hB hr1 hr2 HSR HSA HFS
                go_wp2_with fail
                go_at_call 54
                refine HRD.out.mono ?_
                rintro e w5 ⟨rfl, hB5⟩
                have HX5 := Lib.hid ((HXr.out.up hB5).up (below_box w5 (.cells (ins8 xo xn xr xz xd xs xf xi) 41)))
                have HB5 := Lib.hid ((HB.out.trans (hB5.mono HB.out.size)).trans ((below_box w5 (.cells (ins8 xo xn xr xz xd xs xf xi) 41)).mono (Nat.le_trans HB.out.size hB5.size)))
                have HY5 := Lib.hid (Blk.new w5 41 (ins8 xo xn xr xz xd xs xf xi))
                clear hB5 HB HXr HRD y0 y1 y2 y3 y4 y5 y6 y7 y8 y9 y10
                go_upto_region 35 with (fail)
                generalize w5.alloc (.cells (ins8 xo xn xr xz xd xs xf xi) 41) = W6 at *
                generalize w5.heap.size = g6 at *
                cases ok
                case false =>
                  have hfd := HFD.out
                  rw [if_neg (show ¬ (false = true) by decide)] at hfd
                  have HFD2 := Lib.hid hfd
                  clear hfd HFD HR1 HX5 HY5
                  go_wp2_with fail
                  go_roundw
                  case rel => exact ⟨j + 1, by omega, by go_num, HFD2.out, HB5.out⟩
                  case measure => simp [intOf]; omega
                case true =>
                  have hfd := HFD.out
                  rw [if_pos rfl] at hfd
                  have hxi := HR1.out rfl
                  have HQ2 := Lib.hid (show oneRes L = .tuple #[.agg (ins8 xo xn xr xz xd xs xf xi), .int .i64 un, .int .i64 0] by
                    unfold oneRes; rw [HQ.out, hfd]
                    show Value.tuple #[.agg (insR ⟨rc, ro_, rz, rn, rr, rd, rs, rf, ri, r2, rw_⟩ pd ps po pi sec).arr, .int .i64 ((UNn : Nat) : Int), .int .i64 0] = _
                    rw [HUE.out, ← hxi]; rfl)
                  obtain ⟨⟨q0, q1, q2, q3, q4, q5, q6, q7⟩, g0, g1, g2, g3, g4, g5, g6, g7⟩ := cells8 HX5.out.1
                  obtain ⟨⟨z0, z1, z2, z3, z4, z5, z6, z7⟩, -⟩ := cells8 HY5.out
                  have HS8 := Lib.hid (fun a b c d e f k l => set8 HX5.out.1 a b c d e f k l)
                  have HW8 := Lib.hid (below8 (g := w.heap.size) HX5.out.2 (Nat.le_refl _))
                  clear hfd hxi HFD HR1 HQ HX5 HY5 HB5
                  go_wp2_with fail
                  exact bodyPost_ret (v := .tuple #[.agg (ins8 xo xn xr xz xd xs xf xi), .int .i64 un, .int .i64 0]) (results_cell_tmp2 Tryd.results31 _ _ w.heap.size 41 (ins8 xo xn xr xz xd xs xf xi) (0, 0) _ _ _ rfl rfl rfl (HS8.out _ _ _ _ _ _ _ _) Tryd.underlying41 rfl (by kernel_rfl)) rfl ⟨by rw [HQ2.out], HW8.out _ _ _ _ _ _ _ _⟩
              · obtain rfl : j = m4 := by omega
                have hjn : decide ((j : Int) < j) = false := decide_eq_false (by omega)
                have hnone : F.find? (fun r => readR r pi sec) = none := by rw [hfd, List.drop_eq_nil_of_le (by rw [HM4.out]; exact Nat.le_refl _)]; rfl
                have HQ2 := Lib.hid (show oneRes L = .tuple #[.agg zero8, .int .i64 0, .int .i64 24] by unfold oneRes; rw [HQ.out, hnone]; rfl)
                clear hfd hnone HQ hB
                obtain ⟨⟨q0, q1, q2, q3, q4, q5, q6, q7⟩, g0, g1, g2, g3, g4, g5, g6, g7⟩ := cells8 HXr.out.1
                have HS8 := Lib.hid (fun a b c d e f k l => set8 HXr.out.1 a b c d e f k l)
                have HW8 := Lib.hid (below8 (g := w.heap.size) HXr.out.2 (Nat.le_refl _))
                go_wp2_with fail
                exact bodyPost_ret (v := .tuple #[.agg zero8, .int .i64 0, .int .i64 24]) (results_cell_tmp2 Tryd.results31 _ _ w.heap.size 41 zero8 (0, 0) _ _ _ rfl rfl rfl (HS8.out _ _ _ _ _ _ _ _) Tryd.underlying41 rfl (by kernel_rfl)) rfl ⟨by rw [HQ2.out], HW8.out _ _ _ _ _ _ _ _⟩
end Go.Proofs.YtaglclmfjopnlaaDoor
/- Decode of the document's answer for package code: it reads what package code reads. -/
namespace Go.Proofs.YtaglclmfjopnlaaDoor
open Go.ChangeShapes Go.WideShapes Go.ChangeAt Go.RowKit
open Cod Bits
set_option linter.unusedVariables false
set_option linter.unusedSimpArgs false

theorem gB_byte {L : List Int} (h : BytesL L) (k : Nat) : IsB (gB L k) := by
  unfold gB
  rw [List.getD_eq_getElem?_getD]
  rcases Nat.lt_or_ge k L.length with h1 | h1
  · rw [List.getElem?_eq_getElem h1]; exact h _ (List.getElem_mem h1)
  · rw [List.getElem?_eq_none h1]; exact ⟨by decide, by decide⟩
theorem rone_any (w : World) (Ar : Option Addr) (cr : Nat) (hR : RowsAt w Ar rowsL) (b off n c : Nat) (L : List Int) (hL : L.length = n) (hB : BytesL L) (hc : n ≤ c) (hb : b < w.heap.size)
    (hx : ∀ i, i < L.length → w.cell? ⟨b, off + i, none⟩ = some (.int .u8 (L[i]?.getD 0))) (hn2 : n ≤ 281474976710656) :
    Calls Tryd.prog 31 #[.slice Ar 139 cr, .slice (some ⟨b, off, none⟩) n c] w fun e w' => e = .returned (oneRes L) ∧ Below w.heap.size w w' := by
  by_cases hn : n < 8
  · exact rone_short w Ar cr _ n c L hL hn
  · refine rone_long w Ar cr hR b off n c L ⟨hL, hc, hb, fun k hk => ?_, gB_byte hB⟩ (by omega) hn2
    rw [hx k (by omega)]
    unfold gB
    rw [List.getD_eq_getElem?_getD]
theorem ownI_nil (w : World) (base : Nat) : OwnI w base (.slice none 0 0) [] := World.ownsRow_nil w base _ 8
theorem ins_one_at (W : World) (a b c d e f g h : Value) (i : Ins) (hi : #[a, b, c, d, e, f, g, h] = i.arr) : CodeAt (W.alloc (.cells #[a, b, c, d, e, f, g, h] 41)) (some ⟨W.heap.size, 0, none⟩) [i] := by
  rw [hi]
  exact codeAt_cells (by simp) fun m v hm => by
    rw [(Blk.new W 41 i.arr).cell m]
    have : ([i].flatMap Ins.cells) = i.arr.toList := rfl
    rw [this] at hm
    simpa using hm
theorem OwnI.weakenI {w : World} {base base' : Nat} {v : Value} {L : List Ins} (h : OwnI w base v L) (hb : base' ≤ base) : OwnI w base' v L := by
  refine ⟨h.1, ?_⟩
  rcases h.2 with h1 | ⟨g, cap, cur, hv, hg, hh, h1⟩
  · exact .inl h1
  · exact .inr ⟨g, cap, cur, hv, Nat.le_trans hb hg, hh, h1⟩
/-- what Decode holds ahead of a round -/
structure RDec (L : List Int) (n : Nat) (done : List Ins) (u : Nat) : Prop where
  eq : D L 0 0 = joinD done (D (L.drop (8 * u)) done.length u)
  le : 8 * u ≤ n
  many : done.length ≤ 4096
set_option maxRecDepth 100000 in
set_option maxHeartbeats 8000000 in
theorem refDecode_any (w : World) (A : Option Addr) (n c : Nat) (L : List Int) (hl : Left w w.heap.size A n c L) (hn : n ≤ 281474976710656) :
    Calls Tryd.prog 11 #[.slice A n c] w (Decoded w L) := by
  obtain ⟨hlen, hBL, hx⟩ := hl
  have HX := Lib.hid hx
  have HL := Lib.hid (show L.length = n ∧ BytesL L from ⟨hlen, hBL⟩)
  have HRW := Lib.hid (rows_any w)
  have HS := Lib.hid (show RDec L n [] 0 from ⟨by rw [Nat.mul_zero, List.drop_zero]; exact (joinD_nil _ (D_norm L 0 0).1 (D_norm L 0 0).2).symm, Nat.zero_le _, Nat.zero_le _⟩)
  clear hlen hBL hx
  go_enter Tryd.func11, Tryd.ntmps11
  go_wp2_with fail
  go_at_call 22
  refine HRW.out.mono ?_
  rintro e w1 ⟨v, rfl, hown, hB1⟩
  obtain ⟨Ar, cr, rfl, hra⟩ := hown.rowsAt
  rw [rowsL_len]
  have HRA := Lib.hid hra
  have HB1 := Lib.hid hB1
  clear hown hra hB1 HRW
  go_wp2_with fail
  go_loopw [6, 7, 8, 9, 10] (fun v a x un e wr => ∃ (done : List Ins) (u : Nat), a = .int .i64 u ∧ RDec L n done u ∧ OwnI wr w1.heap.size v done ∧ Below w1.heap.size w1 wr) (fun _ a _ _ _ _ => (n - 8 * intOf a).toNat)
  case atStart => exact ⟨[], 0, rfl, HS.out, ownI_nil _ _, Below.refl _ _⟩
  case round =>
    clear HS
    obtain ⟨done, u, rfl, hd, hown, hB⟩ := hrel
    have HD := Lib.hid hd
    have hule := hd.le
    have humany := hd.many
    clear hd
    obtain ⟨A2, c2, rfl⟩ := hown.form
    have HO := Lib.hid hown
    have HB := Lib.hid hB
    clear hown hB
    obtain ⟨dn, hdn⟩ : ∃ dn, done.length = dn := ⟨_, rfl⟩
    rw [hdn] at humany HO ⊢
    have HDN := Lib.hid hdn
    clear hdn
    by_cases hlt : 8 * u < n
    · have hlt' : 8 * (u : Int) < (n : Int) := by omega
      have tlt : decide (8 * (u : Int) < (n : Int)) = true := decide_eq_true hlt'
      obtain ⟨hcn, b, off, rfl, hbl, hcell⟩ := HX.out (by omega)
      have HC := Lib.hid hcell
      have hdl : (L.drop (8 * u)).length = n - 8 * u := by rw [List.length_drop, HL.out.1]
      clear hcell HX
      by_cases h96 : dn = 4096
      · have HQ := Lib.hid (show D L 0 0 = (25, u, []) by
          rw [HD.out.eq, HDN.out, h96, D_many (by rw [hdl]; omega)]; rfl)
        subst h96
        clear hdl
        go_wp2_with fail
        go_ret3
        exact ⟨_, by rw [HQ.out]; rfl, by rw [HQ.out]; exact ownI_nil _ _, HB1.out.trans (HB.out.mono HB1.out.size)⟩
      · have t96 : ((dn : Int) == 4096) = false := by rw [beq_eq_false_iff_ne]; omega
        have HDL := Lib.hid hdl
        have HON := Lib.hid (rone_any wr Ar cr (HRA.out.below HB.out) b (off + 8 * u) (n - 8 * u) (c - 8 * u) (L.drop (8 * u)) hdl (HL.out.2.drop _) (by omega) (Nat.lt_of_lt_of_le hbl (HB1.out.trans (HB.out.mono HB1.out.size)).size) (fun i hi => by
          rw [List.length_drop] at hi
          rw [Nat.add_assoc, ((HB1.out.trans (HB.out.mono HB1.out.size)).cell (p := ⟨b, off + (8 * u + i), none⟩) hbl), HC.out (8 * u + i) (by omega), List.getElem?_drop]) (by omega))
        have HOR := Lib.hid (one_ref (HL.out.2.drop (8 * u)))
        have h8c : 8 * u ≤ c := by omega
        have h8n : 8 * u ≤ n := by omega
        clear hdl
        go_wp2_with fail
        go_at_call 31
        refine HON.out.mono ?_
        rintro e w2 ⟨he, hB2⟩
        by_cases hE : (insD (L.drop (8 * u))).1 = 0
        · obtain ⟨hk1, hk2⟩ := insD_len _ hE
          rw [HDL.out] at hk2
          have ho := HOR.out.2.1 hE
          have hst := D_step (l := L.drop (8 * u)) (by rw [HDL.out]; omega) (cnt := dn) h96 u hE
          have hv : oneRes (L.drop (8 * u)) = .tuple #[.agg (insD (L.drop (8 * u))).2.1.arr, .int .i64 (((insD (L.drop (8 * u))).2.2 : Nat) : Int), .int .i64 0] := by
            unfold oneRes; rw [ho, hE, if_pos rfl]
          rw [hv] at he
          generalize (insD (L.drop (8 * u))).2.1 = I at *
          generalize (insD (L.drop (8 * u))).2.2 = k at *
          have hnx : RDec L n (done ++ [I]) (u + k) := by
            refine ⟨?_, by omega, by rw [List.length_append, HDN.out]; simp; omega⟩
            rw [HD.out.eq, HDN.out, hst, joinD_join, List.drop_drop, List.length_append, HDN.out, show 8 * u + 8 * k = 8 * (u + k) by omega]; rfl
          have HNX := Lib.hid hnx
          obtain ⟨xo, xn, xr, xz, xd, xs, xf, xi⟩ := I
          have he' : e = .returned (.tuple #[.agg (ins8 xo xn xr xz xd xs xf xi), .int .i64 (k : Int), .int .i64 0]) := he
          subst he'
          have hbb := below_box w2 (.cells (ins8 xo xn xr xz xd xs xf xi) 41)
          have HY3 := Lib.hid (Blk.new w2 41 (ins8 xo xn xr xz xd xs xf xi))
          have HO3 := Lib.hid ((ownI_keep HO.out (Nat.le_refl _) (fun bb _ hb2 => (hB2.trans (hbb.mono hB2.size)).block bb hb2)))
          have HB3 := Lib.hid (HB.out.trans ((hB2.trans (hbb.mono hB2.size)).mono HB.out.size))
          clear he hv hst ho hE hB2 hbb hnx HON HOR HO HB
          go_upto_region 8 with (fail)
          generalize w2.alloc (.cells (ins8 xo xn xr xz xd xs xf xi) 41) = W3 at *
          generalize w2.heap.size = g3 at *
          obtain ⟨⟨z0, z1, z2, z3, z4, z5, z6, z7⟩, -⟩ := cells8 HY3.out
          have hca := ins_one_at W3 (.int .i64 xo) (.bool xn) (.bool xr) (.int .i64 xz) (.int .i64 xd) (.int .i64 xs) (.int .i64 xf) (.int .i64 xi) ⟨xo, xn, xr, xz, xd, xs, xf, xi⟩ rfl
          have hsz : w1.heap.size ≤ (W3.alloc (.cells (ins8 xo xn xr xz xd xs xf xi) 41)).heap.size := Nat.le_trans HB3.out.size (by simp)
          have how := (ownI_keep HO3.out (Nat.le_refl _) (fun bb _ hb2 => (below_box W3 (.cells (ins8 xo xn xr xz xd xs xf xi) 41)).block bb hb2))
          have hlen1 : done.length + 1 ≤ 2600000000000 := by rw [HDN.out]; omega
          have HB4 := Lib.hid (HB3.out.trans ((below_box W3 (.cells (ins8 xo xn xr xz xd xs xf xi) 41)).mono HB3.out.size))
          go_wp2_with (at_builtin; (refine append_code Tryd.underlying25 ins_info _ rfl (.tmp 35) (.tmp 37) rfl w1.heap.size _ _ rfl how _ 1 _ [_] rfl rfl hca hlen1 hsz ?_; intro vb wb hown5 hB5; clear how hca hsz hlen1))
          have hb6 := HB4.out.trans hB5
          clear HY3 HO3 HB3 HB4 hB5 z0 z1 z2 z3 z4 z5 z6 z7
          go_roundw
          case rel => exact ⟨_, u + k, by go_num, HNX.out, hown5, hb6⟩
          case measure => simp [intOf]; omega
        · have he1 := HOR.out.1
          have hz := HOR.out.2.2 hE
          have hst := D_err (l := L.drop (8 * u)) (by rw [HDL.out]; omega) (cnt := dn) h96 u hE
          have HQ := Lib.hid (show D L 0 0 = ((insD (L.drop (8 * u))).1, u, []) by
            rw [HD.out.eq, HDN.out, hst]; unfold joinD; rw [if_neg hE])
          have hv : oneRes (L.drop (8 * u)) = .tuple #[.agg zero8, .int .i64 0, .int .i64 (insD (L.drop (8 * u))).1] := by
            unfold oneRes; rw [he1, if_neg hE, hz]; rfl
          rw [hv] at he
          have te : ((insD (L.drop (8 * u))).1 != 0) = true := by rw [bne_iff_ne]; exact hE
          generalize (insD (L.drop (8 * u))).1 = E at *
          subst he
          have HB3 := Lib.hid (HB.out.trans (hB2.mono HB.out.size))
          clear hv hst he1 hz hE hB2 HON HOR HO HB HDL
          go_wp2_with fail
          go_ret3
          exact ⟨_, by rw [HQ.out]; rfl, by rw [HQ.out]; exact ownI_nil _ _, HB1.out.trans ((HB3.out.trans ((below_box w2 _).mono HB3.out.size)).mono HB1.out.size)⟩
    · have tlt : decide (8 * (u : Int) < (n : Int)) = false := decide_eq_false (by omega)
      have HQ := Lib.hid (show D L 0 0 = (0, 0, done) by
        have h0 : L.drop (8 * u) = [] := List.drop_eq_nil_of_le (by rw [HL.out.1]; omega)
        rw [HD.out.eq, h0, D_nil]; unfold joinD; rw [if_pos rfl, List.append_nil])
      clear HX
      go_wp2_with fail
      go_ret3
      exact ⟨_, by rw [HQ.out]; rfl, by rw [HQ.out]; exact HO.out.weakenI HB1.out.size, HB1.out.trans (HB.out.mono HB1.out.size)⟩
end Go.Proofs.YtaglclmfjopnlaaDoor
/- Bytes that are lent: in memory of the law's own, three marks behind them; one byte is put anew. -/
namespace Go.Proofs.YtaglclmfjopnlaaDoor
open Go.ChangeShapes Go.WideShapes Go.ChangeAt Go.RowKit
open Cod Bits
set_option linter.unusedVariables false
set_option linter.unusedSimpArgs false

theorem ownB_keep {w w' : World} {base : Nat} {v : Value} {L : List Int} (h : OwnB w base v L) (hb : Below w.heap.size w w') : OwnB w' base v L := h.below hb
structure LentB (w0 : World) (g n c : Nat) (L : List Int) (w : World) : Prop where
  own : OwnB w w0.heap.size (.slice (some ⟨g, 0, none⟩) (n + 3) c) (L ++ [161, 162, 163])
  len : L.length = n
  byt : BytesL L
  below : Below w0.heap.size w0 w
theorem LentB.up {w0 : World} {g n c : Nat} {L : List Int} {w w' : World} (h : LentB w0 g n c L w) (hb : Below w.heap.size w w') : LentB w0 g n c L w' :=
  ⟨h.own.below hb, h.len, h.byt, h.below.trans (hb.mono h.below.size)⟩
theorem LentB.all {w0 : World} {g n c : Nat} {L : List Int} {w : World} (h : LentB w0 g n c L w) : BytesAt w (some ⟨g, 0, none⟩) (L ++ [161, 162, 163]) ∧ n + 3 ≤ c ∧ w0.heap.size ≤ g ∧ g < w.heap.size := by
  have hlen : (L ++ [161, 162, 163]).length = n + 3 := by simp [h.len]
  obtain ⟨A, c', e, h2⟩ := h.own.form
  injection e with e1 e2 e3
  subst e1 e3
  refine ⟨h2, ?_⟩
  rcases h.own.2 with ⟨h0, _⟩ | ⟨g', cap, cur, hv, hg, hh, hnc, _⟩
  · cases h0
  · injection hv with e1 e2 e3
    injection e1 with e1
    injection e1 with e1
    subst e1 e3
    refine ⟨by rw [hlen] at hnc; exact hnc, hg, ?_⟩
    rcases Nat.lt_or_ge g w.heap.size with h1 | h1
    · exact h1
    · rw [Array.getElem?_eq_none h1] at hh; cases hh
theorem LentB.cell {w0 : World} {g n c : Nat} {L : List Int} {w : World} (h : LentB w0 g n c L w) (i : Nat) (hi : i < n + 3) : w.cell? ⟨g, i, none⟩ = some (.int .u8 ((L ++ [161, 162, 163])[i]?.getD 0)) := by
  obtain ⟨b, off, e, _, hc⟩ := h.all.1 (by simp)
  injection e with e; injection e with e1 e2; subst e1 e2
  have := hc i (by simp [h.len]; omega)
  rwa [Nat.zero_add] at this
theorem LentB.bytesAt {w0 : World} {g n c : Nat} {L : List Int} {w : World} (h : LentB w0 g n c L w) : BytesAt w (some ⟨g, 0, none⟩) L := fun hp =>
  ⟨g, 0, rfl, h.all.2.2.2, fun i hi => by
    rw [Nat.zero_add, h.cell i (by have := h.len; omega), List.getElem?_append_left hi]⟩
theorem LentB.left {w0 : World} {g n c : Nat} {L : List Int} {w : World} (h : LentB w0 g n c L w) : Left w w.heap.size (some ⟨g, 0, none⟩) n c L :=
  ⟨h.len, h.byt, fun hn => ⟨by have := h.all.2.1; omega, h.bytesAt (by rw [h.len]; exact hn)⟩⟩
theorem LentB.frozen {w0 : World} {g n c : Nat} {L : List Int} {w : World} (h : LentB w0 g n c L w) (p : Nat) : w.frozen? ⟨g, p, none⟩ = false := by
  have hlen : (L ++ [161, 162, 163]).length = n + 3 := by simp [h.len]
  have h2 := h.own
  unfold OwnB at h2
  rw [hlen] at h2
  exact World.ownsRow.frozenAt h2 p
theorem LentB.put {w0 : World} {g n c : Nat} {L : List Int} {w : World} (h : LentB w0 g n c L w) (j : Nat) (hj : j < n) (x : Int) (hx : IsB x) : LentB w0 g n c (L.set j x) (w.setCell ⟨g, j, none⟩ (.int .u8 x)) := by
  have hlen : (L ++ [161, 162, 163]).length = n + 3 := by simp [h.len]
  obtain ⟨_, _, hg, hlt⟩ := h.all
  have h2 := h.own
  unfold OwnB at h2
  rw [hlen] at h2
  have h3 := (World.ownsRow.stored h2 j (.int .u8 x)).1
  rw [← List.map_set, List.set_append_left _ _ (by rw [h.len]; exact hj)] at h3
  refine ⟨?_, by rw [List.length_set]; exact h.len, fun y hy => ?_, h.below.setCell hg _⟩
  · unfold OwnB
    rw [List.length_append, List.length_set, h.len]
    exact h3
  · rcases List.mem_or_eq_of_mem_set hy with h4 | h4
    · exact h.byt y h4
    · rw [h4]; exact hx
theorem three_marks (w : World) : BytesAt (w.alloc (.cells #[.int .u8 161, .int .u8 162, .int .u8 163] 5)) (some ⟨w.heap.size, 0, none⟩) [161, 162, 163] := (ByteBlk.new w [161, 162, 163]).at_
theorem ownB_split {w : World} {base n : Nat} {v : Value} {L : List Int} (h : OwnB w base v L) (hL : L.length = n) (hp : 0 < n) : ∃ g cap, v = .slice (some ⟨g, 0, none⟩) n cap ∧ (n : Int) ≤ (cap : Int) ∧ base ≤ g := by
  rcases h.2 with ⟨_, h0⟩ | ⟨g, cap, cur, hv, hg, hh, hnc, _⟩
  · omega
  · exact ⟨g, cap, by rw [hv, hL], by omega, hg⟩
theorem lentB_any (w : World) (A : Option Addr) (n c : Nat) (L : List Int) (hL : L.length = n) (hn : n ≤ 140737488355328) (h : BytesAt w A L) :
    Calls Tryd.prog 9 #[.slice A n c] w fun e w' => ∃ g c', e = .returned (.slice (some ⟨g, 0, none⟩) n c') ∧ OwnB w' w.heap.size (.slice (some ⟨g, 0, none⟩) (n + 3) c') (L ++ [161, 162, 163]) ∧ Below w.heap.size w w' := by
  have hoe := ownB_empty w
  have hbe := below_box w (.cells #[] 5)
  have hca := h.below hbe
  have hsz : w.heap.size ≤ (w.alloc (.cells #[] 5)).heap.size := by simp
  have hlen1 : ([] : List Int).length + n ≤ 200000000000000 := by simp; omega
  have hlen2 : (([] : List Int) ++ L).length + 3 ≤ 200000000000000 := by rw [List.nil_append]; omega
  have hlen3 : (([] : List Int) ++ L ++ [161, 162, 163]).length = n + 3 := by simp [hL]
  have hpos : 0 < n + 3 := by omega
  have HL := Lib.hid hL
  have HB := Lib.hid hbe
  have HL2 := Lib.hid hlen2
  have HL3 := Lib.hid hlen3
  clear h hL hbe hlen2 hlen3
  go_enter Tryd.func9, Tryd.ntmps9
  go_upto_region 2 with (at_builtin; (refine append_bytes_wide Tryd.underlying22 byte_info _ rfl (.tmp 4) (.tmp 5) rfl w.heap.size _ _ rfl hoe _ _ _ _ rfl HL.out hca hlen1 hsz ?_; intro v9 w9 hown9 hB9; clear hoe hca hlen1 hsz))
  have hb9 := HB.out.trans hB9
  have how := hown9.alloc (.cells #[.int .u8 161, .int .u8 162, .int .u8 163] 5)
  have hcm := three_marks w9
  have hlen2 := HL2.out
  have hs9 := Nat.le_trans hb9.size (below_box w9 (.cells #[.int .u8 161, .int .u8 162, .int .u8 163] 5)).size
  have HB9 := Lib.hid (hb9.trans ((below_box w9 (.cells #[.int .u8 161, .int .u8 162, .int .u8 163] 5)).mono hb9.size))
  obtain ⟨A9, k9, rfl, -⟩ := hown9.form
  clear hown9 hB9 hb9 HB HL2
  go_upto_region 3 with (at_builtin; (refine append_bytes_wide Tryd.underlying22 byte_info _ rfl (.tmp 7) (.tmp 8) rfl w.heap.size _ _ rfl how _ _ _ _ rfl rfl hcm hlen2 hs9 ?_; intro v11 w11 hown11 hB11; clear how hcm hlen2 hs9))
  have HB11 := Lib.hid (HB9.out.trans hB11)
  obtain ⟨g, cap, rfl, hnc, -⟩ := ownB_split hown11 HL3.out hpos
  have hnc2 : (n : Int) ≤ (cap : Int) := by omega
  rw [List.nil_append] at hown11
  have HO := Lib.hid hown11
  clear hnc hown11 hB11 HB9
  go_wp2_with fail
  go_ret
  exact ⟨g, cap, rfl, HO.out, HB11.out⟩
theorem lentB_lent (w : World) (A : Option Addr) (n c : Nat) (L : List Int) (hL : L.length = n) (hn : n ≤ 140737488355328) (h : BytesAt w A L) (hy : BytesL L) (w0 : World) (hb : Below w0.heap.size w0 w) :
    Calls Tryd.prog 9 #[.slice A n c] w fun e w' => ∃ g c', e = .returned (.slice (some ⟨g, 0, none⟩) n c') ∧ LentB w0 g n c' L w' ∧ Below w.heap.size w w' :=
  (lentB_any w A n c L hL hn h).mono fun e w' ⟨g, c', he, ho, hb'⟩ => ⟨g, c', he, ⟨by
    refine ⟨ho.1, ?_⟩
    rcases ho.2 with h1 | ⟨g1, cap, cur, hv, hg, hh, h1⟩
    · exact .inl h1
    · exact .inr ⟨g1, cap, cur, hv, Nat.le_trans hb.size hg, hh, h1⟩, hL, hy, hb.trans (hb'.mono hb.size)⟩, hb'⟩
theorem whole_any (w0 : World) (w : World) (g n c : Nat) (L : List Int) (h : LentB w0 g n c L w) (hn : n ≤ 140737488355328) :
    Calls Tryd.prog 14 #[.slice (some ⟨g, 0, none⟩) n c] w fun e w' => e = .returned (.bool true) ∧ Below w.heap.size w w' := by
  have m0 := h.cell n (by omega)
  have m1 := h.cell (n + 1) (by omega)
  have m2 := h.cell (n + 2) (by omega)
  have hnc := h.all.2.1
  rw [List.getElem?_append_right (by rw [h.len]; exact Nat.le_refl _), h.len, Nat.sub_self] at m0
  rw [List.getElem?_append_right (by rw [h.len]; omega), h.len, show n + 1 - n = 1 by omega] at m1
  rw [List.getElem?_append_right (by rw [h.len]; omega), h.len, show n + 2 - n = 2 by omega] at m2
  have e0 : w.cell? ⟨g, n, none⟩ = some (.int .u8 161) := m0
  have e1 : w.cell? ⟨g, n + 1, none⟩ = some (.int .u8 162) := m1
  have e2 : w.cell? ⟨g, n + 2, none⟩ = some (.int .u8 163) := m2
  have hci : (n : Int) + 3 ≤ (c : Int) := by omega
  clear m0 m1 m2 h
  go_enter Tryd.func14, Tryd.ntmps14
  go_wp2_with fail
  go_ret
  exact ⟨rfl, Below.refl _ _⟩
end Go.Proofs.YtaglclmfjopnlaaDoor
/- CodeDecodes: its walk. -/
namespace Go.Proofs.YtaglclmfjopnlaaDoor
open Go.ChangeShapes Go.WideShapes Go.ChangeAt Go.RowKit
open Cod Bits
set_option linter.unusedVariables false
set_option linter.unusedSimpArgs false

theorem xor8_rng (x y : Int) : IsB (bits BinOp.xor IntKind.u8 x y) := by
  show 0 ≤ IntKind.u8.wrap (((BitVec.ofInt 8 x ^^^ BitVec.ofInt 8 y).toNat : Nat) : Int) ∧ IntKind.u8.wrap (((BitVec.ofInt 8 x ^^^ BitVec.ofInt 8 y).toNat : Nat) : Int) < 256
  generalize (((BitVec.ofInt 8 x ^^^ BitVec.ofInt 8 y).toNat : Nat) : Int) = z
  rw [show IntKind.u8.wrap z = z % 256 from rfl]
  omega
theorem OwnI.formI {w : World} {base : Nat} {v : Value} {L : List Ins} (h : OwnI w base v L) : ∃ A m c, v = .slice A m c ∧ L.length = m ∧ CodeAt w A L := by
  obtain ⟨A, c, hv, hc⟩ := h.codeAt
  exact ⟨A, _, c, hv, rfl, hc⟩
theorem Left.wide {w : World} {B B' : Nat} {A : Option Addr} {n c : Nat} {L : List Int} (h : Left w B A n c L) (hb : B ≤ B') : Left w B' A n c L :=
  ⟨h.1, h.2.1, fun hn => by
    obtain ⟨hc, b, off, e, hl, hx⟩ := h.2.2 hn
    exact ⟨hc, b, off, e, Nat.lt_of_lt_of_le hl hb, hx⟩⟩
theorem D_count {l : List Int} (hB : BytesL l) : (D l 0 0).2.2.length ≤ 4611686018427387904 := by
  by_cases h : (D l 0 0).1 = 0
  · exact Nat.le_trans (D_forth hB h).2.1 (by decide)
  · rw [(D_norm l 0 0).2 h]; exact Nat.zero_le _
theorem OwnB.formL {w : World} {base : Nat} {v : Value} {L : List Int} (h : OwnB w base v L) (hy : BytesL L) : ∃ A m c, v = .slice A m c ∧ Left w w.heap.size A m c L := by
  obtain ⟨A, c, hv, hlf⟩ := ownB_left h hy
  exact ⟨A, _, c, hv, hlf⟩
set_option maxRecDepth 100000 in
set_option maxHeartbeats 8000000 in
theorem codeDecodes_walk (w : World) (A : Option Addr) (n c : Nat) (L : List Int) (hl : Left w w.heap.size A n c L) (hn : n ≤ 140737488355328) (ht : Tabs w) :
    Calls Tryd.prog 3 #[.slice A n c] w fun e w' => e = .returned (.bool true) ∧ Below w.heap.size w w' := by
  have HK := Lib.hid (known_any w ht)
  have HL := Lib.hid hl
  have HT := Lib.hid ht
  have hby : BytesAt w A L := fun hp => (hl.2.2 (by rw [← hl.1]; exact hp)).2
  have HA := Lib.hid hby
  clear hl ht hby
  go_enter Tryd.func3, Tryd.ntmps3
  go_wp2_with fail
  refine HK.out.mono ?_
  rintro e w1 ⟨rfl, hB1⟩
  have HE := Lib.hid (lentB_lent w1 A n c L HL.out.1 hn (HA.out.below hB1) HL.out.2.1 w hB1)
  have HA1 := Lib.hid (HA.out.below hB1)
  clear hB1 HK HA
  go_wp2_with fail
  go_at_call 9
  refine HE.out.mono ?_
  rintro e w2 ⟨g, c1, rfl, hl2, hB2⟩
  have HU := Lib.hid (decode_any w2 (some ⟨g, 0, none⟩) n c1 L hl2.left (by omega) (HT.out.below hl2.below))
  have HX := Lib.hid hl2
  have HA2 := Lib.hid (HA1.out.below hB2)
  clear hl2 hB2 HE HA1
  go_wp2_with fail
  go_at_call 10
  refine HU.out.mono ?_
  rintro e w3 ⟨v3, rfl, hown3, hB3⟩
  have HX3 := Lib.hid (HX.out.up hB3)
  have HU3 := Lib.hid (refDecode_any w3 A n c L ((HL.out.keep HX3.out.below).wide HX3.out.below.size) (by omega))
  have HA3 := Lib.hid (HA2.out.below hB3)
  have HO3 := Lib.hid hown3
  have hdc := D_count HL.out.2.1
  clear HU HX HA2 hB3 hown3
  go_wp2_with fail
  go_at_call 11
  refine HU3.out.mono ?_
  rintro e w4 ⟨v4, rfl, hown4, hB4⟩
  have HX4 := Lib.hid (HX3.out.up hB4)
  have HA4 := Lib.hid (HA3.out.below hB4)
  obtain ⟨B3, m3, b3, rfl, hm3, hc3⟩ := (ownI_keep HO3.out (Nat.le_refl _) (fun bb _ hb2 => hB4.block bb hb2) : OwnI w4 _ _ _).formI
  obtain ⟨B4, m4, b4, rfl, hm4, hc4⟩ := hown4.formI
  obtain rfl : m4 = m3 := hm4.symm.trans hm3
  have HS4 := Lib.hid (lawSame_yes w4 B3 m4 b3 B4 b4 (D L 0 0).2.2 hm3 (by omega) hc3 hc4)
  have HS5 := Lib.hid (fun w5 (hb : Below w4.heap.size w4 w5) => sameBytes_both w5 (some ⟨g, 0, none⟩) n c1 A n c L L HL.out.1 HL.out.1 (HX4.out.bytesAt.below hb) (HA4.out.below hb) HL.out.2.1 HL.out.2.1)
  rw [decide_eq_true rfl] at HS5
  clear HU3 HX3 HA3 HO3 hB4 hown4 hm3 hm4 hc3 hc4 hdc
  generalize (D L 0 0).1 = k0 at *
  generalize (D L 0 0).2.1 = k1 at *
  generalize (D L 0 0).2.2 = kM at *
  go_wp2_with fail
  go_at_call 12
  refine HS4.out.mono ?_
  rintro e w5 ⟨rfl, hB5⟩
  have HS6 := Lib.hid (HS5.out w5 hB5)
  have HX5 := Lib.hid (HX4.out.up hB5)
  clear HS4 HS5 HX4 HA4 hB5
  go_wp2_with fail
  go_at_call 13
  refine HS6.out.mono ?_
  rintro e w6 ⟨rfl, rfl⟩
  have HW := Lib.hid (whole_any w w5 g n c1 L HX5.out hn)
  clear HS6
  go_wp2_with fail
  go_at_call 14
  refine HW.out.mono ?_
  rintro e w6 ⟨rfl, hB6⟩
  have HX6 := Lib.hid (HX5.out.up hB6)
  clear HX5 HW hB6
  go_upto_block 0 with (fail)
  go_cut [] (fun wx => ∃ M, LentB w g n c1 M wx)
  case first =>
    go_wp2_with fail
    go_loopw [10] (fun i wr => ∃ (j : Nat) (M : List Int), j ≤ n + 5 ∧ i = .int .i64 j ∧ LentB w g n c1 M wr) (fun i _ => (n + 5 - intOf i).toNat)
    case atStart => exact ⟨0, L, by omega, rfl, HX6.out⟩
    case round =>
      clear HX6
      obtain ⟨j, M, hj, rfl, hM⟩ := hrel
      have HM := Lib.hid hM
      clear hM
      by_cases hlt : j < n
      · have hlt' : (j : Int) < (n : Int) := by omega
        have hcell := HM.out.cell j (by omega)
        have hfr := HM.out.frozen j
        have hzb : IsB ((M ++ [161, 162, 163])[j]?.getD 0) := by
          rw [List.getElem?_append_left (by rw [HM.out.len]; exact hlt), List.getElem?_eq_getElem (by rw [HM.out.len]; exact hlt)]
          exact HM.out.byt _ (List.getElem_mem _)
        obtain ⟨hz0, hz1⟩ := hzb
        generalize ((M ++ [161, 162, 163])[j]?.getD 0) = z at *
        have HP := Lib.hid (HM.out.put j hlt (bits BinOp.xor IntKind.u8 z (1 + (j : Int) % 3)) (xor8_rng _ _))
        clear HM
        go_wp2_with fail
        go_roundw
        case rel => exact ⟨j + 5, _, by omega, by go_num, HP.out⟩
        case measure => simp [intOf]; omega
      · have hjn : decide ((j : Int) < (n : Int)) = false := decide_eq_false (by omega)
        go_wp2_with fail
        go_meet
        case rel => exact ⟨M, HM.out⟩
  case rest =>
    obtain ⟨M, hM⟩ := hcut
    have hML := hM.len
    have HML := Lib.hid hML
    have HE := Lib.hid hM
    have HMB := Lib.hid hM.byt
    generalize wc = W at *
    have hoe := ownB_empty W
    have hbe := below_box W (.cells #[] 5)
    have hca := HE.out.bytesAt.below hbe
    have hsz : W.heap.size ≤ (W.alloc (.cells #[] 5)).heap.size := hbe.size
    have hlen1 : ([] : List Int).length + n ≤ 200000000000000 := by simp; omega
    have HBE := Lib.hid hbe
    clear hML hbe hM HX6
    go_wp2_with (at_builtin; (refine append_bytes_wide Tryd.underlying22 byte_info _ rfl (.tmp 71) (.tmp 72) rfl W.heap.size _ _ rfl hoe _ _ _ _ rfl HML.out hca hlen1 hsz ?_; intro vb wb hown hBb; clear hoe hca hlen1 hsz))
    rw [List.nil_append] at hown
    obtain ⟨Ab, mb, cb, rfl, hlb⟩ := hown.formL HMB.out
    obtain rfl : mb = n := hlb.1.symm.trans HML.out
    have hbb := HBE.out.trans hBb
    have HEb := Lib.hid (HE.out.up hbb)
    have HRb := Lib.hid (refDecode_any wb Ab mb cb M hlb (by omega))
    clear hown hlb hbb hBb HE HBE
    go_wp2_with fail
    go_at_call 11
    refine HRb.out.mono ?_
    rintro e w8 ⟨v8, rfl, hown8, hB8⟩
    have HE8 := Lib.hid (HEb.out.up hB8)
    have HU8 := Lib.hid (decode_any w8 (some ⟨g, 0, none⟩) mb c1 M HE8.out.left (by omega) (HT.out.below HE8.out.below))
    have HO8 := Lib.hid hown8
    have hdc := D_count HMB.out
    clear hB8 HEb HRb hown8
    go_wp2_with fail
    go_at_call 10
    refine HU8.out.mono ?_
    rintro e w9 ⟨v9, rfl, hown9, hB9⟩
    have HE9 := Lib.hid (HE8.out.up hB9)
    obtain ⟨B8, m8, b8, rfl, hm8, hc8⟩ := (ownI_keep HO8.out (Nat.le_refl _) (fun bb _ hb2 => hB9.block bb hb2) : OwnI w9 _ _ _).formI
    obtain ⟨B9, m9, b9, rfl, hm9, hc9⟩ := hown9.formI
    obtain rfl : m9 = m8 := hm9.symm.trans hm8
    have HS9 := Lib.hid (lawSame_yes w9 B9 m9 b9 B8 b8 (D M 0 0).2.2 hm9 (by omega) hc9 hc8)
    clear HU8 HE8 HO8 hB9 hown9 hm8 hm9 hc8 hc9 hdc
    generalize (D M 0 0).1 = k2 at *
    generalize (D M 0 0).2.1 = k3 at *
    generalize (D M 0 0).2.2 = kN at *
    go_wp2_with fail
    go_at_call 12
    refine HS9.out.mono ?_
    rintro e wd ⟨rfl, hBd⟩
    have HEd := Lib.hid (HE9.out.up hBd)
    have HWd := Lib.hid (whole_any w wd g mb c1 M HEd.out hn)
    clear HS9 HE9 hBd
    go_wp2_with fail
    go_at_call 14
    refine HWd.out.mono ?_
    rintro e we ⟨rfl, hBe⟩
    have HEe := Lib.hid (HEd.out.up hBe)
    clear HWd HEd hBe
    go_wp2_with fail
    go_ret
    exact ⟨rfl, HEe.out.below⟩
end Go.Proofs.YtaglclmfjopnlaaDoor
/- CodeDecodes: for every input the law returns true, and each argument reads behind the call as it read before, in every world in which the program's three tables hold what the program's start lays (which the card ties to the program's text). -/
namespace Go.Proofs.YtaglclmfjopnlaaDoor
open Go.ChangeShapes Go.WideShapes Go.ChangeAt Go.RowKit
open Cod Bits
set_option linter.unusedVariables false
set_option maxRecDepth 100000
theorem codeDecodes_contract (H : Type) (enc : TypeId × Value → H) (W : World) (base : Nat) (args : Array Value) (ds gs : List (DataW H)) (before : List MemPlace)
    (hval0 : ∀ (j : Nat) t v, Tryd.f3.params[j]? = some t → args[j]? = some v → Value.okWide Tryd.prog W .any base t v)
    (hW : DataW.Whole enc Tryd.prog Tryd.f3.params.toList Rows.codeDecodesSpec.vars false W args.toList ds gs before)
    (hsz0 : (DataW.weightsEach Tryd.prog (Tryd.f3.params.toList ++ Rows.codeDecodesSpec.plain.varTypes Tryd.prog) (ds ++ gs)).all (· ≤ reachBytes) = true) (hL : laidMetH Tryd.prog laid3 W) :
    Calls Tryd.prog 3 args W fun e W' => ∃ v, e = .returned v ∧ Rows.codeDecodesSpec.post enc Tryd.prog Tryd.f3 false true false false W args v W' := by
  have hW' := hW
  have hval : ∀ (j : Nat) t v, Tryd.f3.params[j]? = some t → args[j]? = some v → Value.okWide Tryd.prog W .any base t v := hval0
  have hsz : (DataW.weightsEach Tryd.prog (Tryd.f3.params.toList ++ Rows.codeDecodesSpec.plain.varTypes Tryd.prog) (ds ++ gs)).all (· ≤ reachBytes) = true := hsz0
  clear hsz0
  obtain ⟨p, q, hAA, hV, rfl, hfz, hnd⟩ := hW
  have hA : DataW.TrodAll enc Tryd.prog W 0 (fun _ => true) true Tryd.f3.params.toList args.toList ds p := hAA
  rw [Tryd.params3] at hA hval hsz
  obtain ⟨v0, vs0, d0, ds0, p0, q0, hargs, rfl, rfl, h0, r0⟩ := trodAll_cons hA
  obtain ⟨rfl, rfl, rfl⟩ := trodAll_nil r0
  obtain rfl : args = #[v0] := by cases args; simp_all
  obtain ⟨rfl, rfl⟩ := trodVars_none hV
  obtain ⟨A0, n0, c0, L0, rfl, hL0, hY0, hA0, hm0, hd0⟩ := open_bytes (hval 0 22 v0 rfl rfl) h0
  have hr0 : n0 ≤ 140737488355328 ∧ n0 ≤ c0 := by
    rcases hd0 with ⟨_, h⟩ | ⟨zs, hz, hc, rfl⟩
    · omega
    · have := sized_slice hsz (j := 0) (t := 22) (e := 5) rfl rfl Tryd.underlying22
      rw [show Tryd.prog.bytesOf 5 = 1 by kernel_rfl] at this
      simp only [lits, List.length_map, List.length_take, List.length_drop, reachBytes] at this
      omega
  have hl0 : Left W W.heap.size A0 n0 c0 L0 := ⟨hL0, hY0, fun hn => by
    obtain ⟨b, off, e, h1, h2⟩ := hA0 (by omega)
    exact ⟨hr0.2, b, off, e, h1, h2⟩⟩
  clear hAA
  refine (codeDecodes_walk W A0 n0 c0 L0 hl0 (by omega) (tabs_of hL)).mono fun e W' ⟨he, hb⟩ => ?_
  subst he
  exact ⟨_, rfl, law_post laidOut Tryd.underlying4 rfl rfl (by decide +kernel) hW' rfl hb⟩
theorem codeDecodes_met (os : Os) : laidMet Tryd.prog Rows.codeDecodesRow.laid ((laidWorld os).forCall (fun _ _ => 0) ⟨#[], #[.slice none 0 0], []⟩).memory :=
  laidMet_of_run' 8 (by kernel_rfl) (by kernel_rfl)
theorem codeDecodes_reads (os : Os) {H : Type} (enc : TypeId × Value → H) : ∃ places, DataW.whole enc Tryd.prog ((laidWorld os).forCall (fun _ _ => 0) ⟨#[], #[.slice none 0 0], []⟩).memory Tryd.f3.params.toList Rows.codeDecodesSpec.vars false (#[.slice none 0 0] : Array Value).toList 8 = some ([.nil], [], places) :=
  ⟨[], by kernel_rfl⟩
set_option maxRecDepth 100000 in
theorem codeDecodes_lifted (os : Os) (started : os.Started) (H : Type) (enc : TypeId × Value → H) (F : Stop.Interp) :
    ReturnsInHanded {} Tryd.checked os 3 .any ((OpenSpec.ofChange Rows.codeDecodesSpec).preRow enc Tryd.prog Tryd.f3 Rows.codeDecodesRow.domain false Rows.codeDecodesRow.laid) (((OpenSpec.ofChange Rows.codeDecodesSpec).at F).post enc Tryd.prog Tryd.f3 false true false false) := by
  obtain ⟨places, hx⟩ := codeDecodes_reads os enc
  refine returnsInHanded_of_row (C := Tryd.checked) (s := (OpenSpec.ofChange Rows.codeDecodesSpec)) own started (by kernel_rfl) Tryd.func3
    (witness_row_at (enc := enc) (C := Tryd.checked) false (laidWorld os) #[.slice none 0 0] rfl (by kernel_rfl) (by kernel_rfl) (by kernel_rfl)
      (OpenSpec.preRow_of_cond 8 hx (by kernel_rfl) (fun k hk => by cases hk) (by kernel_rfl) (codeDecodes_met os))) ?_
  intro W base args ds gs before hval hW _ _ hsz hL _ _
  exact codeDecodes_contract H enc W base args ds gs before hval hW hsz hL
theorem codeDecodes_over : Rows.codeDecodesRow.holds Tryd.pinned (OpenSpec.ofChange Rows.codeDecodesSpec) :=
  OpenClaim.holds_of_cond 3 Tryd.f3 rfl rfl rfl rfl rfl rfl rfl ⟨rfl, rfl, rfl, rfl, rfl⟩ rfl rfl rfl rfl rfl (by kernel_rfl) Tryd.func3 (by kernel_rfl)
    (of_decide_eq_true (by kernel_rfl)) (by unfold Func.isWrapper; first | (rw [if_pos (by decide +kernel)]; kernel_rfl) | (rw [if_neg (by decide +kernel)]; exact ⟨rfl, rfl⟩))
    (fun os started H enc _ F => by rw [OpenClaim.pre_eq_preRow]; exact codeDecodes_lifted os started H enc F)
theorem codeDecodes_plain (f : FuncId) (fn : Func) (hf : Tryd.pinned.checked.prog.funcNamed "warrant/warrantlaw02.CodeDecodes" = some f) (hfn : Tryd.pinned.checked.prog.funcs[f]? = some fn) :
    true = Tryd.pinned.checked.prog.looks [] ∧ ∀ (j : Nat) t, fn.params[j]? = some t → Tryd.pinned.checked.prog.wantsStandIn t = false := by
  obtain rfl : f = 3 := Option.some.inj ((show Tryd.prog.funcNamed "warrant/warrantlaw02.CodeDecodes" = some 3 by kernel_rfl).symm.trans hf) |>.symm
  obtain rfl : fn = Tryd.f3 := (Option.some.inj (Tryd.func3.symm.trans hfn)).symm
  refine ⟨by kernel_rfl, fun j t ht => ?_⟩
  rw [Tryd.params3] at ht
  rcases j with _ | j
  · obtain rfl : 22 = t := Option.some.inj ht
    kernel_rfl
  simp at ht
theorem codeDecodes_proved : Rows.CodeDecodesCardSaid :=
  Claim7.holds_tied_plain_at .later [] _ _ _ _ codeDecodes_over (fun _ h => by cases h) (by kernel_rfl) (fun _ h => by cases h) codeDecodes_row_tie rfl ⟨rfl, rfl⟩ (by kernel_rfl) rfl codeDecodes_plain (by kernel_rfl)
#print axioms codeDecodes_proved
end Go.Proofs.YtaglclmfjopnlaaDoor
