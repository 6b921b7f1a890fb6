/- Texts in one: RefD RefJ RefK CodeEncodesEnd. -/
import Derived.Test.YtaglclmfjopnlaaDoorRefM
import Derived.Test.YtaglclmfjopnlaaDoorRefF
import Derived.Test.YtaglclmfjopnlaaDoorCodeT
import Derived.Deep.DeepCutAuto
import Derived.Test.YtaglclmfjopnlaaDoorRefI
import Derived.StillTailTactics
import Derived.Test.YtaglclmfjopnlaaDoorLentI
import Derived.Test.YtaglclmfjopnlaaDoorCodeEnd
import Derived.Test.YtaglclmfjopnlaaDoorOpenC
import Derived.Test.YtaglclmfjopnlaaDoorMarkEnd
/- The table of rows, plain mathematics: what is written by a row is what package code writes; what is read by the rows of an opcode is what package code reads. -/
namespace Go.Proofs.YtaglclmfjopnlaaDoor
open Go.RowKit
open Cod
set_option linter.unusedVariables false

/-! a row's own numbers -/
def srcN (op : Int) : Int := if op = 21 then 6 else 0
def offN (op size : Int) : Int := if op = 6 ∨ op = 7 then 1 else if op = 16 then size else 0
def immN (op size : Int) : Int := if op = 17 ∨ op = 18 ∨ op = 19 then size else 0
def formOk2 (op : Int) (nar reg : Bool) (size : Int) : Bool :=
  match findR op nar reg size with
  | none => true
  | some y => y.code == opcodeL op nar reg size && y.reg == reg && y.size == size && (y.dst == -1 || y.dst == 0) && (if y.src = -1 then decide (op ≠ 21) else y.src == srcN op) && (if y.off = -1 then decide (op ≠ 6) && (decide (op ≠ 7) && decide (op ≠ 16)) else y.off == offN op size) &&
      (if y.imm = -1 then decide (op ≠ 21) && (decide (op ≠ 17) && (decide (op ≠ 18) && decide (op ≠ 19))) else decide (op ≠ 20) && y.imm == immN op size) && ((y.second == -1) == (op == 20 || op == 21))
def chkR2 : Bool := (List.range 40).all fun op => [true, false].all fun nar => [true, false].all fun reg => sizesA.all fun size => formOk2 op nar reg size
theorem chkR2_ok : chkR2 = true := by kernel_rfl
theorem form_ok2 (op : Int) (nar reg : Bool) (size : Int) : formOk2 op nar reg size = true := by
  by_cases h : (1 ≤ op ∧ op ≤ 39) ∧ size ∈ sizesA
  · obtain ⟨⟨h1, h2⟩, h3⟩ := h
    have h0 := chkR2_ok
    unfold chkR2 at h0
    have a1 := List.all_eq_true.1 h0 op.toNat (List.mem_range.2 (by omega))
    rw [show ((op.toNat : Nat) : Int) = op by omega] at a1
    have a2 := List.all_eq_true.1 a1 nar (by cases nar <;> simp)
    have a3 := List.all_eq_true.1 a2 reg (by cases reg <;> simp)
    exact List.all_eq_true.1 a3 size h3
  · have hn : findR op nar reg size = none := by
      unfold findR
      rw [List.find?_eq_none]
      intro r hr hf
      have hk := List.all_eq_true.1 rows_ok r hr
      unfold rowOk at hk
      unfold RRow.fitsI at hf
      simp only [Bool.and_eq_true, decide_eq_true_eq, beq_iff_eq, List.contains_iff_mem] at hk hf
      refine h ⟨by omega, ?_⟩
      rw [← hf.2]; exact hk.2
    unfold formOk2
    rw [hn]
structure Found2 (op : Int) (nar reg : Bool) (size : Int) (y : RRow) : Prop where
  code : y.code = opcodeL op nar reg size
  eqReg : y.reg = reg
  eqSize : y.size = size
  dst : y.dst = -1 ∨ y.dst = 0
  src : (y.src = -1 ∧ op ≠ 21) ∨ (y.src ≠ -1 ∧ y.src = srcN op)
  off : (y.off = -1 ∧ op ≠ 6 ∧ op ≠ 7 ∧ op ≠ 16) ∨ (y.off ≠ -1 ∧ y.off = offN op size)
  imm : (y.imm = -1 ∧ op ≠ 21 ∧ op ≠ 17 ∧ op ≠ 18 ∧ op ≠ 19) ∨ (y.imm ≠ -1 ∧ op ≠ 20 ∧ y.imm = immN op size)
  second : (y.second == -1) = (op == 20 || op == 21)
theorem found_more {op : Int} {nar reg : Bool} {size : Int} {y : RRow} (h : findR op nar reg size = some y) : Found2 op nar reg size y := by
  have hf := form_ok2 op nar reg size
  unfold formOk2 at hf
  rw [h] at hf
  simp only [Bool.and_eq_true, beq_iff_eq, Bool.or_eq_true] at hf
  obtain ⟨⟨⟨⟨⟨⟨⟨f0, f1⟩, f2⟩, f3⟩, f4⟩, f5⟩, f6⟩, f7⟩ := hf
  refine ⟨f0, f1, f2, f3, ?_, ?_, ?_, f7⟩
  · split at f4
    · rename_i e; exact .inl ⟨e, of_decide_eq_true f4⟩
    · rename_i e; exact .inr ⟨e, by simpa using f4⟩
  · split at f5
    · rename_i e
      simp only [Bool.and_eq_true, decide_eq_true_eq] at f5
      exact .inl ⟨e, f5.1, f5.2.1, f5.2.2⟩
    · rename_i e; exact .inr ⟨e, by simpa using f5⟩
  · split at f6
    · rename_i e
      simp only [Bool.and_eq_true, decide_eq_true_eq] at f6
      exact .inl ⟨e, f6.1, f6.2.1, f6.2.2.1, f6.2.2.2⟩
    · rename_i e
      simp only [Bool.and_eq_true, decide_eq_true_eq, beq_iff_eq] at f6
      exact .inr ⟨e, f6.1, f6.2⟩

/-! bytes -/
def lowL (x : Int) : Nat → List Int
  | 0 => []
  | k + 1 => x % 256 :: lowL (x / 256) k
def pickN (own x : Int) : Int := if own = -1 then x else own
def bytesR (y : RRow) (x : Ins) : List Int :=
  [y.code % 256, (16 * pickN y.src x.src + pickN y.dst x.dst) % 256] ++ lowL (pickN y.off x.off) 2 ++ lowL (pickN y.imm x.imm) 4 ++
  (if x.op = 20 then [0, 0, 0, 0] ++ lowL (x.imm / 4294967296) 4 else if x.op = 21 then [0, 0, 0, 0] ++ lowL x.imm 4 else [])
theorem low2 (x : Int) : lowL x 2 = [x % 256, x / 256 % 256] := rfl
theorem low4 (x : Int) : lowL x 4 = [x % 256, x / 256 % 256, x / 65536 % 256, x / 16777216 % 256] := by
  simp only [lowL]
  rw [show x / 256 / 256 = x / 65536 by omega, show x / 65536 / 256 = x / 16777216 by omega]
theorem low4_wrap (x : Int) : lowL (wrap32 x) 4 = lowL x 4 := by
  rw [low4, low4]
  unfold wrap32
  have e1 : ((x + 2147483648) % 4294967296 - 2147483648) % 256 = x % 256 := by omega
  have e2 : ((x + 2147483648) % 4294967296 - 2147483648) / 256 % 256 = x / 256 % 256 := by omega
  have e3 : ((x + 2147483648) % 4294967296 - 2147483648) / 65536 % 256 = x / 65536 % 256 := by omega
  have e4 : ((x + 2147483648) % 4294967296 - 2147483648) / 16777216 % 256 = x / 16777216 % 256 := by omega
  rw [e1, e2, e3, e4]
theorem unitB_low (oc d s o m : Int) (hd : 0 ≤ d ∧ d < 16) (hs : 0 ≤ s ∧ s < 16) : unitB oc d s o m = [oc % 256, (16 * s + d) % 256] ++ lowL o 2 ++ lowL m 4 := by
  rw [low2, low4]
  unfold unitB
  rw [or_nib hd hs, Int.add_comm d]
  rfl
theorem unitB_zero (m : Int) : unitB 0 0 0 0 m = [0, 0, 0, 0] ++ lowL m 4 := by
  rw [unitB_low 0 0 0 0 m (by decide) (by decide)]; rfl
theorem bytes_ref {i : Ins} {y : RRow} (h : Right i) (hy : findR i.op i.nar i.reg i.size = some y) : bytesR y i = insB i := by
  have F := found_some hy
  have G := found_more hy
  have hr := regs_rng h
  have hp4 := F.dst
  have hp8 := F.src
  have hp16 := F.off
  have hd : pickN y.dst i.dst = i.dst := by
    unfold pickN
    rcases G.dst with e | e
    · rw [if_pos e]
    · rw [e] at hp4 ⊢
      rcases h.dst with h1 | h1
      · rw [h1] at hp4; exact absurd hp4 (by decide)
      · rw [h1]; rfl
  have hs : pickN y.src i.src = firstS i := by
    unfold pickN firstS
    rcases G.src with ⟨e, e2⟩ | ⟨e, e2⟩
    · rw [if_pos e, if_neg e2]
    · rw [if_neg e, e2]
      unfold srcN
      split
      · rfl
      · rcases h.src with h1 | h1
        · rw [h1] at hp8
          have : y.src = -1 := by simpa using hp8
          exact absurd this e
        · exact h1.symm
  have ho : pickN y.off i.off = firstO i := by
    unfold pickN firstO
    rcases G.off with ⟨e, e2, e3, e4⟩ | ⟨e, e2⟩
    · rw [if_pos e, if_neg (by omega), if_neg e4]
    · rw [if_neg e, e2]
      unfold offN
      split
      · rfl
      · split
        · rfl
        · rcases h.off with h1 | h1
          · rw [h1] at hp16
            have : y.off = -1 := by simpa using hp16
            exact absurd this e
          · exact h1.symm
  have hm : lowL (pickN y.imm i.imm) 4 = lowL (firstI i) 4 := by
    unfold pickN firstI
    rcases G.imm with ⟨e, e2, e3, e4, e5⟩ | ⟨e, e2, e3⟩
    · rw [if_pos e, if_neg (by omega)]
      split
      · exact (low4_wrap _).symm
      · first | rfl | rw [if_neg e2]
    · rw [if_neg e, e3]
      unfold immN
      split
      · rfl
      · try rw [if_neg e2]
        split
        · rfl
        · rename_i h21
          rcases imm_named i h with h1 | h1
          · have hq := F.imm
            rw [h1] at hq
            have hsec := G.second
            have : (y.second == -1) = false := by rw [hsec]; simp [e2, h21]
            rw [this] at hq
            have : y.imm = -1 := by simpa using hq
            exact absurd this e
          · rw [h1]
  have hf : 0 ≤ firstS i ∧ firstS i < 16 := by unfold firstS; split <;> omega
  unfold bytesR insB
  rw [hd, hs, ho, hm, unitB_low i.oc i.dst (firstS i) (firstO i) (firstI i) hr.1 hf, G.code, show opcodeL i.op i.nar i.reg i.size = i.oc from rfl, unitB_zero]
  congr 1
  unfold isLong secondI
  by_cases h20 : i.op = 20
  · simp [h20]
  · by_cases h21 : i.op = 21
    · simp [h21]
    · simp [h20, h21]

/-! reading by the rows of one opcode -/
def rowsC (c : Int) : List RRow := rowsL.filter fun r => r.code == c
def fitR (r : RRow) (dst src off : Int) : Bool := (r.dst == -1 || r.dst == dst) && (r.src == -1 || r.src == src) && (r.off == -1 || r.off == off)
def immR (r : RRow) (imm sec : Int) : Int := if r.op = 20 then sec * 4294967296 + (if imm < 0 then imm + 4294967296 else imm) else if r.op = 21 then sec else if r.imm = -1 then imm else 0
def insR (r : RRow) (dst src off imm sec : Int) : Ins := ⟨r.op, r.nar, r.reg, r.size, if r.dst = -1 then dst else 0, if r.src = -1 then src else 0, if r.off = -1 then off else 0, immR r imm sec⟩
def readR (r : RRow) (imm sec : Int) : Bool :=
  if r.imm ≠ -1 ∧ r.imm ≠ imm then false else if r.imm = -1 ∨ r.second = -1 then goodR r (immR r imm sec) else true
def formI (r : RRow) : Ins := ⟨r.op, r.nar, r.reg, r.size, 0, 0, 0, 0⟩
theorem own_ok : (rowsL.all fun r => decide (findR r.op r.nar r.reg r.size = some r)) = true := by kernel_rfl
theorem find_own {r : RRow} (h : r ∈ rowsL) : findR r.op r.nar r.reg r.size = some r := of_decide_eq_true (List.all_eq_true.1 own_ok r h)
theorem beq_bit {a x : Int} {b : Bool} (h : (a == -1) = b) : (if a = -1 then x else 0) = if b = true then x else 0 := by
  subst h
  by_cases e : a = -1 <;> simp [e]
structure Core (r : RRow) (u v : U) (i : Ins) : Prop where
  ins : insR r u.dst u.src u.off u.imm v.imm = i
  regs : regsR r u.dst u.src u.imm = registersL i.op i.nar i.reg i.dst i.src i.imm
  fit : fitR r u.dst u.src u.off = decide (u.dst = i.dst ∧ u.src = firstS i ∧ u.off = firstO i)
  read : readR r u.imm v.imm = decide (u.imm = firstI i ∧ sizedL i.op i.nar i.size = true ∧ immediateL i.op i.nar i.reg i.imm = true)
theorem bit_prop {a : Int} (b : Prop) [Decidable b] (h : (a == 1) = decide b) : (a = 1) = b := by
  apply propext
  by_cases hb : b
  · have : (a == 1) = true := by rw [h]; exact decide_eq_true hb
    exact ⟨fun _ => hb, fun _ => by simpa using this⟩
  · have : (a == 1) = false := by rw [h]; exact decide_eq_false hb
    exact ⟨fun e => by rw [e] at this; exact absurd this (by decide), fun e => absurd e hb⟩
theorem core {r : RRow} (hr : r ∈ rowsL) {u v : U} (hu : UOk u) (hv : UOk v) : Core r u v (filledL (formI r) u v) := by
  have hy := find_own hr
  have F := found_some (i := formI r) hy
  have G := found_more hy
  have hui := hu.imm
  have p4 : ((formI r).p / 4 % 2 = 1) = (r.dst = -1) := bit_prop _ (by rw [← F.dst]; rfl)
  have p8 : ((formI r).p / 8 % 2 = 1) = (r.src = -1) := bit_prop _ (by rw [← F.src]; rfl)
  have p16 : ((formI r).p / 16 % 2 = 1) = (r.off = -1) := bit_prop _ (by rw [← F.off]; rfl)
  have p32 : ((formI r).p / 32 % 2 = 1) = (r.imm = -1 ∨ r.second = -1) := bit_prop _ (by rw [← F.imm, Bool.eq_iff_iff]; simp)
  have hsec : r.second = -1 ↔ (r.op = 20 ∨ r.op = 21) := by
    have := G.second
    constructor
    · intro e; rw [e] at this; simpa using this.symm
    · intro e
      have h2 : (r.op == 20 || r.op == 21) = true := by simpa using e
      rw [h2] at this; simpa using this
  have ein : insR r u.dst u.src u.off u.imm v.imm = filledL (formI r) u v := by
    unfold insR filledL
    simp only [p4, p8, p16, p32]
    have e : immR r u.imm v.imm = if (formI r).op = 20 then v.imm * 4294967296 + u.imm % 4294967296 else if (formI r).op = 21 then v.imm else if r.imm = -1 ∨ r.second = -1 then u.imm else (formI r).imm := by
      show immR r u.imm v.imm = if r.op = 20 then v.imm * 4294967296 + u.imm % 4294967296 else if r.op = 21 then v.imm else if r.imm = -1 ∨ r.second = -1 then u.imm else 0
      unfold immR
      by_cases h20 : r.op = 20
      · rw [if_pos h20, if_pos h20]; split <;> omega
      rw [if_neg h20, if_neg h20]
      by_cases h21 : r.op = 21
      · rw [if_pos h21, if_pos h21]
      rw [if_neg h21, if_neg h21]
      by_cases hi : r.imm = -1
      · rw [if_pos hi, if_pos (.inl hi)]
      · rw [if_neg hi, if_neg (by rw [hsec]; omega)]
    rw [e]
    rfl
  have hq : (filledL (formI r) u v).op = r.op ∧ (filledL (formI r) u v).nar = r.nar ∧ (filledL (formI r) u v).reg = r.reg ∧ (filledL (formI r) u v).size = r.size := ⟨rfl, rfl, rfl, rfl⟩
  have hd : (filledL (formI r) u v).dst = if r.dst = -1 then u.dst else 0 := by rw [← ein]; rfl
  have hs : (filledL (formI r) u v).src = if r.src = -1 then u.src else 0 := by rw [← ein]; rfl
  have ho : (filledL (formI r) u v).off = if r.off = -1 then u.off else 0 := by rw [← ein]; rfl
  have hm : (filledL (formI r) u v).imm = immR r u.imm v.imm := by rw [← ein]; rfl
  obtain ⟨q1, q2, q3, q4⟩ := hq
  have hvi := hv.imm
  generalize filledL (formI r) u v = i at *
  refine ⟨ein, ?_, ?_, ?_⟩
  · rw [q1, q2, q3]
    refine Eq.trans ?_ (F.regs i.dst i.src i.imm)
    rw [hd, hs, hm]
    unfold regsR
    by_cases e1 : r.dst = -1
    · by_cases e2 : r.src = -1
      · rw [if_pos e1, if_pos e2]
        by_cases e25 : r.op = 25
        · have : immR r u.imm v.imm = u.imm := by
            unfold immR
            rw [if_neg (by omega), if_neg (by omega)]
            rcases G.imm with ⟨e, _⟩ | ⟨e, _, e3⟩
            · rw [if_pos e]
            · exfalso
              have h1 := F.imm
              have h2 : ((formI r).p / 32 % 2 == 1) = true := by
                show (namedL r.op r.nar r.reg / 32 % 2 == 1) = true
                rw [e25]; cases r.nar <;> cases r.reg <;> rfl
              rw [h2] at h1
              have h3 : (r.second == -1) = false := by rw [G.second, e25]; rfl
              rw [h3] at h1
              exact e (by simpa using h1)
          rw [this]
        · have : (r.op == 25) = false := by rw [beq_eq_false_iff_ne]; exact e25
          rw [this]; rfl
      · have : (r.src == -1) = false := by rw [beq_eq_false_iff_ne]; exact e2
        rw [if_pos e1, this]; rfl
    · have : (r.dst == -1) = false := by rw [beq_eq_false_iff_ne]; exact e1
      rw [this]
      by_cases e2 : r.src = -1
      · rw [if_pos e2]
        by_cases e25 : r.op = 25
        · exfalso
          have h1 := F.dst
          have h2 : ((formI r).p / 4 % 2 == 1) = true := by
            show (namedL r.op r.nar r.reg / 4 % 2 == 1) = true
            rw [e25]; cases r.nar <;> cases r.reg <;> rfl
          rw [h2] at h1
          exact e1 (by simpa using h1)
        · have : (r.op == 25) = false := by rw [beq_eq_false_iff_ne]; exact e25
          rw [this]; rfl
      · have : (r.src == -1) = false := by rw [beq_eq_false_iff_ne]; exact e2
        rw [this]; rfl
  · have k1 : (r.dst == -1 || r.dst == u.dst) = decide (u.dst = i.dst) := by
      rw [hd]
      rcases G.dst with e | e
      · rw [e]; simp
      · rw [e, if_neg (by decide), Bool.eq_iff_iff]; simp; exact eq_comm
    have k2 : (r.src == -1 || r.src == u.src) = decide (u.src = firstS i) := by
      unfold firstS
      rw [q1, hs]
      rcases G.src with ⟨e, e2⟩ | ⟨e, e2⟩
      · rw [e, if_neg e2]; simp
      · rw [if_neg e, show (r.src == -1) = false by rw [beq_eq_false_iff_ne]; exact e, Bool.false_or, e2, Bool.eq_iff_iff]
        unfold srcN
        simp; exact eq_comm
    have k3 : (r.off == -1 || r.off == u.off) = decide (u.off = firstO i) := by
      unfold firstO
      rw [q1, q4, ho]
      rcases G.off with ⟨e, e2, e3, e4⟩ | ⟨e, e2⟩
      · rw [e, if_neg (by omega), if_neg e4]; simp
      · rw [if_neg e, show (r.off == -1) = false by rw [beq_eq_false_iff_ne]; exact e, Bool.false_or, e2, Bool.eq_iff_iff]
        unfold offN
        simp; exact eq_comm
    unfold fitR
    rw [k1, k2, k3, Bool.eq_iff_iff]
    simp only [Bool.and_eq_true, decide_eq_true_eq]
    exact and_assoc
  · have hsz : sizedL i.op i.nar i.size = true := by rw [q1, q2, q4]; exact (op_sized F.ops).2
    have himm : immediateL i.op i.nar i.reg i.imm = if r.imm = -1 ∨ r.second = -1 then immB r.op r.nar i.imm else i.imm == 0 := by
      rw [immediate_b, q1, q2, q3]
      have : ((namedL r.op r.nar r.reg / 32 % 2 == 1) = true) = (r.imm = -1 ∨ r.second = -1) := by
        rw [← p32]; simp [Ins.p, formI]
      simp only [this]
    rcases G.imm with ⟨e, e2, e3, e4, e5⟩ | ⟨e, e2, e3⟩
    · have hF : firstI i = u.imm := by
        unfold firstI
        rw [q1, q4, hm, if_neg (by omega)]
        unfold immR
        by_cases h20 : r.op = 20
        · rw [if_pos h20, if_pos h20]; unfold wrap32; split <;> omega
        · rw [if_neg h20, if_neg h20, if_neg e2, if_neg e2, if_pos e]
      have hI : immediateL i.op i.nar i.reg i.imm = immB r.op r.nar (immR r u.imm v.imm) := by rw [himm, if_pos (.inl e), hm]
      have hR : readR r u.imm v.imm = immB r.op r.nar (immR r u.imm v.imm) := by
        unfold readR
        rw [if_neg (fun h => h.1 e), if_pos (.inl e), good_imm]
      rw [hR, hF, hI, hsz]
      simp
    · have hF : firstI i = r.imm := by
        unfold firstI
        rw [q1, q4, hm, e3]
        unfold immN
        by_cases h17 : r.op = 17 ∨ r.op = 18 ∨ r.op = 19
        · rw [if_pos h17, if_pos h17]
        · rw [if_neg h17, if_neg h17, if_neg e2]
          by_cases h21 : r.op = 21
          · rw [if_pos h21]
          · rw [if_neg h21]; unfold immR; rw [if_neg e2, if_neg h21, if_neg e]
      rw [hF]
      by_cases hc : r.imm = u.imm
      · by_cases h21 : r.op = 21
        · have hs2 : r.second = -1 := hsec.2 (.inr h21)
          have hI : immediateL i.op i.nar i.reg i.imm = immB r.op r.nar (immR r u.imm v.imm) := by rw [himm, if_pos (.inr hs2), hm]
          have hR : readR r u.imm v.imm = immB r.op r.nar (immR r u.imm v.imm) := by
            unfold readR
            rw [if_neg (fun h => h.2 hc), if_pos (.inr hs2), good_imm]
          rw [hR, hI, hsz, ← hc]
          simp
        · have hn : ¬ (r.imm = -1 ∨ r.second = -1) := by rw [hsec]; omega
          have hz : immR r u.imm v.imm = 0 := by unfold immR; rw [if_neg e2, if_neg h21, if_neg e]
          have hI : immediateL i.op i.nar i.reg i.imm = true := by rw [himm, if_neg hn, hm, hz]; rfl
          have hR : readR r u.imm v.imm = true := by
            unfold readR
            rw [if_neg (fun h => h.2 hc), if_neg hn]
          rw [hR, hI, hsz, ← hc]
          simp
      · have hR : readR r u.imm v.imm = false := by unfold readR; rw [if_pos ⟨e, hc⟩]
        rw [hR]
        symm
        rw [decide_eq_false_iff_not]
        rintro ⟨h1, -⟩
        exact hc h1.symm
end Go.Proofs.YtaglclmfjopnlaaDoor
/- Bytes of an instruction, of the document's answer for package code: low and bytes. -/
namespace Go.Proofs.YtaglclmfjopnlaaDoor
open Go.ChangeShapes Go.WideShapes Go.ChangeAt Go.RowKit
open Cod Bits
set_option linter.unusedVariables false
set_option linter.unusedSimpArgs false

/-- a slice of the caller's own grew: nothing else was written -/
structure Grew (v0 : Value) (w0 : World) (v : Value) (w : World) : Prop where
  size : w0.heap.size ≤ w.heap.size
  kept : ∀ b, b < w0.heap.size → some b ≠ v0.ownBlock → w.heap[b]? = w0.heap[b]?
  own : v.ownBlock = v0.ownBlock ∨ ∃ g, v.ownBlock = some g ∧ w0.heap.size ≤ g
theorem Grew.refl (v : Value) (w : World) : Grew v w v w := ⟨Nat.le_refl _, fun _ _ _ => rfl, .inl rfl⟩
theorem Grew.trans {v0 v1 v2 : Value} {w0 w1 w2 : World} (h : Grew v0 w0 v1 w1) (k : Grew v1 w1 v2 w2) : Grew v0 w0 v2 w2 := by
  refine ⟨Nat.le_trans h.size k.size, fun b hb hne => ?_, ?_⟩
  · rw [k.kept b (Nat.lt_of_lt_of_le hb h.size) ?_, h.kept b hb hne]
    rcases h.own with e | ⟨g, e, hg⟩
    · rw [e]; exact hne
    · rw [e]; intro e2; injection e2 with e2; omega
  · rcases k.own with e | ⟨g, e, hg⟩
    · rw [e]; exact h.own
    · exact .inr ⟨g, e, Nat.le_trans h.size hg⟩
theorem Grew.alloc {v0 v : Value} {w0 w : World} (h : Grew v0 w0 v w) (o : Obj) : Grew v0 w0 v (w.alloc o) :=
  ⟨Nat.le_trans h.size (by simp), fun b hb hne => (Below.heap_alloc w o b (Nat.lt_of_lt_of_le hb h.size)).trans (h.kept b hb hne), h.own⟩
theorem Blk.grew {w w' : World} {g : Nat} {t : TypeId} {cs : Array Value} {v v' : Value} (h : Blk w g t cs) (k : Grew v w v' w') (hne : some g ≠ v.ownBlock) : Blk w' g t cs := (k.kept g h.lt hne).trans h
theorem OwnB.form' {w : World} {base : Nat} {v : Value} {L : List Int} (h : OwnB w base v L) : ∃ A m c, v = .slice A m c ∧ Hid (m = L.length) := by
  obtain ⟨A, c, hv, _⟩ := h.form
  exact ⟨A, _, c, hv, Lib.hid rfl⟩
theorem append_bytes3 {P : Program} (hu : P.underlying 22 = some (.slice 5)) (hinf : (P.info? 5).map (fun i => (i.zero, i.size, i.bytes)) = some (some (.int .u8 0), 1, 1)) (w : World) {ops : Array Oper} {rest : List Oper} {o : Oper} {a : Act} {Q : Exit → Act → World → Prop} (hgd : o.guard = none) (s x : Operand)
    (ho : o.op = .call { callee := .builtin .append, args := #[s, x], argTypes := #[22, 22] })
    (base : Nat) (v : Value) (L : List Int) (hs : a.eval s = v) (hown : OwnB w base v L)
    (A : Option Addr) (m c : Nat) (M : List Int) (hx : a.eval x = .slice A m c) (hm : M.length = m) (hr : BytesAt w A M)
    (hlen : L.length + m ≤ 140737488355328) (hbase : base ≤ w.heap.size)
    (h : ∀ v' w', OwnB w' base v' (L ++ M) → Below base w w' → Grew v w v' w' → wpList P ops Q rest (a.put o.dst v') w') : wpList P ops Q (o :: rest) a w := by
  subst hm
  obtain ⟨i0, hi, hz0, hz1, hz2⟩ := info_parts hinf
  refine wpList_append_any w hgd s x 22 ho base 5 i0 (.int .u8 0) 1 1 hu hi hz0 hz1 hz2 rfl (by decide) v L.length _ hs hown w.heap.size A M.length c _ hx hr.reads
    (fun u hu => ?_) (by unfold maxLen; omega) (by omega) hbase ?_
  · simp only [List.mem_map] at hu
    obtain ⟨z, _, rfl⟩ := hu
    rfl
  · intro v' w' h1 h2 h3
    have hB := (Below.refl base w).grown h2 hbase fun k hk => (World.ownsRow.lt hown k hk).1
    have hbig := (Below.refl base w).grown h2 hbase fun k hk => (World.ownsRow.lt hown k hk).1
    refine h v' w' ?_ hB ⟨h2.size, fun b hb hne => h2.block b hb hne, ?_⟩
    · unfold OwnB
      rw [List.length_append, List.map_append]
      exact h1
    · rcases h3 with e | e
      · exact .inl e
      · exact .inr ⟨_, e, Nat.le_refl _⟩
theorem and_255 (x : Int) : bits BinOp.and IntKind.i64 x 255 = x % 256 := by
  show IntKind.i64.wrap (((BitVec.ofInt 64 x &&& BitVec.ofInt 64 255).toNat : Nat) : Int) = x % 256
  have e1 : (BitVec.ofInt 64 (255 : Int)).toNat = 2 ^ 8 - 1 := by decide
  rw [BitVec.toNat_and, e1, Nat.and_two_pow_sub_one_eq_mod, BitVec.toNat_ofInt]
  have e2 : (((x % ((2 ^ 64 : Nat) : Int)).toNat % 2 ^ 8 : Nat) : Int) = x % 256 := by omega
  rw [e2]
  exact IntWalk.i64_in _ (by omega)
theorem lowL_take (x : Int) (k j : Nat) (h : j < k) : (lowL x k).take (j + 1) = (lowL x k).take j ++ [x / 256 ^ j % 256] := by
  induction k generalizing x j with
  | zero => omega
  | succ k ih =>
    cases j with
    | zero => simp [lowL]
    | succ j =>
      rw [lowL, List.take_succ_cons, List.take_succ_cons, ih (x / 256) j (by omega), List.cons_append, Int.pow_succ, Int.mul_comm, Int.ediv_ediv_of_nonneg (by decide)]
theorem lowL_len (x : Int) (k : Nat) : (lowL x k).length = k := by
  induction k generalizing x with
  | zero => rfl
  | succ k ih => rw [lowL, List.length_cons, ih]
theorem pow_pos256 (j : Nat) : (0 : Int) < 256 ^ j := by
  induction j with
  | zero => decide
  | succ j ih => rw [Int.pow_succ]; omega
theorem div_next (x : Int) (j : Nat) : x / 256 ^ (j + 1) = x / 256 ^ j / 256 := by
  rw [Int.pow_succ, Int.ediv_ediv_of_nonneg (Int.le_of_lt (pow_pos256 j))]
theorem div_pow_rng {x : Int} (hx : -9223372036854775808 ≤ x ∧ x < 9223372036854775808) (j : Nat) : -9223372036854775808 ≤ x / 256 ^ j ∧ x / 256 ^ j < 9223372036854775808 := by
  induction j with
  | zero => simpa using hx
  | succ j ih => rw [div_next]; omega
theorem bytes_at1 (W : World) (x : Int) : BytesAt (W.alloc (.cells #[.int .u8 x] 5)) (some ⟨W.heap.size, 0, none⟩) [x] := (ByteBlk.new W [x]).at_
set_option maxHeartbeats 4000000 in
theorem rlow_any (x : Int) (k : Nat) (hk : k ≤ 8) (w : World) (base : Nat) (v : Value) (L : List Int) (hx : -9223372036854775808 ≤ x ∧ x < 9223372036854775808) (hown : OwnB w base v L) (hl : L.length ≤ 1099511627776) (hb : base ≤ w.heap.size) :
    Calls Tryd.prog 56 #[v, .int .i64 x, .int .i64 k] w fun e w' => ∃ v', e = .returned v' ∧ OwnB w' base v' (L ++ lowL x k) ∧ Below base w w' ∧ Grew v w v' w' := by
  have hg := Grew.refl v w
  obtain ⟨A, c, rfl, -⟩ := hown.form
  have HO := Lib.hid hown
  have HG := Lib.hid hg
  clear hown hg
  go_enter Tryd.func56, Tryd.ntmps56
  go_wp2_with fail
  go_loopw [0, 1, 7] (fun v' y i wr => ∃ j : Nat, j ≤ k ∧ i = .int .i64 j ∧ y = .int .i64 (x / 256 ^ j) ∧ OwnB wr base v' (L ++ (lowL x k).take j) ∧ Below base w wr ∧ Grew (.slice A L.length c) w v' wr) (fun _ _ i _ => (k - intOf i).toNat)
  case atStart => exact ⟨0, Nat.zero_le _, rfl, by simp, by simpa using HO.out, Below.refl _ _, HG.out⟩
  case round =>
    obtain ⟨j, hj, rfl, rfl, hown, hB, hgr⟩ := hrel
    by_cases hlt : j < k
    · have hlt' : (j : Int) < k := by omega
      obtain ⟨A', c', rfl, -⟩ := hown.form
      have hlen : (L ++ (lowL x k).take j).length + 1 ≤ 140737488355328 := by
        rw [List.length_append, List.length_take, lowL_len]; omega
      have hsz : base ≤ (wr.alloc (.cells #[.int .u8 (x / 256 ^ j % 256)] 5)).heap.size := Nat.le_trans (Nat.le_trans hb hB.size) (by simp)
      have how := hown.alloc (.cells #[.int .u8 (x / 256 ^ j % 256)] 5)
      have hby := bytes_at1 wr (x / 256 ^ j % 256)
      have HTK := Lib.hid (show L ++ (lowL x k).take (j + 1) = (L ++ (lowL x k).take j) ++ [x / 256 ^ j % 256] by rw [lowL_take x k j hlt, List.append_assoc])
      have HGB := Lib.hid (hgr.alloc (.cells #[.int .u8 (x / 256 ^ j % 256)] 5))
      have HBB := Lib.hid (hB.alloc (Nat.le_trans hb hB.size) (.cells #[.int .u8 (x / 256 ^ j % 256)] 5))
      have HNX := Lib.hid (div_next x j)
      obtain ⟨hy1, hy2⟩ := div_pow_rng hx j
      have h255 := and_255 (x / 256 ^ j)
      clear hown hB hgr
      generalize x / 256 ^ j = y at *
      generalize (L ++ (lowL x k).take j) = LL at *
      go_wp2_with (at_builtin; (refine append_bytes3 Tryd.underlying22 byte_info _ rfl (.tmp 13) (.tmp 17) rfl base _ _ rfl how _ 1 _ [_] rfl rfl hby hlen hsz ?_; intro v' w' hown' hB' hg'))
      go_roundw
      case rel => exact ⟨j + 1, by omega, by go_num, by rw [HNX.out], by rw [HTK.out]; exact hown', HBB.out.trans hB', HGB.out.trans hg'⟩
      case measure => simp [intOf]; omega
    · obtain rfl : j = k := by omega
      have hjn : decide ((j : Int) < j) = false := decide_eq_false (by omega)
      have htk : (lowL x j).take j = lowL x j := List.take_of_length_le (by rw [lowL_len]; exact Nat.le_refl _)
      rw [htk] at hown
      go_wp2_with fail
      go_ret
      exact ⟨_, rfl, hown, hB, hgr⟩
theorem rlow_2 (x : Int) (w : World) (base : Nat) (v : Value) (L : List Int) (hx : -9223372036854775808 ≤ x ∧ x < 9223372036854775808) (hown : OwnB w base v L) (hl : L.length ≤ 1099511627776) (hb : base ≤ w.heap.size) :
    Calls Tryd.prog 56 #[v, .int .i64 x, .int .i64 2] w fun e w' => ∃ v', e = .returned v' ∧ OwnB w' base v' (L ++ lowL x 2) ∧ Below base w w' ∧ Grew v w v' w' := rlow_any x 2 (by decide) w base v L hx hown hl hb
theorem rlow_4 (x : Int) (w : World) (base : Nat) (v : Value) (L : List Int) (hx : -9223372036854775808 ≤ x ∧ x < 9223372036854775808) (hown : OwnB w base v L) (hl : L.length ≤ 1099511627776) (hb : base ≤ w.heap.size) :
    Calls Tryd.prog 56 #[v, .int .i64 x, .int .i64 4] w fun e w' => ∃ v', e = .returned v' ∧ OwnB w' base v' (L ++ lowL x 4) ∧ Below base w w' ∧ Grew v w v' w' := rlow_any x 4 (by decide) w base v L hx hown hl hb
theorem cells11j {w : World} {g : Nat} {t : TypeId} {a b c d e f k l m n o : Value} (h : Blk w g t #[a, b, c, d, e, f, k, l, m, n, o]) :
    w.cell? ⟨g, 0, none⟩ = some a ∧ w.cell? ⟨g, 1, none⟩ = some b ∧ w.cell? ⟨g, 2, none⟩ = some c ∧ w.cell? ⟨g, 3, none⟩ = some d ∧ w.cell? ⟨g, 4, none⟩ = some e ∧ w.cell? ⟨g, 5, none⟩ = some f ∧ w.cell? ⟨g, 6, none⟩ = some k ∧ w.cell? ⟨g, 7, none⟩ = some l ∧ w.cell? ⟨g, 8, none⟩ = some m ∧ w.cell? ⟨g, 9, none⟩ = some n ∧ w.cell? ⟨g, 10, none⟩ = some o := by
  refine ⟨?_, ?_, ?_, ?_, ?_, ?_, ?_, ?_, ?_, ?_, ?_⟩ <;> rw [h.cell] <;> rfl
/-- inside bytes: the slice that grows, the row and the instruction beside it -/
structure BIn (w0 : World) (base : Nat) (b a : Array Value) (v : Value) (L : List Int) (W : World) : Prop where
  own : OwnB W base v L
  row : Blk W w0.heap.size 65 b
  ins : Blk W (w0.heap.size + 1) 41 a
  below : Below base w0 W
  ne : ∀ g, w0.heap.size ≤ g → g < w0.heap.size + 2 → some g ≠ v.ownBlock
  base_le : base ≤ w0.heap.size
  big : w0.heap.size + 2 ≤ W.heap.size
theorem BIn.start {w : World} {base : Nat} {v : Value} {L : List Int} (h : OwnB w base v L) (hb : base ≤ w.heap.size) (b a : Array Value) :
    BIn w base b a v L ((w.alloc (.cells b 65)).alloc (.cells a 41)) :=
  ⟨(h.alloc _).alloc _, (Blk.new w _ _).alloc _, blk_new2 w _ _ _, ((Below.refl base w).alloc hb _).alloc (by simp; omega) _, fun g h1 _ => h.ne h1, hb, by simp⟩
theorem BIn.grow {w0 : World} {base : Nat} {b a : Array Value} {v v' : Value} {L L' : List Int} {W W' : World} (h : BIn w0 base b a v L W) (ho : OwnB W' base v' L') (hb : Below base W W') (hg : Grew v W v' W') : BIn w0 base b a v' L' W' := by
  have hbig := h.big
  refine ⟨ho, h.row.grew hg (h.ne _ (Nat.le_refl _) (by omega)), h.ins.grew hg (h.ne _ (by omega) (by omega)), h.below.trans hb, fun g h1 h2 => ?_, h.base_le, Nat.le_trans hbig hg.size⟩
  rcases hg.own with e | ⟨g', e, hg'⟩
  · rw [e]; exact h.ne g h1 h2
  · rw [e]; intro e2; injection e2 with e2; omega
theorem BIn.alloc {w0 : World} {base : Nat} {b a : Array Value} {v : Value} {L : List Int} {W : World} (h : BIn w0 base b a v L W) (o : Obj) : BIn w0 base b a v L (W.alloc o) := by
  have hbig := h.big
  have := h.base_le
  exact ⟨h.own.alloc o, h.row.alloc o, h.ins.alloc o, h.below.alloc (by omega) o, h.ne, h.base_le, by simp; omega⟩
theorem BIn.drewN {w0 : World} {base : Nat} {b a : Array Value} {v : Value} {L : List Int} {W : World} (h : BIn w0 base b a v L W) (q : Nat) : BIn w0 base b a v L (W.drewN q) :=
  ⟨h.own, h.row, h.ins, belowDrewN h.below q, h.ne, h.base_le, h.big⟩
theorem bytes_at2 (W : World) (x y : Int) : BytesAt (W.alloc (.cells #[.int .u8 x, .int .u8 y] 5)) (some ⟨W.heap.size, 0, none⟩) [x, y] := (ByteBlk.new W [x, y]).at_
theorem bytes_at4 (W : World) : BytesAt (W.alloc (.cells #[.int .u8 0, .int .u8 0, .int .u8 0, .int .u8 0] 5)) (some ⟨W.heap.size, 0, none⟩) [0, 0, 0, 0] := (ByteBlk.new W [0, 0, 0, 0]).at_
set_option maxRecDepth 100000 in
set_option maxHeartbeats 600000 in
theorem rbytes_any (yc yo yz : Int) (yn yr : Bool) (yd ys yf yi y2 : Int) (yw : Bool) (op : Int) (nar reg : Bool) (size dst src off imm : Int)
    (hd : 0 ≤ pickN yd dst ∧ pickN yd dst < 16) (hs : 0 ≤ pickN ys src ∧ pickN ys src < 16) (ho : -9223372036854775808 ≤ pickN yf off ∧ pickN yf off < 9223372036854775808)
    (hi : -9223372036854775808 ≤ pickN yi imm ∧ pickN yi imm < 9223372036854775808) (hm : -9223372036854775808 ≤ imm ∧ imm < 9223372036854775808)
    (w : World) (base : Nat) (v : Value) (L : List Int) (hown : OwnB w base v L) (hl : L.length ≤ 65536) (hb : base ≤ w.heap.size) :
    Calls Tryd.prog 39 #[v, .agg (row11 yc yo yz yn yr yd ys yf yi y2 yw), .agg (ins8 op nar reg size dst src off imm)] w fun e w' => ∃ v', e = .returned v' ∧ OwnB w' base v' (L ++ bytesR ⟨yc, yo, yz, yn, yr, yd, ys, yf, yi, y2, yw⟩ ⟨op, nar, reg, size, dst, src, off, imm⟩) ∧ Below base w w' := by
  have HI := Lib.hid (BIn.start hown hb (row11 yc yo yz yn yr yd ys yf yi y2 yw) (ins8 op nar reg size dst src off imm))
  have HBR := Lib.hid (show bytesR ⟨yc, yo, yz, yn, yr, yd, ys, yf, yi, y2, yw⟩ ⟨op, nar, reg, size, dst, src, off, imm⟩ = [yc % 256, (16 * pickN ys src + pickN yd dst) % 256] ++ lowL (pickN yf off) 2 ++ lowL (pickN yi imm) 4 ++
    (if op = 20 then [0, 0, 0, 0] ++ lowL (imm / 4294967296) 4 else if op = 21 then [0, 0, 0, 0] ++ lowL imm 4 else []) from rfl)
  generalize bytesR ⟨yc, yo, yz, yn, yr, yd, ys, yf, yi, y2, yw⟩ ⟨op, nar, reg, size, dst, src, off, imm⟩ = BR at *
  obtain ⟨A, c, rfl, -⟩ := hown.form
  clear hown
  go_enter Tryd.func39, Tryd.ntmps39
  go_upto_region 1 with (fail)
  go_cut [7, 8, 9, 10] (fun s7 s8 s9 s10 wx => s7 = .int .i64 yd ∧ s8 = .int .i64 ys ∧ s9 = .int .i64 yf ∧ s10 = .int .i64 yi ∧ BIn w base (row11 yc yo yz yn yr yd ys yf yi y2 yw) (ins8 op nar reg size dst src off imm) (.slice A L.length c) L wx)
  case first =>
    obtain ⟨y0, y1, y2', y3, y4, y5, y6, y7, y8, y9, y10⟩ := cells11j HI.out.row
    go_quiet (fail)
    go_wp2_with fail
    go_meet
    case rel => exact ⟨rfl, rfl, rfl, rfl, HI.out.drewN _⟩
  case rest =>
    clear HI
    obtain ⟨rfl, rfl, rfl, rfl, hI⟩ := hcut
    have HI := Lib.hid hI
    clear hI
    go_upto_if 20 with (fail)
    go_cut [7] (fun s7 wx => s7 = .int .i64 (pickN yd dst) ∧ BIn w base (row11 yc yo yz yn yr yd ys yf yi y2 yw) (ins8 op nar reg size dst src off imm) (.slice A L.length c) L wx)
    case first =>
      obtain ⟨⟨c0, c1, c2, c3, c4, c5, c6, c7⟩, -⟩ := cells8 HI.out.ins
      by_cases e : yd = -1
      · have HP := Lib.hid (show pickN yd dst = dst by unfold pickN; rw [if_pos e])
        have t : (yd == -1) = true := by rw [e]; rfl
        clear e
        go_wp2_with fail
        go_meet
        case rel => exact ⟨by rw [HP.out], HI.out⟩
      · have HP := Lib.hid (show pickN yd dst = yd by unfold pickN; rw [if_neg e])
        have t : (yd == -1) = false := by rw [beq_eq_false_iff_ne]; exact e
        clear e
        go_wp2_with fail
        go_meet
        case rel => exact ⟨by rw [HP.out], HI.out⟩
    case rest =>
      clear HI
      obtain ⟨rfl, hI⟩ := hcut
      have HI := Lib.hid hI
      clear hI
      go_upto_if 24 with (fail)
      go_cut [8] (fun s8 wx => s8 = .int .i64 (pickN ys src) ∧ BIn w base (row11 yc yo yz yn yr yd ys yf yi y2 yw) (ins8 op nar reg size dst src off imm) (.slice A L.length c) L wx)
      case first =>
        obtain ⟨⟨c0, c1, c2, c3, c4, c5, c6, c7⟩, -⟩ := cells8 HI.out.ins
        by_cases e : ys = -1
        · have HP := Lib.hid (show pickN ys src = src by unfold pickN; rw [if_pos e])
          have t : (ys == -1) = true := by rw [e]; rfl
          clear e
          go_wp2_with fail
          go_meet
          case rel => exact ⟨by rw [HP.out], HI.out⟩
        · have HP := Lib.hid (show pickN ys src = ys by unfold pickN; rw [if_neg e])
          have t : (ys == -1) = false := by rw [beq_eq_false_iff_ne]; exact e
          clear e
          go_wp2_with fail
          go_meet
          case rel => exact ⟨by rw [HP.out], HI.out⟩
      case rest =>
        clear HI
        obtain ⟨rfl, hI⟩ := hcut
        have HI := Lib.hid hI
        clear hI
        go_upto_if 28 with (fail)
        go_cut [9] (fun s9 wx => s9 = .int .i64 (pickN yf off) ∧ BIn w base (row11 yc yo yz yn yr yd ys yf yi y2 yw) (ins8 op nar reg size dst src off imm) (.slice A L.length c) L wx)
        case first =>
          obtain ⟨⟨c0, c1, c2, c3, c4, c5, c6, c7⟩, -⟩ := cells8 HI.out.ins
          by_cases e : yf = -1
          · have HP := Lib.hid (show pickN yf off = off by unfold pickN; rw [if_pos e])
            have t : (yf == -1) = true := by rw [e]; rfl
            clear e
            go_wp2_with fail
            go_meet
            case rel => exact ⟨by rw [HP.out], HI.out⟩
          · have HP := Lib.hid (show pickN yf off = yf by unfold pickN; rw [if_neg e])
            have t : (yf == -1) = false := by rw [beq_eq_false_iff_ne]; exact e
            clear e
            go_wp2_with fail
            go_meet
            case rel => exact ⟨by rw [HP.out], HI.out⟩
        case rest =>
          clear HI
          obtain ⟨rfl, hI⟩ := hcut
          have HI := Lib.hid hI
          clear hI
          go_upto_if 32 with (fail)
          go_cut [10] (fun s10 wx => s10 = .int .i64 (pickN yi imm) ∧ BIn w base (row11 yc yo yz yn yr yd ys yf yi y2 yw) (ins8 op nar reg size dst src off imm) (.slice A L.length c) L wx)
          case first =>
            obtain ⟨⟨c0, c1, c2, c3, c4, c5, c6, c7⟩, -⟩ := cells8 HI.out.ins
            by_cases e : yi = -1
            · have HP := Lib.hid (show pickN yi imm = imm by unfold pickN; rw [if_pos e])
              have t : (yi == -1) = true := by rw [e]; rfl
              clear e
              go_wp2_with fail
              go_meet
              case rel => exact ⟨by rw [HP.out], HI.out⟩
            · have HP := Lib.hid (show pickN yi imm = yi by unfold pickN; rw [if_neg e])
              have t : (yi == -1) = false := by rw [beq_eq_false_iff_ne]; exact e
              clear e
              go_wp2_with fail
              go_meet
              case rel => exact ⟨by rw [HP.out], HI.out⟩
          case rest =>
            clear HI
            obtain ⟨rfl, hI⟩ := hcut
            have HI := Lib.hid hI
            clear hI
            obtain ⟨yc0, -⟩ := cells11j HI.out.row
            obtain ⟨⟨c0, c1, c2, c3, c4, c5, c6, c7⟩, -⟩ := cells8 HI.out.ins
            generalize pickN yd dst = pd at *
            generalize pickN ys src = ps at *
            generalize pickN yf off = po at *
            generalize pickN yi imm = pi at *
            have HBR2 := Lib.hid (show BR = [yc % 256, 16 * ps + pd] ++ lowL po 2 ++ lowL pi 4 ++ (if op = 20 then [0, 0, 0, 0] ++ lowL (imm / 4294967296) 4 else if op = 21 then [0, 0, 0, 0] ++ lowL imm 4 else []) by
              rw [HBR.out, Int.emod_eq_of_lt (a := 16 * ps + pd) (by omega) (by omega)])
            clear HBR
            have HI1 := Lib.hid (HI.out.alloc (.cells #[.int .u8 (yc % 256), .int .u8 (16 * ps + pd)] 5))
            have how := HI1.out.own
            have hby := bytes_at2 wc (yc % 256) (16 * ps + pd)
            have hlen : L.length + 2 ≤ 140737488355328 := by omega
            have hsz : base ≤ (wc.alloc (.cells #[.int .u8 (yc % 256), .int .u8 (16 * ps + pd)] 5)).heap.size := by
              have h1 := HI1.out.big
              omega
            have HO := Lib.hid ho
            have HIm := Lib.hid hi
            have HM := Lib.hid hm
            clear ho hi hm
            go_wp2_with (at_builtin; (refine append_bytes3 Tryd.underlying22 byte_info _ rfl (.tmp 35) (.tmp 44) rfl base _ _ rfl how _ 2 _ [_, _] rfl rfl hby hlen hsz ?_; intro v' w' hown' hB' hg'))
            have HI2 := Lib.hid (HI1.out.grow hown' hB' hg')
            have hlr2 : (L ++ [yc % 256, 16 * ps + pd]).length ≤ 1099511627776 := by simp; omega
            have hb2 : base ≤ w'.heap.size := by have := HI2.out.big; omega
            have HL2 := Lib.hid (rlow_2 po w' base _ _ HO.out hown' hlr2 hb2)
            obtain ⟨A2, m2, k2, rfl, -⟩ := hown'.form'
            clear how hby hlen hsz hown' hB' hg' HI1 HI hlr2 hb2 yc0 c0 c1 c2 c3 c4 c5 c6 c7
            go_wp2_with fail
            go_at_call 56
            refine HL2.out.mono ?_
            rintro e w3 ⟨v3, rfl, hown3, hB3, hg3⟩
            have HI3 := Lib.hid (HI2.out.grow hown3 hB3 hg3)
            have hlr3 : (L ++ [yc % 256, 16 * ps + pd] ++ lowL po 2).length ≤ 1099511627776 := by simp [lowL_len]; omega
            have hb3 : base ≤ w3.heap.size := by have := HI3.out.big; omega
            have HL3 := Lib.hid (rlow_4 pi w3 base _ _ HIm.out hown3 hlr3 hb3)
            obtain ⟨A3, m3, k3, rfl, -⟩ := hown3.form'
            clear hown3 hB3 hg3 HI2 HL2 hlr3 hb3
            go_wp2_with fail
            go_at_call 56
            refine HL3.out.mono ?_
            rintro e w4 ⟨v4, rfl, hown4, hB4, hg4⟩
            have HI4 := Lib.hid (HI3.out.grow hown4 hB4 hg4)
            have hlr4b : (L ++ [yc % 256, 16 * ps + pd] ++ lowL po 2 ++ lowL pi 4).length ≤ 65600 := by simp [lowL_len]; omega
            have hlr4 : (L ++ [yc % 256, 16 * ps + pd] ++ lowL po 2 ++ lowL pi 4).length + 4 ≤ 140737488355328 := by simp [lowL_len]; omega
            have hb4 : base ≤ w4.heap.size := by have := HI4.out.big; omega
            obtain ⟨A4, m4, k4, rfl, -⟩ := hown4.form'
            obtain ⟨⟨c0, c1, c2, c3, c4, c5, c6, c7⟩, -⟩ := cells8 HI4.out.ins
            have HZ4 := Lib.hid (HI4.out.alloc (.cells #[.int .u8 0, .int .u8 0, .int .u8 0, .int .u8 0] 5))
            have how := HZ4.out.own
            have hby := bytes_at4 w4
            have hsz : base ≤ (w4.alloc (.cells #[.int .u8 0, .int .u8 0, .int .u8 0, .int .u8 0] 5)).heap.size := by
              have h1 := HZ4.out.big
              omega
            clear hown4 hB4 hg4 HI3 HL3 hb4
            generalize hMM : L ++ [yc % 256, 16 * ps + pd] ++ lowL po 2 ++ lowL pi 4 = MM at *
            have HMM := Lib.hid hMM
            clear hMM
            by_cases e20 : op = 20
            · have HF := Lib.hid (show L ++ BR = MM ++ [0, 0, 0, 0] ++ lowL (imm / 4294967296) 4 by rw [HBR2.out, if_pos e20, ← HMM.out]; simp only [List.append_assoc])
              have t : (op == 20) = true := by rw [e20]; rfl
              clear e20 HBR2
              go_wp2_with (at_builtin; (refine append_bytes3 Tryd.underlying22 byte_info _ rfl (.tmp 56) (.tmp 57) rfl base _ _ rfl how _ 4 _ [_, _, _, _] rfl rfl hby hlr4 hsz ?_; intro v5 w5 hown5 hB5 hg5; have HI5 := Lib.hid (HZ4.out.grow hown5 hB5 hg5); obtain ⟨⟨q0, q1, q2, q3, q4, q5, q6, q7⟩, -⟩ := cells8 HI5.out.ins; have HO5 := Lib.hid hown5; obtain ⟨A5, m5, k5, rfl, -⟩ := hown5.form'; clear hown5 hB5 hg5 how hby hsz c0 c1 c2 c3 c4 c5 c6 c7))
              have hlr5 : (MM ++ [0, 0, 0, 0]).length ≤ 1099511627776 := by simp; omega
              have hb5 : base ≤ w5.heap.size := by have := HI5.out.big; omega
              have HL5 := Lib.hid (rlow_4 (imm / 4294967296) w5 base _ _ (by have := HM.out; omega) HO5.out hlr5 hb5)
              clear hlr5 hb5 q0 q1 q2 q3 q4 q5 q6 q7
              go_wp2_with fail
              go_at_call 56
              refine HL5.out.mono ?_
              rintro e w6 ⟨v6, rfl, hown6, hB6, hg6⟩
              have HI6 := Lib.hid (HI5.out.grow hown6 hB6 hg6)
              clear hown6 hB6 hg6 HI5 HL5
              go_wp2_with fail
              go_ret
              exact ⟨_, rfl, by rw [HF.out]; exact HI6.out.own, HI6.out.below⟩
            · have t : (op == 20) = false := by rw [beq_eq_false_iff_ne]; exact e20
              by_cases e21 : op = 21
              · have HF := Lib.hid (show L ++ BR = MM ++ [0, 0, 0, 0] ++ lowL imm 4 by rw [HBR2.out, if_neg e20, if_pos e21, ← HMM.out]; simp only [List.append_assoc])
                have t1 : (op == 21) = true := by rw [e21]; rfl
                clear e20 e21 HBR2
                go_wp2_with (at_builtin; (refine append_bytes3 Tryd.underlying22 byte_info _ rfl (.tmp 66) (.tmp 67) rfl base _ _ rfl how _ 4 _ [_, _, _, _] rfl rfl hby hlr4 hsz ?_; intro v5 w5 hown5 hB5 hg5; have HI5 := Lib.hid (HZ4.out.grow hown5 hB5 hg5); obtain ⟨⟨q0, q1, q2, q3, q4, q5, q6, q7⟩, -⟩ := cells8 HI5.out.ins; have HO5 := Lib.hid hown5; obtain ⟨A5, m5, k5, rfl, -⟩ := hown5.form'; clear hown5 hB5 hg5 how hby hsz c0 c1 c2 c3 c4 c5 c6 c7))
                have hlr5 : (MM ++ [0, 0, 0, 0]).length ≤ 1099511627776 := by simp; omega
                have hb5 : base ≤ w5.heap.size := by have := HI5.out.big; omega
                have HL5 := Lib.hid (rlow_4 (imm) w5 base _ _ (by have := HM.out; omega) HO5.out hlr5 hb5)
                clear hlr5 hb5 q0 q1 q2 q3 q4 q5 q6 q7
                go_wp2_with fail
                go_at_call 56
                refine HL5.out.mono ?_
                rintro e w6 ⟨v6, rfl, hown6, hB6, hg6⟩
                have HI6 := Lib.hid (HI5.out.grow hown6 hB6 hg6)
                clear hown6 hB6 hg6 HI5 HL5
                go_wp2_with fail
                go_ret
                exact ⟨_, rfl, by rw [HF.out]; exact HI6.out.own, HI6.out.below⟩
              · have HF := Lib.hid (show L ++ BR = MM by rw [HBR2.out, if_neg e20, if_neg e21, List.append_nil, ← HMM.out]; simp only [List.append_assoc])
                have t1 : (op == 21) = false := by rw [beq_eq_false_iff_ne]; exact e21
                clear e20 e21 HBR2
                go_wp2_with fail
                go_ret
                exact ⟨_, rfl, by rw [HF.out]; exact HI4.out.own, HI4.out.below⟩
end Go.Proofs.YtaglclmfjopnlaaDoor
/- Encode of the document's answer for package code: it writes what package code writes. -/
namespace Go.Proofs.YtaglclmfjopnlaaDoor
open Go.ChangeShapes Go.WideShapes Go.ChangeAt Go.RowKit
open Cod Bits
set_option linter.unusedVariables false
set_option linter.unusedSimpArgs false

theorem bytes_rng {i : Ins} {y : RRow} (h : Right i) (hy : findR i.op i.nar i.reg i.size = some y) (hr : i.rng) :
    (0 ≤ pickN y.dst i.dst ∧ pickN y.dst i.dst < 16) ∧ (0 ≤ pickN y.src i.src ∧ pickN y.src i.src < 16) ∧ (-9223372036854775808 ≤ pickN y.off i.off ∧ pickN y.off i.off < 9223372036854775808) ∧
    (-9223372036854775808 ≤ pickN y.imm i.imm ∧ pickN y.imm i.imm < 9223372036854775808) ∧ (-9223372036854775808 ≤ i.imm ∧ i.imm < 9223372036854775808) := by
  have G := found_more hy
  have h1 := regs_rng h
  have h2 := h.offr
  have h3 := size_rng h
  have h4 : -9223372036854775808 ≤ i.imm ∧ i.imm < 9223372036854775808 := hr
  refine ⟨?_, ?_, ?_, ?_, h4⟩
  · unfold pickN; rcases G.dst with e | e
    · rw [if_pos e]; exact h1.1
    · rw [if_neg (by omega), e]; decide
  · unfold pickN; rcases G.src with ⟨e, -⟩ | ⟨e, e2⟩
    · rw [if_pos e]; exact h1.2
    · rw [if_neg e, e2]; unfold srcN; split <;> decide
  · unfold pickN; rcases G.off with ⟨e, -⟩ | ⟨e, e2⟩
    · rw [if_pos e]; omega
    · rw [if_neg e, e2]; unfold offN; split
      · decide
      · split <;> omega
  · unfold pickN; rcases G.imm with ⟨e, -⟩ | ⟨e, -, e2⟩
    · rw [if_pos e]; exact h4
    · rw [if_neg e, e2]; unfold immN; split <;> omega
theorem right_found {i : Ins} (h : Right i) : ∃ y, findR i.op i.nar i.reg i.size = some y := by
  cases hy : findR i.op i.nar i.reg i.size with
  | some y => exact ⟨y, rfl⟩
  | none => have := found_none hy; rw [h.ops] at this; cases this
/-- inside Encode's round: the row's own box, the bytes so far -/
structure RowIn (w2 : World) (b : Array Value) (A : Option Addr) (m k : Nat) (L : List Int) (g : Nat) (W : World) : Prop where
  row : Blk W g 65 b
  own : OwnB W w2.heap.size (.slice A m k) L
  below : Below w2.heap.size w2 W
theorem RowIn.drew {w2 : World} {b : Array Value} {A : Option Addr} {m k : Nat} {L : List Int} {g : Nat} {W : World} (h : RowIn w2 b A m k L g W) : RowIn w2 b A m k L g W.drew := ⟨h.row, h.own, belowDrewN h.below 1⟩
theorem OwnB.weaken {w : World} {base base' : Nat} {v : Value} {L : List Int} (h : OwnB w base v L) (hb : base' ≤ base) : OwnB w base' v L := by
  refine ⟨h.1, ?_⟩
  rcases h.2 with h1 | ⟨g, cap, cur, hv, hg, hh, h1⟩
  · exact .inl h1
  · exact .inr ⟨g, cap, cur, hv, Nat.le_trans hb hg, hh, h1⟩
set_option maxRecDepth 100000 in
set_option maxHeartbeats 8000000 in
theorem refEncode_ok (w : World) (A : Option Addr) (n c : Nat) (L : List Ins) (hL : L.length = n) (hn : n ≤ 140737488355328) (h : CodeAt w A L) (hr : ∀ i ∈ L, i.rng) (h0 : (checkL L 0).2 = 0) :
    Calls Tryd.prog 17 #[.slice A n c] w fun e w' => ∃ v, e = .returned (.tuple #[v, .int .i64 0, .int .i64 0]) ∧ OwnB w' w.heap.size v (encB L) ∧ Below w.heap.size w w' := by
  obtain ⟨hok, hlen, h1⟩ := check_ok L 0 h0
  have hn4 : n ≤ 4096 := by have := hlen (by omega); omega
  have HC := Lib.hid (refCheck_any w A n c L hL hn h)
  rw [h0, h1] at HC
  have HA := Lib.hid h
  have HL := Lib.hid hL
  have HR := Lib.hid (fun i (hi : i ∈ L) => (show Right i ∧ i.rng from ⟨(right_iff i).1 (hok i hi), hr i hi⟩))
  clear hok hlen h1 h0 h hL hr
  go_enter Tryd.func17, Tryd.ntmps17
  go_wp2_with fail
  go_at_call 20
  refine HC.out.mono ?_
  rintro e w1 ⟨rfl, hB1⟩
  have HRW := Lib.hid (rows_any w1)
  have HB1 := Lib.hid hB1
  clear HC hB1
  go_wp2_with fail
  go_at_call 22
  refine HRW.out.mono ?_
  rintro e w2 ⟨v, rfl, hown, hB2⟩
  obtain ⟨Ar, cr, rfl, hra⟩ := hown.rowsAt
  rw [rowsL_len]
  have HRA := Lib.hid hra
  have HB2 := Lib.hid (HB1.out.trans (hB2.mono HB1.out.size))
  clear hown hra hB2 HRW HB1
  go_wp2_with fail
  go_loopw [8, 9, 10, 11] (fun v i y ok wr => ∃ j : Nat, j ≤ n ∧ i = .int .i64 j ∧ OwnB wr w2.heap.size v (encB (L.take j)) ∧ Below w2.heap.size w2 wr) (fun _ i _ _ _ => (n - intOf i).toNat)
  case atStart => exact ⟨0, Nat.zero_le _, rfl, OwnB.nil _ _, Below.refl _ _⟩
  case round =>
    obtain ⟨j, hj, rfl, hown, hB⟩ := hrel
    by_cases hlt : j < n
    · have hlt' : (j : Int) < n := by omega
      obtain ⟨b, off, rfl, hbl, hc⟩ := HA.out (by have := HL.out; omega)
      obtain ⟨i, hi⟩ : ∃ i, L[j]? = some i := ⟨L[j]'(by have := HL.out; omega), List.getElem?_eq_getElem _⟩
      have hbw := HB2.out.trans (hB.mono HB2.out.size)
      have hx := (hc j i hi).below hbw hbl
      obtain ⟨hrt, hrng⟩ := HR.out i (List.mem_of_getElem? hi)
      obtain ⟨y, hy⟩ := right_found hrt
      obtain ⟨hp1, hp2, hp3, hp4, hp5⟩ := bytes_rng hrt hy hrng
      have hbr := bytes_ref hrt hy
      have htk : encB (L.take (j + 1)) = encB (L.take j) ++ insB i := by
        rw [List.take_add_one, hi, encB_append]
        simp [encB]
      rw [← hbr] at htk
      have hlen : (encB (L.take j)).length ≤ 65536 := by
        have := encB_length (L.take j)
        have := List.length_take_le j L
        omega
      have HTK := Lib.hid htk
      have HHC := Lib.hid hc
      have HLJ := Lib.hid hi
      clear hc hi hrt hrng hbr htk
      obtain ⟨op, nar, reg, size, dst, src, io, imm⟩ := i
      obtain ⟨rc, ro, rz, rn, rr, rd, rs, rf, ri, r2, rw_⟩ := y
      simp only at hy hp1 hp2 hp3 hp4 hp5
      have HFN := Lib.hid (find_any wr Ar 139 cr rowsL rowsL_len (by decide) (HRA.out.below hB) op nar reg size dst src io imm)
      have HBY := Lib.hid (fun w3 v L' => rbytes_any rc ro rz rn rr rd rs rf ri r2 rw_ op nar reg size dst src io imm hp1 hp2 hp3 hp4 hp5 w3 w2.heap.size v L')
      have HFE := Lib.hid (show rowsL.find? (fun r => r.fitsI op nar reg size) = some ⟨rc, ro, rz, rn, rr, rd, rs, rf, ri, r2, rw_⟩ from hy)
      have HO := Lib.hid hown
      have HB := Lib.hid hB
      have HX := Lib.hid hx
      obtain ⟨x0, x1, x2, x3, x4, x5, x6, x7⟩ := hx
      simp only at x0 x1 x2 x3 x4 x5 x6 x7
      obtain ⟨Av, mv, kv, rfl, -⟩ := hown.form'
      generalize bytesR ⟨rc, ro, rz, rn, rr, rd, rs, rf, ri, r2, rw_⟩ ⟨op, nar, reg, size, dst, src, io, imm⟩ = BR at *
      clear hy hp1 hp2 hp3 hp4 hp5 hown hB hbw
      go_wp2_with fail
      go_at_call 38
      refine HFN.out.mono ?_
      rintro e w3 ⟨he, hB3⟩
      rw [HFE.out] at he
      have he' : e = .returned (.tuple #[.agg (row11 rc ro rz rn rr rd rs rf ri r2 rw_), .bool true]) := he
      subst he'
      have HI4 := Lib.hid (show RowIn w2 (row11 rc ro rz rn rr rd rs rf ri r2 rw_) Av mv kv (encB (L.take j)) w3.heap.size (w3.alloc (.cells (row11 rc ro rz rn rr rd rs rf ri r2 rw_) 65)) from
        ⟨Blk.new _ _ _, (HO.out.below hB3).alloc _, (HB.out.trans (hB3.mono HB.out.size)).trans ((below_box w3 _).mono (Nat.le_trans HB.out.size hB3.size))⟩)
      have hb4 := HB2.out.trans (HI4.out.below.mono HB2.out.size)
      have HX4 := Lib.hid ((HHC.out j _ HLJ.out).below hb4 hbl)
      clear HFN HX HO HB hB3 HFE he x0 x1 x2 x3 x4 x5 x6 x7 hb4
      go_upto_region 10 with (fail)
      generalize w3.alloc (.cells (row11 rc ro rz rn rr rd rs rf ri r2 rw_) 65) = W4 at *
      generalize w3.heap.size = g at *
      obtain ⟨x0, x1, x2, x3, x4, x5, x6, x7⟩ := HX4.out
      obtain ⟨y0, y1, y2, y3, y4, y5, y6, y7, y8, y9, y10⟩ := cells11 HI4.out.row
      simp only at x0 x1 x2 x3 x4 x5 x6 x7
      go_still_tail 6, (by kernel_rfl)
      refine wpList_drew ?_
      have HI5 := Lib.hid (HI4.out.drew)
      clear HI4 HX4 HHC x0 x1 x2 x3 x4 x5 x6 x7 y0 y1 y2 y3 y4 y5 y6 y7 y8 y9 y10
      generalize W4.drew = W5 at *
      have HB5 := Lib.hid (HBY.out W5 _ _ HI5.out.own hlen HI5.out.below.size)
      have HI5b := Lib.hid HI5.out.below
      clear HBY HI5
      go_wp2_with fail
      go_at_call 39
      refine HB5.out.mono ?_
      rintro e w6 ⟨v6, rfl, hown6, hB6⟩
      have hb6 := HI5b.out.trans hB6
      clear HB5 hB6
      go_wp2_with fail
      go_roundw
      case rel => exact ⟨j + 1, by omega, by go_num, by rw [HTK.out]; exact hown6, hb6⟩
      case measure => simp [intOf]; omega
    · obtain rfl : j = n := by omega
      have hjn : decide ((j : Int) < j) = false := decide_eq_false (by omega)
      have htk : L.take j = L := List.take_of_length_le (by have := HL.out; omega)
      rw [htk] at hown
      go_wp2_with fail
      go_ret3
      exact ⟨_, rfl, hown.weaken HB2.out.size, HB2.out.trans (hB.mono HB2.out.size)⟩
set_option maxHeartbeats 4000000 in
theorem refEncode_no (w : World) (A : Option Addr) (n c : Nat) (L : List Ins) (hL : L.length = n) (hn : n ≤ 140737488355328) (h : CodeAt w A L) (h0 : (checkL L 0).2 ≠ 0) :
    Calls Tryd.prog 17 #[.slice A n c] w fun e w' => e = .returned (.tuple #[.slice none 0 0, .int .i64 (checkL L 0).1, .int .i64 (checkL L 0).2]) ∧ Below w.heap.size w w' := by
  have HC := Lib.hid (refCheck_any w A n c L hL hn h)
  generalize (checkL L 0).1 = k0 at *
  generalize (checkL L 0).2 = k1 at *
  have t0 : (k1 != 0) = true := by rw [bne_iff_ne]; exact h0
  clear h0 h hL
  go_enter Tryd.func17, Tryd.ntmps17
  go_wp2_with fail
  go_at_call 20
  refine HC.out.mono ?_
  rintro e w1 ⟨rfl, hB1⟩
  clear HC
  go_wp2_with fail
  go_ret3
  exact ⟨rfl, hB1⟩
end Go.Proofs.YtaglclmfjopnlaaDoor
/- Texts in one: CodeEncodesLaw CodeEncodesEnd. -/
/- CodeEncodes: its walk. -/
namespace Go.Proofs.YtaglclmfjopnlaaDoor
open Go.ChangeShapes Go.WideShapes Go.ChangeAt Go.RowKit
open Cod Bits
set_option linter.unusedVariables false
set_option linter.unusedSimpArgs false

def encU (L : List Ins) : List Int := if (checkL L 0).2 = 0 then encB L else []
theorem encU_bytes (L : List Ins) (hr : ∀ i ∈ L, i.rng) : BytesL (encU L) := by
  unfold encU
  split
  · rename_i h; exact encB_bytes L (good_all h hr)
  · intro x hx; simp at hx
theorem encode_any (w : World) (A : Option Addr) (n c : Nat) (L : List Ins) (hL : L.length = n) (hn : n ≤ 140737488355328) (h : CodeAt w A L) (ht : Tabs w) :
    Calls Tryd.prog 16 #[.slice A n c] w fun e w' => ∃ v, e = .returned (.tuple #[v, .int .i64 (checkL L 0).1, .int .i64 (checkL L 0).2]) ∧ OwnB w' w.heap.size v (encU L) ∧ Below w.heap.size w w' := by
  by_cases h0 : (checkL L 0).2 = 0
  · have h1 := (check_ok L 0 h0).2.2
    refine (encode_ok w A n c L hL hn h ht h0).mono fun e w' ⟨v, he, ho, hb⟩ => ⟨v, by rw [he, h0, h1], ?_, hb⟩
    unfold encU; rw [if_pos h0]; exact ho
  · refine (encode_no w A n c L hL hn h h0).mono fun e w' ⟨he, hb⟩ => ⟨_, he, ?_, hb⟩
    unfold encU; rw [if_neg h0]; exact OwnB.nil _ _
theorem refEncode_any (w : World) (A : Option Addr) (n c : Nat) (L : List Ins) (hL : L.length = n) (hn : n ≤ 140737488355328) (h : CodeAt w A L) (hr : ∀ i ∈ L, i.rng) :
    Calls Tryd.prog 17 #[.slice A n c] w fun e w' => ∃ v, e = .returned (.tuple #[v, .int .i64 (checkL L 0).1, .int .i64 (checkL L 0).2]) ∧ OwnB w' w.heap.size v (encU L) ∧ Below w.heap.size w w' := by
  by_cases h0 : (checkL L 0).2 = 0
  · have h1 := (check_ok L 0 h0).2.2
    refine (refEncode_ok w A n c L hL hn h hr h0).mono fun e w' ⟨v, he, ho, hb⟩ => ⟨v, by rw [he, h0, h1], ?_, hb⟩
    unfold encU; rw [if_pos h0]; exact ho
  · refine (refEncode_no w A n c L hL hn h h0).mono fun e w' ⟨he, hb⟩ => ⟨_, he, ?_, hb⟩
    unfold encU; rw [if_neg h0]; exact OwnB.nil _ _
def withImm (i : Ins) (x : Int) : Ins := ⟨i.op, i.nar, i.reg, i.size, i.dst, i.src, i.off, x⟩
def withDst (i : Ins) (x : Int) : Ins := ⟨i.op, i.nar, i.reg, i.size, x, i.src, i.off, i.imm⟩
theorem xor_rng (x : Int) : -9223372036854775808 ≤ bits BinOp.xor IntKind.i64 x 1 ∧ bits BinOp.xor IntKind.i64 x 1 < 9223372036854775808 := by
  show -9223372036854775808 ≤ IntKind.i64.wrap (((BitVec.ofInt 64 x ^^^ BitVec.ofInt 64 1).toNat : Nat) : Int) ∧ IntKind.i64.wrap (((BitVec.ofInt 64 x ^^^ BitVec.ofInt 64 1).toNat : Nat) : Int) < 9223372036854775808
  generalize (((BitVec.ofInt 64 x ^^^ BitVec.ofInt 64 1).toNat : Nat) : Int) = z
  rw [IntKind.wrap_i64]
  omega
theorem set_rng {L : List Ins} {j : Nat} {i : Ins} (hr : ∀ i ∈ L, i.rng) (hi : i.rng) : ∀ k ∈ L.set j i, k.rng := fun k hk => by
  rcases List.mem_or_eq_of_mem_set hk with h | h
  · exact hr k h
  · rw [h]; exact hi
set_option maxRecDepth 100000 in
set_option maxHeartbeats 8000000 in
theorem codeEncodes_walk (w : World) (A : Option Addr) (n c : Nat) (L : List Ins) (hL : L.length = n) (hn : n ≤ 2513169434917) (h : CodeAt w A L) (hr : ∀ i ∈ L, i.rng) (ht : Tabs w) (hm : MarkAt w) :
    Calls Tryd.prog 4 #[.slice A n c] w fun e w' => e = .returned (.bool true) ∧ Below w.heap.size w w' := by
  have HK := Lib.hid (known_any w ht)
  have HA := Lib.hid h
  have HM := Lib.hid hm
  have HL := Lib.hid hL
  have HR := Lib.hid hr
  have HT := Lib.hid ht
  have HBL := Lib.hid (encU_bytes L hr)
  clear h hm hL ht hr
  go_enter Tryd.func4, Tryd.ntmps4
  go_wp2_with fail
  refine HK.out.mono ?_
  rintro e w1 ⟨rfl, hB1⟩
  have HE := Lib.hid (lend_lent w1 A n c L HL.out (by omega) (HA.out.below hB1) (HM.out.below hB1) w hB1 HM.out.1)
  have HA1 := Lib.hid (HA.out.below hB1)
  clear hB1 HK HM HA
  go_wp2_with fail
  go_at_call 15
  refine HE.out.mono ?_
  rintro e w2 ⟨g, c1, rfl, hl2, hg2, hB2⟩
  have HU := Lib.hid (encode_any w2 (some ⟨g, 0, none⟩) n c1 L HL.out (by omega) hl2.codeAt (HT.out.below hl2.below))
  have HX := Lib.hid hl2
  have HA2 := Lib.hid (HA1.out.below hB2)
  clear hl2 hg2 hB2 HE HA1
  go_wp2_with fail
  go_at_call 16
  refine HU.out.mono ?_
  rintro e w3 ⟨v3, rfl, hown3, hB3⟩
  have HU3 := Lib.hid (refEncode_any w3 A n c L HL.out (by omega) (HA2.out.below hB3) HR.out)
  have HX3 := Lib.hid (HX.out.up hB3)
  have HA3 := Lib.hid (HA2.out.below hB3)
  have HO3 := Lib.hid hown3
  clear HU HX HA2 hB3 hown3
  generalize (checkL L 0).1 = k0 at *
  generalize (checkL L 0).2 = k1 at *
  go_wp2_with fail
  go_at_call 17
  refine HU3.out.mono ?_
  rintro e w4 ⟨v4, rfl, hown4, hB4⟩
  have HX4 := Lib.hid (HX3.out.up hB4)
  have HA4 := Lib.hid (HA3.out.below hB4)
  have hown3 := HO3.out.below hB4
  obtain ⟨B3, m3, b3, rfl, hm3⟩ := hown3.form'
  obtain ⟨B4, m4, b4, rfl, hm4⟩ := hown4.form'
  have hy3 : BytesAt w4 B3 (encU L) := by
    obtain ⟨A', c', e, hb⟩ := hown3.form
    injection e with e1 e2 e3; rw [e1]; exact hb
  have hy4 : BytesAt w4 B4 (encU L) := by
    obtain ⟨A', c', e, hb⟩ := hown4.form
    injection e with e1 e2 e3; rw [e1]; exact hb
  have HS4 := Lib.hid (sameBytes_both w4 B3 m3 b3 B4 m4 b4 (encU L) (encU L) hm3.out.symm hm4.out.symm hy3 hy4 HBL.out HBL.out)
  rw [decide_eq_true rfl] at HS4
  clear HU3 HX3 HA3 HO3 hB4 hown3 hown4 hm3 hm4 hy3 hy4
  go_wp2_with fail
  go_at_call 13
  refine HS4.out.mono ?_
  rintro e w5 ⟨rfl, rfl⟩
  have HS5 := Lib.hid (lawSame_yes w4 (some ⟨g, 0, none⟩) n c1 A c L HL.out (by omega) HX4.out.codeAt HA4.out)
  clear HS4
  go_wp2_with fail
  go_at_call 12
  refine HS5.out.mono ?_
  rintro e w5 ⟨rfl, hB5⟩
  have HX5 := Lib.hid (HX4.out.up hB5)
  have HH5 := Lib.hid (held_any w5 g n c1 w.heap.size L HL.out (by omega) HX5.out.own HX5.out.mark)
  clear HS5 HX4 HA4 hB5
  go_wp2_with fail
  go_at_call 18
  refine HH5.out.mono ?_
  rintro e w6 ⟨rfl, hB6⟩
  have HX6 := Lib.hid (HX5.out.up hB6)
  clear HX5 HH5 hB6
  go_upto_if 53 with (fail)
  go_cut [] (fun wx => ∃ M, (∀ i ∈ M, i.rng) ∧ LentI w g n c1 M wx)
  case first =>
    by_cases hp : n = 0
    · have t0 : decide (0 < n) = false := decide_eq_false (by omega)
      go_wp2_with fail
      go_meet
      case rel => exact ⟨L, HR.out, HX6.out⟩
    · have t0 : decide (0 < n) = true := decide_eq_true (by omega)
      obtain ⟨q, hq⟩ : ∃ q : Nat, q = n / 2 := ⟨_, rfl⟩
      have hqn : q < n := by omega
      have hqi : (q : Int) < (n : Int) := by omega
      have hq2 : (n : Int) / 2 = (q : Int) := by omega
      obtain ⟨i, hi⟩ : ∃ i, L[q]? = some i := ⟨L[q]'(by rw [HL.out]; omega), List.getElem?_eq_getElem _⟩
      obtain ⟨-, -, -, -, -, -, -, x7⟩ := HX6.out.ins hi
      have f7 := HX6.out.frozen (q * 8 + 7)
      have hir := HR.out i (List.mem_of_getElem? hi)
      have HP := Lib.hid (show LentI w g n c1 (L.set q (withImm i (bits BinOp.xor IntKind.i64 i.imm 1))) (w6.setCell ⟨g, q * 8 + 7, none⟩ (.int .i64 (bits BinOp.xor IntKind.i64 i.imm 1))) from
        (HX6.out.put (withImm i _) 7 (.int .i64 (bits BinOp.xor IntKind.i64 i.imm 1)) hi (by decide) rfl (q * 8 + 7) rfl).1)
      have HR1 := Lib.hid (set_rng (j := q) (i := withImm i (bits BinOp.xor IntKind.i64 i.imm 1)) HR.out (xor_rng i.imm))
      clear hi hir hq HX6
      go_upto_region 10 with (fail)
      generalize L.set q (withImm i (bits BinOp.xor IntKind.i64 i.imm 1)) = M1 at *
      generalize w6.setCell ⟨g, q * 8 + 7, none⟩ (.int .i64 (bits BinOp.xor IntKind.i64 i.imm 1)) = W1 at *
      clear x7 f7
      obtain ⟨i0, hi0⟩ : ∃ i, M1[0]? = some i := ⟨M1[0]'(by have := HP.out.len; omega), List.getElem?_eq_getElem _⟩
      have hx0 := HP.out.ins hi0
      rw [Nat.zero_mul] at hx0
      obtain ⟨-, -, -, -, x4, -⟩ := hx0
      rw [Nat.zero_add] at x4
      have f4 := HP.out.frozen 4
      have HP2 := Lib.hid (show LentI w g n c1 (M1.set 0 (withDst i0 (bits BinOp.xor IntKind.i64 i0.dst 1))) (W1.setCell ⟨g, 4, none⟩ (.int .i64 (bits BinOp.xor IntKind.i64 i0.dst 1))) from
        (HP.out.put (withDst i0 _) 4 (.int .i64 (bits BinOp.xor IntKind.i64 i0.dst 1)) hi0 (by decide) rfl 4 rfl).1)
      have HR2 := Lib.hid (set_rng (j := 0) (i := withDst i0 (bits BinOp.xor IntKind.i64 i0.dst 1)) HR1.out (HR1.out i0 (List.mem_of_getElem? hi0)))
      have hp0 : 0 < n := by omega
      clear hi0 HP HR1
      go_wp2_with fail
      go_meet
      case rel => exact ⟨_, HR2.out, HP2.out⟩
  case rest =>
    obtain ⟨M, hrM, hM⟩ := hcut
    have hML := hM.len
    have HML := Lib.hid hML
    have HE := Lib.hid hM
    have HRM := Lib.hid hrM
    have HBM := Lib.hid (encU_bytes M hrM)
    generalize wc = W at *
    have hoe := ownI_empty W
    have hbe := below_box W (.cells #[] 41)
    have hca := HE.out.codeAt.below hbe
    have hsz : W.heap.size ≤ (W.alloc (.cells #[] 41)).heap.size := hbe.size
    have hlen1 : ([] : List Ins).length + n ≤ 2600000000000 := by simp; omega
    have HBE := Lib.hid hbe
    clear hML hbe hM hrM HX6
    go_wp2_with (at_builtin; (refine append_code Tryd.underlying25 ins_info _ rfl (.tmp 77) (.tmp 78) rfl W.heap.size _ _ rfl hoe _ _ _ _ rfl HML.out hca hlen1 hsz ?_; intro vb wb hown hBb; clear hoe hca hlen1 hsz))
    rw [List.nil_append] at hown
    obtain ⟨Ab, cb, hvb, hcb⟩ := hown.codeAt
    rw [HML.out] at hvb
    subst hvb
    have hbb := HBE.out.trans hBb
    have HEb := Lib.hid (HE.out.up hbb)
    have HRb := Lib.hid (refEncode_any wb Ab n cb M HML.out (by omega) hcb HRM.out)
    clear hown hcb hbb hBb HE HBE
    go_wp2_with fail
    go_at_call 17
    refine HRb.out.mono ?_
    rintro e w8 ⟨v8, rfl, hown8, hB8⟩
    have HE8 := Lib.hid (HEb.out.up hB8)
    have HU8 := Lib.hid (encode_any w8 (some ⟨g, 0, none⟩) n c1 M HML.out (by omega) HE8.out.codeAt (HT.out.below HE8.out.below))
    have HO8 := Lib.hid hown8
    clear hB8 HEb HRb hown8
    generalize (checkL M 0).1 = k2 at *
    generalize (checkL M 0).2 = k3 at *
    go_wp2_with fail
    go_at_call 16
    refine HU8.out.mono ?_
    rintro e w9 ⟨v9, rfl, hown9, hB9⟩
    have HE9 := Lib.hid (HE8.out.up hB9)
    have hown8 := HO8.out.below hB9
    obtain ⟨B8, m8, b8, rfl, hm8⟩ := hown8.form'
    obtain ⟨B9, m9, b9, rfl, hm9⟩ := hown9.form'
    have hy8 : BytesAt w9 B8 (encU M) := by
      obtain ⟨A', c', e, hb⟩ := hown8.form
      injection e with e1 e2 e3; rw [e1]; exact hb
    have hy9 : BytesAt w9 B9 (encU M) := by
      obtain ⟨A', c', e, hb⟩ := hown9.form
      injection e with e1 e2 e3; rw [e1]; exact hb
    have HS9 := Lib.hid (sameBytes_both w9 B9 m9 b9 B8 m8 b8 (encU M) (encU M) hm9.out.symm hm8.out.symm hy9 hy8 HBM.out HBM.out)
    rw [decide_eq_true rfl] at HS9
    have HH9 := Lib.hid (held_any w9 g n c1 w.heap.size M HML.out (by omega) HE9.out.own HE9.out.mark)
    clear HU8 HE8 HO8 hB9 hown8 hown9 hm8 hm9 hy8 hy9
    go_wp2_with fail
    go_at_call 13
    refine HS9.out.mono ?_
    rintro e wd ⟨rfl, rfl⟩
    clear HS9
    go_wp2_with fail
    go_at_call 18
    refine HH9.out.mono ?_
    rintro e we ⟨rfl, hBe⟩
    have HEe := Lib.hid (HE9.out.up hBe)
    clear HH9 HE9 hBe
    go_wp2_with fail
    go_ret
    exact ⟨rfl, HEe.out.below⟩
end Go.Proofs.YtaglclmfjopnlaaDoor
/- CodeEncodes: for every input the law returns true, and each argument reads behind the call as it read before, in every world in which the program's three tables hold what the program's start lays (which the card ties to the program's text). -/
namespace Go.Proofs.YtaglclmfjopnlaaDoor
open Go.ChangeShapes Go.WideShapes Go.ChangeAt Go.RowKit
open Cod Bits
set_option linter.unusedVariables false
set_option maxRecDepth 100000
theorem codeEncodes_contract (H : Type) (enc : TypeId × Value → H) (W : World) (base : Nat) (args : Array Value) (ds gs : List (DataW H)) (before : List MemPlace)
    (hval0 : ∀ (j : Nat) t v, Tryd.f4.params[j]? = some t → args[j]? = some v → Value.okWide Tryd.prog W .any base t v)
    (hW : DataW.Whole enc Tryd.prog Tryd.f4.params.toList Rows.codeEncodesSpec.vars false W args.toList ds gs before)
    (hsz0 : (DataW.weightsEach Tryd.prog (Tryd.f4.params.toList ++ Rows.codeEncodesSpec.plain.varTypes Tryd.prog) (ds ++ gs)).all (· ≤ reachBytes) = true) (hL : laidMetH Tryd.prog laid4 W) :
    Calls Tryd.prog 4 args W fun e W' => ∃ v, e = .returned v ∧ Rows.codeEncodesSpec.post enc Tryd.prog Tryd.f4 false true false false W args v W' := by
  have hW' := hW
  have hval : ∀ (j : Nat) t v, Tryd.f4.params[j]? = some t → args[j]? = some v → Value.okWide Tryd.prog W .any base t v := hval0
  have hsz : (DataW.weightsEach Tryd.prog (Tryd.f4.params.toList ++ Rows.codeEncodesSpec.plain.varTypes Tryd.prog) (ds ++ gs)).all (· ≤ reachBytes) = true := hsz0
  clear hsz0
  obtain ⟨p, q, hAA, hV, rfl, hfz, hnd⟩ := hW
  have hA : DataW.TrodAll enc Tryd.prog W 0 (fun _ => true) true Tryd.f4.params.toList args.toList ds p := hAA
  rw [Tryd.params4] at hA hval hsz
  obtain ⟨v0, vs0, d0, ds0, p0, q0, hargs, rfl, rfl, h0, r0⟩ := trodAll_cons hA
  obtain ⟨rfl, rfl, rfl⟩ := trodAll_nil r0
  obtain rfl : args = #[v0] := by cases args; simp_all
  obtain ⟨rfl, rfl⟩ := trodVars_none hV
  obtain ⟨A0, n0, c0, L0, rfl, hL0, hR0, hA0, hcc0, hd0⟩ := open_code (hval 0 25 v0 rfl rfl) h0
  have hr0 : n0 ≤ 2513169434917 := by
    rcases hd0 with ⟨_, h⟩ | ⟨xs, ys, hx, rfl⟩
    · omega
    · have := sized_slice hsz (j := 0) (t := 25) (e := 41) rfl rfl Tryd.underlying25
      rw [show Tryd.prog.bytesOf 41 = 56 by kernel_rfl] at this
      simp only [reachBytes] at this
      omega
  clear hAA
  refine (codeEncodes_walk W A0 n0 c0 L0 hL0 (by omega) hA0 hR0 (tabs_of (laid_three hL)) (mark_of hL)).mono fun e W' ⟨he, hb⟩ => ?_
  subst he
  exact ⟨_, rfl, law_post laidOut Tryd.underlying4 rfl rfl (by decide +kernel) hW' rfl hb⟩
theorem codeEncodes_met (os : Os) : laidMet Tryd.prog Rows.codeEncodesRow.laid ((laidWorld4 os).forCall (fun _ _ => 0) ⟨#[], #[.slice none 0 0], []⟩).memory :=
  laidMet_of_run' 8 (by kernel_rfl) (by kernel_rfl)
theorem codeEncodes_reads (os : Os) {H : Type} (enc : TypeId × Value → H) : ∃ places, DataW.whole enc Tryd.prog ((laidWorld4 os).forCall (fun _ _ => 0) ⟨#[], #[.slice none 0 0], []⟩).memory Tryd.f4.params.toList Rows.codeEncodesSpec.vars false (#[.slice none 0 0] : Array Value).toList 8 = some ([.nil], [], places) :=
  ⟨[], by kernel_rfl⟩
set_option maxRecDepth 100000 in
theorem codeEncodes_lifted (os : Os) (started : os.Started) (H : Type) (enc : TypeId × Value → H) (F : Stop.Interp) :
    ReturnsInHanded {} Tryd.checked os 4 .any ((OpenSpec.ofChange Rows.codeEncodesSpec).preRow enc Tryd.prog Tryd.f4 Rows.codeEncodesRow.domain false Rows.codeEncodesRow.laid) (((OpenSpec.ofChange Rows.codeEncodesSpec).at F).post enc Tryd.prog Tryd.f4 false true false false) := by
  obtain ⟨places, hx⟩ := codeEncodes_reads os enc
  refine returnsInHanded_of_row (C := Tryd.checked) (s := (OpenSpec.ofChange Rows.codeEncodesSpec)) own started (by kernel_rfl) Tryd.func4
    (witness_row_at (enc := enc) (C := Tryd.checked) false (laidWorld4 os) #[.slice none 0 0] rfl (by kernel_rfl) (by kernel_rfl) (by kernel_rfl)
      (OpenSpec.preRow_of_cond 8 hx (by kernel_rfl) (fun k hk => by cases hk) (by kernel_rfl) (codeEncodes_met os))) ?_
  intro W base args ds gs before hval hW _ _ hsz hL _ _
  exact codeEncodes_contract H enc W base args ds gs before hval hW hsz hL
theorem codeEncodes_over : Rows.codeEncodesRow.holds Tryd.pinned (OpenSpec.ofChange Rows.codeEncodesSpec) :=
  OpenClaim.holds_of_cond 4 Tryd.f4 rfl rfl rfl rfl rfl rfl rfl ⟨rfl, rfl, rfl, rfl, rfl⟩ rfl rfl rfl rfl rfl (by kernel_rfl) Tryd.func4 (by kernel_rfl)
    (of_decide_eq_true (by kernel_rfl)) (by unfold Func.isWrapper; first | (rw [if_pos (by decide +kernel)]; kernel_rfl) | (rw [if_neg (by decide +kernel)]; exact ⟨rfl, rfl⟩))
    (fun os started H enc _ F => by rw [OpenClaim.pre_eq_preRow]; exact codeEncodes_lifted os started H enc F)
theorem codeEncodes_plain (f : FuncId) (fn : Func) (hf : Tryd.pinned.checked.prog.funcNamed "warrant/warrantlaw02.CodeEncodes" = some f) (hfn : Tryd.pinned.checked.prog.funcs[f]? = some fn) :
    true = Tryd.pinned.checked.prog.looks [] ∧ ∀ (j : Nat) t, fn.params[j]? = some t → Tryd.pinned.checked.prog.wantsStandIn t = false := by
  obtain rfl : f = 4 := Option.some.inj ((show Tryd.prog.funcNamed "warrant/warrantlaw02.CodeEncodes" = some 4 by kernel_rfl).symm.trans hf) |>.symm
  obtain rfl : fn = Tryd.f4 := (Option.some.inj (Tryd.func4.symm.trans hfn)).symm
  refine ⟨by kernel_rfl, fun j t ht => ?_⟩
  rw [Tryd.params4] at ht
  rcases j with _ | j
  · obtain rfl : 25 = t := Option.some.inj ht
    kernel_rfl
  simp at ht
theorem codeEncodes_proved : Rows.CodeEncodesCardSaid :=
  Claim7.holds_tied_plain_at .later [] _ _ _ _ codeEncodes_over (fun _ h => by cases h) (by kernel_rfl) (fun _ h => by cases h) codeEncodes_row_tie rfl ⟨rfl, rfl⟩ (by kernel_rfl) rfl codeEncodes_plain (by kernel_rfl)
#print axioms codeEncodes_proved
end Go.Proofs.YtaglclmfjopnlaaDoor
