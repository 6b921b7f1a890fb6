/- Texts in one: RfD RfE RfL RfN. -/
import Derived.Test.YtlodoinmippebaaDoorRfA
import Derived.Test.YtlodoinmippebaaDoorCodeT
import Derived.Deep.DeepCutAuto
import Derived.Deep.CutBlock
import Derived.StillTailTactics
/- The table of rows, plain mathematics: what is written by a row is what package code writes; what is read by the rows of an opcode is what package code reads. -/
namespace Go.Proofs.YtlodoinmippebaaDoor.Rf
open Go.RowKit
open Cod
set_option linter.unusedVariables false

/-! a row's own numbers -/
def srcN (op : Int) : Int := if op = 21 then 6 else 0
def offN (op size : Int) : Int := if op = 6 ∨ op = 7 then 1 else if op = 16 then size else 0
def immN (op size : Int) : Int := if op = 17 ∨ op = 18 ∨ op = 19 then size else 0
def formOk2 (op : Int) (nar reg : Bool) (size : Int) : Bool :=
  match findR op nar reg size with
  | none => true
  | some y => y.code == opcodeL op nar reg size && y.reg == reg && y.size == size && (y.dst == -1 || y.dst == 0) && (if y.src = -1 then decide (op ≠ 21) else y.src == srcN op) && (if y.off = -1 then decide (op ≠ 6) && (decide (op ≠ 7) && decide (op ≠ 16)) else y.off == offN op size) &&
      (if y.imm = -1 then decide (op ≠ 21) && (decide (op ≠ 17) && (decide (op ≠ 18) && decide (op ≠ 19))) else decide (op ≠ 20) && y.imm == immN op size) && ((y.second == -1) == (op == 20 || op == 21))
def chkR2 : Bool := (List.range 40).all fun op => [true, false].all fun nar => [true, false].all fun reg => sizesA.all fun size => formOk2 op nar reg size
theorem chkR2_ok : chkR2 = true := by kernel_rfl
theorem form_ok2 (op : Int) (nar reg : Bool) (size : Int) : formOk2 op nar reg size = true := by
  by_cases h : (1 ≤ op ∧ op ≤ 39) ∧ size ∈ sizesA
  · obtain ⟨⟨h1, h2⟩, h3⟩ := h
    have h0 := chkR2_ok
    unfold chkR2 at h0
    have a1 := List.all_eq_true.1 h0 op.toNat (List.mem_range.2 (by omega))
    rw [show ((op.toNat : Nat) : Int) = op by omega] at a1
    have a2 := List.all_eq_true.1 a1 nar (by cases nar <;> simp)
    have a3 := List.all_eq_true.1 a2 reg (by cases reg <;> simp)
    exact List.all_eq_true.1 a3 size h3
  · have hn : findR op nar reg size = none := by
      unfold findR
      rw [List.find?_eq_none]
      intro r hr hf
      have hk := List.all_eq_true.1 rows_ok r hr
      unfold rowOk at hk
      unfold RRow.fitsI at hf
      simp only [Bool.and_eq_true, decide_eq_true_eq, beq_iff_eq, List.contains_iff_mem] at hk hf
      refine h ⟨by omega, ?_⟩
      rw [← hf.2]; exact hk.2
    unfold formOk2
    rw [hn]
structure Found2 (op : Int) (nar reg : Bool) (size : Int) (y : RRow) : Prop where
  code : y.code = opcodeL op nar reg size
  eqReg : y.reg = reg
  eqSize : y.size = size
  dst : y.dst = -1 ∨ y.dst = 0
  src : (y.src = -1 ∧ op ≠ 21) ∨ (y.src ≠ -1 ∧ y.src = srcN op)
  off : (y.off = -1 ∧ op ≠ 6 ∧ op ≠ 7 ∧ op ≠ 16) ∨ (y.off ≠ -1 ∧ y.off = offN op size)
  imm : (y.imm = -1 ∧ op ≠ 21 ∧ op ≠ 17 ∧ op ≠ 18 ∧ op ≠ 19) ∨ (y.imm ≠ -1 ∧ op ≠ 20 ∧ y.imm = immN op size)
  second : (y.second == -1) = (op == 20 || op == 21)
theorem found_more {op : Int} {nar reg : Bool} {size : Int} {y : RRow} (h : findR op nar reg size = some y) : Found2 op nar reg size y := by
  have hf := form_ok2 op nar reg size
  unfold formOk2 at hf
  rw [h] at hf
  simp only [Bool.and_eq_true, beq_iff_eq, Bool.or_eq_true] at hf
  obtain ⟨⟨⟨⟨⟨⟨⟨f0, f1⟩, f2⟩, f3⟩, f4⟩, f5⟩, f6⟩, f7⟩ := hf
  refine ⟨f0, f1, f2, f3, ?_, ?_, ?_, f7⟩
  · split at f4
    · rename_i e; exact .inl ⟨e, of_decide_eq_true f4⟩
    · rename_i e; exact .inr ⟨e, by simpa using f4⟩
  · split at f5
    · rename_i e
      simp only [Bool.and_eq_true, decide_eq_true_eq] at f5
      exact .inl ⟨e, f5.1, f5.2.1, f5.2.2⟩
    · rename_i e; exact .inr ⟨e, by simpa using f5⟩
  · split at f6
    · rename_i e
      simp only [Bool.and_eq_true, decide_eq_true_eq] at f6
      exact .inl ⟨e, f6.1, f6.2.1, f6.2.2.1, f6.2.2.2⟩
    · rename_i e
      simp only [Bool.and_eq_true, decide_eq_true_eq, beq_iff_eq] at f6
      exact .inr ⟨e, f6.1, f6.2⟩

/-! bytes -/
def lowL (x : Int) : Nat → List Int
  | 0 => []
  | k + 1 => x % 256 :: lowL (x / 256) k
def pickN (own x : Int) : Int := if own = -1 then x else own
def bytesR (y : RRow) (x : Ins) : List Int :=
  [y.code % 256, (16 * pickN y.src x.src + pickN y.dst x.dst) % 256] ++ lowL (pickN y.off x.off) 2 ++ lowL (pickN y.imm x.imm) 4 ++
  (if x.op = 20 then [0, 0, 0, 0] ++ lowL (x.imm / 4294967296) 4 else if x.op = 21 then [0, 0, 0, 0] ++ lowL x.imm 4 else [])
theorem low2 (x : Int) : lowL x 2 = [x % 256, x / 256 % 256] := rfl
theorem low4 (x : Int) : lowL x 4 = [x % 256, x / 256 % 256, x / 65536 % 256, x / 16777216 % 256] := by
  simp only [lowL]
  rw [show x / 256 / 256 = x / 65536 by omega, show x / 65536 / 256 = x / 16777216 by omega]
theorem low4_wrap (x : Int) : lowL (wrap32 x) 4 = lowL x 4 := by
  rw [low4, low4]
  unfold wrap32
  have e1 : ((x + 2147483648) % 4294967296 - 2147483648) % 256 = x % 256 := by omega
  have e2 : ((x + 2147483648) % 4294967296 - 2147483648) / 256 % 256 = x / 256 % 256 := by omega
  have e3 : ((x + 2147483648) % 4294967296 - 2147483648) / 65536 % 256 = x / 65536 % 256 := by omega
  have e4 : ((x + 2147483648) % 4294967296 - 2147483648) / 16777216 % 256 = x / 16777216 % 256 := by omega
  rw [e1, e2, e3, e4]
theorem unitB_low (oc d s o m : Int) (hd : 0 ≤ d ∧ d < 16) (hs : 0 ≤ s ∧ s < 16) : unitB oc d s o m = [oc % 256, (16 * s + d) % 256] ++ lowL o 2 ++ lowL m 4 := by
  rw [low2, low4]
  unfold unitB
  rw [or_nib hd hs, Int.add_comm d]
  rfl
theorem unitB_zero (m : Int) : unitB 0 0 0 0 m = [0, 0, 0, 0] ++ lowL m 4 := by
  rw [unitB_low 0 0 0 0 m (by decide) (by decide)]; rfl
theorem bytes_ref {i : Ins} {y : RRow} (h : Right i) (hy : findR i.op i.nar i.reg i.size = some y) : bytesR y i = insB i := by
  have F := found_some hy
  have G := found_more hy
  have hr := regs_rng h
  have hp4 := F.dst
  have hp8 := F.src
  have hp16 := F.off
  have hd : pickN y.dst i.dst = i.dst := by
    unfold pickN
    rcases G.dst with e | e
    · rw [if_pos e]
    · rw [e] at hp4 ⊢
      rcases h.dst with h1 | h1
      · rw [h1] at hp4; exact absurd hp4 (by decide)
      · rw [h1]; rfl
  have hs : pickN y.src i.src = firstS i := by
    unfold pickN firstS
    rcases G.src with ⟨e, e2⟩ | ⟨e, e2⟩
    · rw [if_pos e, if_neg e2]
    · rw [if_neg e, e2]
      unfold srcN
      split
      · rfl
      · rcases h.src with h1 | h1
        · rw [h1] at hp8
          have : y.src = -1 := by simpa using hp8
          exact absurd this e
        · exact h1.symm
  have ho : pickN y.off i.off = firstO i := by
    unfold pickN firstO
    rcases G.off with ⟨e, e2, e3, e4⟩ | ⟨e, e2⟩
    · rw [if_pos e, if_neg (by omega), if_neg e4]
    · rw [if_neg e, e2]
      unfold offN
      split
      · rfl
      · split
        · rfl
        · rcases h.off with h1 | h1
          · rw [h1] at hp16
            have : y.off = -1 := by simpa using hp16
            exact absurd this e
          · exact h1.symm
  have hm : lowL (pickN y.imm i.imm) 4 = lowL (firstI i) 4 := by
    unfold pickN firstI
    rcases G.imm with ⟨e, e2, e3, e4, e5⟩ | ⟨e, e2, e3⟩
    · rw [if_pos e, if_neg (by omega)]
      split
      · exact (low4_wrap _).symm
      · first | rfl | rw [if_neg e2]
    · rw [if_neg e, e3]
      unfold immN
      split
      · rfl
      · try rw [if_neg e2]
        split
        · rfl
        · rename_i h21
          rcases imm_named i h with h1 | h1
          · have hq := F.imm
            rw [h1] at hq
            have hsec := G.second
            have : (y.second == -1) = false := by rw [hsec]; simp [e2, h21]
            rw [this] at hq
            have : y.imm = -1 := by simpa using hq
            exact absurd this e
          · rw [h1]
  have hf : 0 ≤ firstS i ∧ firstS i < 16 := by unfold firstS; split <;> omega
  unfold bytesR insB
  rw [hd, hs, ho, hm, unitB_low i.oc i.dst (firstS i) (firstO i) (firstI i) hr.1 hf, G.code, show opcodeL i.op i.nar i.reg i.size = i.oc from rfl, unitB_zero]
  congr 1
  unfold isLong secondI
  by_cases h20 : i.op = 20
  · simp [h20]
  · by_cases h21 : i.op = 21
    · simp [h21]
    · simp [h20, h21]

/-! reading by the rows of one opcode -/
def rowsC (c : Int) : List RRow := rowsL.filter fun r => r.code == c
def fitR (r : RRow) (dst src off : Int) : Bool := (r.dst == -1 || r.dst == dst) && (r.src == -1 || r.src == src) && (r.off == -1 || r.off == off)
def immR (r : RRow) (imm sec : Int) : Int := if r.op = 20 then sec * 4294967296 + (if imm < 0 then imm + 4294967296 else imm) else if r.op = 21 then sec else if r.imm = -1 then imm else 0
def insR (r : RRow) (dst src off imm sec : Int) : Ins := ⟨r.op, r.nar, r.reg, r.size, if r.dst = -1 then dst else 0, if r.src = -1 then src else 0, if r.off = -1 then off else 0, immR r imm sec⟩
def readR (r : RRow) (imm sec : Int) : Bool :=
  if r.imm ≠ -1 ∧ r.imm ≠ imm then false else if r.imm = -1 ∨ r.second = -1 then goodR r (immR r imm sec) else true
def formI (r : RRow) : Ins := ⟨r.op, r.nar, r.reg, r.size, 0, 0, 0, 0⟩
theorem own_ok : (rowsL.all fun r => decide (findR r.op r.nar r.reg r.size = some r)) = true := by kernel_rfl
theorem find_own {r : RRow} (h : r ∈ rowsL) : findR r.op r.nar r.reg r.size = some r := of_decide_eq_true (List.all_eq_true.1 own_ok r h)
theorem beq_bit {a x : Int} {b : Bool} (h : (a == -1) = b) : (if a = -1 then x else 0) = if b = true then x else 0 := by
  subst h
  by_cases e : a = -1 <;> simp [e]
structure Core (r : RRow) (u v : U) (i : Ins) : Prop where
  ins : insR r u.dst u.src u.off u.imm v.imm = i
  regs : regsR r u.dst u.src u.imm = registersL i.op i.nar i.reg i.dst i.src i.imm
  fit : fitR r u.dst u.src u.off = decide (u.dst = i.dst ∧ u.src = firstS i ∧ u.off = firstO i)
  read : readR r u.imm v.imm = decide (u.imm = firstI i ∧ sizedL i.op i.nar i.size = true ∧ immediateL i.op i.nar i.reg i.imm = true)
theorem bit_prop {a : Int} (b : Prop) [Decidable b] (h : (a == 1) = decide b) : (a = 1) = b := by
  apply propext
  by_cases hb : b
  · have : (a == 1) = true := by rw [h]; exact decide_eq_true hb
    exact ⟨fun _ => hb, fun _ => by simpa using this⟩
  · have : (a == 1) = false := by rw [h]; exact decide_eq_false hb
    exact ⟨fun e => by rw [e] at this; exact absurd this (by decide), fun e => absurd e hb⟩
theorem core {r : RRow} (hr : r ∈ rowsL) {u v : U} (hu : UOk u) (hv : UOk v) : Core r u v (filledL (formI r) u v) := by
  have hy := find_own hr
  have F := found_some (i := formI r) hy
  have G := found_more hy
  have hui := hu.imm
  have p4 : ((formI r).p / 4 % 2 = 1) = (r.dst = -1) := bit_prop _ (by rw [← F.dst]; rfl)
  have p8 : ((formI r).p / 8 % 2 = 1) = (r.src = -1) := bit_prop _ (by rw [← F.src]; rfl)
  have p16 : ((formI r).p / 16 % 2 = 1) = (r.off = -1) := bit_prop _ (by rw [← F.off]; rfl)
  have p32 : ((formI r).p / 32 % 2 = 1) = (r.imm = -1 ∨ r.second = -1) := bit_prop _ (by rw [← F.imm, Bool.eq_iff_iff]; simp)
  have hsec : r.second = -1 ↔ (r.op = 20 ∨ r.op = 21) := by
    have := G.second
    constructor
    · intro e; rw [e] at this; simpa using this.symm
    · intro e
      have h2 : (r.op == 20 || r.op == 21) = true := by simpa using e
      rw [h2] at this; simpa using this
  have ein : insR r u.dst u.src u.off u.imm v.imm = filledL (formI r) u v := by
    unfold insR filledL
    simp only [p4, p8, p16, p32]
    have e : immR r u.imm v.imm = if (formI r).op = 20 then v.imm * 4294967296 + u.imm % 4294967296 else if (formI r).op = 21 then v.imm else if r.imm = -1 ∨ r.second = -1 then u.imm else (formI r).imm := by
      show immR r u.imm v.imm = if r.op = 20 then v.imm * 4294967296 + u.imm % 4294967296 else if r.op = 21 then v.imm else if r.imm = -1 ∨ r.second = -1 then u.imm else 0
      unfold immR
      by_cases h20 : r.op = 20
      · rw [if_pos h20, if_pos h20]; split <;> omega
      rw [if_neg h20, if_neg h20]
      by_cases h21 : r.op = 21
      · rw [if_pos h21, if_pos h21]
      rw [if_neg h21, if_neg h21]
      by_cases hi : r.imm = -1
      · rw [if_pos hi, if_pos (.inl hi)]
      · rw [if_neg hi, if_neg (by rw [hsec]; omega)]
    rw [e]
    rfl
  have hq : (filledL (formI r) u v).op = r.op ∧ (filledL (formI r) u v).nar = r.nar ∧ (filledL (formI r) u v).reg = r.reg ∧ (filledL (formI r) u v).size = r.size := ⟨rfl, rfl, rfl, rfl⟩
  have hd : (filledL (formI r) u v).dst = if r.dst = -1 then u.dst else 0 := by rw [← ein]; rfl
  have hs : (filledL (formI r) u v).src = if r.src = -1 then u.src else 0 := by rw [← ein]; rfl
  have ho : (filledL (formI r) u v).off = if r.off = -1 then u.off else 0 := by rw [← ein]; rfl
  have hm : (filledL (formI r) u v).imm = immR r u.imm v.imm := by rw [← ein]; rfl
  obtain ⟨q1, q2, q3, q4⟩ := hq
  have hvi := hv.imm
  generalize filledL (formI r) u v = i at *
  refine ⟨ein, ?_, ?_, ?_⟩
  · rw [q1, q2, q3]
    refine Eq.trans ?_ (F.regs i.dst i.src i.imm)
    rw [hd, hs, hm]
    unfold regsR
    by_cases e1 : r.dst = -1
    · by_cases e2 : r.src = -1
      · rw [if_pos e1, if_pos e2]
        by_cases e25 : r.op = 25
        · have : immR r u.imm v.imm = u.imm := by
            unfold immR
            rw [if_neg (by omega), if_neg (by omega)]
            rcases G.imm with ⟨e, _⟩ | ⟨e, _, e3⟩
            · rw [if_pos e]
            · exfalso
              have h1 := F.imm
              have h2 : ((formI r).p / 32 % 2 == 1) = true := by
                show (namedL r.op r.nar r.reg / 32 % 2 == 1) = true
                rw [e25]; cases r.nar <;> cases r.reg <;> rfl
              rw [h2] at h1
              have h3 : (r.second == -1) = false := by rw [G.second, e25]; rfl
              rw [h3] at h1
              exact e (by simpa using h1)
          rw [this]
        · have : (r.op == 25) = false := by rw [beq_eq_false_iff_ne]; exact e25
          rw [this]; rfl
      · have : (r.src == -1) = false := by rw [beq_eq_false_iff_ne]; exact e2
        rw [if_pos e1, this]; rfl
    · have : (r.dst == -1) = false := by rw [beq_eq_false_iff_ne]; exact e1
      rw [this]
      by_cases e2 : r.src = -1
      · rw [if_pos e2]
        by_cases e25 : r.op = 25
        · exfalso
          have h1 := F.dst
          have h2 : ((formI r).p / 4 % 2 == 1) = true := by
            show (namedL r.op r.nar r.reg / 4 % 2 == 1) = true
            rw [e25]; cases r.nar <;> cases r.reg <;> rfl
          rw [h2] at h1
          exact e1 (by simpa using h1)
        · have : (r.op == 25) = false := by rw [beq_eq_false_iff_ne]; exact e25
          rw [this]; rfl
      · have : (r.src == -1) = false := by rw [beq_eq_false_iff_ne]; exact e2
        rw [this]; rfl
  · have k1 : (r.dst == -1 || r.dst == u.dst) = decide (u.dst = i.dst) := by
      rw [hd]
      rcases G.dst with e | e
      · rw [e]; simp
      · rw [e, if_neg (by decide), Bool.eq_iff_iff]; simp; exact eq_comm
    have k2 : (r.src == -1 || r.src == u.src) = decide (u.src = firstS i) := by
      unfold firstS
      rw [q1, hs]
      rcases G.src with ⟨e, e2⟩ | ⟨e, e2⟩
      · rw [e, if_neg e2]; simp
      · rw [if_neg e, show (r.src == -1) = false by rw [beq_eq_false_iff_ne]; exact e, Bool.false_or, e2, Bool.eq_iff_iff]
        unfold srcN
        simp; exact eq_comm
    have k3 : (r.off == -1 || r.off == u.off) = decide (u.off = firstO i) := by
      unfold firstO
      rw [q1, q4, ho]
      rcases G.off with ⟨e, e2, e3, e4⟩ | ⟨e, e2⟩
      · rw [e, if_neg (by omega), if_neg e4]; simp
      · rw [if_neg e, show (r.off == -1) = false by rw [beq_eq_false_iff_ne]; exact e, Bool.false_or, e2, Bool.eq_iff_iff]
        unfold offN
        simp; exact eq_comm
    unfold fitR
    rw [k1, k2, k3, Bool.eq_iff_iff]
    simp only [Bool.and_eq_true, decide_eq_true_eq]
    exact and_assoc
  · have hsz : sizedL i.op i.nar i.size = true := by rw [q1, q2, q4]; exact (op_sized F.ops).2
    have himm : immediateL i.op i.nar i.reg i.imm = if r.imm = -1 ∨ r.second = -1 then immB r.op r.nar i.imm else i.imm == 0 := by
      rw [immediate_b, q1, q2, q3]
      have : ((namedL r.op r.nar r.reg / 32 % 2 == 1) = true) = (r.imm = -1 ∨ r.second = -1) := by
        rw [← p32]; simp [Ins.p, formI]
      simp only [this]
    rcases G.imm with ⟨e, e2, e3, e4, e5⟩ | ⟨e, e2, e3⟩
    · have hF : firstI i = u.imm := by
        unfold firstI
        rw [q1, q4, hm, if_neg (by omega)]
        unfold immR
        by_cases h20 : r.op = 20
        · rw [if_pos h20, if_pos h20]; unfold wrap32; split <;> omega
        · rw [if_neg h20, if_neg h20, if_neg e2, if_neg e2, if_pos e]
      have hI : immediateL i.op i.nar i.reg i.imm = immB r.op r.nar (immR r u.imm v.imm) := by rw [himm, if_pos (.inl e), hm]
      have hR : readR r u.imm v.imm = immB r.op r.nar (immR r u.imm v.imm) := by
        unfold readR
        rw [if_neg (fun h => h.1 e), if_pos (.inl e), good_imm]
      rw [hR, hF, hI, hsz]
      simp
    · have hF : firstI i = r.imm := by
        unfold firstI
        rw [q1, q4, hm, e3]
        unfold immN
        by_cases h17 : r.op = 17 ∨ r.op = 18 ∨ r.op = 19
        · rw [if_pos h17, if_pos h17]
        · rw [if_neg h17, if_neg h17, if_neg e2]
          by_cases h21 : r.op = 21
          · rw [if_pos h21]
          · rw [if_neg h21]; unfold immR; rw [if_neg e2, if_neg h21, if_neg e]
      rw [hF]
      by_cases hc : r.imm = u.imm
      · by_cases h21 : r.op = 21
        · have hs2 : r.second = -1 := hsec.2 (.inr h21)
          have hI : immediateL i.op i.nar i.reg i.imm = immB r.op r.nar (immR r u.imm v.imm) := by rw [himm, if_pos (.inr hs2), hm]
          have hR : readR r u.imm v.imm = immB r.op r.nar (immR r u.imm v.imm) := by
            unfold readR
            rw [if_neg (fun h => h.2 hc), if_pos (.inr hs2), good_imm]
          rw [hR, hI, hsz, ← hc]
          simp
        · have hn : ¬ (r.imm = -1 ∨ r.second = -1) := by rw [hsec]; omega
          have hz : immR r u.imm v.imm = 0 := by unfold immR; rw [if_neg e2, if_neg h21, if_neg e]
          have hI : immediateL i.op i.nar i.reg i.imm = true := by rw [himm, if_neg hn, hm, hz]; rfl
          have hR : readR r u.imm v.imm = true := by
            unfold readR
            rw [if_neg (fun h => h.2 hc), if_neg hn]
          rw [hR, hI, hsz, ← hc]
          simp
      · have hR : readR r u.imm v.imm = false := by unfold readR; rw [if_pos ⟨e, hc⟩]
        rw [hR]
        symm
        rw [decide_eq_false_iff_not]
        rintro ⟨h1, -⟩
        exact hc h1.symm
end Go.Proofs.YtlodoinmippebaaDoor.Rf
/- Reading by the rows of one opcode is what package code reads: plain mathematics. -/
namespace Go.Proofs.YtlodoinmippebaaDoor.Rf
open Go.RowKit
open Cod
set_option linter.unusedVariables false

def pickR (rs : List RRow) (u : U) (sec : Int) (bad : Bool) : Int × Ins :=
  match rs with
  | [] => (21, zeroI)
  | a :: t => if regsR a u.dst u.src u.imm = false then (22, zeroI) else
    if ((a :: t).filter fun r => fitR r u.dst u.src u.off) = [] ∨ bad = true then (23, zeroI) else
    match ((a :: t).filter fun r => fitR r u.dst u.src u.off).find? (fun r => readR r u.imm sec) with
    | none => (24, zeroI)
    | some r => (0, insR r u.dst u.src u.off u.imm sec)
theorem pick_sel {a : RRow} {t : List RRow} {u : U} {sec : Int} {bad : Bool} {r : RRow} (hr : r ∈ a :: t) (hreg : regsR a u.dst u.src u.imm = regsR r u.dst u.src u.imm)
    (ho : ∀ x ∈ a :: t, x ≠ r → fitR x u.dst u.src u.off = false ∨ (fitR x u.dst u.src u.off = fitR r u.dst u.src u.off ∧ readR x u.imm sec = false)) :
    pickR (a :: t) u sec bad = if regsR r u.dst u.src u.imm = false then (22, zeroI) else if fitR r u.dst u.src u.off = false ∨ bad = true then (23, zeroI) else
      if readR r u.imm sec = true then (0, insR r u.dst u.src u.off u.imm sec) else (24, zeroI) := by
  unfold pickR
  simp only
  rw [hreg]
  by_cases h1 : regsR r u.dst u.src u.imm = false
  · rw [if_pos h1, if_pos h1]
  rw [if_neg h1, if_neg h1]
  have hemp : (((a :: t).filter fun r => fitR r u.dst u.src u.off) = []) = (fitR r u.dst u.src u.off = false) := by
    apply propext
    rw [List.filter_eq_nil_iff]
    constructor
    · intro h; simpa using h r hr
    · intro h x hx
      by_cases hxr : x = r
      · rw [hxr, h]; decide
      · rcases ho x hx hxr with h2 | h2
        · rw [h2]; decide
        · rw [h2.1, h]; decide
  simp only [hemp]
  by_cases h2 : fitR r u.dst u.src u.off = false ∨ bad = true
  · rw [if_pos h2, if_pos h2]
  rw [if_neg h2, if_neg h2]
  have hfit : fitR r u.dst u.src u.off = true := by
    cases hf : fitR r u.dst u.src u.off with
    | true => rfl
    | false => exact absurd (.inl hf) h2
  have hmem : r ∈ (a :: t).filter fun r => fitR r u.dst u.src u.off := List.mem_filter.2 ⟨hr, hfit⟩
  have hoth : ∀ x ∈ (a :: t).filter (fun r => fitR r u.dst u.src u.off), x ≠ r → readR x u.imm sec = false := by
    intro x hx hxr
    obtain ⟨k1, k2⟩ := List.mem_filter.1 hx
    rcases ho x k1 hxr with h3 | h3
    · rw [h3] at k2; exact absurd k2 (by decide)
    · exact h3.2
  generalize (a :: t).filter (fun r => fitR r u.dst u.src u.off) = F at *
  by_cases h3 : readR r u.imm sec = true
  · rw [if_pos h3]
    cases hf : F.find? (fun r => readR r u.imm sec) with
    | none => exact absurd h3 (by simpa using List.find?_eq_none.1 hf r hmem)
    | some x =>
      have k1 := List.mem_of_find?_eq_some hf
      have k2 := List.find?_some hf
      by_cases hxr : x = r
      · rw [hxr]
      · rw [hoth x k1 hxr] at k2; exact absurd k2 (by decide)
  · rw [if_neg h3]
    have hf : F.find? (fun r => readR r u.imm sec) = none := by
      rw [List.find?_eq_none]
      intro x hx
      by_cases hxr : x = r
      · rw [hxr]; exact h3
      · rw [hoth x hx hxr]; decide
    rw [hf]
def badU (v : U) : Bool := !(decide (v.oc = 0 ∧ v.dst = 0 ∧ v.src = 0 ∧ v.off = 0))
/-- what reading answers: the error, and the instruction where there is none -/
def readE (i : Ins) (u v : U) : Int × Ins := if errL i u v = 0 then (0, i) else (errL i u v, zeroI)
theorem errL_core {r : RRow} {u v : U} {i : Ins} (C : Core r u v i) :
    readE i u v = if regsR r u.dst u.src u.imm = false then (22, zeroI) else if fitR r u.dst u.src u.off = false ∨ badU v = true then (23, zeroI) else
      if readR r u.imm v.imm = true then (0, insR r u.dst u.src u.off u.imm v.imm) else (24, zeroI) := by
  rw [C.regs, C.fit, C.read, C.ins]
  unfold readE errL badU
  by_cases h1 : registersL i.op i.nar i.reg i.dst i.src i.imm = false
  · simp only [if_pos h1]; rfl
  simp only [if_neg h1]
  by_cases h2 : u.dst = i.dst ∧ u.src = firstS i ∧ u.off = firstO i
  · by_cases h3 : v.oc = 0 ∧ v.dst = 0 ∧ v.src = 0 ∧ v.off = 0
    · have e1 : ¬ (decide (u.dst = i.dst ∧ u.src = firstS i ∧ u.off = firstO i) = false ∨ (!decide (v.oc = 0 ∧ v.dst = 0 ∧ v.src = 0 ∧ v.off = 0)) = true) := by
        rw [decide_eq_true h2, decide_eq_true h3]; decide
      simp only [if_neg (not_not_intro h2), if_neg (not_not_intro h3), if_neg e1]
      by_cases h4 : u.imm = firstI i ∧ sizedL i.op i.nar i.size = true ∧ immediateL i.op i.nar i.reg i.imm = true
      · simp only [if_neg (not_not_intro h4), decide_eq_true h4, if_true]
      · simp only [if_pos h4, decide_eq_false h4]; rfl
    · have e1 : decide (u.dst = i.dst ∧ u.src = firstS i ∧ u.off = firstO i) = false ∨ (!decide (v.oc = 0 ∧ v.dst = 0 ∧ v.src = 0 ∧ v.off = 0)) = true := .inr (by rw [decide_eq_false h3]; rfl)
      simp only [if_neg (not_not_intro h2), if_pos h3, if_pos e1]; rfl
  · have e1 : decide (u.dst = i.dst ∧ u.src = firstS i ∧ u.off = firstO i) = false ∨ (!decide (v.oc = 0 ∧ v.dst = 0 ∧ v.src = 0 ∧ v.off = 0)) = true := .inl (decide_eq_false h2)
    simp only [if_pos h2, if_pos e1]; rfl
theorem pick_core {a : RRow} {t : List RRow} {u v : U} {r : RRow} (hu : UOk u) (hv : UOk v) (hsub : ∀ x ∈ a :: t, x ∈ rowsL) (hr : r ∈ a :: t) (hc : chosenL (opL u.oc) u = formI r) (hreg : regsR a u.dst u.src u.imm = regsR r u.dst u.src u.imm)
    (ho : ∀ x ∈ a :: t, x ≠ r → fitR x u.dst u.src u.off = false ∨ (fitR x u.dst u.src u.off = fitR r u.dst u.src u.off ∧ readR x u.imm v.imm = false)) :
    pickR (a :: t) u v.imm (badU v) = readE (readL u v) u v := by
  have C := core (hsub r hr) hu hv
  rw [pick_sel hr hreg ho]
  unfold readL
  rw [hc]
  exact (errL_core C).symm

/-! the opcodes -/
def special (c : Int) : Bool := c == 24 || c == 191 || c == 188 || c == 212 || c == 220 || c == 215
def catOk (c : Int) : Bool :=
  special c || match rowsC c with
  | [] => (opL c).op == 0
  | [r] => decide (opL c = formI r) && (decide (r.op ≠ 4 ∧ r.op ≠ 5 ∧ r.op ≠ 17 ∧ r.op ≠ 18 ∧ r.op ≠ 19 ∧ r.op ≠ 20) && (decide (r.op ≠ 15) || !r.reg))
  | [a, b] => decide (opL c = formI a) && (((a.op == 4 && b.op == 6) || (a.op == 5 && b.op == 7)) && (decide (b.nar = a.nar ∧ b.reg = a.reg ∧ b.size = a.size ∧ b.dst = a.dst ∧ b.src = a.src ∧ b.writes = a.writes) && (a.off == 0 && b.off == 1)))
  | _ => false
def chkC : Bool := (List.range 256).all fun c => catOk (c : Int)
theorem chkC_ok : chkC = true := by kernel_rfl
theorem rowsC_sub {c : Int} {x : RRow} (h : x ∈ rowsC c) : x ∈ rowsL := (List.mem_filter.1 h).1
theorem chosen_plain {r : RRow} (u : U) (h : r.op ≠ 4 ∧ r.op ≠ 5 ∧ r.op ≠ 17 ∧ r.op ≠ 18 ∧ r.op ≠ 19 ∧ r.op ≠ 20) (h15 : r.op ≠ 15 ∨ r.reg = false) : chosenL (formI r) u = formI r := by
  unfold chosenL formI
  simp only
  rw [if_neg h.1, if_neg h.2.1]
  by_cases h1 : r.op = 15
  · rw [if_pos h1]
    rcases h15 with h2 | h2
    · exact absurd h1 h2
    · rw [h2]
      have : operatesL 16 r.nar false u.off = false := by unfold operatesL; simp
      rw [this]; simp
  · rw [if_neg h1, if_neg (by omega), if_neg (by omega)]
theorem regs_like {a b : RRow} (h1 : b.dst = a.dst) (h2 : b.src = a.src) (h3 : b.writes = a.writes) (h4 : a.op ≠ 25) (h5 : b.op ≠ 25) (d s m : Int) : regsR a d s m = regsR b d s m := by
  unfold regsR
  rw [h1, h2, h3, show (a.op == 25) = false by rw [beq_eq_false_iff_ne]; exact h4, show (b.op == 25) = false by rw [beq_eq_false_iff_ne]; exact h5]
theorem fit_no_off {r : RRow} {d s o : Int} (h1 : r.off ≠ -1) (h2 : r.off ≠ o) : fitR r d s o = false := by
  unfold fitR
  rw [show (r.off == -1) = false by rw [beq_eq_false_iff_ne]; exact h1, show (r.off == o) = false by rw [beq_eq_false_iff_ne]; exact h2]
  simp
theorem fit_no_src {r : RRow} {d s o : Int} (h1 : r.src ≠ -1) (h2 : r.src ≠ s) : fitR r d s o = false := by
  unfold fitR
  rw [show (r.src == -1) = false by rw [beq_eq_false_iff_ne]; exact h1, show (r.src == s) = false by rw [beq_eq_false_iff_ne]; exact h2]
  simp
theorem read_no {r : RRow} {m sec : Int} (h1 : r.imm ≠ -1) (h2 : r.imm ≠ m) : readR r m sec = false := by unfold readR; rw [if_pos ⟨h1, h2⟩]
theorem pick_one {r : RRow} {u v : U} (hu : UOk u) (hv : UOk v) (hrs : rowsC u.oc = [r]) (hop : opL u.oc = formI r) (h : r.op ≠ 4 ∧ r.op ≠ 5 ∧ r.op ≠ 17 ∧ r.op ≠ 18 ∧ r.op ≠ 19 ∧ r.op ≠ 20) (h15 : r.op ≠ 15 ∨ r.reg = false) :
    pickR [r] u v.imm (badU v) = readE (readL u v) u v :=
  pick_core hu hv (fun x hx => rowsC_sub (by rw [hrs]; exact hx)) (by simp) (by rw [hop]; exact chosen_plain u h h15) rfl (fun x hx hn => absurd (by simpa using hx) hn)
theorem pick_two {a b : RRow} {u v : U} (hu : UOk u) (hv : UOk v) (hrs : rowsC u.oc = [a, b]) (hop : opL u.oc = formI a) (hab : (a.op = 4 ∧ b.op = 6) ∨ (a.op = 5 ∧ b.op = 7))
    (hs : b.nar = a.nar ∧ b.reg = a.reg ∧ b.size = a.size ∧ b.dst = a.dst ∧ b.src = a.src ∧ b.writes = a.writes) (ha : a.off = 0) (hb : b.off = 1) : pickR [a, b] u v.imm (badU v) = readE (readL u v) u v := by
  obtain ⟨s1, s2, s3, s4, s5, s6⟩ := hs
  by_cases h1 : u.off = 1
  · refine pick_core (r := b) hu hv (fun x hx => rowsC_sub (by rw [hrs]; exact hx)) (by simp) ?_ (regs_like s4 s5 s6 (by omega) (by omega) _ _ _) (fun x hx hn => .inl ?_)
    · rw [hop]
      unfold chosenL formI
      simp only
      rcases hab with ⟨e1, e2⟩ | ⟨e1, e2⟩
      · rw [if_pos e1, if_pos h1, e2, s1, s2, s3]
      · rw [if_neg (by omega), if_pos e1, if_pos h1, e2, s1, s2, s3]
    · have hxa : x = a := by
        simp only [List.mem_cons, List.not_mem_nil, or_false] at hx
        rcases hx with hx | hx
        · exact hx
        · exact absurd hx hn
      rw [hxa]
      exact fit_no_off (by omega) (by omega)
  · refine pick_core (r := a) hu hv (fun x hx => rowsC_sub (by rw [hrs]; exact hx)) (by simp) ?_ rfl (fun x hx hn => .inl ?_)
    · rw [hop]
      unfold chosenL formI
      simp only
      rcases hab with ⟨e1, e2⟩ | ⟨e1, e2⟩
      · rw [if_pos e1, if_neg h1]
      · rw [if_neg (by omega), if_pos e1, if_neg h1]
    · have hxa : x = b := by
        simp only [List.mem_cons, List.not_mem_nil, or_false] at hx
        rcases hx with hx | hx
        · exact absurd hx hn
        · exact hx
      rw [hxa]
      exact fit_no_off (by omega) (by omega)
def rWide : RRow := ⟨24, 20, 0, false, false, -1, 0, 0, -1, -1, true⟩
def rData : RRow := ⟨24, 21, 0, false, false, -1, 6, 0, 0, -1, true⟩
theorem rows_24 : rowsC 24 = [rWide, rData] := by kernel_rfl
theorem opL_24 : opL 24 = formI rWide := by kernel_rfl
theorem pick_24 {u v : U} (hu : UOk u) (hv : UOk v) (hc : u.oc = 24) : pickR [rWide, rData] u v.imm (badU v) = readE (readL u v) u v := by
  have hsub : ∀ x ∈ [rWide, rData], x ∈ rowsL := fun x hx => rowsC_sub (c := 24) (by rw [rows_24]; exact hx)
  by_cases h1 : u.src = 6
  · refine pick_core (r := rData) hu hv hsub (by simp) ?_ rfl (fun x hx hn => .inl ?_)
    · rw [hc, opL_24]
      unfold chosenL formI
      simp only [rWide]
      rw [if_neg (by decide), if_neg (by decide), if_neg (by decide), if_neg (by decide), if_pos trivial, if_pos h1]
      rfl
    · have hxa : x = rWide := by
        simp only [List.mem_cons, List.not_mem_nil, or_false] at hx
        rcases hx with hx | hx
        · exact hx
        · exact absurd hx hn
      rw [hxa]
      exact fit_no_src (by decide) (by rw [h1]; decide)
  · refine pick_core (r := rWide) hu hv hsub (by simp) ?_ rfl (fun x hx hn => .inl ?_)
    · rw [hc, opL_24]
      unfold chosenL formI
      simp only [rWide]
      rw [if_neg (by decide), if_neg (by decide), if_neg (by decide), if_neg (by decide), if_pos trivial, if_neg h1]
    · have hxa : x = rData := by
        simp only [List.mem_cons, List.not_mem_nil, or_false] at hx
        rcases hx with hx | hx
        · exact absurd hx hn
        · exact hx
      rw [hxa]
      exact fit_no_src (by decide) (by show (6 : Int) ≠ u.src; omega)
def rMov (c : Int) (nar : Bool) : RRow := ⟨c, 15, 0, nar, true, -1, -1, 0, 0, 0, true⟩
def rMovs (c : Int) (nar : Bool) (size : Int) : RRow := ⟨c, 16, size, nar, true, -1, -1, size, 0, 0, true⟩
theorem rows_191 : rowsC 191 = [rMov 191 false, rMovs 191 false 8, rMovs 191 false 16, rMovs 191 false 32] := by kernel_rfl
theorem rows_188 : rowsC 188 = [rMov 188 true, rMovs 188 true 8, rMovs 188 true 16] := by kernel_rfl
theorem opL_191 : opL 191 = formI (rMov 191 false) := by kernel_rfl
theorem opL_188 : opL 188 = formI (rMov 188 true) := by kernel_rfl
theorem chosen_movs (c : Int) (nar : Bool) (u : U) (h : operatesL 16 nar true u.off = true) : chosenL (formI (rMov c nar)) u = formI (rMovs c nar u.off) := by
  unfold chosenL formI rMov
  simp only
  rw [if_neg (by decide), if_neg (by decide), if_pos trivial, if_pos h]
  rfl
theorem chosen_mov (c : Int) (nar : Bool) (u : U) (h : operatesL 16 nar true u.off = false) : chosenL (formI (rMov c nar)) u = formI (rMov c nar) := by
  unfold chosenL formI rMov
  simp only
  rw [if_neg (by decide), if_neg (by decide), if_pos trivial, if_neg (by rw [h]; decide)]
theorem pick_mov {u v : U} (hu : UOk u) (hv : UOk v) (c : Int) (nar : Bool) (t : List RRow) (hc : u.oc = c) (hrs : rowsC c = rMov c nar :: t) (hop : opL c = formI (rMov c nar))
    (ht : ∀ x ∈ t, ∃ s, x = rMovs c nar s ∧ s ≠ 0 ∧ s ≠ -1) (hs : ∀ s, operatesL 16 nar true s = true → rMovs c nar s ∈ t) (hs2 : ∀ s, rMovs c nar s ∈ t → operatesL 16 nar true s = true) : pickR (rMov c nar :: t) u v.imm (badU v) = readE (readL u v) u v := by
  have hsub : ∀ x ∈ rMov c nar :: t, x ∈ rowsL := fun x hx => rowsC_sub (c := c) (by rw [hrs]; exact hx)
  by_cases h1 : operatesL 16 nar true u.off = true
  · refine pick_core (r := rMovs c nar u.off) hu hv hsub (by simp [hs _ h1]) (by rw [hc, hop]; exact chosen_movs c nar u h1) rfl (fun x hx hn => .inl ?_)
    rcases List.mem_cons.1 hx with hx | hx
    · rw [hx]
      refine fit_no_off (by show (0 : Int) ≠ -1; decide) (fun e => ?_)
      have e0 : u.off = 0 := e.symm
      obtain ⟨s, hx2, hx3, _⟩ := ht _ (hs _ h1)
      have : u.off = s := congrArg RRow.size hx2
      omega
    · obtain ⟨s, rfl, h2, h3⟩ := ht x hx
      exact fit_no_off h3 (fun e => hn (by rw [show s = u.off from e]))
  · have h1' : operatesL 16 nar true u.off = false := by simpa using h1
    refine pick_core (r := rMov c nar) hu hv hsub (by simp) (by rw [hc, hop]; exact chosen_mov c nar u h1') rfl (fun x hx hn => .inl ?_)
    rcases List.mem_cons.1 hx with hx | hx
    · exact absurd hx hn
    · obtain ⟨s, rfl, h2, h3⟩ := ht x hx
      exact fit_no_off h3 (fun e => h1 (by rw [← show s = u.off from e]; exact hs2 s hx))
theorem ops16 (nar : Bool) (s : Int) : operatesL 16 nar true s = (s == 8 || s == 16 || (s == 32 && !nar)) := by
  unfold operatesL sizedL
  rw [if_neg (by decide), if_neg (by decide), if_pos rfl]
  cases nar <;> rfl
theorem movs_inj {c : Int} {nar : Bool} {s t : Int} (h : rMovs c nar s = rMovs c nar t) : s = t := congrArg RRow.size h
theorem pick_191 {u v : U} (hu : UOk u) (hv : UOk v) (hc : u.oc = 191) : pickR (rowsC 191) u v.imm (badU v) = readE (readL u v) u v := by
  rw [rows_191]
  refine pick_mov hu hv 191 false _ hc rows_191 opL_191 (fun x hx => ?_) (fun s hs => ?_) (fun s hs => ?_)
  · simp only [List.mem_cons, List.not_mem_nil, or_false] at hx
    rcases hx with rfl | rfl | rfl <;> exact ⟨_, rfl, by decide, by decide⟩
  · rw [ops16] at hs
    simp at hs
    rcases hs with (rfl | rfl) | rfl <;> simp
  · simp only [List.mem_cons, List.not_mem_nil, or_false] at hs
    rcases hs with h | h | h <;> (rw [movs_inj h]; decide)
theorem pick_188 {u v : U} (hu : UOk u) (hv : UOk v) (hc : u.oc = 188) : pickR (rowsC 188) u v.imm (badU v) = readE (readL u v) u v := by
  rw [rows_188]
  refine pick_mov hu hv 188 true _ hc rows_188 opL_188 (fun x hx => ?_) (fun s hs => ?_) (fun s hs => ?_)
  · simp only [List.mem_cons, List.not_mem_nil, or_false] at hx
    rcases hx with rfl | rfl <;> exact ⟨_, rfl, by decide, by decide⟩
  · rw [ops16] at hs
    simp at hs
    rcases hs with rfl | rfl <;> simp
  · simp only [List.mem_cons, List.not_mem_nil, or_false] at hs
    rcases hs with h | h <;> (rw [movs_inj h]; decide)
def rSwap (c op size : Int) : RRow := ⟨c, op, size, false, false, -1, 0, 0, size, 0, true⟩
theorem swap_sub (c op s : Int) (h : rSwap c op s ∈ rowsL) : True := trivial
theorem pick_swap {u v : U} (hu : UOk u) (hv : UOk v) (c op : Int) (ho : op = 17 ∨ op = 18 ∨ op = 19) (hc : u.oc = c) (hrs : rowsC c = [rSwap c op 16, rSwap c op 32, rSwap c op 64]) (hop : opL c = opI op) : pickR [rSwap c op 16, rSwap c op 32, rSwap c op 64] u v.imm (badU v) = readE (readL u v) u v := by
  have hsub : ∀ x ∈ [rSwap c op 16, rSwap c op 32, rSwap c op 64], x ∈ rowsL := fun x hx => rowsC_sub (c := c) (by rw [hrs]; exact hx)
  have hch : chosenL (opL u.oc) u = formI (rSwap c op u.imm) := by
    rw [hc, hop]
    unfold chosenL opI formI rSwap
    simp only
    rw [if_neg (by omega), if_neg (by omega), if_neg (by omega), if_pos ho]
  by_cases hm : u.imm = 16 ∨ u.imm = 32 ∨ u.imm = 64
  · refine pick_core (r := rSwap c op u.imm) hu hv hsub ?_ hch (regs_like rfl rfl rfl (by show op ≠ 25; omega) (by show op ≠ 25; omega) _ _ _) (fun x hx hn => .inr ?_)
    · rcases hm with e | e | e <;> rw [e] <;> simp
    · simp only [List.mem_cons, List.not_mem_nil, or_false] at hx
      rcases hx with rfl | rfl | rfl <;> exact ⟨rfl, read_no (by simp [rSwap]) (fun e => hn (by rw [← e]; rfl))⟩
  · have C := core (hsub (rSwap c op 16) (by simp)) hu hv
    have hread : ∀ x ∈ [rSwap c op 16, rSwap c op 32, rSwap c op 64], readR x u.imm v.imm = false := fun x hx => by
      simp only [List.mem_cons, List.not_mem_nil, or_false] at hx
      rcases hx with rfl | rfl | rfl <;> exact read_no (by simp [rSwap]) (by simp [rSwap]; omega)
    rw [pick_sel (r := rSwap c op 16) (by simp) rfl (fun x hx hn => .inr ⟨by
      simp only [List.mem_cons, List.not_mem_nil, or_false] at hx
      rcases hx with rfl | rfl | rfl <;> rfl, hread x hx⟩), hread _ (by simp), C.regs, C.fit]
    unfold readL
    rw [hch]
    generalize hi : filledL (formI (rSwap c op 16)) u v = i
    generalize hj : filledL (formI (rSwap c op u.imm)) u v = j
    have k : j.op = i.op ∧ j.nar = i.nar ∧ j.reg = i.reg ∧ j.dst = i.dst ∧ j.src = i.src ∧ j.off = i.off ∧ j.imm = i.imm := by rw [← hi, ← hj]; exact ⟨rfl, rfl, rfl, rfl, rfl, rfl, rfl⟩
    have k0 : j.op = op ∧ j.nar = false ∧ j.size = u.imm := by rw [← hj]; exact ⟨rfl, rfl, rfl⟩
    obtain ⟨k1, k2, k3, k4, k5, k6, k7⟩ := k
    obtain ⟨k8, k9, k10⟩ := k0
    clear hi hj C
    have hf : firstS j = firstS i ∧ firstO j = firstO i := by
      unfold firstS firstO
      rw [k1, k5, k6]
      have : i.op = op := by rw [← k1]; exact k8
      rw [if_neg (by omega), if_neg (by omega), if_neg (by omega), if_neg (by omega), if_neg (by omega)]
      exact ⟨rfl, rfl⟩
    have hsz : sizedL j.op j.nar j.size = false := by
      rw [k8, k9, k10]
      unfold sizedL
      rw [if_neg (by omega), if_pos ho]
      simp; omega
    unfold readE errL badU
    rw [hf.1, hf.2, k4, hsz, ← k1, ← k2, ← k3, ← k4, ← k5, ← k7]
    by_cases h1 : registersL j.op j.nar j.reg j.dst j.src j.imm = false
    · simp only [if_pos h1]; rfl
    simp only [if_neg h1]
    by_cases h2 : u.dst = j.dst ∧ u.src = firstS i ∧ u.off = firstO i
    · by_cases h3 : v.oc = 0 ∧ v.dst = 0 ∧ v.src = 0 ∧ v.off = 0
      · have e1 : ¬ (decide (u.dst = j.dst ∧ u.src = firstS i ∧ u.off = firstO i) = false ∨ (!decide (v.oc = 0 ∧ v.dst = 0 ∧ v.src = 0 ∧ v.off = 0)) = true) := by
          rw [decide_eq_true h2, decide_eq_true h3]; decide
        simp only [if_neg (not_not_intro h2), if_neg (not_not_intro h3), if_neg e1]
        simp
      · have e1 : decide (u.dst = j.dst ∧ u.src = firstS i ∧ u.off = firstO i) = false ∨ (!decide (v.oc = 0 ∧ v.dst = 0 ∧ v.src = 0 ∧ v.off = 0)) = true := .inr (by rw [decide_eq_false h3]; rfl)
        simp only [if_neg (not_not_intro h2), if_pos h3, if_pos e1]; rfl
    · have e1 : decide (u.dst = j.dst ∧ u.src = firstS i ∧ u.off = firstO i) = false ∨ (!decide (v.oc = 0 ∧ v.dst = 0 ∧ v.src = 0 ∧ v.off = 0)) = true := .inl (decide_eq_false h2)
      simp only [if_pos h2, if_pos e1]; rfl
theorem rows_212 : rowsC 212 = [rSwap 212 17 16, rSwap 212 17 32, rSwap 212 17 64] := by kernel_rfl
theorem rows_220 : rowsC 220 = [rSwap 220 18 16, rSwap 220 18 32, rSwap 220 18 64] := by kernel_rfl
theorem rows_215 : rowsC 215 = [rSwap 215 19 16, rSwap 215 19 32, rSwap 215 19 64] := by kernel_rfl
theorem ops_24 (c : Int) : special c = true → c ≠ 24 → (opL c).op ≠ 20 := by
  intro h h2
  unfold special at h
  simp only [Bool.or_eq_true, beq_iff_eq] at h
  rcases h with ((((h | h) | h) | h) | h) | h
  · exact absurd h h2
  all_goals (rw [h]; decide +kernel)
/-- reading by the rows of an opcode -/
theorem pick_any {u v : U} (hu : UOk u) (hv : UOk v) : (rowsC u.oc = [] ↔ (opL u.oc).op = 0) ∧ (rowsC u.oc ≠ [] → pickR (rowsC u.oc) u v.imm (badU v) = readE (readL u v) u v) := by
  have hk := chkC_ok
  unfold chkC at hk
  obtain ⟨n, hn⟩ := Int.eq_ofNat_of_zero_le hu.oc.1
  have h1 := List.all_eq_true.1 hk n (List.mem_range.2 (by have := hu.oc.2; omega))
  rw [← hn] at h1
  unfold catOk at h1
  by_cases hs : special u.oc = true
  · have hs' := hs
    unfold special at hs'
    simp only [Bool.or_eq_true, beq_iff_eq] at hs'
    rcases hs' with ((((h | h) | h) | h) | h) | h
    · refine ⟨by rw [h, rows_24, opL_24]; decide, fun _ => ?_⟩
      have := pick_24 hu hv h
      rw [h, rows_24]; exact this
    · refine ⟨by rw [h, rows_191, opL_191]; decide, fun _ => ?_⟩
      have := pick_191 hu hv h
      rw [h]; exact this
    · refine ⟨by rw [h, rows_188, opL_188]; decide, fun _ => ?_⟩
      have := pick_188 hu hv h
      rw [h]; exact this
    · refine ⟨by rw [h, rows_212]; decide +kernel, fun _ => ?_⟩
      rw [h, rows_212]; exact pick_swap hu hv 212 17 (by decide) h rows_212 (by kernel_rfl)
    · refine ⟨by rw [h, rows_220]; decide +kernel, fun _ => ?_⟩
      rw [h, rows_220]; exact pick_swap hu hv 220 18 (by decide) h rows_220 (by kernel_rfl)
    · refine ⟨by rw [h, rows_215]; decide +kernel, fun _ => ?_⟩
      rw [h, rows_215]; exact pick_swap hu hv 215 19 (by decide) h rows_215 (by kernel_rfl)
  · have hs' : special u.oc = false := by simpa using hs
    rw [hs', Bool.false_or] at h1
    match hrs : rowsC u.oc, h1 with
    | [], h1 => exact ⟨⟨fun _ => by simpa using h1, fun _ => rfl⟩, fun h => absurd rfl h⟩
    | [r], h1 =>
      simp only [Bool.and_eq_true, decide_eq_true_eq, Bool.or_eq_true, Bool.not_eq_true'] at h1
      obtain ⟨e1, e2, e3⟩ := h1
      have hp : 1 ≤ r.op := by
        have hm : r ∈ rowsL := rowsC_sub (c := u.oc) (by rw [hrs]; simp)
        have := List.all_eq_true.1 rows_ok r hm
        unfold rowOk at this
        simp only [Bool.and_eq_true, decide_eq_true_eq] at this
        exact this.1.1
      refine ⟨⟨(fun h => by cases h), fun h => ?_⟩, fun _ => pick_one hu hv hrs e1 e2 e3⟩
      rw [e1] at h
      exact absurd (show r.op = 0 from h) (by omega)
    | [a, b], h1 =>
      simp only [Bool.and_eq_true, decide_eq_true_eq, Bool.or_eq_true, beq_iff_eq] at h1
      obtain ⟨e1, e2, e3, e4, e5⟩ := h1
      refine ⟨⟨(fun h => by cases h), fun h => ?_⟩, fun _ => pick_two hu hv hrs e1 e2 e3 e4 e5⟩
      rw [e1] at h
      exact absurd (show a.op = 0 from h) (by omega)
/-- what the document's answer reads at the beginning of bytes -/
def oneR (l : List Int) : Int × Ins × Nat :=
  if l.length < 8 then (20, zeroI, 0) else
  if rowsC (gB l 0) = [] then (21, zeroI, 0) else
  if gB l 0 = 24 then (if l.length < 16 then (20, zeroI, 0) else ((pickR (rowsC (gB l 0)) (unitA l) (unitA (l.drop 8)).imm (badU (unitA (l.drop 8)))).1, (pickR (rowsC (gB l 0)) (unitA l) (unitA (l.drop 8)).imm (badU (unitA (l.drop 8)))).2, 2))
  else ((pickR (rowsC (gB l 0)) (unitA l) 0 false).1, (pickR (rowsC (gB l 0)) (unitA l) 0 false).2, 1)
theorem op20_iff {c : Int} (hc : 0 ≤ c ∧ c < 256) : (opL c).op = 20 ↔ c = 24 := by
  have h : ((List.range 256).all fun c => ((opL (c : Int)).op == 20) == (((c : Nat) : Int) == 24)) = true := by kernel_rfl
  obtain ⟨n, hn⟩ := Int.eq_ofNat_of_zero_le hc.1
  have h1 := List.all_eq_true.1 h n (List.mem_range.2 (by omega))
  rw [← hn] at h1
  have h2 : ((opL c).op == 20) = (c == 24) := by simpa using h1
  constructor
  · intro e; rw [e] at h2; simpa using h2.symm
  · intro e; rw [show (c == 24) = true by simpa using e] at h2; simpa using h2
theorem one_ref {l : List Int} (hl : BytesL l) : (oneR l).1 = (insD l).1 ∧ ((insD l).1 = 0 → oneR l = insD l) ∧ ((insD l).1 ≠ 0 → (oneR l).2.1 = zeroI) := by
  have hu := unitA_ok hl
  have h0 : (unitA l).oc = gB l 0 := rfl
  unfold oneR insD
  by_cases c1 : l.length < 8
  · rw [if_pos c1, if_pos c1]; exact ⟨rfl, fun _ => rfl, fun _ => rfl⟩
  rw [if_neg c1, if_neg c1]
  obtain ⟨p1, -⟩ := pick_any hu UOk.zero
  rw [h0] at p1
  by_cases c2 : rowsC (gB l 0) = []
  · rw [if_pos c2, h0, if_pos (p1.1 c2)]; exact ⟨rfl, fun _ => rfl, fun _ => rfl⟩
  rw [if_neg c2, h0, if_neg (fun h => c2 (p1.2 h))]
  have q := op20_iff (c := gB l 0) (by rw [← h0]; exact hu.oc)
  have fin : ∀ (i : Ins) (v : U) (k : Nat), ((readE i (unitA l) v).1, (readE i (unitA l) v).2, k).1 = (errL i (unitA l) v, i, k).1 ∧ ((errL i (unitA l) v, i, k).1 = 0 → ((readE i (unitA l) v).1, (readE i (unitA l) v).2, k) = (errL i (unitA l) v, i, k)) ∧ ((errL i (unitA l) v, i, k).1 ≠ 0 → ((readE i (unitA l) v).1, (readE i (unitA l) v).2, k).2.1 = zeroI) := by
    intro i v k
    unfold readE
    by_cases h : errL i (unitA l) v = 0
    · rw [if_pos h, h]; exact ⟨rfl, fun _ => rfl, fun h => absurd rfl h⟩
    · rw [if_neg h]; exact ⟨rfl, fun h2 => absurd h2 h, fun _ => rfl⟩
  by_cases c3 : gB l 0 = 24
  · rw [if_pos c3, if_pos (q.2 c3)]
    by_cases c4 : l.length < 16
    · rw [if_pos c4, if_pos c4]; exact ⟨rfl, fun _ => rfl, fun _ => rfl⟩
    rw [if_neg c4, if_neg c4]
    have hv := unitA_ok (hl.drop 8)
    have h2 := (pick_any hu hv).2 (by rw [h0]; exact c2)
    rw [h0] at h2
    rw [h2]
    exact fin _ _ _
  · rw [if_neg c3, if_neg (fun h => c3 (q.1 h))]
    have h2 := (pick_any hu UOk.zero).2 (by rw [h0]; exact c2)
    rw [h0, show zeroU.imm = 0 from rfl, show badU zeroU = false from rfl] at h2
    rw [h2]
    exact fin _ _ _
end Go.Proofs.YtlodoinmippebaaDoor.Rf
/- signed of the document's answer for package code: two bytes, four bytes. -/
namespace Go.Proofs.YtlodoinmippebaaDoor.Rf
open Go.ChangeShapes Go.WideShapes Go.ChangeAt Go.RowKit
open Cod Bits
set_option linter.unusedVariables false
set_option linter.unusedSimpArgs false

theorem ret_int {a b : Int} (h : a = b) : Ending.returned (.int .i64 a) = Ending.returned (.int .i64 b) := by rw [h]
set_option maxRecDepth 100000 in
set_option maxHeartbeats 4000000 in
theorem signed_2 (w : World) (b off c : Nat) (b0 b1 : Int) (r0 : IsB b0) (r1 : IsB b1) (c0 : w.cell? ⟨b, off, none⟩ = some (.int .u8 b0)) (c1 : w.cell? ⟨b, off + 1, none⟩ = some (.int .u8 b1)) :
    Calls Tryd.prog 100 #[.slice (some ⟨b, off, none⟩) 2 c] w fun e w' => e = .returned (.int .i64 (off16 b0 b1)) ∧ w = w' := by
  obtain ⟨p0, q0⟩ := r0
  obtain ⟨p1, q1⟩ := r1
  have HD := Lib.hid (show off16 b0 b1 = if b0 + 256 * b1 < 32768 then b0 + 256 * b1 else b0 + 256 * b1 - 65536 from rfl)
  generalize off16 b0 b1 = out at *
  go_enter Tryd.func100, Tryd.ntmps100
  go_wp2_with fail
  go_loopw [3, 4, 5] (fun s u i wr => w = wr ∧ ((s = .int .i64 0 ∧ u = .int .i64 1 ∧ i = .int .i64 0) ∨ (s = .int .i64 b0 ∧ u = .int .i64 256 ∧ i = .int .i64 1) ∨ (s = .int .i64 (b0 + 256 * b1) ∧ u = .int .i64 65536 ∧ i = .int .i64 2))) (fun _ _ i _ => (2 - intOf i).toNat)
  case atStart => exact ⟨rfl, .inl ⟨rfl, rfl, rfl⟩⟩
  case round =>
    obtain ⟨rfl, ⟨rfl, rfl, rfl⟩ | ⟨rfl, rfl, rfl⟩ | ⟨rfl, rfl, rfl⟩⟩ := hrel
    · go_wp2_with fail
      go_roundw
      case rel => exact ⟨by first | trivial | rfl, .inr (.inl ⟨by first | rfl | simp, rfl, rfl⟩)⟩
      case measure => simp [intOf]
    · go_wp2_with fail
      go_roundw
      case rel => exact ⟨by first | trivial | rfl, .inr (.inr ⟨rfl, rfl, rfl⟩)⟩
      case measure => simp [intOf]
    · by_cases h : b0 + 256 * b1 < 32768
      · have HE := Lib.hid (HD.out.trans (if_pos h))
        have t : decide (32768 ≤ b0 + 256 * b1) = false := decide_eq_false (by omega)
        clear h
        go_wp2_with fail
        go_ret
        exact ⟨ret_int HE.out.symm, rfl⟩
      · have HE := Lib.hid (HD.out.trans (if_neg h))
        have t : decide (32768 ≤ b0 + 256 * b1) = true := decide_eq_true (by omega)
        clear h
        go_wp2_with fail
        go_ret
        exact ⟨ret_int HE.out.symm, rfl⟩
set_option maxRecDepth 100000 in
set_option maxHeartbeats 4000000 in
theorem signed_4 (w : World) (b off c : Nat) (b0 b1 b2 b3 : Int) (r0 : IsB b0) (r1 : IsB b1) (r2 : IsB b2) (r3 : IsB b3) (c0 : w.cell? ⟨b, off, none⟩ = some (.int .u8 b0)) (c1 : w.cell? ⟨b, off + 1, none⟩ = some (.int .u8 b1)) (c2 : w.cell? ⟨b, off + 2, none⟩ = some (.int .u8 b2)) (c3 : w.cell? ⟨b, off + 3, none⟩ = some (.int .u8 b3)) :
    Calls Tryd.prog 100 #[.slice (some ⟨b, off, none⟩) 4 c] w fun e w' => e = .returned (.int .i64 (imm32 b0 b1 b2 b3)) ∧ w = w' := by
  obtain ⟨p0, q0⟩ := r0
  obtain ⟨p1, q1⟩ := r1
  obtain ⟨p2, q2⟩ := r2
  obtain ⟨p3, q3⟩ := r3
  have HD := Lib.hid (show imm32 b0 b1 b2 b3 = if b0 + 256 * b1 + 65536 * b2 + 16777216 * b3 < 2147483648 then b0 + 256 * b1 + 65536 * b2 + 16777216 * b3 else b0 + 256 * b1 + 65536 * b2 + 16777216 * b3 - 4294967296 from rfl)
  generalize imm32 b0 b1 b2 b3 = out at *
  go_enter Tryd.func100, Tryd.ntmps100
  go_wp2_with fail
  go_loopw [3, 4, 5] (fun s u i wr => w = wr ∧ ((s = .int .i64 0 ∧ u = .int .i64 1 ∧ i = .int .i64 0) ∨ (s = .int .i64 b0 ∧ u = .int .i64 256 ∧ i = .int .i64 1) ∨ (s = .int .i64 (b0 + 256 * b1) ∧ u = .int .i64 65536 ∧ i = .int .i64 2) ∨ (s = .int .i64 (b0 + 256 * b1 + 65536 * b2) ∧ u = .int .i64 16777216 ∧ i = .int .i64 3) ∨ (s = .int .i64 (b0 + 256 * b1 + 65536 * b2 + 16777216 * b3) ∧ u = .int .i64 4294967296 ∧ i = .int .i64 4))) (fun _ _ i _ => (4 - intOf i).toNat)
  case atStart => exact ⟨rfl, .inl ⟨rfl, rfl, rfl⟩⟩
  case round =>
    obtain ⟨rfl, ⟨rfl, rfl, rfl⟩ | ⟨rfl, rfl, rfl⟩ | ⟨rfl, rfl, rfl⟩ | ⟨rfl, rfl, rfl⟩ | ⟨rfl, rfl, rfl⟩⟩ := hrel
    · go_wp2_with fail
      go_roundw
      case rel => exact ⟨by first | trivial | rfl, .inr (.inl ⟨by first | rfl | simp, rfl, rfl⟩)⟩
      case measure => simp [intOf]
    · go_wp2_with fail
      go_roundw
      case rel => exact ⟨by first | trivial | rfl, .inr (.inr (.inl ⟨rfl, rfl, rfl⟩))⟩
      case measure => simp [intOf]
    · go_wp2_with fail
      go_roundw
      case rel => exact ⟨by first | trivial | rfl, .inr (.inr (.inr (.inl ⟨rfl, rfl, rfl⟩)))⟩
      case measure => simp [intOf]
    · go_wp2_with fail
      go_roundw
      case rel => exact ⟨by first | trivial | rfl, .inr (.inr (.inr (.inr ⟨rfl, rfl, rfl⟩)))⟩
      case measure => simp [intOf]
    · by_cases h : b0 + 256 * b1 + 65536 * b2 + 16777216 * b3 < 2147483648
      · have HE := Lib.hid (HD.out.trans (if_pos h))
        have t : decide (2147483648 ≤ b0 + 256 * b1 + 65536 * b2 + 16777216 * b3) = false := decide_eq_false (by omega)
        clear h
        go_wp2_with fail
        go_ret
        exact ⟨ret_int HE.out.symm, rfl⟩
      · have HE := Lib.hid (HD.out.trans (if_neg h))
        have t : decide (2147483648 ≤ b0 + 256 * b1 + 65536 * b2 + 16777216 * b3) = true := decide_eq_true (by omega)
        clear h
        go_wp2_with fail
        go_ret
        exact ⟨ret_int HE.out.symm, rfl⟩
end Go.Proofs.YtlodoinmippebaaDoor.Rf
/- read of the document's answer for package code: what a row whose fields fit tells. -/
namespace Go.Proofs.YtlodoinmippebaaDoor.Rf
open Go.ChangeShapes Go.WideShapes Go.ChangeAt Go.RowKit
open Cod Bits
set_option linter.unusedVariables false
set_option linter.unusedSimpArgs false

theorem cells11m {w : World} {g : Nat} {t : TypeId} {a b c d e f k l m n o : Value} (h : Blk w g t #[a, b, c, d, e, f, k, l, m, n, o]) :
    w.cell? ⟨g, 0, none⟩ = some a ∧ w.cell? ⟨g, 1, none⟩ = some b ∧ w.cell? ⟨g, 2, none⟩ = some c ∧ w.cell? ⟨g, 3, none⟩ = some d ∧ w.cell? ⟨g, 4, none⟩ = some e ∧ w.cell? ⟨g, 5, none⟩ = some f ∧ w.cell? ⟨g, 6, none⟩ = some k ∧ w.cell? ⟨g, 7, none⟩ = some l ∧ w.cell? ⟨g, 8, none⟩ = some m ∧ w.cell? ⟨g, 9, none⟩ = some n ∧ w.cell? ⟨g, 10, none⟩ = some o := by
  refine ⟨?_, ?_, ?_, ?_, ?_, ?_, ?_, ?_, ?_, ?_, ?_⟩ <;> rw [h.cell] <;> rfl
abbrev zero8 : Array Value := ins8 0 false false 0 0 0 0 0
/-- inside read: the row's box, the result's, the instruction's -/
structure ReadIn (w : World) (b y : Array Value) (W : World) : Prop where
  row : Blk W w.heap.size 125 b
  res : Blk W (w.heap.size + 1) 71 zero8
  ins : Blk W (w.heap.size + 1 + 1) 71 y
  below : Below w.heap.size w W
theorem ReadIn.start (w : World) (b y : Array Value) : ReadIn w b y (((w.alloc (.cells b 125)).alloc (.cells zero8 71)).alloc (.cells y 71)) :=
  ⟨((Blk.new w _ _).alloc _).alloc _, (blk_new2 w _ _ _).alloc _, blk_new3 w _ _ _ _, below_box3 w _ _ _⟩
theorem ReadIn.put {w : World} {b y : Array Value} {W : World} (h : ReadIn w b y W) (k : Nat) (u : Value) : ReadIn w b (y.setIfInBounds k u) (W.setCell ⟨w.heap.size + 1 + 1, k, none⟩ u) :=
  ⟨h.row.far (p := ⟨w.heap.size + 1 + 1, k, none⟩) (by show w.heap.size ≠ w.heap.size + 1 + 1; omega) u, h.res.far (p := ⟨w.heap.size + 1 + 1, k, none⟩) (by show w.heap.size + 1 ≠ w.heap.size + 1 + 1; omega) u, h.ins.set_ k u, h.below.setCell (p := ⟨w.heap.size + 1 + 1, k, none⟩) (by show w.heap.size ≤ w.heap.size + 1 + 1; omega) u⟩
theorem ReadIn.up {w : World} {b y : Array Value} {W W' : World} (h : ReadIn w b y W) (hb : Below W.heap.size W W') : ReadIn w b y W' :=
  ⟨h.row.below hb h.row.lt, h.res.below hb h.res.lt, h.ins.below hb h.ins.lt, h.below.trans (hb.mono h.below.size)⟩
theorem ReadIn.drew {w : World} {b y : Array Value} {W : World} (h : ReadIn w b y W) : ReadIn w b y W.drew := ⟨h.row, h.res, h.ins, belowDrewN h.below 1⟩
/-- .. the result's box holding whatever -/
structure ReadQ (w : World) (b y : Array Value) (W : World) : Prop where
  row : Blk W w.heap.size 125 b
  ins : Blk W (w.heap.size + 1 + 1) 71 y
theorem read_q {w : World} {rc ro rz : Int} {rn rr : Bool} {rd rs rf ri r2 : Int} {rw_ : Bool} {pd ps po IMR : Int} {W : World} (h : ReadQ w (row11 rc ro rz rn rr rd rs rf ri r2 rw_) (ins8 ro rn rr rz pd ps po IMR) W) :
    W.cell? ⟨w.heap.size + 1 + 1, 0, none⟩ = some (.int .i64 ro) ∧ W.cell? ⟨w.heap.size + 1 + 1, 1, none⟩ = some (.bool rn) ∧ W.cell? ⟨w.heap.size + 1 + 1, 2, none⟩ = some (.bool rr) ∧ W.cell? ⟨w.heap.size + 1 + 1, 3, none⟩ = some (.int .i64 rz) ∧ W.cell? ⟨w.heap.size + 1 + 1, 4, none⟩ = some (.int .i64 pd) ∧ W.cell? ⟨w.heap.size + 1 + 1, 5, none⟩ = some (.int .i64 ps) ∧ W.cell? ⟨w.heap.size + 1 + 1, 6, none⟩ = some (.int .i64 po) ∧ W.cell? ⟨w.heap.size + 1 + 1, 7, none⟩ = some (.int .i64 IMR) ∧ W.cell? ⟨w.heap.size, 0, none⟩ = some (.int .i64 rc) ∧ W.cell? ⟨w.heap.size, 1, none⟩ = some (.int .i64 ro) ∧ W.cell? ⟨w.heap.size, 2, none⟩ = some (.int .i64 rz) ∧ W.cell? ⟨w.heap.size, 3, none⟩ = some (.bool rn) ∧ W.cell? ⟨w.heap.size, 4, none⟩ = some (.bool rr) ∧ W.cell? ⟨w.heap.size, 5, none⟩ = some (.int .i64 rd) ∧ W.cell? ⟨w.heap.size, 6, none⟩ = some (.int .i64 rs) ∧ W.cell? ⟨w.heap.size, 7, none⟩ = some (.int .i64 rf) ∧ W.cell? ⟨w.heap.size, 8, none⟩ = some (.int .i64 ri) ∧ W.cell? ⟨w.heap.size, 9, none⟩ = some (.int .i64 r2) ∧ W.cell? ⟨w.heap.size, 10, none⟩ = some (.bool rw_) ∧ ReadQ w (row11 rc ro rz rn rr rd rs rf ri r2 rw_) (ins8 ro rn rr rz pd ps po IMR) W := by
  obtain ⟨⟨c0, c1, c2, c3, c4, c5, c6, c7⟩, -⟩ := cells8 h.ins
  obtain ⟨y0, y1, y2, y3, y4, y5, y6, y7, y8, y9, y10⟩ := cells11m h.row
  exact ⟨c0, c1, c2, c3, c4, c5, c6, c7, y0, y1, y2, y3, y4, y5, y6, y7, y8, y9, y10, h⟩
theorem ReadIn.q {w : World} {b y : Array Value} {W : World} (h : ReadIn w b y W) : ReadQ w b y W := ⟨h.row, h.ins⟩
theorem ReadQ.set {w : World} {b y : Array Value} {W : World} (h : ReadQ w b y W) (k : Nat) (u : Value) : ReadQ w b y (W.setCell ⟨w.heap.size + 1, k, none⟩ u) :=
  ⟨h.row.far (p := ⟨w.heap.size + 1, k, none⟩) (by show w.heap.size ≠ w.heap.size + 1; omega) u, h.ins.far (p := ⟨w.heap.size + 1, k, none⟩) (by show w.heap.size + 1 + 1 ≠ w.heap.size + 1; omega) u⟩
theorem ReadQ.set8 {w : World} {b y : Array Value} {W : World} (h : ReadQ w b y W) (x0 x1 x2 x3 x4 x5 x6 x7 : Value) : ReadQ w b y ((((((((W.setCell ⟨w.heap.size + 1, 0, none⟩ x0).setCell ⟨w.heap.size + 1, 1, none⟩ x1).setCell ⟨w.heap.size + 1, 2, none⟩ x2).setCell ⟨w.heap.size + 1, 3, none⟩ x3).setCell ⟨w.heap.size + 1, 4, none⟩ x4).setCell ⟨w.heap.size + 1, 5, none⟩ x5).setCell ⟨w.heap.size + 1, 6, none⟩ x6).setCell ⟨w.heap.size + 1, 7, none⟩ x7) :=
  (((((((h.set 0 x0).set 1 x1).set 2 x2).set 3 x3).set 4 x4).set 5 x5).set 6 x6).set 7 x7
/-- what read answers -/
def readRes (r : RRow) (dst src off imm sec : Int) : Ins × Bool := if r.imm ≠ -1 ∧ r.imm ≠ imm then (zeroI, false) else (insR r dst src off imm sec, readR r imm sec)
/-- the bytes that hold the second number -/
def SecAt (w : World) (v : Value) (sec : Int) : Prop := ∃ b o n c b0 b1 b2 b3, v = .slice (some ⟨b, o, none⟩) n c ∧ 16 ≤ n ∧ n ≤ c ∧ b < w.heap.size ∧ (IsB b0 ∧ IsB b1 ∧ IsB b2 ∧ IsB b3) ∧
  (w.cell? ⟨b, o + 12, none⟩ = some (.int .u8 b0) ∧ w.cell? ⟨b, o + 12 + 1, none⟩ = some (.int .u8 b1) ∧ w.cell? ⟨b, o + 12 + 2, none⟩ = some (.int .u8 b2) ∧ w.cell? ⟨b, o + 12 + 3, none⟩ = some (.int .u8 b3)) ∧ sec = imm32 b0 b1 b2 b3
theorem SecAt.signed {w W : World} {v : Value} {sec : Int} (h : SecAt w v sec) (hb : Below w.heap.size w W) : ∃ b o n c, v = .slice (some ⟨b, o, none⟩) n c ∧ 16 ≤ n ∧ n ≤ c ∧ ∀ k, Calls Tryd.prog 100 #[.slice (some ⟨b, o + 12, none⟩) 4 k] W fun e w' => e = .returned (.int .i64 sec) ∧ W = w' := by
  obtain ⟨b, o, n, c, b0, b1, b2, b3, rfl, hn, hc, hlt, ⟨r0, r1, r2, r3⟩, ⟨c0, c1, c2, c3⟩, rfl⟩ := h
  exact ⟨b, o, n, c, rfl, hn, hc, fun k => signed_4 W b (o + 12) k b0 b1 b2 b3 r0 r1 r2 r3 ((hb.cell (p := ⟨b, o + 12, none⟩) hlt).trans c0) ((hb.cell (p := ⟨b, o + 12 + 1, none⟩) hlt).trans c1) ((hb.cell (p := ⟨b, o + 12 + 2, none⟩) hlt).trans c2) ((hb.cell (p := ⟨b, o + 12 + 3, none⟩) hlt).trans c3)⟩
set_option maxRecDepth 100000 in
set_option maxHeartbeats 8000000 in
theorem rread_any (rc ro rz : Int) (rn rr : Bool) (rd rs rf ri r2 : Int) (rw_ : Bool) (v : Value) (dst src off imm sec : Int) (him : -2147483648 ≤ imm ∧ imm ≤ 2147483647) (hsc : -2147483648 ≤ sec ∧ sec ≤ 2147483647) (w : World)
    (hs : ro = 20 ∨ ro = 21 → SecAt w v sec) :
    Calls Tryd.prog 102 #[.agg (row11 rc ro rz rn rr rd rs rf ri r2 rw_), v, .int .i64 dst, .int .i64 src, .int .i64 off, .int .i64 imm] w fun e w' =>
      e = .returned (.tuple #[.agg (readRes ⟨rc, ro, rz, rn, rr, rd, rs, rf, ri, r2, rw_⟩ dst src off imm sec).1.arr, .bool (readRes ⟨rc, ro, rz, rn, rr, rd, rs, rf, ri, r2, rw_⟩ dst src off imm sec).2]) ∧ Below w.heap.size w w' := by
  have HI := Lib.hid (ReadIn.start w (row11 rc ro rz rn rr rd rs rf ri r2 rw_) (ins8 ro rn rr rz 0 0 0 0))
  have HQ := Lib.hid (show readRes ⟨rc, ro, rz, rn, rr, rd, rs, rf, ri, r2, rw_⟩ dst src off imm sec = if ri ≠ -1 ∧ ri ≠ imm then (zeroI, false) else
    (⟨ro, rn, rr, rz, if rd = -1 then dst else 0, if rs = -1 then src else 0, if rf = -1 then off else 0, immR ⟨rc, ro, rz, rn, rr, rd, rs, rf, ri, r2, rw_⟩ imm sec⟩, if ri ≠ -1 ∧ ri ≠ imm then false else if ri = -1 ∨ r2 = -1 then goodR ⟨rc, ro, rz, rn, rr, rd, rs, rf, ri, r2, rw_⟩ (immR ⟨rc, ro, rz, rn, rr, rd, rs, rf, ri, r2, rw_⟩ imm sec) else true) from rfl)
  have HM := Lib.hid (show immR ⟨rc, ro, rz, rn, rr, rd, rs, rf, ri, r2, rw_⟩ imm sec = if ro = 20 then sec * 4294967296 + (if imm < 0 then imm + 4294967296 else imm) else if ro = 21 then sec else if ri = -1 then imm else 0 from rfl)
  have HG := Lib.hid (fun w => rgood_any rc ro rz rn rr rd rs rf ri r2 rw_ (immR ⟨rc, ro, rz, rn, rr, rd, rs, rf, ri, r2, rw_⟩ imm sec) w)
  have HSE := Lib.hid hs
  generalize readRes ⟨rc, ro, rz, rn, rr, rd, rs, rf, ri, r2, rw_⟩ dst src off imm sec = RES at *
  generalize immR ⟨rc, ro, rz, rn, rr, rd, rs, rf, ri, r2, rw_⟩ imm sec = IMR at *
  generalize goodR ⟨rc, ro, rz, rn, rr, rd, rs, rf, ri, r2, rw_⟩ IMR = GD at *
  clear hs
  go_enter Tryd.func102, Tryd.ntmps102
  go_upto_if 27 with (fail)
  generalize ((w.alloc (.cells (row11 rc ro rz rn rr rd rs rf ri r2 rw_) 125)).alloc (.cells zero8 71)).alloc (.cells (ins8 ro rn rr rz 0 0 0 0) 71) = W0 at *
  obtain ⟨y0, y1, y2, y3, y4, y5, y6, y7, y8, y9, y10⟩ := cells11m HI.out.row
  go_cut [] (fun wx => ReadIn w (row11 rc ro rz rn rr rd rs rf ri r2 rw_) (ins8 ro rn rr rz (if rd = -1 then dst else 0) 0 0 0) wx)
  case first =>
    obtain ⟨⟨c0, c1, c2, c3, c4, c5, c6, c7⟩, f0, f1, f2, f3, f4, f5, f6, f7⟩ := cells8 HI.out.ins
    by_cases e : rd = -1
    · have HP := Lib.hid (show (if rd = -1 then dst else 0) = dst from if_pos e)
      have t : (rd == -1) = true := by rw [e]; rfl
      have HI2 := Lib.hid (HI.out.put 4 (.int .i64 dst))
      clear e
      go_wp2_with fail
      go_meet
      case rel => rw [HP.out]; exact HI2.out
    · have HP := Lib.hid (show (if rd = -1 then dst else 0) = 0 from if_neg e)
      have t : (rd == -1) = false := by rw [beq_eq_false_iff_ne]; exact e
      clear e
      go_wp2_with fail
      go_meet
      case rel => rw [HP.out]; exact HI.out
  case rest =>
    clear HI y0 y1 y2 y3 y4 y5 y6 y7 y8 y9 y10
    have HI := Lib.hid hcut
    clear hcut
    generalize (if rd = -1 then dst else 0) = pd at *
    obtain ⟨y0, y1, y2, y3, y4, y5, y6, y7, y8, y9, y10⟩ := cells11m HI.out.row
    go_upto_if 32 with (fail)
    go_cut [] (fun wx => ReadIn w (row11 rc ro rz rn rr rd rs rf ri r2 rw_) (ins8 ro rn rr rz pd (if rs = -1 then src else 0) 0 0) wx)
    case first =>
      obtain ⟨⟨c0, c1, c2, c3, c4, c5, c6, c7⟩, f0, f1, f2, f3, f4, f5, f6, f7⟩ := cells8 HI.out.ins
      by_cases e : rs = -1
      · have HP := Lib.hid (show (if rs = -1 then src else 0) = src from if_pos e)
        have t : (rs == -1) = true := by rw [e]; rfl
        have HI2 := Lib.hid (HI.out.put 5 (.int .i64 src))
        clear e
        go_wp2_with fail
        go_meet
        case rel => rw [HP.out]; exact HI2.out
      · have HP := Lib.hid (show (if rs = -1 then src else 0) = 0 from if_neg e)
        have t : (rs == -1) = false := by rw [beq_eq_false_iff_ne]; exact e
        clear e
        go_wp2_with fail
        go_meet
        case rel => rw [HP.out]; exact HI.out
    case rest =>
      clear HI y0 y1 y2 y3 y4 y5 y6 y7 y8 y9 y10
      have HI := Lib.hid hcut
      clear hcut
      generalize (if rs = -1 then src else 0) = ps at *
      obtain ⟨y0, y1, y2, y3, y4, y5, y6, y7, y8, y9, y10⟩ := cells11m HI.out.row
      go_upto_if 37 with (fail)
      go_cut [] (fun wx => ReadIn w (row11 rc ro rz rn rr rd rs rf ri r2 rw_) (ins8 ro rn rr rz pd ps (if rf = -1 then off else 0) 0) wx)
      case first =>
        obtain ⟨⟨c0, c1, c2, c3, c4, c5, c6, c7⟩, f0, f1, f2, f3, f4, f5, f6, f7⟩ := cells8 HI.out.ins
        by_cases e : rf = -1
        · have HP := Lib.hid (show (if rf = -1 then off else 0) = off from if_pos e)
          have t : (rf == -1) = true := by rw [e]; rfl
          have HI2 := Lib.hid (HI.out.put 6 (.int .i64 off))
          clear e
          go_wp2_with fail
          go_meet
          case rel => rw [HP.out]; exact HI2.out
        · have HP := Lib.hid (show (if rf = -1 then off else 0) = 0 from if_neg e)
          have t : (rf == -1) = false := by rw [beq_eq_false_iff_ne]; exact e
          clear e
          go_wp2_with fail
          go_meet
          case rel => rw [HP.out]; exact HI.out
      case rest =>
        clear HI y0 y1 y2 y3 y4 y5 y6 y7 y8 y9 y10
        have HI := Lib.hid hcut
        clear hcut
        generalize (if rf = -1 then off else 0) = po at *
        obtain ⟨y0, y1, y2, y3, y4, y5, y6, y7, y8, y9, y10⟩ := cells11m HI.out.row
        go_upto_region 8 with (fail)
        obtain ⟨hri, hrn⟩ | hri : (ri ≠ -1 ∧ ri ≠ imm) ∨ ¬ (ri ≠ -1 ∧ ri ≠ imm) := Classical.em _
        · have HQ2 := Lib.hid (HQ.out.trans (if_pos ⟨hri, hrn⟩))
          obtain ⟨⟨q0, q1, q2, q3, q4, q5, q6, q7⟩, g0, g1, g2, g3, g4, g5, g6, g7⟩ := cells8 HI.out.res
          have HS8 := Lib.hid (fun a b c d e f k l => set8 HI.out.res a b c d e f k l)
          have HW8 := Lib.hid (below8 (g := w.heap.size + 1) HI.out.below (by omega))
          have t1 : (ri != -1) = true := by rw [bne_iff_ne]; exact hri
          have t2 : (ri != imm) = true := by rw [bne_iff_ne]; exact hrn
          clear hri hrn HQ HM HG HSE
          go_wp2_with fail
          exact bodyPost_ret (v := .tuple #[.agg zero8, .bool false]) (results_cell_tmp Tryd.results102 _ _ (w.heap.size + 1) 71 zero8 (0, 0) _ _ rfl rfl (HS8.out _ _ _ _ _ _ _ _) Tryd.underlying71 rfl (by kernel_rfl)) rfl ⟨by rw [HQ2.out]; rfl, HW8.out _ _ _ _ _ _ _ _⟩
        have HQ2 := Lib.hid (HQ.out.trans (if_neg hri))
        rw [if_neg hri] at HQ2
        have HHR := Lib.hid hri
        clear HQ hri
        go_cut [48] (fun s48 wx => s48 = .bool false ∧ ReadIn w (row11 rc ro rz rn rr rd rs rf ri r2 rw_) (ins8 ro rn rr rz pd ps po 0) wx)
        case first =>
          by_cases e : ri = -1
          · have t1 : (ri != -1) = false := by rw [e]; rfl
            clear e
            go_wp2_with fail
            go_meet
            case rel => exact ⟨rfl, HI.out⟩
          · have e2 : ri = imm := Classical.byContradiction fun h => HHR.out ⟨e, h⟩
            have t1 : (ri != -1) = true := by rw [bne_iff_ne]; exact e
            have t2 : (ri != imm) = false := by rw [e2]; simp
            clear e e2
            go_wp2_with fail
            go_meet
            case rel => exact ⟨rfl, HI.out⟩
        case rest =>
          clear HI y0 y1 y2 y3 y4 y5 y6 y7 y8 y9 y10
          obtain ⟨rfl, hI⟩ := hcut
          have HI := Lib.hid hI
          clear hI
          obtain ⟨y0, y1, y2, y3, y4, y5, y6, y7, y8, y9, y10⟩ := cells11m HI.out.row
          go_upto_if 52 with (fail)
          go_cut [] (fun wx => ReadIn w (row11 rc ro rz rn rr rd rs rf ri r2 rw_) (ins8 ro rn rr rz pd ps po (if ri = -1 then imm else 0)) wx)
          case first =>
            obtain ⟨⟨c0, c1, c2, c3, c4, c5, c6, c7⟩, f0, f1, f2, f3, f4, f5, f6, f7⟩ := cells8 HI.out.ins
            by_cases e : ri = -1
            · have HP := Lib.hid (show (if ri = -1 then imm else 0) = imm from if_pos e)
              have t : (ri == -1) = true := by rw [e]; rfl
              have HI2 := Lib.hid (HI.out.put 7 (.int .i64 imm))
              clear e
              go_wp2_with fail
              go_meet
              case rel => rw [HP.out]; exact HI2.out
            · have HP := Lib.hid (show (if ri = -1 then imm else 0) = 0 from if_neg e)
              have t : (ri == -1) = false := by rw [beq_eq_false_iff_ne]; exact e
              clear e
              go_wp2_with fail
              go_meet
              case rel => rw [HP.out]; exact HI.out
          case rest =>
            clear HI y0 y1 y2 y3 y4 y5 y6 y7 y8 y9 y10
            have HI := Lib.hid hcut
            clear hcut
            obtain ⟨y0, y1, y2, y3, y4, y5, y6, y7, y8, y9, y10⟩ := cells11m HI.out.row
            go_upto_block 0 with (fail)
            go_cut [] (fun wx => ReadIn w (row11 rc ro rz rn rr rd rs rf ri r2 rw_) (ins8 ro rn rr rz pd ps po IMR) wx)
            case first =>
              obtain ⟨⟨c0, c1, c2, c3, c4, c5, c6, c7⟩, f0, f1, f2, f3, f4, f5, f6, f7⟩ := cells8 HI.out.ins
              clear y0 y1 y2 y3 y4 y5 y6 y7 y8 y9 y10
              by_cases e20 : ro = 20
              · have hm := HM.out
                rw [if_pos e20] at hm
                have t20 : (ro == 20) = true := by rw [e20]; rfl
                obtain ⟨sb, so, sn, sc, rfl, hn16, hnc, hcall⟩ := (HSE.out (.inl e20)).signed HI.out.below
                have HCL := Lib.hid hcall
                have hb12 : 12 ≤ sc := by omega
                have hb16 : 16 ≤ sc := by omega
                have hi16 : (16 : Int) ≤ (sc : Int) := by omega
                clear e20 hcall
                by_cases hneg : imm < 0
                · rw [if_pos hneg] at hm
                  have HM2 := Lib.hid hm
                  have t0 : decide (imm < 0) = true := decide_eq_true hneg
                  clear hm HSE HM
                  go_wp2_with fail
                  go_at_call 100
                  refine (HCL.out _).mono ?_
                  rintro e w' ⟨rfl, rfl⟩
                  have HI2 := Lib.hid (HI.out.put 7 (.int .i64 (sec * 4294967296 + (imm + 4294967296))))
                  go_wp2_with fail
                  go_meet
                  case rel => rw [HM2.out]; exact HI2.out
                · rw [if_neg hneg] at hm
                  have HM2 := Lib.hid hm
                  have t0 : decide (imm < 0) = false := decide_eq_false hneg
                  clear hm HSE HM
                  go_wp2_with fail
                  go_at_call 100
                  refine (HCL.out _).mono ?_
                  rintro e w' ⟨rfl, rfl⟩
                  have HI2 := Lib.hid (HI.out.put 7 (.int .i64 (sec * 4294967296 + imm)))
                  go_wp2_with fail
                  go_meet
                  case rel => rw [HM2.out]; exact HI2.out
              · by_cases e21 : ro = 21
                · have HM2 := Lib.hid (show IMR = sec by rw [HM.out, if_neg e20, if_pos e21])
                  have t20 : (ro == 20) = false := by rw [beq_eq_false_iff_ne]; exact e20
                  have t21 : (ro == 21) = true := by rw [e21]; rfl
                  obtain ⟨sb, so, sn, sc, rfl, hn16, hnc, hcall⟩ := (HSE.out (.inr e21)).signed HI.out.below
                  have HCL := Lib.hid hcall
                  have hb12 : 12 ≤ sc := by omega
                  have hb16 : 16 ≤ sc := by omega
                  have hi16 : (16 : Int) ≤ (sc : Int) := by omega
                  clear e20 e21 hcall HSE HM
                  go_wp2_with fail
                  go_at_call 100
                  refine (HCL.out _).mono ?_
                  rintro e w' ⟨rfl, rfl⟩
                  have HI2 := Lib.hid (HI.out.put 7 (.int .i64 (sec)))
                  go_wp2_with fail
                  go_meet
                  case rel => rw [HM2.out]; exact HI2.out
                · have HM2 := Lib.hid (show IMR = (if ri = -1 then imm else 0) by rw [HM.out, if_neg e20, if_neg e21])
                  have t20 : (ro == 20) = false := by rw [beq_eq_false_iff_ne]; exact e20
                  have t21 : (ro == 21) = false := by rw [beq_eq_false_iff_ne]; exact e21
                  clear e20 e21 HSE HM
                  go_wp2_with fail
                  go_meet
                  case rel => rw [HM2.out]; exact HI.out
            case rest =>
              clear HI HSE HM HHR y0 y1 y2 y3 y4 y5 y6 y7 y8 y9 y10
              have HI := Lib.hid hcut
              clear hcut
              obtain ⟨y0, y1, y2, y3, y4, y5, y6, y7, y8, y9, y10⟩ := cells11m HI.out.row
              go_upto_region 20 with (fail)
              go_cut [84] (fun s84 wx => s84 = .bool (ri == -1 || r2 == -1) ∧ ReadIn w (row11 rc ro rz rn rr rd rs rf ri r2 rw_) (ins8 ro rn rr rz pd ps po IMR) wx)
              case first =>
                cases h1 : (ri == -1)
                · cases h2 : (r2 == -1)
                  · go_wp2_with fail
                    go_meet
                    case rel => exact ⟨by rw [h1, h2]; rfl, HI.out⟩
                  · go_wp2_with fail
                    go_meet
                    case rel => exact ⟨by rw [h1, h2]; rfl, HI.out⟩
                · go_wp2_with fail
                  go_meet
                  case rel => exact ⟨by rw [h1]; rfl, HI.out⟩
              case rest =>
                clear HI y0 y1 y2 y3 y4 y5 y6 y7 y8 y9 y10
                obtain ⟨rfl, hI⟩ := hcut
                have HI := Lib.hid hI
                clear hI
                have HB := Lib.hid (show (ri = -1 ∨ r2 = -1) ↔ (ri == -1 || r2 == -1) = true by simp)
                generalize (ri == -1 || r2 == -1) = bb at *
                cases bb
                · have HQ3 := Lib.hid (HQ2.out.trans (by rw [if_neg (fun h => absurd (HB.out.1 h) (by decide))]))
                  obtain ⟨⟨c0, c1, c2, c3, c4, c5, c6, c7⟩, f0, f1, f2, f3, f4, f5, f6, f7⟩ := cells8 HI.out.ins
                  obtain ⟨⟨q0, q1, q2, q3, q4, q5, q6, q7⟩, g0, g1, g2, g3, g4, g5, g6, g7⟩ := cells8 HI.out.res
                  have HS8 := Lib.hid (fun a b c d e f k l => set8 HI.out.res a b c d e f k l)
                  have HW8 := Lib.hid (below8 (g := w.heap.size + 1) HI.out.below (by omega))
                  clear HQ2 HB HG HI
                  go_wp2_with fail
                  exact bodyPost_ret (v := .tuple #[.agg (ins8 ro rn rr rz pd ps po IMR), .bool true]) (results_cell_tmp Tryd.results102 _ _ (w.heap.size + 1) 71 (ins8 ro rn rr rz pd ps po IMR) (0, 0) _ _ rfl rfl (HS8.out _ _ _ _ _ _ _ _) Tryd.underlying71 rfl (by kernel_rfl)) rfl ⟨by rw [HQ3.out]; rfl, HW8.out _ _ _ _ _ _ _ _⟩
                · have HQ3 := Lib.hid (HQ2.out.trans (by rw [if_pos (HB.out.2 rfl)]))
                  clear HQ2 HB
                  go_upto_region 21 with (fail)
                  go_region_held3 (fun w' => w'.cell? ⟨w.heap.size + 1 + 1, 0, none⟩ = some (.int .i64 ro) ∧ w'.cell? ⟨w.heap.size + 1 + 1, 1, none⟩ = some (.bool rn) ∧ w'.cell? ⟨w.heap.size + 1 + 1, 2, none⟩ = some (.bool rr) ∧ w'.cell? ⟨w.heap.size + 1 + 1, 3, none⟩ = some (.int .i64 rz) ∧ w'.cell? ⟨w.heap.size + 1 + 1, 4, none⟩ = some (.int .i64 pd) ∧ w'.cell? ⟨w.heap.size + 1 + 1, 5, none⟩ = some (.int .i64 ps) ∧ w'.cell? ⟨w.heap.size + 1 + 1, 6, none⟩ = some (.int .i64 po) ∧ w'.cell? ⟨w.heap.size + 1 + 1, 7, none⟩ = some (.int .i64 IMR) ∧ w'.cell? ⟨w.heap.size, 0, none⟩ = some (.int .i64 rc) ∧ w'.cell? ⟨w.heap.size, 1, none⟩ = some (.int .i64 ro) ∧ w'.cell? ⟨w.heap.size, 2, none⟩ = some (.int .i64 rz) ∧ w'.cell? ⟨w.heap.size, 3, none⟩ = some (.bool rn) ∧ w'.cell? ⟨w.heap.size, 4, none⟩ = some (.bool rr) ∧ w'.cell? ⟨w.heap.size, 5, none⟩ = some (.int .i64 rd) ∧ w'.cell? ⟨w.heap.size, 6, none⟩ = some (.int .i64 rs) ∧ w'.cell? ⟨w.heap.size, 7, none⟩ = some (.int .i64 rf) ∧ w'.cell? ⟨w.heap.size, 8, none⟩ = some (.int .i64 ri) ∧ w'.cell? ⟨w.heap.size, 9, none⟩ = some (.int .i64 r2) ∧ w'.cell? ⟨w.heap.size, 10, none⟩ = some (.bool rw_) ∧ ReadQ w (row11 rc ro rz rn rr rd rs rf ri r2 rw_) (ins8 ro rn rr rz pd ps po IMR) w')
                    (first | with_reducible exact read_q HI.out.drew.q | with_reducible exact read_q hR5.q | with_reducible exact read_q (hR5.q.set8 _ _ _ _ _ _ _ _) | fail)
                    (first | (go_at_call 124; (with_reducible refine (HG.out _).mono ?_); rintro e w5 ⟨rfl, hB5⟩; have hR5 := HI.out.drew.up hB5; obtain ⟨⟨q0, q1, q2, q3, q4, q5, q6, q7⟩, g0, g1, g2, g3, g4, g5, g6, g7⟩ := cells8 hR5.res; clear hB5))
                  have HS8 := Lib.hid (fun a b c d e f k l => set8 hR5.res a b c d e f k l)
                  have HW8 := Lib.hid (below8 (g := w.heap.size + 1) hR5.below (by omega))
                  clear hR5 HI HG q0 q1 q2 q3 q4 q5 q6 q7 g0 g1 g2 g3 g4 g5 g6 g7
                  go_wp2_with fail
                  exact bodyPost_ret (v := .tuple #[.agg (ins8 ro rn rr rz pd ps po IMR), .bool GD]) (results_cell_tmp Tryd.results102 _ _ (w.heap.size + 1) 71 (ins8 ro rn rr rz pd ps po IMR) (0, 0) _ _ rfl rfl (HS8.out _ _ _ _ _ _ _ _) Tryd.underlying71 rfl (by kernel_rfl)) rfl ⟨by rw [HQ3.out]; rfl, HW8.out _ _ _ _ _ _ _ _⟩
end Go.Proofs.YtlodoinmippebaaDoor.Rf
