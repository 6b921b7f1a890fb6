/- Runs of short programs, plain mathematics. -/
import Derived.Test.YtpigkppnelnhiaaGreatMcAb
namespace Go.Proofs.YtpigkppnelnhiaaGreat
open Go.ChangeShapes Go.WideShapes Go.ChangeAt Go.RowKit
open Cod Bits
set_option linter.unusedVariables false
set_option linter.unusedSimpArgs false
set_option maxRecDepth 100000
section
variable {P : Pg} {D : Ins → St → Int × St} {n : Nat} {S S' : St} {e : Int}
theorem runL_next (hd : S.done = false) (h : nextL P D S = (0, S')) : runL P D (n + 1) S = runL P D n S' := by
  rw [show runL P D (n + 1) S = if S.done = true then (0, S) else if (nextL P D S).1 = 0 then runL P D n (nextL P D S).2 else nextL P D S from rfl, hd, if_neg Bool.false_ne_true, h, if_pos rfl]
theorem runL_trap (hd : S.done = false) (h : nextL P D S = (e, S')) (he : e ≠ 0) : runL P D (n + 1) S = (e, S') := by
  rw [show runL P D (n + 1) S = if S.done = true then (0, S) else if (nextL P D S).1 = 0 then runL P D n (nextL P D S).2 else nextL P D S from rfl, hd, if_neg Bool.false_ne_true, h, if_neg he]
end
def iW (r v : Int) : Ins := ⟨20, false, false, 0, r, 0, 0, v⟩
def iE : Ins := ⟨39, false, false, 0, 0, 0, 0, 0⟩
def prog4 (a y : Int) (i : Ins) : List Ins := [iW 0 a, iW 3 y, i, iE]
/-- behind the two numbers -/
def st2 (X : List Int) (a y : Int) : St := (((((startSt X).go 1).put 0 (V.num a)).go 2).put 3 (V.num y))
theorem st2_0 (X : List Int) (a y : Int) : (st2 X a y).regs 0 = V.num a := rfl
theorem st2_3 (X : List Int) (a y : Int) : (st2 X a y).regs 3 = V.num y := rfl
theorem run4_two (X : List Int) (a y : Int) (i : Ins) (n : Nat) : runL ⟨prog4 a y i, goalsL (prog4 a y i)⟩ (doL ⟨prog4 a y i, goalsL (prog4 a y i)⟩) (n + 2) (startSt X) = runL ⟨prog4 a y i, goalsL (prog4 a y i)⟩ (doL ⟨prog4 a y i, goalsL (prog4 a y i)⟩) n (st2 X a y) := by
  generalize hg : goalsL (prog4 a y i) = G
  rw [show n + 2 = (n + 1) + 1 from rfl, runL_next (S' := ((startSt X).go 1).put 0 (V.num a)) rfl rfl, runL_next (S' := st2 X a y) rfl rfl]
theorem run4_yes (X : List Int) (a y R : Int) (i : Ins) (h : ∀ G, doL ⟨prog4 a y i, G⟩ i (st2 X a y) = setL ⟨prog4 a y i, G⟩ (st2 X a y) 0 (V.num R)) :
    (runL ⟨prog4 a y i, goalsL (prog4 a y i)⟩ (doL ⟨prog4 a y i, goalsL (prog4 a y i)⟩) 1048576 (startSt X)).1 = 0 ∧ ((runL ⟨prog4 a y i, goalsL (prog4 a y i)⟩ (doL ⟨prog4 a y i, goalsL (prog4 a y i)⟩) 1048576 (startSt X)).2.regs 0).x = R := by
  rw [show (1048576 : Nat) = 1048574 + 2 from rfl, run4_two]
  generalize goalsL (prog4 a y i) = G
  have e1 : nextL ⟨prog4 a y i, G⟩ (doL ⟨prog4 a y i, G⟩) (st2 X a y) = (0, ((st2 X a y).go 3).put 0 (V.num R)) := by
    show doL ⟨prog4 a y i, G⟩ i (st2 X a y) = _
    rw [h G]
    rfl
  rw [show (1048574 : Nat) = 1048573 + 1 from rfl, runL_next rfl e1, show (1048573 : Nat) = 1048572 + 1 from rfl]
  have e2 : nextL ⟨prog4 a y i, G⟩ (doL ⟨prog4 a y i, G⟩) (((st2 X a y).go 3).put 0 (V.num R)) = (0, { ((st2 X a y).go 3).put 0 (V.num R) with steps := wrap64 ((((st2 X a y).go 3).put 0 (V.num R)).steps + 1), done := true }) := rfl
  rw [runL_next rfl e2, runL_done rfl]
  exact ⟨rfl, rfl⟩
theorem run4_no (X : List Int) (a y E : Int) (i : Ins) (h : ∀ G, doL ⟨prog4 a y i, G⟩ i (st2 X a y) = (E, st2 X a y)) (hE : E ≠ 0) :
    (runL ⟨prog4 a y i, goalsL (prog4 a y i)⟩ (doL ⟨prog4 a y i, goalsL (prog4 a y i)⟩) 1048576 (startSt X)).1 = E := by
  rw [show (1048576 : Nat) = 1048574 + 2 from rfl, run4_two]
  generalize goalsL (prog4 a y i) = G
  have e1 : nextL ⟨prog4 a y i, G⟩ (doL ⟨prog4 a y i, G⟩) (st2 X a y) = (E, st2 X a y) := h G
  rw [show (1048574 : Nat) = 1048573 + 1 from rfl, runL_trap rfl e1 hE]
/-- arithmetic of two numbers -/
theorem do_alu (P : Pg) (S : St) (op : Int) (nar reg : Bool) (src imm a y y' : Int) (hop : 1 ≤ op ∧ op ≤ 15) (hA : S.regs 0 = V.num a) (hB : secL S ⟨op, nar, reg, 0, 0, src, 0, imm⟩ = V.num y') (hy : op = 14 ∨ y' = y)
    (hr : -9223372036854775808 ≤ y ∧ y ≤ 9223372036854775807) : doL P ⟨op, nar, reg, 0, 0, src, 0, imm⟩ S = if aluE op nar y = 0 then setL P S 0 (V.num (aluR op nar a y)) else (aluE op nar y, S) := by
  have hj : joinL P S ⟨op, nar, reg, 0, 0, src, 0, imm⟩ = if aluE op nar y' = 0 then setL P S 0 (V.num (aluR op nar a y')) else (aluE op nar y', S) := by
    unfold joinL
    rw [hB]
    simp only [show (0 : Int).toNat = 0 from rfl, hA]
    rfl
  have h14 : op = 14 → (aluE op nar y' = aluE op nar y ∧ aluR op nar a y' = aluR op nar a y) := by
    rintro rfl
    have e1 : ∀ z, aluE 14 nar z = 0 := fun z => by unfold aluE; rw [if_neg (by decide), if_neg (by omega)]
    refine ⟨by rw [e1, e1], ?_⟩
    unfold aluR
    rw [e1, e1, if_pos rfl, if_pos rfl]
    unfold aluV wv
    cases nar <;> simp
  have hyy : aluE op nar y' = aluE op nar y ∧ aluR op nar a y' = aluR op nar a y := by
    rcases hy with h | h
    · exact h14 h
    · rw [h]; exact ⟨rfl, rfl⟩
  rw [hyy.1, hyy.2] at hj
  unfold doL
  simp only
  by_cases o1 : op = 1
  · subst o1
    rw [if_pos rfl, ← hj]
    unfold addL
    rw [hB]
    simp only [show (0 : Int).toNat = 0 from rfl, hA]
    cases nar <;> rfl
  rw [if_neg o1]
  by_cases o2 : op = 2
  · subst o2
    rw [if_pos rfl, ← hj]
    unfold subL
    rw [hB]
    simp only [show (0 : Int).toNat = 0 from rfl, hA]
    cases nar <;> rfl
  rw [if_neg o2]
  by_cases o15 : op = 15
  · subst o15
    obtain rfl : y' = y := by rcases hy with h | h; exact absurd h (by decide); exact h
    have e1 : aluE 15 nar y' = 0 := by unfold aluE; rw [if_neg (by decide), if_neg (by omega)]
    rw [if_pos rfl, e1, if_pos rfl]
    unfold movL
    rw [hB]
    cases nar
    · have e2 : aluR 15 false a y' = y' := by
        unfold aluR
        rw [e1, if_pos rfl]
        show wrap64 (IntKind.u64.wrap y') = y'
        rw [IntKind.wrap_u64]
        unfold wrap64
        omega
      rw [e2]
      rfl
    · have e2 : aluR 15 true 0 y' = aluR 15 true a y' := by
        unfold aluR
        rw [e1, if_pos rfl, if_pos rfl]
        unfold aluV wv
        simp
      show setL P S 0 (V.num (aluR 15 true 0 y')) = _
      rw [e2]
  rw [if_neg o15, if_neg (by omega), if_neg (by omega), if_neg (by omega), if_neg (by omega), if_neg (by omega), if_neg (by omega)]
  exact hj
end Go.Proofs.YtpigkppnelnhiaaGreat
