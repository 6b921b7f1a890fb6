/- Two numbers are compared by a jump that leads nowhere: a program of five. -/
import Derived.Test.YtpigkppnelnhiaaGreatMcR4
namespace Go.Proofs.YtpigkppnelnhiaaGreat
open Go.ChangeShapes Go.WideShapes Go.ChangeAt Go.RowKit
open Cod Bits
set_option linter.unusedVariables false
set_option linter.unusedSimpArgs false
set_option maxRecDepth 100000
def nwP (a y : Int) (i : Ins) : List Ins := [iW 3 a, iW 4 y, i, iW 0 2, iE]
/-- a jump, as the law makes it -/
def NI (op : Int) (nar : Bool) (y off : Int) (i : Ins) : Prop :=
  (off = 1 ∨ off = 40) ∧ (i = ⟨op, nar, true, 0, 3, 4, off, 0⟩ ∨ (i = ⟨op, nar, false, 0, 3, 0, off, y⟩ ∧ -2147483648 ≤ y ∧ y ≤ 2147483647))
theorem ni_op {op : Int} {nar : Bool} {y off : Int} {i : Ins} (h : NI op nar y off i) : i.op = op := by
  obtain ⟨-, rfl | ⟨rfl, _⟩⟩ := h <;> rfl
theorem ni_wrong {op : Int} {nar : Bool} {y off : Int} {i : Ins} (h : NI op nar y off i) (ho : 27 ≤ op ∧ op ≤ 37) : i.wrong = 0 := by
  obtain ⟨rfl | rfl, rfl | ⟨rfl, hy⟩⟩ := h
  · rcases ops11 ho with rfl | rfl | rfl | rfl | rfl | rfl | rfl | rfl | rfl | rfl | rfl <;> (cases nar <;> rfl)
  · have hfit : fitsL y 2147483647 = true := by unfold fitsL; simp only [Bool.and_eq_true, decide_eq_true_eq]; omega
    have e : Ins.wrong ⟨op, nar, false, 0, 3, 0, 1, y⟩ = if immediateL op nar false y = false then 24 else 0 := by
      rcases ops11 ho with rfl | rfl | rfl | rfl | rfl | rfl | rfl | rfl | rfl | rfl | rfl <;> (cases nar <;> rfl)
    have e2 : immediateL op nar false y = fitsL y 2147483647 := by
      rcases ops11 ho with rfl | rfl | rfl | rfl | rfl | rfl | rfl | rfl | rfl | rfl | rfl <;> (cases nar <;> rfl)
    rw [e, e2, hfit]
    rfl
  · rcases ops11 ho with rfl | rfl | rfl | rfl | rfl | rfl | rfl | rfl | rfl | rfl | rfl <;> (cases nar <;> rfl)
  · have hfit : fitsL y 2147483647 = true := by unfold fitsL; simp only [Bool.and_eq_true, decide_eq_true_eq]; omega
    have e : Ins.wrong ⟨op, nar, false, 0, 3, 0, 40, y⟩ = if immediateL op nar false y = false then 24 else 0 := by
      rcases ops11 ho with rfl | rfl | rfl | rfl | rfl | rfl | rfl | rfl | rfl | rfl | rfl <;> (cases nar <;> rfl)
    have e2 : immediateL op nar false y = fitsL y 2147483647 := by
      rcases ops11 ho with rfl | rfl | rfl | rfl | rfl | rfl | rfl | rfl | rfl | rfl | rfl <;> (cases nar <;> rfl)
    rw [e, e2, hfit]
    rfl
theorem nw_goal {op : Int} {nar : Bool} {y off : Int} {i : Ins} (a : Int) (h : NI op nar y off i) (ho : 27 ≤ op ∧ op ≤ 37) : (goalsL (nwP a y i))[2]? = some (-1) := by
  obtain ⟨rfl | rfl, rfl | ⟨rfl, _⟩⟩ := h <;> rcases ops11 ho with rfl | rfl | rfl | rfl | rfl | rfl | rfl | rfl | rfl | rfl | rfl <;> kernel_rfl
section
variable (G : List Int) (a y : Int) (i : Ins)
def ns1 : St := ((startSt []).go 1).put 3 (V.num a)
def ns2 : St := ((ns1 a).go 2).put 4 (V.num y)
def ns4 : St := (((ns2 a y).go 3).go 4).put 0 (V.num 2)
theorem ns_1 : nextL ⟨nwP a y i, G⟩ (doL ⟨nwP a y i, G⟩) (startSt []) = (0, ns1 a) := rfl
theorem ns_2 : nextL ⟨nwP a y i, G⟩ (doL ⟨nwP a y i, G⟩) (ns1 a) = (0, ns2 a y) := rfl
theorem ns_3 {op : Int} {nar : Bool} {off : Int} (h : NI op nar y off i) (ho : 27 ≤ op ∧ op ≤ 37) (hG : G[2]? = some (-1)) : nextL ⟨nwP a y i, G⟩ (doL ⟨nwP a y i, G⟩) (ns2 a y) = if holdsM op nar a y = true then (89, ns2 a y) else (0, (ns2 a y).go 3) := by
  show doL ⟨nwP a y i, G⟩ i (ns2 a y) = _
  rw [do_br _ _ _ (by rw [ni_op h]; omega)]
  have hg : goalL ⟨nwP a y i, G⟩ (ns2 a y) = -1 := by
    show G[2]?.getD 0 = -1
    rw [hG]
    rfl
  have e : decL i ((ns2 a y).regs i.dst.toNat) (secL (ns2 a y) i) = (holdsM op nar a y, 0) := by
    obtain ⟨-, rfl | ⟨rfl, _⟩⟩ := h
    · show decL _ (V.num a) (V.num y) = _
      unfold decL
      exact if_pos rfl
    · show decL _ (V.num a) (V.num y) = _
      unfold decL
      exact if_pos rfl
  unfold brL
  rw [e, hg]
  cases holdsM op nar a y <;> rfl
theorem ns_4 : nextL ⟨nwP a y i, G⟩ (doL ⟨nwP a y i, G⟩) ((ns2 a y).go 3) = (0, ns4 a y) := rfl
theorem ns_5 : nextL ⟨nwP a y i, G⟩ (doL ⟨nwP a y i, G⟩) (ns4 a y) = (0, { ns4 a y with steps := wrap64 ((ns4 a y).steps + 1), done := true }) := rfl
end
/-- what a run of nine steps leaves -/
def nwR (op : Int) (nar : Bool) (a y : Int) : Int × St := if holdsM op nar a y = true then (89, ns2 a y) else (0, { ns4 a y with steps := wrap64 ((ns4 a y).steps + 1), done := true })
theorem nw_run (a y op : Int) (nar : Bool) (off : Int) (i : Ins) (h : NI op nar y off i) (ho : 27 ≤ op ∧ op ≤ 37) : runL ⟨nwP a y i, goalsL (nwP a y i)⟩ (doL ⟨nwP a y i, goalsL (nwP a y i)⟩) 9 (startSt []) = nwR op nar a y := by
  have hG := nw_goal a h ho
  generalize goalsL (nwP a y i) = G at *
  rw [show (9 : Nat) = 4 + 1 + 1 + 1 + 1 + 1 from rfl, runL_next rfl (ns_1 G a y i), runL_next rfl (ns_2 G a y i)]
  unfold nwR
  by_cases hh : holdsM op nar a y = true
  · rw [runL_trap rfl ((ns_3 G a y i h ho hG).trans (if_pos hh)) (by decide), if_pos hh]
  · rw [runL_next rfl ((ns_3 G a y i h ho hG).trans (if_neg hh)), runL_next rfl (ns_4 G a y i), runL_next rfl (ns_5 G a y i), runL_done rfl, if_neg hh]
theorem nwR_yes {op : Int} {nar : Bool} {a y : Int} (h : holdsM op nar a y = true) : (nwR op nar a y).1 = 89 ∧ (nwR op nar a y).2.pc = 2 ∧ (nwR op nar a y).2.steps = 2 ∧ (nwR op nar a y).2.done = false := by
  unfold nwR
  rw [if_pos h]
  exact ⟨rfl, rfl, (by show wrap64 (wrap64 (0 + 1) + 1) = 2; decide +kernel), rfl⟩
theorem nwR_no {op : Int} {nar : Bool} {a y : Int} (h : holdsM op nar a y = false) : (nwR op nar a y).1 = 0 ∧ ((nwR op nar a y).2.regs 0).x = 2 ∧ (nwR op nar a y).2.steps = 5 := by
  unfold nwR
  rw [if_neg (by rw [h]; decide)]
  exact ⟨rfl, rfl, (by show wrap64 (wrap64 (wrap64 (wrap64 (wrap64 (0 + 1) + 1) + 1) + 1) + 1) = 5; decide +kernel)⟩
theorem nw_ctx (op : Int) (nar : Bool) (a y : Int) : (nwR op nar a y).2.ctx = [] ∧ (nwR op nar a y).2.sent = [] := by
  unfold nwR
  split <;> exact ⟨rfl, rfl⟩
end Go.Proofs.YtpigkppnelnhiaaGreat
