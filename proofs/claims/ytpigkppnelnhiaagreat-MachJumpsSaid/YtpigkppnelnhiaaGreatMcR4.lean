/- Two numbers are compared by a jump: a program of seven. -/
import Derived.Test.YtpigkppnelnhiaaGreatMcR3
namespace Go.Proofs.YtpigkppnelnhiaaGreat
open Go.ChangeShapes Go.WideShapes Go.ChangeAt Go.RowKit
open Cod Bits
set_option linter.unusedVariables false
set_option linter.unusedSimpArgs false
set_option maxRecDepth 100000
def juP (a y : Int) (i : Ins) : List Ins := [iW 3 a, iW 4 y, ⟨15, false, false, 0, 0, 0, 0, 1⟩, i, iW 0 2, ⟨15, false, false, 0, 5, 0, 0, 9⟩, iE]
/-- a jump, as the law makes it -/
def JI (op : Int) (nar : Bool) (y : Int) (i : Ins) : Prop :=
  i = ⟨op, nar, true, 0, 3, 4, 3, 0⟩ ∨ (i = ⟨op, nar, false, 0, 3, 0, 3, y⟩ ∧ -2147483648 ≤ y ∧ y ≤ 2147483647)
def juR (op : Int) (nar : Bool) (a y : Int) : Int := if holdsM op nar a y = true then 1 else 2
theorem ops11 {op : Int} (h : 27 ≤ op ∧ op ≤ 37) : op = 27 ∨ op = 28 ∨ op = 29 ∨ op = 30 ∨ op = 31 ∨ op = 32 ∨ op = 33 ∨ op = 34 ∨ op = 35 ∨ op = 36 ∨ op = 37 := by omega
theorem ji_op {op : Int} {nar : Bool} {y : Int} {i : Ins} (h : JI op nar y i) : i.op = op := by
  rcases h with rfl | ⟨rfl, _⟩ <;> rfl
theorem ji_wrong {op : Int} {nar : Bool} {y : Int} {i : Ins} (h : JI op nar y i) (ho : 27 ≤ op ∧ op ≤ 37) : i.wrong = 0 := by
  rcases h with rfl | ⟨rfl, hy⟩
  · rcases ops11 ho with rfl | rfl | rfl | rfl | rfl | rfl | rfl | rfl | rfl | rfl | rfl <;> (cases nar <;> rfl)
  · have hfit : fitsL y 2147483647 = true := by unfold fitsL; simp only [Bool.and_eq_true, decide_eq_true_eq]; omega
    have e : Ins.wrong ⟨op, nar, false, 0, 3, 0, 3, y⟩ = if immediateL op nar false y = false then 24 else 0 := by
      rcases ops11 ho with rfl | rfl | rfl | rfl | rfl | rfl | rfl | rfl | rfl | rfl | rfl <;> (cases nar <;> rfl)
    have e2 : immediateL op nar false y = fitsL y 2147483647 := by
      rcases ops11 ho with rfl | rfl | rfl | rfl | rfl | rfl | rfl | rfl | rfl | rfl | rfl <;> (cases nar <;> rfl)
    rw [e, e2, hfit]
    rfl
theorem ju_goal {op : Int} {nar : Bool} {y : Int} {i : Ins} (a : Int) (h : JI op nar y i) (ho : 27 ≤ op ∧ op ≤ 37) : (goalsL (juP a y i))[3]? = some 6 := by
  rcases h with rfl | ⟨rfl, _⟩ <;> rcases ops11 ho with rfl | rfl | rfl | rfl | rfl | rfl | rfl | rfl | rfl | rfl | rfl <;> kernel_rfl
section
variable (G : List Int) (a y : Int) (i : Ins)
def js1 : St := ((startSt []).go 1).put 3 (V.num a)
def js2 : St := ((js1 a).go 2).put 4 (V.num y)
def js3 : St := ((js2 a y).go 3).put 0 (V.num 1)
def js5 : St := (((js3 a y).go 4).go 5).put 0 (V.num 2)
def js6 : St := ((js5 a y).go 6).put 5 (V.num 9)
theorem js_1 : nextL ⟨juP a y i, G⟩ (doL ⟨juP a y i, G⟩) (startSt []) = (0, js1 a) := rfl
theorem js_2 : nextL ⟨juP a y i, G⟩ (doL ⟨juP a y i, G⟩) (js1 a) = (0, js2 a y) := rfl
theorem js_3 : nextL ⟨juP a y i, G⟩ (doL ⟨juP a y i, G⟩) (js2 a y) = (0, js3 a y) := rfl
theorem js_4 {op : Int} {nar : Bool} (h : JI op nar y i) (ho : 27 ≤ op ∧ op ≤ 37) (hG : G[3]? = some 6) : nextL ⟨juP a y i, G⟩ (doL ⟨juP a y i, G⟩) (js3 a y) = if holdsM op nar a y = true then (0, (js3 a y).go 6) else (0, (js3 a y).go 4) := by
  show doL ⟨juP a y i, G⟩ i (js3 a y) = _
  rw [do_br _ _ _ (by rw [ji_op h]; omega)]
  have hg : goalL ⟨juP a y i, G⟩ (js3 a y) = 6 := by
    show G[3]?.getD 0 = 6
    rw [hG]
    rfl
  have e : decL i ((js3 a y).regs i.dst.toNat) (secL (js3 a y) i) = (holdsM op nar a y, 0) := by
    rcases h with rfl | ⟨rfl, _⟩
    · show decL _ (V.num a) (V.num y) = _
      unfold decL
      exact if_pos rfl
    · show decL _ (V.num a) (V.num y) = _
      unfold decL
      exact if_pos rfl
  unfold brL
  rw [e, hg]
  cases holdsM op nar a y <;> rfl
theorem js_5 : nextL ⟨juP a y i, G⟩ (doL ⟨juP a y i, G⟩) ((js3 a y).go 4) = (0, js5 a y) := rfl
theorem js_6 : nextL ⟨juP a y i, G⟩ (doL ⟨juP a y i, G⟩) (js5 a y) = (0, js6 a y) := rfl
theorem js_7 : nextL ⟨juP a y i, G⟩ (doL ⟨juP a y i, G⟩) (js6 a y) = (0, { js6 a y with steps := wrap64 ((js6 a y).steps + 1), done := true }) := rfl
theorem js_8 : nextL ⟨juP a y i, G⟩ (doL ⟨juP a y i, G⟩) ((js3 a y).go 6) = (0, { (js3 a y).go 6 with steps := wrap64 (((js3 a y).go 6).steps + 1), done := true }) := rfl
end
theorem ju_run (a y op : Int) (nar : Bool) (i : Ins) (h : JI op nar y i) (ho : 27 ≤ op ∧ op ≤ 37) : (runL ⟨juP a y i, goalsL (juP a y i)⟩ (doL ⟨juP a y i, goalsL (juP a y i)⟩) 1048576 (startSt [])).1 = 0 ∧ ((0 : Int) = 0 → ((runL ⟨juP a y i, goalsL (juP a y i)⟩ (doL ⟨juP a y i, goalsL (juP a y i)⟩) 1048576 (startSt [])).2.regs 0).x = juR op nar a y) := by
  have hG := ju_goal a h ho
  generalize goalsL (juP a y i) = G at *
  rw [show (1048576 : Nat) = 1048569 + 1 + 1 + 1 + 1 + 1 + 1 + 1 from rfl, runL_next rfl (js_1 G a y i), runL_next rfl (js_2 G a y i), runL_next rfl (js_3 G a y i)]
  unfold juR
  by_cases hh : holdsM op nar a y = true
  · rw [runL_next rfl ((js_4 G a y i h ho hG).trans (if_pos hh)), runL_next rfl (js_8 G a y i), runL_done rfl, if_pos hh]
    exact ⟨rfl, fun _ => rfl⟩
  · rw [runL_next rfl ((js_4 G a y i h ho hG).trans (if_neg hh)), runL_next rfl (js_5 G a y i), runL_next rfl (js_6 G a y i), runL_next rfl (js_7 G a y i), runL_done rfl, if_neg hh]
    exact ⟨rfl, fun _ => rfl⟩
theorem runs_ju (w : World) (ad : Addr) (c : Nat) (a y op : Int) (nar : Bool) (i : Ins) (h : JI op nar y i) (ho : 27 ≤ op ∧ op ≤ 37) (hC : CodeAt w (some ad) (juP a y i)) :
    Calls Tryz.prog 14 #[.slice (some ad) 7 c, .slice none 0 0] w fun e w' => (∃ A1 n1 c1 A2 n2 c2, e = .returned (.tuple #[.agg #[.int .i64 (juR op nar a y), .slice A1 n1 c1, .slice none 0 0, .slice A2 n2 c2], .int .i64 0])) ∧ Below w.heap.size w w' := by
  have hall : ∀ j ∈ juP a y i, Plain j.op ∧ j.wrong = 0 := by
    intro j hj
    simp only [juP, List.mem_cons, List.not_mem_nil, or_false] at hj
    rcases hj with rfl | rfl | rfl | rfl | rfl | rfl | rfl
    · exact ⟨.inl (by show (1 : Int) ≤ 20 ∧ (20 : Int) ≤ 20; decide), by unfold Ins.wrong iW; rfl⟩
    · exact ⟨.inl (by show (1 : Int) ≤ 20 ∧ (20 : Int) ≤ 20; decide), by unfold Ins.wrong iW; rfl⟩
    · exact ⟨.inl (by show (1 : Int) ≤ 15 ∧ (15 : Int) ≤ 20; decide), by rfl⟩
    · exact ⟨.inr (.inl (by rw [ji_op h]; omega)), ji_wrong h ho⟩
    · exact ⟨.inl (by show (1 : Int) ≤ 20 ∧ (20 : Int) ≤ 20; decide), by rfl⟩
    · exact ⟨.inl (by show (1 : Int) ≤ 15 ∧ (15 : Int) ≤ 20; decide), by rfl⟩
    · exact ⟨.inr (.inr rfl), by rfl⟩
  exact runsN w ad c 7 0 _ (juP a y i) rfl ⟨by decide, by decide⟩ hC (fun i hi => (hall i hi).1) (fun i hi => (hall i hi).2) (fun h => absurd rfl h) (ju_run a y op nar i h ho)
end Go.Proofs.YtpigkppnelnhiaaGreat
